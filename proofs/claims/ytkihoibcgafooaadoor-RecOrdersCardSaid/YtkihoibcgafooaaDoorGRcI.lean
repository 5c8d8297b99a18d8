/- Which bytes stand ahead of which; keys stand as their places do; the chapter's example. -/
import Derived.Test.YtkihoibcgafooaaDoorGRcH
import Derived.Test.YtkihoibcgafooaaDoorGRcG
namespace Go.Proofs.YtkihoibcgafooaaDoor
open Go.RowKit

def aheadL : List Int → List Int → Bool
  | _, [] => false
  | [], _ :: _ => true
  | a :: x, b :: y => if a ≠ b then decide (a < b) else aheadL x y
theorem aheadL_drop {l m : List Int} {k : Nat} {x y : Int} (hx : l[k]? = some x) (hy : m[k]? = some y) : aheadL (l.drop k) (m.drop k) = if x ≠ y then decide (x < y) else aheadL (l.drop (k + 1)) (m.drop (k + 1)) := by
  rw [drop_at hx, drop_at hy]
  rfl
theorem aheadL_end {l m : List Int} {k : Nat} (h : ¬ (k < l.length ∧ k < m.length)) (hl : k ≤ l.length) (hm : k ≤ m.length) : aheadL (l.drop k) (m.drop k) = decide (l.length < m.length) := by
  by_cases h1 : k < l.length
  · have h2 : m.length = k := by omega
    rw [List.drop_eq_nil_of_le (show m.length ≤ k by omega)]
    unfold aheadL
    rcases l.drop k with _ | _ <;> simp <;> omega
  · rw [List.drop_eq_nil_of_le (show l.length ≤ k by omega)]
    by_cases h2 : k < m.length
    · obtain ⟨y, hy⟩ : ∃ y, m[k]? = some y := ⟨m[k], List.getElem?_eq_getElem h2⟩
      rw [drop_at hy]
      unfold aheadL
      simp; omega
    · rw [List.drop_eq_nil_of_le (show m.length ≤ k by omega)]
      unfold aheadL
      simp; omega
set_option maxRecDepth 100000 in
set_option maxHeartbeats 2000000 in
theorem ahead_any (A A' : Option Addr) (n c n' c' : Nat) (l m : List Int) (B B' : Nat) (w : World) (h : Sl w B A n c l) (h' : Sl w B' A' n' c' m) :
    Calls Tryd.prog 14 #[.slice A n c, .slice A' n' c'] w (Quiet w (.bool (aheadL l m))) := by
  have HS := hid h
  have HS' := hid h'
  have HLn := hid h.len
  have HLm := hid h'.len
  clear h h'
  have hmx : n ≤ 9223372036854775807 := by have := HS.out.cap; have := HS.out.max; unfold maxLen at this; omega
  have hmx' : n' ≤ 9223372036854775807 := by have := HS'.out.cap; have := HS'.out.max; unfold maxLen at this; omega
  have HR := hid (fun (k : Nat) (h : ¬ (k < n ∧ k < n')) (hl : k ≤ n) (hm : k ≤ n') => aheadL_end (l := l) (m := m) (k := k) (by rw [HLn.out, HLm.out]; exact h) (by rw [HLn.out]; exact hl) (by rw [HLm.out]; exact hm))
  by_cases hle : n ≤ n'
  · have hmin : n ≤ n' := hle
    go_enter Tryd.func14, Tryd.ntmps14
    go_wp2
    go_loopw [6] (fun i wr => ∃ k q : Nat, k ≤ n ∧ i = .int .i64 (k : Int) ∧ aheadL l m = aheadL (l.drop k) (m.drop k) ∧ wr = w.drewN q) (fun i _ => n - (intOf i).toNat)
    case atStart => exact ⟨0, 0, Nat.zero_le _, rfl, rfl, rfl⟩
    case round =>
      obtain ⟨k, q, hk, rfl, ht, rfl⟩ := hrel
      have HT := hid ht
      clear ht
      by_cases hlt : k < n
      · obtain ⟨ad, x, rfl, hbl, hx, hc⟩ := HS.out.get (show k < n by omega)
        obtain ⟨ad', y, rfl, hbl', hy, hc'⟩ := HS'.out.get (show k < n' by omega)
        have HD := hid (aheadL_drop hx hy)
        have kn : k < n := by omega
        have kn' : k < n' := by omega
        clear hx hy hbl hbl'
        by_cases hxy : x = y
        · have hb : (x != y) = false := by simp [hxy]
          have HXY := hid hxy
          clear hxy
          go_wp2_with fail
          go_quiet (fail)
          go_wp2
          go_roundw
          case rel => exact ⟨k + 1, _, by omega, by go_num, by rw [HT.out, HD.out, if_neg (fun h => h HXY.out)], rfl⟩
          case measure => simp [intOf]; omega
        · have hb : (x != y) = true := by simp [hxy]
          have HF := hid (show aheadL l m = decide (x < y) from by rw [HT.out, HD.out, if_pos hxy])
          clear hxy
          go_wp2_with fail
          go_quiet (fail)
          go_wp2_with fail
          go_quiet (fail)
          go_wp2
          go_ret
          rw [HF.out]
          simp only [World.drewN_drewN]
          exact ⟨rfl, _, rfl⟩
      · have HF := hid (show aheadL l m = decide (n < n') from by
          rw [HT.out, HR.out k (by omega) (by omega) (by omega), HLn.out, HLm.out])
        go_wp2
        go_ret
        rw [HF.out]
        exact ⟨rfl, _, rfl⟩
  · have hmin : n' ≤ n := by omega
    go_enter Tryd.func14, Tryd.ntmps14
    go_wp2
    go_loopw [6] (fun i wr => ∃ k q : Nat, k ≤ n' ∧ i = .int .i64 (k : Int) ∧ aheadL l m = aheadL (l.drop k) (m.drop k) ∧ wr = w.drewN q) (fun i _ => n' - (intOf i).toNat)
    case atStart => exact ⟨0, 0, Nat.zero_le _, rfl, rfl, rfl⟩
    case round =>
      obtain ⟨k, q, hk, rfl, ht, rfl⟩ := hrel
      have HT := hid ht
      clear ht
      by_cases hlt : k < n'
      · obtain ⟨ad, x, rfl, hbl, hx, hc⟩ := HS.out.get (show k < n by omega)
        obtain ⟨ad', y, rfl, hbl', hy, hc'⟩ := HS'.out.get (show k < n' by omega)
        have HD := hid (aheadL_drop hx hy)
        have kn : k < n := by omega
        have kn' : k < n' := by omega
        clear hx hy hbl hbl'
        by_cases hxy : x = y
        · have hb : (x != y) = false := by simp [hxy]
          have HXY := hid hxy
          clear hxy
          go_wp2_with fail
          go_quiet (fail)
          go_wp2
          go_roundw
          case rel => exact ⟨k + 1, _, by omega, by go_num, by rw [HT.out, HD.out, if_neg (fun h => h HXY.out)], rfl⟩
          case measure => simp [intOf]; omega
        · have hb : (x != y) = true := by simp [hxy]
          have HF := hid (show aheadL l m = decide (x < y) from by rw [HT.out, HD.out, if_pos hxy])
          clear hxy
          go_wp2_with fail
          go_quiet (fail)
          go_wp2_with fail
          go_quiet (fail)
          go_wp2
          go_ret
          rw [HF.out]
          simp only [World.drewN_drewN]
          exact ⟨rfl, _, rfl⟩
      · have HF := hid (show aheadL l m = decide (n < n') from by
          rw [HT.out, HR.out k (by omega) (by omega) (by omega), HLn.out, HLm.out])
        go_wp2
        go_ret
        rw [HF.out]
        exact ⟨rfl, _, rfl⟩
theorem aheadL_same (x : List Int) (l m : List Int) : aheadL (x ++ l) (x ++ m) = aheadL l m := by
  induction x with
  | nil => rfl
  | cons a x ih => show (if a ≠ a then decide (a < a) else aheadL (x ++ l) (x ++ m)) = _; rw [if_neg (by simp), ih]
theorem aheadL_num {n n2 : Int} (h : numB n = true) (h2 : numB n2 = true) (l m : List Int) : aheadL (num3 n ++ l) (num3 n2 ++ m) = if n ≠ n2 then decide (n < n2) else aheadL l m := by
  obtain ⟨a1, a2⟩ := num_yes h
  obtain ⟨b1, b2⟩ := num_yes h2
  by_cases he : n = n2
  · subst he
    rw [aheadL_same, if_neg (by simp)]
  · rw [if_pos he]
    show (if n / 65536 ≠ n2 / 65536 then decide (n / 65536 < n2 / 65536) else if n / 256 % 256 ≠ n2 / 256 % 256 then decide (n / 256 % 256 < n2 / 256 % 256) else if n % 256 ≠ n2 % 256 then decide (n % 256 < n2 % 256) else aheadL l m) = _
    by_cases h1 : n / 65536 = n2 / 65536
    · rw [if_neg (by simp [h1])]
      by_cases h3 : n / 256 % 256 = n2 / 256 % 256
      · rw [if_neg (by simp [h3]), if_pos (by omega)]
        congr 1
        apply propext
        constructor <;> intro <;> omega
      · rw [if_pos h3]
        congr 1
        apply propext
        constructor <;> intro <;> omega
    · rw [if_pos h1]
      congr 1
      apply propext
      constructor <;> intro <;> omega
theorem aheadL_str : ∀ (x y : List UInt8), aheadL (x.map fun b => (b.toNat : Int)) (y.map fun b => (b.toNat : Int)) = Op.bytesLess x y
  | [], [] => rfl
  | [], _ :: _ => rfl
  | _ :: _, [] => rfl
  | a :: x, b :: y => by
    show (if (a.toNat : Int) ≠ (b.toNat : Int) then decide ((a.toNat : Int) < (b.toNat : Int)) else aheadL (x.map fun b => (b.toNat : Int)) (y.map fun b => (b.toNat : Int))) = (decide (a < b) || (a == b && Op.bytesLess x y))
    rw [aheadL_str x y]
    by_cases h : a = b
    · subst h
      simp
    · have h1 : ¬ (a.toNat : Int) = (b.toNat : Int) := fun e => h (UInt8.toNat_inj.1 (by omega))
      rw [if_pos h1]
      have h2 : (a == b) = false := by simp [h]
      rw [h2]
      simp only [Bool.false_and, Bool.or_false]
      congr 1
      apply propext
      rw [UInt8.lt_iff_toNat_lt]
      omega
theorem key_facts {k n i : Int} {s : ByteArray} (h : keyC k n i s = 0) : kinB k = true ∧ numB n = true ∧ numB i = true ∧ (i = 0 ∨ k = 4) ∧ (s = ⟨#[]⟩ ∨ k = 3) ∧ s.size ≤ 24 := by
  rcases key_ways k n i s with ⟨_, c⟩ | ⟨_, _, c⟩ | ⟨_, _, _, c⟩ | ⟨_, _, _, _, _, c⟩ | ⟨_, _, _, _, _, _, c⟩ | ⟨_, _, _, _, _, _, c⟩ | ⟨c1, c2, c3, c4, c5, c6, c⟩
  all_goals first | (rw [c] at h; exact absurd h (by decide)) | skip
  exact ⟨c1, c2, c3, c4.imp id (fun h => h.2), c5.imp id (fun h => h.2), c6⟩
/-- keys stand as their places do -/
theorem key_ahead {k n i k2 n2 i2 : Int} {s s2 : ByteArray} (h : keyC k n i s = 0) (h2 : keyC k2 n2 i2 s2 = 0) : aheadL (keyL k n i s) (keyL k2 n2 i2 s2) = lessP k n i s k2 n2 i2 s2 := by
  obtain ⟨a1, a2, a3, a4, a5, a6⟩ := key_facts h
  obtain ⟨b1, b2, b3, b4, b5, b6⟩ := key_facts h2
  unfold keyL lessP
  have hL : ∀ x y : List Int, aheadL (k :: num3 n ++ x) (k2 :: num3 n2 ++ y) = if k ≠ k2 then decide (k < k2) else if n ≠ n2 then decide (n < n2) else aheadL x y := fun x y => by
    rw [← aheadL_num a2 b2]
    rfl
  rw [hL]
  by_cases hk : k = k2
  · have nk : ¬ k ≠ k2 := by simp [hk]
    rw [if_neg nk, if_neg nk]
    by_cases hn : n = n2
    · have nn : ¬ n ≠ n2 := by simp [hn]
      rw [if_neg nn, if_neg nn]
      by_cases h4 : k = 4
      · have e1 : s = ⟨#[]⟩ := by rcases a5 with h | h; exact h; omega
        have e2 : s2 = ⟨#[]⟩ := by rcases b5 with h | h; exact h; omega
        have h4' : k2 = 4 := by omega
        have e3 := aheadL_num a3 b3 [] []
        rw [List.append_nil, List.append_nil] at e3
        rw [if_pos h4, if_pos h4', e3, e1, e2, ByteArray.toList_eq]
        rfl
      · have h4' : ¬ k2 = 4 := by omega
        have e5 : ¬ i ≠ i2 := by omega
        rw [if_neg h4, if_neg h4', if_neg e5, ByteArray.toList_eq, ByteArray.toList_eq]
        exact aheadL_str _ _
    · have nn : n ≠ n2 := hn
      rw [if_pos nn, if_pos nn]
  · have nk : k ≠ k2 := hk
    rw [if_pos nk, if_pos nk]
end Go.Proofs.YtkihoibcgafooaaDoor
