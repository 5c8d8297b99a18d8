/- What the statements' own helpers say of nodes: first, same, at, fits. -/
import Derived.Test.YtklplmldhhlgiaaDoorGNdIf
import Derived.Deep.RegionHeld3
namespace Go.Proofs.YtklplmldhhlgiaaDoor
open Go.RowKit Go.Sort

set_option maxRecDepth 100000 in
set_option maxHeartbeats 1000000 in
theorem first15_any {TR : World → Nat → Tab → (Nat → Prop) → Prop} (O : TabOk TR) (S : Nat → Addr) (w : World) (hS : Sent w S) : Calls Tryd.prog 6 #[] w (Yes w) := by
  have HS := hid hS
  have HT := hid (tk_zero O (w0 := w) (w := w) (ks := []) (Below.refl _ _) (fun K h => by cases h))
  clear hS
  go_enter Tryd.func6, Tryd.ntmps6
  go_wp2_with fail
  refine (tk_new O S 2 HS.out HT.out).mono ?_
  have hc : newE ⟨[], 0⟩ 2 = 0 := by kernel_rfl
  rw [hc]
  rintro e w1 ⟨⟨v, rfl, hv⟩, ht⟩
  obtain rfl := hv.nil
  have HB := hid ht.below
  clear hv ht hc
  go_wp2
  go_ret
  exact ⟨rfl, HB.out⟩
set_option maxRecDepth 100000 in
set_option maxHeartbeats 2000000 in
theorem same15_any (x y : Nd) (w : World) : Calls Tryd.prog 18 #[ndV x, ndV y] w fun r w' => r = .returned (.bool (decide (x = y))) ∧ Below w.heap.size w w' := by
  obtain ⟨a, b, c, d, s, p⟩ := x
  obtain ⟨a', b', c', d', s', p'⟩ := y
  have HB := hid (show Below w.heap.size w ((w.alloc (.cells #[.int .i64 a, .int .i64 b, .int .i64 c, .int .i64 d, encStr s, .int .i64 p] 30)).alloc (.cells #[.int .i64 a', .int .i64 b', .int .i64 c', .int .i64 d', encStr s', .int .i64 p'] 30)) from ((Below.refl _ _).alloc (Nat.le_refl _) _).alloc (by simp) _)
  have hw : decide ((⟨a, b, c, d, s, p⟩ : Nd) = ⟨a', b', c', d', s', p'⟩) = ((((((a == a') && (b == b')) && (c == c')) && (d == d')) && (s == s')) && (p == p')) := by
    rw [Bool.eq_iff_iff]
    simp [and_assoc]
  have HW := hid hw
  obtain ⟨t1, h1⟩ : ∃ t, (a == a') = t := ⟨_, rfl⟩
  obtain ⟨t2, h2⟩ : ∃ t, (b == b') = t := ⟨_, rfl⟩
  obtain ⟨t3, h3⟩ : ∃ t, (c == c') = t := ⟨_, rfl⟩
  obtain ⟨t4, h4⟩ : ∃ t, (d == d') = t := ⟨_, rfl⟩
  obtain ⟨t5, h5⟩ : ∃ t, (s == s') = t := ⟨_, rfl⟩
  obtain ⟨t6, h6⟩ : ∃ t, (p == p') = t := ⟨_, rfl⟩
  rw [h1, h2, h3, h4, h5, h6] at HW
  clear hw
  rcases t1 with _ | _
  · go_enter Tryd.func18, Tryd.ntmps18
    go_wp2
    go_ret
    exact ⟨by rw [HW.out]; rfl, HB.out⟩
  rcases t2 with _ | _
  · go_enter Tryd.func18, Tryd.ntmps18
    go_wp2
    go_ret
    exact ⟨by rw [HW.out]; rfl, HB.out⟩
  rcases t3 with _ | _
  · go_enter Tryd.func18, Tryd.ntmps18
    go_wp2
    go_ret
    exact ⟨by rw [HW.out]; rfl, HB.out⟩
  rcases t4 with _ | _
  · go_enter Tryd.func18, Tryd.ntmps18
    go_wp2
    go_ret
    exact ⟨by rw [HW.out]; rfl, HB.out⟩
  rcases t5 with _ | _
  · go_enter Tryd.func18, Tryd.ntmps18
    go_wp2
    go_ret
    exact ⟨by rw [HW.out]; rfl, HB.out⟩
  go_enter Tryd.func18, Tryd.ntmps18
  go_wp2
  go_ret
  exact ⟨by rw [HW.out]; rfl, HB.out⟩
/-- what 'at' answers -/
def fndNV (L : List Nd) (s : Int) : Int := if fndN L s < L.length then (fndN L s : Int) else -1
set_option maxRecDepth 100000 in
set_option maxHeartbeats 1000000 in
theorem at15_any (A : Option Addr) (n c B : Nat) (L : List Nd) (s : Int) (w : World) (h : NDSl w B A n c L) (hn : n ≤ 100000) :
    Calls Tryd.prog 14 #[.slice A n c, .int .i64 s] w fun r w' => r = .returned (.int .i64 (fndNV L s)) ∧ w' = w := by
  have HS := hid h
  clear h
  go_enter Tryd.func14, Tryd.ntmps14
  go_wp2
  go_loopw [5] (fun i wr => ∃ k : Nat, k ≤ n ∧ i = .int .i64 (k : Int) ∧ Hid (∀ (j : Nat) x, j < k → L[j]? = some x → x.id ≠ s) ∧ wr = w) (fun i _ => n - (intOf i).toNat)
  case atStart => exact ⟨0, Nat.zero_le _, rfl, hid (fun j x hj => absurd hj (Nat.not_lt_zero _)), rfl⟩
  case round =>
    obtain ⟨k, hk, rfl, HA, rfl⟩ := hrel
    by_cases hlt : k < n
    · obtain ⟨b, o, e, rfl, hbl, hx, hc0, hc1, hc2, hc3, hc4, hc5⟩ := HS.out.get hlt
      have HX := hid hx
      clear hx hbl hc1 hc2 hc3 hc4 hc5
      by_cases hs : e.id = s
      · have t : (e.id == s) = true := beq_iff_eq.2 hs
        have HF := hid (show fndNV L s = (k : Int) by
          have hf := fndN_at HX.out hs HA.out
          have hl := (List.getElem?_eq_some_iff.1 HX.out).1
          unfold fndNV
          rw [hf, if_pos hl])
        clear hs
        go_wp2
        go_ret
        exact ⟨by rw [HF.out]; rfl, rfl⟩
      · have t : (e.id == s) = false := beq_eq_false_iff_ne.2 hs
        have HA2 := hid (show ∀ (j : Nat) x, j < k + 1 → L[j]? = some x → x.id ≠ s from fun j x hj hx => by
          rcases Nat.lt_or_ge j k with h | h
          · exact HA.out j x h hx
          · obtain rfl : j = k := by omega
            have := HX.out
            rw [hx] at this
            injection this with this
            rw [this]
            exact hs)
        clear hs
        go_wp2
        go_roundw
        case rel => exact ⟨k + 1, by omega, by go_num, HA2, trivial⟩
        case measure => simp [intOf]; omega
    · have HF := hid (show fndNV L s = -1 by
        have hl := HS.out.len
        have hf := fndN_none (L := L) (s := s) (fun j x hx => HA.out j x (by have := (List.getElem?_eq_some_iff.1 hx).1; omega) hx)
        unfold fndNV
        rw [hf, if_neg (Nat.lt_irrefl _)])
      go_wp2
      go_ret
      exact ⟨by rw [HF.out]; rfl, rfl⟩
end Go.Proofs.YtklplmldhhlgiaaDoor
