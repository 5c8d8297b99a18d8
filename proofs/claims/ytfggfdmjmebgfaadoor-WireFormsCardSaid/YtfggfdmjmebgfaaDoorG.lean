/- firstNum reads what the plain function scan reads: a number and its length, or the error of its shape, or the one of its end. Conditions: the slice reads, its cells are bytes, the errors lie in their variables. -/
import Derived.Test.YtfggfdmjmebgfaaDoorF
namespace Go.Proofs.YtfggfdmjmebgfaaDoor
open Go.RowKit

/-- what a number's reading hands back -/
def fstV (r : Nat × Nat × Nat) (eS eE : Value) : Value :=
  if r.1 = 0 then .tuple #[.int .i64 (unzz r.2.1), .int .i64 (r.2.2 : Nat), .nilIface] else if r.1 = 1 then .tuple #[.int .i64 0, .int .i64 0, eS] else .tuple #[.int .i64 0, .int .i64 0, eE]
def Loop29 (l : List Int) (k U : Nat) : Prop := scan l 0 0 = scan (l.drop k) k U ∧ U < 128 ^ k
theorem drop_at {l : List Int} {k : Nat} {x : Int} (h : l[k]? = some x) : l.drop k = x :: l.drop (k + 1) := by
  obtain ⟨hk, rfl⟩ := List.getElem?_eq_some_iff.1 h
  exact List.drop_eq_getElem_cons hk
theorem Loop29.shape {l : List Int} {k U : Nat} {x : Int} (h : Loop29 l k U) (hx : l[k]? = some x) (hs : (k = 9 ∧ 1 < x) ∨ (0 < k ∧ x = 0)) : scan l 0 0 = (1, 0, 0) := by
  rw [h.1, drop_at hx]
  simp only [scan]
  rw [if_pos hs]
theorem Loop29.done {l : List Int} {k U : Nat} {x : Int} (h : Loop29 l k U) (hx : l[k]? = some x) (hs : ¬ ((k = 9 ∧ 1 < x) ∨ (0 < k ∧ x = 0))) (hd : x < 128) : scan l 0 0 = (0, U + x.toNat % 128 * 128 ^ k, k + 1) := by
  rw [h.1, drop_at hx]
  simp only [scan]
  rw [if_neg hs, if_pos hd]
theorem Loop29.on {l : List Int} {k U : Nat} {x : Int} (h : Loop29 l k U) (hx : l[k]? = some x) (hs : ¬ ((k = 9 ∧ 1 < x) ∨ (0 < k ∧ x = 0))) (hd : ¬ x < 128) : Loop29 l (k + 1) (U + x.toNat % 128 * 128 ^ k) := by
  refine ⟨?_, ?_⟩
  · rw [h.1, drop_at hx]
    simp only [scan]
    rw [if_neg hs, if_neg hd]
  · have h1 := h.2
    have h2 : x.toNat % 128 + 1 ≤ 128 := by omega
    have h3 := Nat.mul_le_mul_right (128 ^ k) h2
    rw [Nat.add_mul] at h3
    rw [Nat.pow_succ]
    omega
theorem Loop29.out {l : List Int} {k U n : Nat} (h : Loop29 l k U) (hn : l.length = n) (hk : ¬ k < n) : scan l 0 0 = (2, 0, 0) := by
  rw [h.1, List.drop_eq_nil_of_le (by omega)]
  rfl
theorem Loop29.sum {l : List Int} {k U : Nat} {x : Int} (h : Loop29 l k U) (hk : k ≤ 9) (hx0 : 0 ≤ x) (hx9 : k = 9 → x ≤ 1) :
    bits .or .u64 (U : Int) (IntKind.u64.wrap (x % 128 * 2 ^ (7 * k))) = ((U + x.toNat % 128 * 128 ^ k : Nat) : Int) ∧ U + x.toNat % 128 * 128 ^ k < 18446744073709551616 := by
  have h1 := h.2
  have hb : U + x.toNat % 128 * 128 ^ k < 18446744073709551616 := by
    by_cases h9 : k = 9
    · subst h9
      have := hx9 rfl
      omega
    · have h2 : x.toNat % 128 + 1 ≤ 128 := by omega
      have h3 := Nat.mul_le_mul_right (128 ^ k) h2
      rw [Nat.add_mul] at h3
      have h4 : 128 ^ k ≤ 128 ^ 8 := Nat.pow_le_pow_right (by omega) (by omega)
      omega
  refine ⟨?_, hb⟩
  have e : IntKind.u64.wrap (x % 128 * 2 ^ (7 * k)) = ((x.toNat % 128 * 128 ^ k : Nat) : Int) := by
    have e2 : (128 : Nat) ^ k = 2 ^ (7 * k) := by rw [Nat.pow_mul]
    have e3 : x % 128 * 2 ^ (7 * k) = ((x.toNat % 128 * 128 ^ k : Nat) : Int) := by
      rw [e2, Int.natCast_mul]
      have : x % 128 = ((x.toNat % 128 : Nat) : Int) := by omega
      rw [this]
      simp
    rw [e3]
    exact IntWalk.u64_in _ ⟨by omega, by omega⟩
  rw [e]
  exact or_up U _ k h1 hb

set_option maxRecDepth 100000 in
set_option maxHeartbeats 1000000 in
theorem firstNum_any (A : Option Addr) (n c B : Nat) (l : List Int) (eS eE : Value) (w : World) (h : Sl w B A n c l) (hl : Byt l) (hn : n ≤ 100000) (h1 : w.cell? ⟨1, 0, none⟩ = some eE) (h2 : w.cell? ⟨2, 0, none⟩ = some eS) :
    Calls Tryd.prog 29 #[.slice A n c] w (Quiet w (fstV (scan l 0 0) eS eE)) := by
  have HS := hid h
  have HY := hid hl
  clear h hl
  go_enter Tryd.func29, Tryd.ntmps29
  go_wp2
  go_loop [5, 11] (fun u i => ∃ k U : Nat, k ≤ n ∧ k ≤ 9 ∧ u = .int .u64 (U : Int) ∧ i = .int .i64 (k : Int) ∧ Loop29 l k U) (fun _ i => n - (intOf i).toNat)
  case atStart => exact ⟨0, 0, Nat.zero_le _, by omega, rfl, rfl, rfl, by decide⟩
  case round =>
    obtain ⟨k, U, hk, hk9, rfl, rfl, hL⟩ := hrel
    have HL := hid hL
    clear hL
    by_cases hlt : k < n
    · obtain ⟨ad, x, rfl, hbl, hx, hc⟩ := HS.out.get hlt
      have hxb := HY.out.at_ hx
      have HX := hid hx
      clear hx hbl
      obtain ⟨hx0, hx1⟩ := hxb
      have hb9 : ((k : Int) == 9) = true ∨ ((k : Int) == 9) = false := by cases ((k : Int) == 9) <;> simp
      have hb0 : (x == 0) = true ∨ (x == 0) = false := by cases (x == 0) <;> simp
      by_cases hs : (k = 9 ∧ 1 < x) ∨ (0 < k ∧ x = 0)
      · have HR := hid (HL.out.shape HX.out hs)
        have HZ := hid hs
        clear hs
        rcases hb9 with hb9 | hb9
        · have hk9' : (9 : Int) ≤ k := by rw [beq_iff_eq] at hb9; omega
          rcases Int.lt_or_le 1 x with hx1 | hx1
          · clear hb0
            go_wp2_with fail
            go_quiet (fail)
            go_wp2
            go_ret3
            rw [HR.out]
            exact ⟨rfl, _, rfl⟩
          · have hx0' : (x == 0) = true := by rw [beq_iff_eq]; have := HZ.out; omega
            clear hb0
            go_wp2_with fail
            go_quiet (fail)
            go_wp2
            go_ret3
            rw [HR.out]
            exact ⟨rfl, _, rfl⟩
        · have hk9' : (k : Int) < 9 := by rw [beq_eq_false_iff_ne] at hb9; omega
          have hk0 : (0 : Int) < k := by have := HZ.out; omega
          have hx0' : (x == 0) = true := by rw [beq_iff_eq]; have := HZ.out; omega
          clear hb0
          go_wp2_with fail
          go_quiet (fail)
          go_wp2
          go_ret3
          rw [HR.out]
          exact ⟨rfl, _, rfl⟩
      · have HN := hid hs
        have HU := hid (HL.out.sum (x := x) hk9 hx0 (fun h => by omega))
        clear hs
        by_cases h128 : x < 128
        · have HR := hid (HL.out.done HX.out HN.out h128)
          rcases hb9 with hb9 | hb9
          · have hk9' : (9 : Int) ≤ k := by rw [beq_iff_eq] at hb9; omega
            have hx1' : ¬ 1 < x := by have := HN.out; omega
            have hx0' : (x == 0) = false := by rw [beq_eq_false_iff_ne]; have := HN.out; omega
            clear hb0
            go_wp2_with fail
            rw [HU.out.1]
            refine (unzigzag_any _ _ HU.out.2).mono ?_
            rintro e w' ⟨rfl, rfl⟩
            go_wp2
            go_ret3
            rw [HR.out]
            exact ⟨rfl, 0, rfl⟩
          · have hk9' : (k : Int) < 9 := by rw [beq_eq_false_iff_ne] at hb9; omega
            rcases Nat.eq_zero_or_pos k with hk0 | hk0
            · have hk0' : (k : Int) ≤ 0 := by omega
              clear hb0 hk0
              go_wp2_with fail
              rw [HU.out.1]
              refine (unzigzag_any _ _ HU.out.2).mono ?_
              rintro e w' ⟨rfl, rfl⟩
              go_wp2
              go_ret3
              rw [HR.out]
              exact ⟨rfl, 0, rfl⟩
            · have hx0' : (x == 0) = false := by rw [beq_eq_false_iff_ne]; have := HN.out; omega
              have hk0' : (0 : Int) < k := by omega
              clear hb0
              go_wp2_with fail
              rw [HU.out.1]
              refine (unzigzag_any _ _ HU.out.2).mono ?_
              rintro e w' ⟨rfl, rfl⟩
              go_wp2
              go_ret3
              rw [HR.out]
              exact ⟨rfl, 0, rfl⟩
        · have HR := hid (HL.out.on HX.out HN.out h128)
          have hb9' : ((k : Int) == 9) = false := by rw [beq_eq_false_iff_ne]; have := HN.out; omega
          have hk9' : (k : Int) < 9 := by rw [beq_eq_false_iff_ne] at hb9'; omega
          have hx128 : 128 ≤ x := by omega
          have hx0' : (x == 0) = false := by rw [beq_eq_false_iff_ne]; omega
          clear hb0 hb9 h128
          rcases Nat.eq_zero_or_pos k with hk0 | hk0
          · have hk0' : (k : Int) ≤ 0 := by omega
            clear hk0
            go_wp2
            rw [HU.out.1]
            go_round
            case rel => exact ⟨k + 1, _, by omega, by omega, rfl, by go_num, HR.out⟩
            case measure => simp [intOf]; omega
          · have hk0' : (0 : Int) < k := by omega
            clear hk0
            go_wp2
            rw [HU.out.1]
            go_round
            case rel => exact ⟨k + 1, _, by omega, by omega, rfl, by go_num, HR.out⟩
            case measure => simp [intOf]; omega
    · have HR := hid (HL.out.out HS.out.len hlt)
      go_wp2_with fail
      go_quiet (fail)
      go_wp2
      go_ret3
      rw [HR.out]
      exact ⟨rfl, _, rfl⟩
end Go.Proofs.YtfggfdmjmebgfaaDoor
