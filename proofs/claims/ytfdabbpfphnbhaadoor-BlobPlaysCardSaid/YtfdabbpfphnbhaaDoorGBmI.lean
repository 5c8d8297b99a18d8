/- Package blob's own area: Done; Open. -/
import Derived.Test.YtfdabbpfphnbhaaDoorGBmH
import Derived.Test.YtfdabbpfphnbhaaDoorGBlQ
namespace Go.Proofs.YtfdabbpfphnbhaaDoor
open Go.RowKit

theorem useV_done {n : Nat} {a : ASt} (i : Nat) : useV n a.done i = if useV n a i = 3 then 1 else useV n a i := by
  rcases useV_ways n a i with ⟨h, e⟩ | ⟨h, u, e⟩ | ⟨h, u, v, e⟩ | ⟨h, u, v, e⟩
  · rw [e]; simp; exact useV_aside.2 h
  · rw [e]; simp; unfold useV; rw [if_neg (by omega), if_pos (show a.done.use i = true from u)]
  · rw [e]; simp; unfold useV; rw [if_neg (by omega), if_neg (by rw [show a.done.use i = a.use i from rfl, u]; decide), if_neg (by rw [show a.done.held i = false from rfl]; decide)]
  · rw [e]; simp; unfold useV; rw [if_neg (by omega), if_neg (by rw [show a.done.use i = a.use i from rfl, u]; decide), if_neg (by rw [show a.done.held i = false from rfl]; decide)]
def doneL (n : Nat) (a : ASt) (k : Nat) : List Int := (List.range n).map fun i => if i < k then useV n a.done i else useV n a i
theorem doneL_len (n : Nat) (a : ASt) (k : Nat) : (doneL n a k).length = n := by simp [doneL]
theorem doneL_get {n i : Nat} (a : ASt) (k : Nat) (h : i < n) : (doneL n a k)[i]? = some (if i < k then useV n a.done i else useV n a i) := by
  unfold doneL; rw [List.getElem?_map, List.getElem?_range h]; rfl
theorem doneL_zero (n : Nat) (a : ASt) : doneL n a 0 = useL n a := by unfold doneL useL; simp
theorem doneL_all (n : Nat) (a : ASt) : doneL n a n = useL n a.done := by
  apply List.ext_getElem?
  intro i
  by_cases h : i < n
  · rw [doneL_get a n h, if_pos h, useL_get _ h]
  · rw [List.getElem?_eq_none_iff.2 (by rw [doneL_len]; omega), List.getElem?_eq_none_iff.2 (by rw [useL_len]; omega)]
theorem doneL_yes {n k : Nat} {a : ASt} (h : useV n a k = 3) : (doneL n a k).set k 1 = doneL n a (k + 1) := by
  apply List.ext_getElem?
  intro i
  rw [List.getElem?_set, doneL_len]
  by_cases hi : i < n
  · rw [doneL_get a (k + 1) hi]
    by_cases e : k = i
    · subst e; rw [if_pos rfl, if_pos hi, if_pos (by omega), useV_done, if_pos h]
    · rw [if_neg e, doneL_get a k hi]
      by_cases hl : i < k
      · rw [if_pos hl, if_pos (by omega)]
      · rw [if_neg hl, if_neg (by omega)]
  · rw [List.getElem?_eq_none_iff.2 (by rw [doneL_len]; omega)]
    rw [List.getElem?_eq_none_iff.2 (by rw [doneL_len]; omega)]
    split
    · split
      · omega
      · rfl
    · rfl
theorem doneL_no {n k : Nat} {a : ASt} (h : useV n a k ≠ 3) : doneL n a (k + 1) = doneL n a k := by
  unfold doneL
  apply List.map_congr_left
  intro i _
  by_cases e : i = k
  · subst e; rw [if_pos (by omega), if_neg (by omega), useV_done, if_neg h]
  · by_cases hl : i < k
    · rw [if_pos hl, if_pos (by omega)]
    · rw [if_neg hl, if_neg (by omega)]
set_option maxRecDepth 100000 in
set_option maxHeartbeats 2000000 in
theorem bdone_any (d g u n nx : Nat) (a : ASt) (w : World) (ha : ARat w g u d n a nx) (hn : n ≤ 6000) :
    Calls Tryd.prog 16 #[.pointer (some ⟨g, 0, none⟩)] w fun e w' => e = .returned (.tuple #[]) ∧ ARat w' g u d n a.done nx ∧ Only (fun k => k = u) w w' := by
  have HA := hid ha
  have c1 := ha.cells.2.1
  have HN := hid hn
  clear ha
  go_enter Tryd.func16, Tryd.ntmps16
  go_wp2
  go_loopw [9] (fun i wr => ∃ k : Nat, k ≤ n ∧ i = .int .i64 (k : Int) ∧ OwnV 79 wr 0 (.slice (some ⟨u, 0, none⟩) n n) (U8 (doneL n a k)) ∧ Only (fun k => k = u) w wr) (fun i _ => n - (intOf i).toNat)
  case atStart => exact ⟨0, Nat.zero_le _, rfl, by rw [doneL_zero]; exact HA.out.row, Only.refl _ _⟩
  case round =>
    obtain ⟨k, hk, rfl, ho, hb⟩ := hrel
    have HO := hid ho
    have HB := hid hb
    have hk6 : (k : Int) ≤ 6000 := by have := HN.out; omega
    have hcg : ∀ j, wr.cell? ⟨g, j, none⟩ = w.cell? ⟨g, j, none⟩ := fun j => World.cell?_of_block (hb.block g HA.out.lt.1 (fun e => HA.out.ne e.symm))
    have c1' := (hcg 1).trans HA.out.cells.2.1
    clear ho hb hcg
    by_cases hlt : k < n
    · have c3 := HO.out.cell (k := k) (U8_get ((doneL_get a k hlt).trans (by rw [if_neg (Nat.lt_irrefl k)])))
      have fr := HO.out.free k
      obtain ⟨x, hx⟩ : ∃ x, useV n a k = x := ⟨_, rfl⟩
      rw [hx] at c3
      have HX := hid hx
      have hki : (k : Int) < n := by omega
      clear hx
      rcases hx1 : (x == 3) with _ | _
      · have HNo := hid (doneL_no (n := n) (k := k) (a := a) (by rw [HX.out]; exact beq_eq_false_iff_ne.1 hx1))
        go_wp2
        go_roundw
        case rel => exact ⟨k + 1, by omega, by go_num, by rw [HNo.out]; exact HO.out, HB.out⟩
        case measure => simp [intOf]; omega
      · have HO2 := hid (show OwnV 79 (wr.setCell ⟨u, k, none⟩ (.int .i8 1)) 0 (.slice (some ⟨u, 0, none⟩) n n) (U8 (doneL n a (k + 1))) from by
          have := HO.out.put (by rw [U8_len, doneL_len]) k (.int .i8 1)
          rwa [U8_set, doneL_yes (by rw [HX.out]; exact eq_of_beq hx1)] at this)
        have HB2 := hid (HB.out.put (p := ⟨u, k, none⟩) rfl (.int .i8 1))
        go_wp2
        go_roundw
        case rel => exact ⟨k + 1, by omega, by go_num, HO2.out, HB2.out⟩
        case measure => simp [intOf]; omega
    · have hnlt : decide (k < n) = false := by simpa using hlt
      have hkn : k = n := by omega
      have HF := hid (show ARat wr g u d n a.done nx from ⟨HA.out.blk.same (HB.out.block g HA.out.lt.1 (fun e => HA.out.ne e.symm)), by have := HO.out; rwa [hkn, doneL_all] at this, HA.out.ne, HA.out.nx⟩)
      go_wp2
      go_end0
      exact ⟨rfl, HF.out, HB.out⟩
end Go.Proofs.YtfdabbpfphnbhaaDoor
