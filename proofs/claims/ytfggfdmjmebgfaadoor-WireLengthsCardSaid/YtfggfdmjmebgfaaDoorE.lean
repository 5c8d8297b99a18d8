/- The examples of the chapter stand: the call first answers true, and what was there stays. Conditions: none. -/
import Derived.Test.YtfggfdmjmebgfaaDoorD
namespace Go.Proofs.YtfggfdmjmebgfaaDoor
open Go.RowKit

theorem Sl.lit (w : World) (l : List Int) (h : l.length ≤ 1000) : Sl (w.alloc (.cells (I l).toArray 5)) (w.heap.size + 1) (some ⟨w.heap.size, 0, none⟩) l.length l.length l := by
  refine ⟨rfl, Nat.le_refl _, by unfold maxLen; omega, (fun h => by cases h), fun ad ha _ => ?_⟩
  cases ha
  refine ⟨by show w.heap.size < _; omega, fun j x hx => ?_⟩
  have hb : Blk (w.alloc (.cells (I l).toArray 5)) w.heap.size 5 (I l).toArray := Blk.new w 5 _
  have e : (⟨w.heap.size, 0, none⟩ : Addr).add j = ⟨w.heap.size, j, none⟩ := by unfold Addr.add; split <;> simp_all
  rw [e, hb.cell j]
  simpa using I_get hx

/-- it answers yes; what was there is as it was -/
def Yes (w : World) (e : Ending) (w' : World) : Prop := e = .returned (.bool true) ∧ Below w.heap.size w w'

theorem enc_m1 : enc (-1) = [1] := by decide
theorem enc_64 : enc 64 = [128, 1] := by decide
theorem same_self (l : List Int) : sameB l l = true := by simp [sameB]
theorem Made.out {w w' : World} {l : List Int} {e : Ending} (h : Made w l e w') : ∃ A c, e = .returned (.slice A l.length c) ∧ Own w' w.heap.size (.slice A l.length c) l ∧ Sl w' w'.heap.size A l.length c l ∧ Below w.heap.size w w' := by
  obtain ⟨v, rfl, ho, hb⟩ := h
  obtain ⟨A, c, rfl, hs, _⟩ := ho.form
  exact ⟨A, c, rfl, ho, hs, hb⟩

set_option maxRecDepth 100000 in
set_option maxHeartbeats 1000000 in
theorem first_any (w : World) : Calls Tryd.prog 9 #[] w (Yes w) := by
  have HE1 := hid (show ([] : List Int) ++ enc (-1) = [1] from by decide)
  have HE2 := hid (show ([] : List Int) ++ enc 64 = [128, 1] from by decide)
  go_enter Tryd.func9, Tryd.ntmps9
  go_wp2_with fail
  refine (put_any none 0 0 (-1) [] _ (Sl.empty _ _) (by omega) (by omega) (by omega)).mono ?_
  rw [HE1.out]
  rintro e w1 hm
  obtain ⟨A1, c1, rfl, _, hs, hb⟩ := hm.out
  have HB := hid hb
  have HS := hid ((hs.alloc (Nat.le_refl _) (.cells (I [1]).toArray 5)))
  clear hs hb hm
  go_wp2_with fail
  refine (same_any A1 _ _ c1 1 1 [1] [1] _ _ _ HS.out (Sl.lit w1 [1] (by decide))).mono ?_
  rintro e w2 ⟨rfl, k, rfl⟩
  rw [same_self]
  go_wp2_with fail
  refine (put_any none 0 0 64 [] _ (Sl.empty _ _) (by omega) (by omega) (by omega)).mono ?_
  rw [HE2.out]
  rintro e w3 hm
  obtain ⟨A3, c3, rfl, _, hs, hb⟩ := hm.out
  have HB3 := hid hb
  have HS3 := hid ((hs.alloc (Nat.le_refl _) (.cells (I [128, 1]).toArray 5)))
  clear hs hb hm
  go_wp2_with fail
  refine (same_any A3 _ _ c3 2 2 [128, 1] [128, 1] _ _ _ HS3.out (Sl.lit w3 [128, 1] (by decide))).mono ?_
  rintro e w4 ⟨rfl, k4, rfl⟩
  rw [same_self]
  have HF := hid (show Below w.heap.size w ((w3.alloc (.cells (I [128, 1]).toArray 5)).drewN k4) from by
    have h1 : Below w.heap.size w ((w1.alloc (.cells (I [1]).toArray 5)).drewN k) := below_drewN (HB.out.alloc HB.out.size _) k
    have h2 := h1.trans (HB3.out.mono h1.size)
    exact below_drewN (h2.alloc h2.size _) k4)
  go_wp2
  go_ret
  exact ⟨rfl, HF.out⟩
end Go.Proofs.YtfggfdmjmebgfaaDoor
