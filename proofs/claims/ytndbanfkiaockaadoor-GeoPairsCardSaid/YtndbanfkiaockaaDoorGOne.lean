/- What the one error that package geo answers reads as, when the call begins; the start that the initialisers lay meets it. -/
import Derived.Test.YtndbanfkiaockaaDoorGOpen
import Derived.Test.YtndbanfkiaockaaDoorGSee
namespace Go.Proofs.YtndbanfkiaockaaDoor
open Go.ChangeShapes Go.WideShapes Go.ChangeAt Go.RowKit

def all1 : List (String × Nat × List UInt8) := [("breviary/api.ErrRange", 0, [97, 32, 110, 117, 109, 98, 101, 114, 32, 111, 117, 116, 32, 111, 102, 32, 105, 116, 115, 32, 114, 97, 110, 103, 101])]
def laid1 : List (String × DataW Unit) := all1.map sentOf
theorem glob1 : ∀ x ∈ all1, Tryd.prog.globalNamed x.1 = some x.2.1 ∧ (Tryd.prog.globals[x.2.1]?).map (·.type) = some 26 := by
  intro x hx
  simp only [all1, List.mem_cons, List.not_mem_nil, or_false] at hx
  rcases hx with rfl
  all_goals exact ⟨by kernel_rfl, by kernel_rfl⟩
theorem door_met_laid1 (os : Os) (args : Array Value) : laidMetH Tryd.prog laid1 ((World.doorLaid Tryd.prog 465 os).forCall (fun _ _ => 0) ⟨#[], args, []⟩).memory :=
  laidMetH_of_parts3 (fuel := 8) (laidMet_of_run' 8 (by kernel_rfl) (by kernel_rfl)) (by kernel_rfl) (by kernel_rfl)
theorem sent1_of_laid {W : World} (h : laidMetH Tryd.prog laid1 W) : ∃ S, SentL [2] W S := by
  rw [MakeChecks.laidMetH_plain _ _ _ (by kernel_rfl)] at h
  obtain ⟨ps, hv, hnd, hrows⟩ := h
  obtain ⟨az, hl, hn, hm, hc⟩ := sents all1 ps hv glob1 hrows hnd
  have hl1 : az.length = 1 := hl
  refine ⟨fun _ => az.getD 0 ⟨0, 0, none⟩, fun i hi => ?_⟩
  simp only [List.mem_cons, List.not_mem_nil, or_false] at hi
  rcases hi with rfl
  exact hc 0 _ _ rfl (by simp [List.getD, show 0 < az.length by omega])
end Go.Proofs.YtndbanfkiaockaaDoor
