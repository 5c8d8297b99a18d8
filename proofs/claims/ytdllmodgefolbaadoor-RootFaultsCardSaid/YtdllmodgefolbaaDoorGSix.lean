/- What the six errors that package root answers read as, when the call begins; the start that the initialisers lay meets it. -/
import Derived.Test.YtdllmodgefolbaaDoorGOpen
import Derived.Test.YtdllmodgefolbaaDoorGSee
import Derived.Test.YtdllmodgefolbaaDoorGRootA
namespace Go.Proofs.YtdllmodgefolbaaDoor
open Go.ChangeShapes Go.WideShapes Go.ChangeAt Go.RowKit

/-- the errors, in the order of the rows' lists: the variable, its number, its text -/
def all6 : List (String × Nat × List UInt8) := [("breviary/api.ErrShape", 5, [110, 111, 116, 32, 97, 115, 32, 105, 116, 32, 104, 97, 115, 32, 116, 111, 32, 98, 101]), ("breviary/api.ErrRange", 0, [97, 32, 110, 117, 109, 98, 101, 114, 32, 111, 117, 116, 32, 111, 102, 32, 105, 116, 115, 32, 114, 97, 110, 103, 101]), ("breviary/api.ErrMany", 1, [116, 111, 111, 32, 109, 97, 110, 121]), ("breviary/api.ErrFull", 4, [116, 104, 101, 114, 101, 32, 105, 115, 32, 110, 111, 32, 114, 111, 111, 109]), ("breviary/api.ErrCrash", 2, [105, 116, 32, 105, 115, 32, 100, 111, 119, 110]), ("breviary/api.ErrIO", 3, [105, 116, 32, 99, 97, 110, 39, 116, 32, 98, 101, 32, 114, 101, 97, 100])]
def laid6 : List (String × DataW Unit) := all6.map sentOf
theorem glob6 : ∀ x ∈ all6, Tryd.prog.globalNamed x.1 = some x.2.1 ∧ (Tryd.prog.globals[x.2.1]?).map (·.type) = some 26 := by
  intro x hx
  simp only [all6, List.mem_cons, List.not_mem_nil, or_false] at hx
  rcases hx with rfl | rfl | rfl | rfl | rfl | rfl
  all_goals exact ⟨by kernel_rfl, by kernel_rfl⟩
theorem door_met_laid6 (os : Os) (args : Array Value) : laidMetH Tryd.prog laid6 ((World.doorLaid Tryd.prog 465 os).forCall (fun _ _ => 0) ⟨#[], args, []⟩).memory :=
  laidMetH_of_parts3 (fuel := 8) (laidMet_of_run' 8 (by kernel_rfl) (by kernel_rfl)) (by kernel_rfl) (by kernel_rfl)
theorem sent6_of_laid {W : World} (h : laidMetH Tryd.prog laid6 W) : ∃ S, Sent6 W S := by
  rw [MakeChecks.laidMetH_plain _ _ _ (by kernel_rfl)] at h
  obtain ⟨ps, hv, hnd, hrows⟩ := h
  obtain ⟨az, hl, hn, hm, hc⟩ := sents all6 ps hv glob6 hrows hnd
  have hl5 : az.length = 6 := hl
  have hget : ∀ i, i < 6 → az[i]? = some (az.getD i ⟨0, 0, none⟩) := fun i hi => by simp [List.getD, show i < az.length by omega]
  refine ⟨fun i => az.getD (match i with | 1 => 0 | 2 => 1 | 3 => 2 | 4 => 3 | 5 => 4 | 6 => 5 | _ => 0) ⟨0, 0, none⟩, fun i hi => ?_⟩
  simp only [List.mem_cons, List.not_mem_nil, or_false] at hi
  rcases hi with rfl | rfl | rfl | rfl | rfl | rfl
  · exact hc 0 _ _ rfl (hget 0 (by decide))
  · exact hc 1 _ _ rfl (hget 1 (by decide))
  · exact hc 2 _ _ rfl (hget 2 (by decide))
  · exact hc 3 _ _ rfl (hget 3 (by decide))
  · exact hc 4 _ _ rfl (hget 4 (by decide))
  · exact hc 5 _ _ rfl (hget 5 (by decide))
end Go.Proofs.YtdllmodgefolbaaDoor
