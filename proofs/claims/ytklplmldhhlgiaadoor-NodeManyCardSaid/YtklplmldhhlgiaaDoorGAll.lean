/- What all the listed errors of package api read as, when the call begins; the start that the initialisers lay meets it. -/
import Derived.Test.YtklplmldhhlgiaaDoorGOpen
import Derived.Test.YtklplmldhhlgiaaDoorGSee
namespace Go.Proofs.YtklplmldhhlgiaaDoor
open Go.ChangeShapes Go.WideShapes Go.ChangeAt Go.RowKit

/-- the errors, in the order of the rows' lists: the variable, its number, its text -/
def all24 : List (String × Nat × List UInt8) := [("breviary/api.ErrEnd", 2, [105, 116, 32, 101, 110, 100, 115, 32, 116, 111, 111, 32, 101, 97, 114, 108, 121]), ("breviary/api.ErrShape", 3, [110, 111, 116, 32, 97, 115, 32, 105, 116, 32, 104, 97, 115, 32, 116, 111, 32, 98, 101]), ("breviary/api.ErrRange", 0, [97, 32, 110, 117, 109, 98, 101, 114, 32, 111, 117, 116, 32, 111, 102, 32, 105, 116, 115, 32, 114, 97, 110, 103, 101]), ("breviary/api.ErrMany", 1, [116, 111, 111, 32, 109, 97, 110, 121]), ("breviary/api.ErrFull", 4, [116, 104, 101, 114, 101, 32, 105, 115, 32, 110, 111, 32, 114, 111, 111, 109]), ("breviary/api.ErrCrash", 5, [105, 116, 32, 105, 115, 32, 100, 111, 119, 110]), ("breviary/api.ErrIO", 6, [105, 116, 32, 99, 97, 110, 39, 116, 32, 98, 101, 32, 114, 101, 97, 100]), ("breviary/api.ErrState", 7, [110, 111, 116, 32, 105, 110, 32, 116, 104, 105, 115, 32, 115, 116, 97, 116, 101]), ("breviary/api.ErrNoEnt", 8, [110, 111, 32, 115, 117, 99, 104, 32, 102, 105, 108, 101]), ("breviary/api.ErrExist", 9, [116, 104, 101, 114, 101, 32, 105, 115, 32, 111, 110, 101]), ("breviary/api.ErrNotDir", 10, [110, 111, 116, 32, 97, 32, 100, 105, 114, 101, 99, 116, 111, 114, 121]), ("breviary/api.ErrIsDir", 11, [97, 32, 100, 105, 114, 101, 99, 116, 111, 114, 121]), ("breviary/api.ErrNotEmpty", 12, [110, 111, 116, 32, 101, 109, 112, 116, 121]), ("breviary/api.ErrInval", 13, [105, 116, 32, 109, 97, 121, 32, 110, 111, 116, 32, 98, 101]), ("breviary/api.ErrLong", 14, [116, 111, 111, 32, 108, 111, 110, 103, 32, 97, 32, 110, 97, 109, 101]), ("breviary/api.ErrLoop", 15, [116, 111, 111, 32, 109, 97, 110, 121, 32, 108, 105, 110, 107, 115, 32, 105, 110, 32, 97, 32, 114, 111, 119]), ("breviary/api.ErrMLink", 16, [116, 111, 111, 32, 109, 97, 110, 121, 32, 110, 97, 109, 101, 115]), ("breviary/api.ErrFBig", 17, [116, 111, 111, 32, 103, 114, 101, 97, 116, 32, 97, 32, 102, 105, 108, 101]), ("breviary/api.ErrNoSpc", 18, [110, 111, 32, 115, 112, 97, 99, 101]), ("breviary/api.ErrMFile", 19, [116, 111, 111, 32, 109, 97, 110, 121, 32, 111, 112, 101, 110]), ("breviary/api.ErrBadF", 20, [110, 111, 116, 32, 111, 112, 101, 110]), ("breviary/api.ErrRefused", 21, [105, 116, 32, 99, 97, 110, 39, 116, 32, 98, 101, 32, 109, 101, 110, 100, 101, 100]), ("breviary/api.ErrWord", 22, [110, 111, 32, 115, 117, 99, 104, 32, 119, 111, 114, 100]), ("breviary/api.ErrNumber", 23, [110, 111, 116, 32, 97, 32, 110, 117, 109, 98, 101, 114])]
def laid24 : List (String × DataW Unit) := all24.map sentOf
theorem glob24 : ∀ x ∈ all24, Tryd.prog.globalNamed x.1 = some x.2.1 ∧ (Tryd.prog.globals[x.2.1]?).map (·.type) = some 36 := by
  intro x hx
  simp only [all24, List.mem_cons, List.not_mem_nil, or_false] at hx
  rcases hx with rfl | rfl | rfl | rfl | rfl | rfl | rfl | rfl | rfl | rfl | rfl | rfl | rfl | rfl | rfl | rfl | rfl | rfl | rfl | rfl | rfl | rfl | rfl | rfl
  all_goals exact ⟨by kernel_rfl, by kernel_rfl⟩
theorem door_met_laid24 (os : Os) (args : Array Value) : laidMetH Tryd.prog laid24 ((World.doorLaid Tryd.prog 465 os).forCall (fun _ _ => 0) ⟨#[], args, []⟩).memory :=
  laidMetH_of_parts3 (fuel := 8) (laidMet_of_run' 8 (by kernel_rfl) (by kernel_rfl)) (by kernel_rfl) (by kernel_rfl)

theorem all24_glo : ∀ i, i < 24 → ∃ x, all24[i]? = some x ∧ x.2.1 = glo.getD i 0
  | i, h => match i, h with | 0, _ => ⟨_, rfl, rfl⟩ | 1, _ => ⟨_, rfl, rfl⟩ | 2, _ => ⟨_, rfl, rfl⟩ | 3, _ => ⟨_, rfl, rfl⟩ | 4, _ => ⟨_, rfl, rfl⟩ | 5, _ => ⟨_, rfl, rfl⟩ | 6, _ => ⟨_, rfl, rfl⟩ | 7, _ => ⟨_, rfl, rfl⟩ | 8, _ => ⟨_, rfl, rfl⟩ | 9, _ => ⟨_, rfl, rfl⟩ | 10, _ => ⟨_, rfl, rfl⟩ | 11, _ => ⟨_, rfl, rfl⟩ | 12, _ => ⟨_, rfl, rfl⟩ | 13, _ => ⟨_, rfl, rfl⟩ | 14, _ => ⟨_, rfl, rfl⟩ | 15, _ => ⟨_, rfl, rfl⟩ | 16, _ => ⟨_, rfl, rfl⟩ | 17, _ => ⟨_, rfl, rfl⟩ | 18, _ => ⟨_, rfl, rfl⟩ | 19, _ => ⟨_, rfl, rfl⟩ | 20, _ => ⟨_, rfl, rfl⟩ | 21, _ => ⟨_, rfl, rfl⟩ | 22, _ => ⟨_, rfl, rfl⟩ | 23, _ => ⟨_, rfl, rfl⟩ | k + 24, h => absurd h (by omega)
theorem sent_of_laid {W : World} (h : laidMetH Tryd.prog laid24 W) : ∃ S, Sent W S := by
  rw [MakeChecks.laidMetH_plain _ _ _ (by kernel_rfl)] at h
  obtain ⟨ps, hv, hnd, hrows⟩ := h
  obtain ⟨az, hl, hn, hm, hc⟩ := sents all24 ps hv glob24 hrows hnd
  have hl24 : az.length = 24 := hl
  have hget : ∀ i, i < 24 → az[i]? = some (az.getD i ⟨0, 0, none⟩) := fun i hi => by simp [List.getD, show i < az.length by omega]
  refine ⟨fun i => az.getD i ⟨0, 0, none⟩, fun i hi => ?_, fun i j hi hj hne he => ?_, fun i hi => ?_⟩
  · obtain ⟨x, hx, hk⟩ := all24_glo i hi
    have := hc i x _ hx (hget i hi)
    rwa [hk] at this
  · have h1 := hget i hi
    have h2 := hget j hj
    rw [he] at h1
    exact hne ((List.getElem?_inj (by omega) hn).1 (h1.trans h2.symm))
  · have h1 := hget i hi
    exact (hrows _ _ (hm _ (List.mem_of_getElem? h1))).1
end Go.Proofs.YtklplmldhhlgiaaDoor
