/- Rows that list package utf8's two tables beside the errors: what they read as, when the call begins; the errors among them. -/
import Derived.Test.YtjoajjndopfbmaaDoorGAll
import Derived.LaidSub
import Derived.Lay
namespace Go.Proofs.YtjoajjndopfbmaaDoor
open Go.ChangeShapes Go.WideShapes Go.ChangeAt Go.RowKit

/-- is it no table? -/
def noTab (x : String × DataW Unit) : Bool := !(x.1 == "unicode/utf8.acceptRanges" || x.1 == "unicode/utf8.first")
def laid26 : List (String × DataW Unit) := ("unicode/utf8.acceptRanges", Rows.laid_unicode_utf8_acceptRanges) :: (laid24 ++ [("unicode/utf8.first", Rows.laid_unicode_utf8_first)])
set_option maxRecDepth 100000 in
theorem door_met_laid26 (os : Os) (args : Array Value) : laidMetH Tryd.prog laid26 ((World.laidAll Tryd.prog os laid26).forCall (fun _ _ => 0) ⟨#[], args, []⟩).memory := by
  rw [MakeChecks.laidMetH_plain _ _ _ (by kernel_rfl)]
  exact laidMet_laidAll _ (by kernel_rfl) (by kernel_rfl)
theorem laid26_errs : laid26.filter noTab = laid24 := by kernel_rfl
theorem sent_of_laid26 {W : World} (h : laidMetH Tryd.prog laid26 W) : ∃ S, Sent W S := by
  have := h.filter noTab
  rw [laid26_errs] at this
  exact sent_of_laid this
/-- the three errors that a path may be refused with -/
def all3 : List (String × Nat × List UInt8) := [("breviary/api.ErrNoEnt", 1, [110, 111, 32, 115, 117, 99, 104, 32, 102, 105, 108, 101]), ("breviary/api.ErrInval", 0, [105, 116, 32, 109, 97, 121, 32, 110, 111, 116, 32, 98, 101]), ("breviary/api.ErrLong", 2, [116, 111, 111, 32, 108, 111, 110, 103, 32, 97, 32, 110, 97, 109, 101])]
def laid3 : List (String × DataW Unit) := all3.map sentOf
theorem glob3 : ∀ x ∈ all3, Tryd.prog.globalNamed x.1 = some x.2.1 ∧ (Tryd.prog.globals[x.2.1]?).map (·.type) = some 27 := by
  intro x hx
  simp only [all3, List.mem_cons, List.not_mem_nil, or_false] at hx
  rcases hx with rfl | rfl | rfl
  all_goals exact ⟨by kernel_rfl, by kernel_rfl⟩
theorem sent3_of_laid {W : World} (h : laidMetH Tryd.prog laid3 W) : ∃ S, SentL [8, 13, 14] W S := by
  rw [MakeChecks.laidMetH_plain _ _ _ (by kernel_rfl)] at h
  obtain ⟨ps, hv, hnd, hrows⟩ := h
  obtain ⟨az, hl, hn, hm, hc⟩ := sents all3 ps hv glob3 hrows hnd
  have hl5 : az.length = 3 := hl
  have hget : ∀ i, i < 3 → az[i]? = some (az.getD i ⟨0, 0, none⟩) := fun i hi => by simp [List.getD, show i < az.length by omega]
  refine ⟨fun i => az.getD (match i with | 8 => 0 | 13 => 1 | 14 => 2 | _ => 0) ⟨0, 0, none⟩, fun i hi => ?_⟩
  simp only [List.mem_cons, List.not_mem_nil, or_false] at hi
  rcases hi with rfl | rfl | rfl
  · exact hc 0 _ _ rfl (hget 0 (by decide))
  · exact hc 1 _ _ rfl (hget 1 (by decide))
  · exact hc 2 _ _ rfl (hget 2 (by decide))
def laid5p : List (String × DataW Unit) := ("unicode/utf8.acceptRanges", Rows.laid_unicode_utf8_acceptRanges) :: (laid3 ++ [("unicode/utf8.first", Rows.laid_unicode_utf8_first)])
set_option maxRecDepth 100000 in
theorem door_met_laid5p (os : Os) (args : Array Value) : laidMetH Tryd.prog laid5p ((World.laidAll Tryd.prog os laid5p).forCall (fun _ _ => 0) ⟨#[], args, []⟩).memory := by
  rw [MakeChecks.laidMetH_plain _ _ _ (by kernel_rfl)]
  exact laidMet_laidAll _ (by kernel_rfl) (by kernel_rfl)
theorem laid5p_errs : laid5p.filter noTab = laid3 := by kernel_rfl
theorem sent3_of_laid5p {W : World} (h : laidMetH Tryd.prog laid5p W) : ∃ S, SentL [8, 13, 14] W S := by
  have := h.filter noTab
  rw [laid5p_errs] at this
  exact sent3_of_laid this
end Go.Proofs.YtjoajjndopfbmaaDoor
