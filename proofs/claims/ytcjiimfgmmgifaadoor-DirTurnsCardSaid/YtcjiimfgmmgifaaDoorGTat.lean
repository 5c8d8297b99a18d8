/- Rows that list package strconv's three tables ahead of the errors: what they read as, when the call begins; the errors among them. -/
import Derived.Test.YtcjiimfgmmgifaaDoorGAll
import Derived.LaidSub
import Derived.Lay
namespace Go.Proofs.YtcjiimfgmmgifaaDoor
open Go.ChangeShapes Go.WideShapes Go.ChangeAt Go.RowKit

/-- is it no table? -/
def noTab3 (x : String × DataW Unit) : Bool := !(x.1 == "math/bits.deBruijn32tab" || x.1 == "math/bits.deBruijn64tab" || x.1 == "internal/strconv.uint64pow10")
def laid27 : List (String × DataW Unit) := ("math/bits.deBruijn32tab", Rows.laid_math_bits_deBruijn32tab) :: ("math/bits.deBruijn64tab", Rows.laid_math_bits_deBruijn64tab) :: ("internal/strconv.uint64pow10", Rows.laid_internal_strconv_uint64pow10) :: laid24
set_option maxRecDepth 100000 in
theorem door_met_laid27 (os : Os) (args : Array Value) : laidMetH Tryd.prog laid27 ((World.laidAll Tryd.prog os laid27).forCall (fun _ _ => 0) ⟨#[], args, []⟩).memory := by
  rw [MakeChecks.laidMetH_plain _ _ _ (by kernel_rfl)]
  exact laidMet_laidAll _ (by kernel_rfl) (by kernel_rfl)
theorem laid27_errs : laid27.filter noTab3 = laid24 := by kernel_rfl
theorem sent_of_laid27 {W : World} (h : laidMetH Tryd.prog laid27 W) : ∃ S, Sent W S := by
  have := h.filter noTab3
  rw [laid27_errs] at this
  exact sent_of_laid this
end Go.Proofs.YtcjiimfgmmgifaaDoor
