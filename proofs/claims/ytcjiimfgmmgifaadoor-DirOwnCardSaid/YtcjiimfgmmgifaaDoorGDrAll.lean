/- DirOwn at package dir's own directory. -/
import Derived.Test.YtcjiimfgmmgifaaDoorGAll
import Derived.Test.YtcjiimfgmmgifaaDoorGDrI
import Derived.Test.YtcjiimfgmmgifaaDoorGDrOwnW
namespace Go.Proofs.YtcjiimfgmmgifaaDoor
open Go.ChangeShapes Go.WideShapes Go.ChangeAt Go.RowKit

theorem dirOwn_all (n m k : Int) (w : World) (_ : (Lit.int .i64 n).wf = true) (_ : (Lit.int .i64 m).wf = true) (_ : (Lit.int .i64 k).wf = true) (hL : laidMetH Tryd.prog laid24 w) :
    Calls Tryd.prog 5 #[.int .i64 n, .int .i64 m, .int .i64 k] w (Yes w) := by
  obtain ⟨S, hS⟩ := sent_of_laid hL
  exact dirOwn_any dirOk S n m k w hS
end Go.Proofs.YtcjiimfgmmgifaaDoor
