/- DirTurns at package dir's own directory. -/
import Derived.Test.YtcjiimfgmmgifaaDoorGTat
import Derived.Test.YtcjiimfgmmgifaaDoorGDrTurnsW
namespace Go.Proofs.YtcjiimfgmmgifaaDoor
open Go.ChangeShapes Go.WideShapes Go.ChangeAt Go.RowKit

theorem dirTurns_all (n m k : Int) (w : World) (_ : (Lit.int .i64 n).wf = true) (_ : (Lit.int .i64 m).wf = true) (_ : (Lit.int .i64 k).wf = true) (hL : laidMetH Tryd.prog laid27 w) :
    Calls Tryd.prog 4 #[.int .i64 n, .int .i64 m, .int .i64 k] w (Yes w) := by
  obtain ⟨S, hS⟩ := sent_of_laid27 hL
  exact dirTurns_any S n m k w hS
end Go.Proofs.YtcjiimfgmmgifaaDoor
