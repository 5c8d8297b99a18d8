/- The laws of package geo, at what the rows say of the start. -/
import Derived.Test.YtndbanfkiaockaaDoorGGeoBoundsW
import Derived.Test.YtndbanfkiaockaaDoorGGeoPairsW
import Derived.Test.YtndbanfkiaockaaDoorGAll
import Derived.Test.YtndbanfkiaockaaDoorGOne
namespace Go.Proofs.YtndbanfkiaockaaDoor
open Go.ChangeShapes Go.WideShapes Go.ChangeAt Go.RowKit

theorem geoPairs_all (n i : Int) (w : World) (_ : (Lit.int .i64 n).wf = true) (_ : (Lit.int .i64 i).wf = true) (hL : laidMetH Tryd.prog laid1 w) :
    Calls Tryd.prog 5 #[.int .i64 n, .int .i64 i] w (Yes w) := by
  obtain ⟨S, hS⟩ := sent1_of_laid hL
  exact geoPairs_any S n i w hS
theorem geoQuotas_all (a b : Int) (w : World) (_ : (Lit.int .i64 a).wf = true) (_ : (Lit.int .i64 b).wf = true) (hL : laidMetH Tryd.prog laid1 w) :
    Calls Tryd.prog 6 #[.int .i64 a, .int .i64 b] w (Yes w) := by
  obtain ⟨S, hS⟩ := sent1_of_laid hL
  exact geoQuotas_any S a b w hS
theorem geoBounds_all (n i : Int) (w : World) (_ : (Lit.int .i64 n).wf = true) (_ : (Lit.int .i64 i).wf = true) (hL : laidMetH Tryd.prog laid24 w) :
    Calls Tryd.prog 7 #[.int .i64 n, .int .i64 i] w (Yes w) := by
  obtain ⟨S, hS⟩ := sent_of_laid hL
  exact geoBounds_any S n i w hS
end Go.Proofs.YtndbanfkiaockaaDoor
