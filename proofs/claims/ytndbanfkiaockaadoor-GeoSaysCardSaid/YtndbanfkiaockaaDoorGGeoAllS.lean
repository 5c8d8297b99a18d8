/- The law GeoSays, at what its row says of the start. -/
import Derived.Test.YtndbanfkiaockaaDoorGGeoSaysW
import Derived.Test.YtndbanfkiaockaaDoorGAll
namespace Go.Proofs.YtndbanfkiaockaaDoor
open Go.ChangeShapes Go.WideShapes Go.ChangeAt Go.RowKit

theorem geoSays_all (n i : Int) (A : Option Addr) (len cap : Nat) (zs : List Int) (w : World) (_ : (Lit.int .i64 n).wf = true) (_ : (Lit.int .i64 i).wf = true) (hr : IsRow .i64 w A len cap zs) (hL : laidMetH Tryd.prog laid24 w) :
    Calls Tryd.prog 4 #[.int .i64 n, .int .i64 i, .slice A len cap] w (Yes w) := by
  obtain ⟨S, hS⟩ := sent_of_laid hL
  obtain ⟨hl, hw⟩ := sn_of_row hr
  by_cases h : 40 < len ∨ n < 300 ∨ 6000 < n
  · exact geoSays_long S n i A len cap w hS (by have := hl.cap; have := hl.max; unfold maxLen at this; omega) h
  · exact geoSays_any S n i A len cap _ w hS (by omega) (by omega) (by omega) hl hw
end Go.Proofs.YtndbanfkiaockaaDoor
