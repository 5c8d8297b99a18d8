/- The law DevShapes at package dev's own device. -/
import Derived.Test.YtjhdddccdffndaaDoorGDvD
import Derived.Test.YtjhdddccdffndaaDoorGDevShapesW
import Derived.Test.YtjhdddccdffndaaDoorGAll
namespace Go.Proofs.YtjhdddccdffndaaDoor
open Go.ChangeShapes Go.WideShapes Go.ChangeAt Go.RowKit

theorem devShapes_all (i n : Int) (w : World) (_ : (Lit.int .i64 i).wf = true) (_ : (Lit.int .i64 n).wf = true) (hL : laidMetH Tryd.prog laid24 w) :
    Calls Tryd.prog 8 #[.int .i64 i, .int .i64 n] w (Yes w) := by
  obtain ⟨S, hS⟩ := sent_of_laid hL
  exact devShapes_any dvOk S i n w hS
end Go.Proofs.YtjhdddccdffndaaDoor
