/- The law PairReads, at package pair's own pairs over package dev's own device. -/
import Derived.Test.YtomhmodgfldlpaaDoorGDvD
import Derived.Test.YtomhmodgfldlpaaDoorGPairOk
import Derived.Test.YtomhmodgfldlpaaDoorGPairReadsW
import Derived.Test.YtomhmodgfldlpaaDoorGAll
namespace Go.Proofs.YtomhmodgfldlpaaDoor
open Go.ChangeShapes Go.WideShapes Go.ChangeAt Go.RowKit

theorem pairReads_all (A : Option Addr) (len cap : Nat) (T : Nat → Ptp) (w : World) (hD : Pos w w.heap.size A len T) (hL : laidMetH Tryd.prog laid24 w) :
    Calls Tryd.prog 3 #[.slice A len cap] w (Yes w) := by
  obtain ⟨S, hS⟩ := sent_of_laid hL
  by_cases h : 60 < len
  · exact pairReads_long dvOk (prOk dvOk) S A len cap w hS.five h (by have := hD.max; unfold maxLen at this; omega)
  · exact pairReads_any dvOk (prOk dvOk) S A len cap T w hS (by omega) hD
end Go.Proofs.YtomhmodgfldlpaaDoor
