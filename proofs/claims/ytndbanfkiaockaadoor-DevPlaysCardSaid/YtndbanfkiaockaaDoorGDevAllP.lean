/- The law DevPlays at package dev's own device. -/
import Derived.Test.YtndbanfkiaockaaDoorGDvD
import Derived.Test.YtndbanfkiaockaaDoorGDevPlaysW
import Derived.Test.YtndbanfkiaockaaDoorGAll
namespace Go.Proofs.YtndbanfkiaockaaDoor
open Go.ChangeShapes Go.WideShapes Go.ChangeAt Go.RowKit

theorem devPlays_all (n : Int) (A : Option Addr) (len cap : Nat) (T : Nat → Stp) (w : World) (_ : (Lit.int .i64 n).wf = true) (hD : Dos w w.heap.size A len T) (hL : laidMetH Tryd.prog laid24 w) :
    Calls Tryd.prog 3 #[.int .i64 n, .slice A len cap] w (Yes w) := by
  obtain ⟨S, hS⟩ := sent_of_laid hL
  by_cases h : n < 1 ∨ 6000 < n
  · exact devPlays_bad dvOk S n A len cap w hS h
  · obtain ⟨N, rfl⟩ : ∃ N : Nat, n = (N : Int) := ⟨n.toNat, by omega⟩
    exact devPlays_any dvOk S N A len cap T w hS (by omega) (by omega) hD
end Go.Proofs.YtndbanfkiaockaaDoor
