/- PathSplits, over what its row lays. -/
import Derived.Test.YtjoajjndopfbmaaDoorGAll
import Derived.Test.YtjoajjndopfbmaaDoorGRow
import Derived.Test.YtjoajjndopfbmaaDoorGTab
import Derived.Test.YtjoajjndopfbmaaDoorGPaO
import Derived.Test.YtjoajjndopfbmaaDoorGPaP
namespace Go.Proofs.YtjoajjndopfbmaaDoor
open Go.ChangeShapes Go.WideShapes Go.ChangeAt Go.RowKit

theorem pathSplits_all (A : Option Addr) (len cap : Nat) (zs : List Int) (b : Bool) (W : World) (h : IsRow .i64 W A len cap zs) (hL : laidMetH Tryd.prog laid26 W) :
    Calls Tryd.prog 6 #[.slice A len cap, .bool b] W fun e W' => e = .returned (.bool true) ∧ Below W.heap.size W W' := by
  obtain ⟨S, hS⟩ := sent_of_laid26 hL
  rcases b with _ | _
  · exact pathSplits_f S A len cap _ W hS (sn_of_row h).1
  · exact pathSplits_t S A len cap _ W hS (sn_of_row h).1
end Go.Proofs.YtjoajjndopfbmaaDoor
