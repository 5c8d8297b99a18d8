/- PathBack, over what its row lays. -/
import Derived.Test.YtjoajjndopfbmaaDoorGAll
import Derived.Test.YtjoajjndopfbmaaDoorGRow
import Derived.Test.YtjoajjndopfbmaaDoorGTab
import Derived.Test.YtjoajjndopfbmaaDoorGPaM
namespace Go.Proofs.YtjoajjndopfbmaaDoor
open Go.ChangeShapes Go.WideShapes Go.ChangeAt Go.RowKit

theorem pathBack_all (A : Option Addr) (len cap : Nat) (zs : List Int) (A' : Option Addr) (len' cap' : Nat) (zs' : List Int) (b : Bool) (W : World) (h : IsRow .i64 W A len cap zs) (h' : IsRow .i64 W A' len' cap' zs') (hL : laidMetH Tryd.prog laid5p W) :
    Calls Tryd.prog 4 #[.slice A len cap, .slice A' len' cap', .bool b] W fun e W' => e = .returned (.bool true) ∧ Below W.heap.size W W' := by
  obtain ⟨S, hS⟩ := sent3_of_laid5p hL
  exact pathBack_any S A A' len cap len' cap' b _ _ W hS (sn_of_row h).1 (sn_of_row h').1
end Go.Proofs.YtjoajjndopfbmaaDoor
