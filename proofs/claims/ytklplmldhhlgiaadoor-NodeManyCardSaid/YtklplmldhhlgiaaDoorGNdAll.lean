/- The laws of package node at package node's own table (tabOk: to be proved of the struct that landed). -/
import Derived.Test.YtklplmldhhlgiaaDoorGAll
import Derived.Test.YtklplmldhhlgiaaDoorGNdOk
import Derived.Test.YtklplmldhhlgiaaDoorGNdManyW
import Derived.Test.YtklplmldhhlgiaaDoorGNdKindsW
import Derived.Test.YtklplmldhhlgiaaDoorGNdPlaysW
namespace Go.Proofs.YtklplmldhhlgiaaDoor
open Go.ChangeShapes Go.WideShapes Go.ChangeAt Go.RowKit Go.Sort

theorem nodeMany_all (n : Int) (w : World) (_ : (Lit.int .i64 n).wf = true) (hL : laidMetH Tryd.prog laid24 w) :
    Calls Tryd.prog 4 #[.int .i64 n] w (Yes w) := by
  obtain ⟨S, hS⟩ := sent_of_laid hL
  exact nodeMany_any tabOk S n w hS
theorem nodeKinds_all (n k : Int) (s : ByteArray) (w : World) (_ : (Lit.int .i64 n).wf = true) (_ : (Lit.int .i64 k).wf = true) (hs : s.size ≤ maxLen) (hL : laidMetH Tryd.prog laid24 w) :
    Calls Tryd.prog 5 #[.int .i64 n, .int .i64 k, .string s] w (Yes w) := by
  obtain ⟨S, hS⟩ := sent_of_laid hL
  have h := nodeKinds_any tabOk S n k s.data.toList w hS (by simpa using hs)
  have e : encStr s.data.toList = .string s := by rfl
  rw [e] at h
  exact h
theorem nodePlays_all (A : Option Addr) (len cap : Nat) (T : Nat → Ste) (a : Int) (w : World) (hT : Doe w w.heap.size A len T) (ha : (Lit.int .i64 a).wf = true) (hL : laidMetH Tryd.prog laid24 w) :
    Calls Tryd.prog 3 #[.slice A len cap, .int .i64 a] w (Yes w) := by
  obtain ⟨S, hS⟩ := sent_of_laid hL
  exact nodePlays_any tabOk S A len cap T a w hS hT (bounds_i64 ha)
end Go.Proofs.YtklplmldhhlgiaaDoor
