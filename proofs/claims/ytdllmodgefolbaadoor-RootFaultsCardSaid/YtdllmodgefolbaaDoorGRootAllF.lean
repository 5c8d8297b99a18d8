/- RootFaults at package dev's own device. -/
import Derived.Test.YtdllmodgefolbaaDoorGRootAllU
import Derived.Test.YtdllmodgefolbaaDoorGRootFaultsW
namespace Go.Proofs.YtdllmodgefolbaaDoor
open Go.ChangeShapes Go.WideShapes Go.ChangeAt Go.RowKit

theorem rootFaults_all (n0 at0 z1 which : Int) (w : World) (_ : (Lit.int .i64 n0).wf = true) (_ : (Lit.int .i64 at0).wf = true) (h1 : (Lit.int .u32 z1).wf = true) (_ : (Lit.int .i64 which).wf = true) (hL : laidMetH Tryd.prog laid6 w) :
    Calls Tryd.prog 6 #[.int .i64 n0, .int .i64 at0, .int .u32 z1, .int .i64 which] w (Yes w) := by
  obtain ⟨S, hS⟩ := sent6_of_laid hL
  obtain ⟨y1, rfl, k1⟩ := u32_nat6 h1
  exact rootFaults_any dvOk S n0 at0 y1 which w hS k1
end Go.Proofs.YtdllmodgefolbaaDoor
