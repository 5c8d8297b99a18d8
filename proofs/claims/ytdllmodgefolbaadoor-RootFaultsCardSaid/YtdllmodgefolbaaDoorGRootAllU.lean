/- The laws of package root that make a root of a list, at package dev's own device (RootTells, RootGreater, RootHalf). -/
import Derived.Test.YtdllmodgefolbaaDoorGDvD
import Derived.Test.YtdllmodgefolbaaDoorGSix
import Derived.Test.YtdllmodgefolbaaDoorGBulk
import Derived.Test.YtdllmodgefolbaaDoorGRootGreaterW
import Derived.Test.YtdllmodgefolbaaDoorGRootTellsW
import Derived.Test.YtdllmodgefolbaaDoorGRootHalfW
namespace Go.Proofs.YtdllmodgefolbaaDoor
open Go.ChangeShapes Go.WideShapes Go.ChangeAt Go.RowKit

theorem u32_nat6 {z : Int} (h : (Lit.int .u32 z).wf = true) : ∃ y : Nat, z = (y : Int) ∧ y < 4294967296 := by
  have hb := bounds_u32 h
  exact ⟨z.toNat, by omega, by omega⟩
theorem rootTells_all (a : Int) (A : Option Addr) (la ca : Nat) (zs : List Int) (at' z1 : Int) (w : World) (ha : (Lit.int .i64 a).wf = true) (hr : IsRow .i64 w A la ca zs) (hlen : la ≤ 2000000) (_ : (Lit.int .i64 at').wf = true) (h1 : (Lit.int .u32 z1).wf = true) (hL : laidMetH Tryd.prog laid6 w) :
    Calls Tryd.prog 4 #[.int .i64 a, .slice A la ca, .int .i64 at', .int .u32 z1] w (Yes w) := by
  obtain ⟨S, hS⟩ := sent6_of_laid hL
  have hl := (sn_of_row hr).1
  have hb := bounds_i64 ha
  obtain ⟨y1, rfl, k1⟩ := u32_nat6 h1
  exact rootTells_any dvOk S a A la ca _ at' y1 w hS hl hlen hb.1 hb.2 k1
theorem rootGreater_all (a b : Int) (A : Option Addr) (la ca : Nat) (zs : List Int) (B : Option Addr) (lb cb : Nat) (ys : List Int) (w : World) (ha : (Lit.int .i64 a).wf = true) (hb : (Lit.int .i64 b).wf = true) (hr : IsRow .i64 w A la ca zs) (hla : la ≤ 2000000) (hs : IsRow .i64 w B lb cb ys) (hlb : lb ≤ 2000000) (hL : laidMetH Tryd.prog laid6 w) :
    Calls Tryd.prog 7 #[.int .i64 a, .int .i64 b, .slice A la ca, .slice B lb cb] w (Yes w) := by
  obtain ⟨S, hS⟩ := sent6_of_laid hL
  have ba := bounds_i64 ha
  have bb := bounds_i64 hb
  exact rootGreater_any dvOk S a b A B la ca lb cb _ _ w hS (sn_of_row hr).1 (sn_of_row hs).1 hla hlb ba.1 ba.2 bb.1 bb.2
theorem rootHalf_all (n0 : Int) (second : Bool) (A : Option Addr) (la ca : Nat) (zs : List Int) (w : World) (_ : (Lit.int .i64 n0).wf = true) (hr : IsRow .i64 w A la ca zs) (hla : la ≤ 2000000) (hL : laidMetH Tryd.prog laid6 w) :
    Calls Tryd.prog 8 #[.int .i64 n0, .bool second, .slice A la ca] w (Yes w) := by
  obtain ⟨S, hS⟩ := sent6_of_laid hL
  exact rootHalf_any dvOk S n0 second A la ca _ w hS (sn_of_row hr).1 hla
end Go.Proofs.YtdllmodgefolbaaDoor
