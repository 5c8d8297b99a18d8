/- The laws of package dev whose walks stand over any device that keeps the calls, at package dev's own. -/
import Derived.Test.YtjhdddccdffndaaDoorGDvD
import Derived.Test.YtjhdddccdffndaaDoorGDevArmsW
import Derived.Test.YtjhdddccdffndaaDoorGDevFaultsW
import Derived.Test.YtjhdddccdffndaaDoorGDevKeepsW
import Derived.Test.YtjhdddccdffndaaDoorGDevTwinsW
import Derived.Test.YtjhdddccdffndaaDoorGAll
import Derived.Test.YtjhdddccdffndaaDoorGFive
namespace Go.Proofs.YtjhdddccdffndaaDoor
open Go.ChangeShapes Go.WideShapes Go.ChangeAt Go.RowKit

theorem devArms_all (n f : Int) (w : World) (_ : (Lit.int .i64 n).wf = true) (_ : (Lit.int .i64 f).wf = true) (hL : laidMetH Tryd.prog laid24 w) :
    Calls Tryd.prog 6 #[.int .i64 n, .int .i64 f] w (Yes w) := by
  obtain ⟨S, hS⟩ := sent_of_laid hL
  exact devArms_any dvOk S n f w hS
theorem u32_nat {a : Int} (h : (Lit.int .u32 a).wf = true) : ∃ b : Nat, a = (b : Int) ∧ b < 4294967296 := by
  have hb := bounds_u32 h
  exact ⟨a.toNat, by omega, by omega⟩
theorem u8_nat {a : Int} (h : (Lit.int .u8 a).wf = true) : ∃ b : Nat, a = (b : Int) ∧ b < 256 := by
  have hb := bounds_u8 h
  exact ⟨a.toNat, by omega, by omega⟩
theorem devFaults_all (at' again bits more : Int) (fail : Bool) (b : Int) (w : World) (_ : (Lit.int .i64 at').wf = true) (_ : (Lit.int .i64 again).wf = true) (hb : (Lit.int .u32 bits).wf = true) (hm : (Lit.int .u32 more).wf = true) (h8 : (Lit.int .u8 b).wf = true) (hL : laidMetH Tryd.prog laid5 w) :
    Calls Tryd.prog 4 #[.int .i64 at', .int .i64 again, .int .u32 bits, .int .u32 more, .bool fail, .int .u8 b] w (Yes w) := by
  obtain ⟨S, hS⟩ := sent5_of_laid hL
  obtain ⟨x, rfl, hx⟩ := u32_nat hb
  obtain ⟨y, rfl, hy⟩ := u32_nat hm
  obtain ⟨z, rfl, hz⟩ := u8_nat h8
  exact devFaults_any dvOk S at' again x y z fail w hS hx hy hz
theorem devKeeps_all (a b : Int) (A : Option Addr) (len cap : Nat) (zs : List Int) (w : World) (ha : (Lit.int .u8 a).wf = true) (hb : (Lit.int .u8 b).wf = true) (hr : IsRow .i64 w A len cap zs) (hL : laidMetH Tryd.prog laid5 w) :
    Calls Tryd.prog 5 #[.int .u8 a, .int .u8 b, .slice A len cap] w (Yes w) := by
  obtain ⟨S, hS⟩ := sent5_of_laid hL
  obtain ⟨x, rfl, hx⟩ := u8_nat ha
  obtain ⟨y, rfl, hy⟩ := u8_nat hb
  exact devKeeps_any dvOk S x y A len cap _ w hS hx hy (sn_of_row hr).1
theorem devTwins_all (A : Option Addr) (len cap : Nat) (zs : List Int) (B : Option Addr) (len' cap' : Nat) (zs' : List Int) (at' : Int) (w : World) (hr : IsRow .i64 w A len cap zs) (hr' : IsRow .i64 w B len' cap' zs') (_ : (Lit.int .i64 at').wf = true) (hL : laidMetH Tryd.prog laid5 w) :
    Calls Tryd.prog 7 #[.slice A len cap, .slice B len' cap', .int .i64 at'] w (Yes w) := by
  obtain ⟨S, hS⟩ := sent5_of_laid hL
  exact devTwins_any dvOk S A B len cap len' cap' _ _ at' w hS (sn_of_row hr).1 (sn_of_row hr').1
end Go.Proofs.YtjhdddccdffndaaDoor
