/- Put together out of 1 texts. PageFaults at package pair's own pairs over package dev's own device. -/
import Derived.Test.YtaonhbmimaiiiaaGreatDoorGKal
import Derived.Test.YtaonhbmimaiiiaaGreatDoorGKam
import Derived.Test.YtaonhbmimaiiiaaGreatDoorGFao
import Derived.Test.YtaonhbmimaiiiaaGreatDoorGKap
namespace Go.Proofs.YtaonhbmimaiiiaaGreatDoor
open Go.ChangeShapes Go.WideShapes Go.ChangeAt Go.RowKit

theorem pageFaults_all (A : Option Addr) (len cap : Nat) (zs : List Int) (B : Option Addr) (len' cap' : Nat) (ys : List Int) (z : Int) (w : World) (hr : IsRow .i64 w A len cap zs) (hr' : IsRow .i64 w B len' cap' ys) (hz : (Lit.int .u32 z).wf = true) (hL : laidMetH Tryz.prog laid24 w) :
    Calls Tryz.prog 5 #[.slice A len cap, .slice B len' cap', .int .u32 z] w (Yes w) := by
  obtain ⟨S, hS⟩ := sent_of_laid hL
  have hb := bounds_u32 hz
  obtain ⟨y, rfl⟩ : ∃ y : Nat, z = (y : Int) := ⟨z.toNat, by omega⟩
  exact pageFaults_any dvOk (prOk dvOk) S A len cap _ B len' cap' _ y w hS (sn_of_row hr).1 (sn_of_row hr').1 (by omega)
end Go.Proofs.YtaonhbmimaiiiaaGreatDoor
