/- The laws of package pair, at package pair's own pairs over package dev's own device (PairHeals, PairLost). -/
import Derived.Test.YtomhmodgfldlpaaDoorGDvD
import Derived.Test.YtomhmodgfldlpaaDoorGPairOk
import Derived.Test.YtomhmodgfldlpaaDoorGPairHealsW
import Derived.Test.YtomhmodgfldlpaaDoorGPairLostW
import Derived.Test.YtomhmodgfldlpaaDoorGAll
import Derived.Test.YtomhmodgfldlpaaDoorGFive
namespace Go.Proofs.YtomhmodgfldlpaaDoor
open Go.ChangeShapes Go.WideShapes Go.ChangeAt Go.RowKit

theorem u32_nat {z : Int} (h : (Lit.int .u32 z).wf = true) : ∃ y : Nat, z = (y : Int) ∧ y < 4294967296 := by
  have hb := bounds_u32 h
  exact ⟨z.toNat, by omega, by omega⟩
theorem sl_max {w : World} {B : Nat} {A : Option Addr} {n c : Nat} {l : List Int} (h : Sl w B A n c l) : n ≤ 9223372036854775807 := by have := h.cap; have := h.max; unfold maxLen at this; omega
theorem pairHeals_all (A : Option Addr) (len cap : Nat) (zs : List Int) (n at' again z1 z2 : Int) (fail : Bool) (w : World) (hr : IsRow .u8 w A len cap zs) (_ : (Lit.int .i64 n).wf = true) (_ : (Lit.int .i64 at').wf = true) (_ : (Lit.int .i64 again).wf = true) (h1 : (Lit.int .u32 z1).wf = true) (h2 : (Lit.int .u32 z2).wf = true) (hL : laidMetH Tryd.prog laid5 w) :
    Calls Tryd.prog 4 #[.slice A len cap, .int .i64 n, .int .i64 at', .int .i64 again, .int .u32 z1, .int .u32 z2, .bool fail] w (Yes w) := by
  obtain ⟨S, hS⟩ := sent5_of_laid hL
  have hl := sl_of_row hr
  have hy := byt_of_row hr
  obtain ⟨y1, rfl, k1⟩ := u32_nat h1
  obtain ⟨y2, rfl, k2⟩ := u32_nat h2
  by_cases h : 256 < len
  · exact pairHeals_long dvOk (prOk dvOk) S A len cap n at' again y1 y2 fail w hS h (sl_max hl)
  · exact pairHeals_any dvOk (prOk dvOk) S A len cap _ n at' again y1 y2 fail w hS (by omega) hl hy k1 k2
theorem pairLost_all (A : Option Addr) (len cap : Nat) (zs : List Int) (n y what : Int) (w : World) (hr : IsRow .u8 w A len cap zs) (_ : (Lit.int .i64 n).wf = true) (h1 : (Lit.int .u32 y).wf = true) (_ : (Lit.int .i64 what).wf = true) (hL : laidMetH Tryd.prog laid24 w) :
    Calls Tryd.prog 5 #[.slice A len cap, .int .i64 n, .int .u32 y, .int .i64 what] w (Yes w) := by
  obtain ⟨S, hS⟩ := sent_of_laid hL
  have hl := sl_of_row hr
  have hy := byt_of_row hr
  obtain ⟨y1, rfl, k1⟩ := u32_nat h1
  by_cases h : 256 < len
  · exact pairLost_long dvOk (prOk dvOk) S A len cap n y1 what w hS.five h (sl_max hl)
  · exact pairLost_any dvOk (prOk dvOk) S A len cap _ n y1 what w hS (by omega) hl hy k1
end Go.Proofs.YtomhmodgfldlpaaDoor
