/- The laws of package pair, at package pair's own pairs over package dev's own device (PairApart, PairFalls). -/
import Derived.Test.YtomhmodgfldlpaaDoorGDvD
import Derived.Test.YtomhmodgfldlpaaDoorGPairOk
import Derived.Test.YtomhmodgfldlpaaDoorGPairFallsW
import Derived.Test.YtomhmodgfldlpaaDoorGFive
namespace Go.Proofs.YtomhmodgfldlpaaDoor
open Go.ChangeShapes Go.WideShapes Go.ChangeAt Go.RowKit

theorem sl_max' {w : World} {B : Nat} {A : Option Addr} {n c : Nat} {l : List Int} (h : Sl w B A n c l) : n ≤ 9223372036854775807 := by have := h.cap; have := h.max; unfold maxLen at this; omega
theorem pairApart_all (n m : Int) (A : Option Addr) (len cap : Nat) (zs : List Int) (B : Option Addr) (len' cap' : Nat) (ys : List Int) (w : World) (_ : (Lit.int .i64 n).wf = true) (_ : (Lit.int .i64 m).wf = true) (hr : IsRow .u8 w A len cap zs) (hr' : IsRow .u8 w B len' cap' ys) (hL : laidMetH Tryd.prog laid5 w) :
    Calls Tryd.prog 6 #[.int .i64 n, .int .i64 m, .slice A len cap, .slice B len' cap'] w (Yes w) := by
  obtain ⟨S, hS⟩ := sent5_of_laid hL
  have hl := sl_of_row hr
  have hl' := sl_of_row hr'
  by_cases h : 256 < len ∨ 256 < len'
  · exact pairApart_long dvOk (prOk dvOk) S A B len cap len' cap' n m w hS h (sl_max' hl) (sl_max' hl')
  · exact pairApart_any dvOk (prOk dvOk) S A B len cap len' cap' _ _ n m w hS (by omega) (by omega) hl hl' (byt_of_row hr) (byt_of_row hr')
theorem pairFalls_all (n : Int) (A : Option Addr) (len cap : Nat) (zs : List Int) (B : Option Addr) (len' cap' : Nat) (ys : List Int) (one two : Bool) (w : World) (_ : (Lit.int .i64 n).wf = true) (hr : IsRow .u8 w A len cap zs) (hr' : IsRow .u8 w B len' cap' ys) (hL : laidMetH Tryd.prog laid5 w) :
    Calls Tryd.prog 7 #[.int .i64 n, .slice A len cap, .slice B len' cap', .bool one, .bool two] w (Yes w) := by
  obtain ⟨S, hS⟩ := sent5_of_laid hL
  have hl := sl_of_row hr
  have hl' := sl_of_row hr'
  by_cases h : 256 < len ∨ 256 < len'
  · exact pairFalls_long dvOk (prOk dvOk) S A B len cap len' cap' n one two w hS h (sl_max' hl) (sl_max' hl')
  · exact pairFalls_any dvOk (prOk dvOk) S A B len cap len' cap' _ _ n one two w hS (by omega) (by omega) hl hl' (byt_of_row hr) (byt_of_row hr')
end Go.Proofs.YtomhmodgfldlpaaDoor
