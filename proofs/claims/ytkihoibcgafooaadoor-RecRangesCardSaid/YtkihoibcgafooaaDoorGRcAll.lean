/- The laws of package rec, over what their rows lay. -/
import Derived.Test.YtkihoibcgafooaaDoorGFou
import Derived.Test.YtkihoibcgafooaaDoorGRcL
namespace Go.Proofs.YtkihoibcgafooaaDoor
open Go.ChangeShapes Go.WideShapes Go.ChangeAt Go.RowKit

theorem recSays_all (k n i : Int) (s : ByteArray) (a : Option Addr) (len cap : Nat) (zs : List Int) (W : World) (h : IsRow .u8 W a len cap zs) (hL : laidMetH Tryd.prog laid24 W) :
    Calls Tryd.prog 3 #[pv k n i s, .slice a len cap] W (Yes W) := by
  obtain ⟨S, hS⟩ := sent_of_laid hL
  exact recSays_any S k n i s a len cap _ W hS (sl_of_row h) (byt_of_row h)
theorem recOrders_all (k n i : Int) (s : ByteArray) (k2 n2 i2 : Int) (s2 : ByteArray) (W : World) (hL : laidMetH Tryd.prog laid4 W) :
    Calls Tryd.prog 4 #[pv k n i s, pv k2 n2 i2 s2] W (Yes W) := by
  obtain ⟨S, hS⟩ := sent4_of_laid hL
  exact recOrders_any S k n i s k2 n2 i2 s2 W hS
theorem recRanges_all (k n i : Int) (s : ByteArray) (W : World) (_ : (Lit.int .i64 k).wf = true) (_ : (Lit.int .i64 n).wf = true) (_ : (Lit.int .i64 i).wf = true) (_ : s.size ≤ maxLen) (hL : laidMetH Tryd.prog laid24 W) :
    Calls Tryd.prog 5 #[.int .i64 k, .int .i64 n, .int .i64 i, .string s] W (Yes W) := by
  obtain ⟨S, hS⟩ := sent_of_laid hL
  exact recRanges_any S k n i s W hS
end Go.Proofs.YtkihoibcgafooaaDoor
