/- WireForms, WireRanges, WireRows and WireLengths answer true for whatever their rows say of the arguments. Conditions: those of the rows: the errors read as they are listed. -/
import Derived.Test.YtfggfdmjmebgfaaDoorAll
import Derived.Test.YtfggfdmjmebgfaaDoorX
namespace Go.Proofs.YtfggfdmjmebgfaaDoor
open Go.ChangeShapes Go.WideShapes Go.ChangeAt Go.RowKit

theorem byt_of_row {w : World} {a : Option Addr} {len cap : Nat} {zs : List Int} (h : IsRow .u8 w a len cap zs) : Byt (zs.take len) := by
  rcases h with ⟨rfl, rfl, rfl, rfl⟩ | ⟨x, rfl, hl, hm, hz, hc, hw⟩
  · exact Byt.nil
  · intro y hy
    exact bounds_u8 (hw y (List.mem_of_mem_take hy))
theorem wireForms_all (a b : Int) (w : World) (ha : (Lit.int .i64 a).wf = true) (hb : (Lit.int .i64 b).wf = true) (hL : laidMetH Tryd.prog laid24 w) : Calls Tryd.prog 4 #[.int .i64 a, .int .i64 b] w (Yes w) := by
  obtain ⟨S, hS⟩ := sent_of_laid hL
  have h1 := bounds_i64 ha
  have h2 := bounds_i64 hb
  exact wireForms_any a b S w hS (by omega) (by omega) (by omega) (by omega)
theorem wireLengths_all (a b : Int) (w : World) (_ : (Lit.int .i64 a).wf = true) (_ : (Lit.int .i64 b).wf = true) (hL : laidMetH Tryd.prog laid24 w) : Calls Tryd.prog 7 #[.int .i64 a, .int .i64 b] w (Yes w) := by
  obtain ⟨S, hS⟩ := sent_of_laid hL
  exact wireLengths_any a b S w hS
theorem wireRanges_all (x low high : Int) (a : Option Addr) (len cap : Nat) (zs : List Int) (w : World) (hx : (Lit.int .i64 x).wf = true) (_ : (Lit.int .i64 low).wf = true) (_ : (Lit.int .i64 high).wf = true) (hr : IsRow .u8 w a len cap zs) (hL : laidMetH Tryd.prog laid24 w) :
    Calls Tryd.prog 5 #[.int .i64 x, .int .i64 low, .int .i64 high, .slice a len cap] w (Yes w) := by
  obtain ⟨S, hS⟩ := sent_of_laid hL
  have hs := sl_of_row hr
  have h1 := bounds_i64 hx
  have hlen : len ≤ 9223372036854775807 := by have := hs.cap; have := hs.max; unfold maxLen at this; omega
  rcases Nat.lt_or_ge 50 len with h | h
  · exact wireRanges_far x low high a len cap w hlen h
  · exact wireRanges_near x low high a len cap _ S w hs (byt_of_row hr) hS h (by omega) (by omega)
theorem wireRows_all (a : Option Addr) (len cap : Nat) (zs : List Int) (s : ByteArray) (x : Int) (w : World) (hr : IsRow .i64 w a len cap zs) (hs : s.size ≤ maxLen) (_ : (Lit.int .i64 x).wf = true) (hL : laidMetH Tryd.prog laid24 w) :
    Calls Tryd.prog 6 #[.slice a len cap, .string s, .int .i64 x] w (Yes w) := by
  obtain ⟨S, hS⟩ := sent_of_laid hL
  obtain ⟨hn, hw⟩ := sn_of_row hr
  have hlen : len ≤ 9223372036854775807 := by have := hn.cap; have := hn.max; unfold maxLen at this; omega
  unfold maxLen at hs
  rcases Nat.lt_or_ge 20 len with h | h
  · exact wireRows_far a len cap x s w hlen (by omega) (.inl h)
  · rcases Nat.lt_or_ge 60 s.size with h' | h'
    · exact wireRows_far a len cap x s w hlen (by omega) (.inr h')
    · exact wireRows_near a len cap x s _ S w hn hw hS h h'
end Go.Proofs.YtfggfdmjmebgfaaDoor
