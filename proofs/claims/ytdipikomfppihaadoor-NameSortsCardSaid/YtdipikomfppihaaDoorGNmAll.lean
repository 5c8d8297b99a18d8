/- The laws of package name, over what their rows lay. -/
import Derived.Test.YtdipikomfppihaaDoorGAll
import Derived.Test.YtdipikomfppihaaDoorGNmH
import Derived.Test.YtdipikomfppihaaDoorGNmI
import Derived.Test.YtdipikomfppihaaDoorGNmJ
import Derived.SliceStrings
namespace Go.Proofs.YtdipikomfppihaaDoor
open Go.ChangeShapes Go.WideShapes Go.ChangeAt Go.RowKit

/-- a slice of strings that came in -/
def Txs (w : World) (a : Option Addr) (len cap : Nat) (ss : List ByteArray) : Prop :=
  (a = none ∧ len = 0 ∧ cap = 0 ∧ ss = []) ∨ ∃ ad : Addr, a = some ad ∧ len ≤ cap ∧ cap ≤ maxLen ∧ ss.length = (if true then cap else len) ∧ (∀ i, i < ss.length → w.cell? (ad.add i) = some (.string (ss.getD i ByteArray.empty)))
theorem st_of_txs {w : World} {a : Option Addr} {len cap : Nat} {ss : List ByteArray} (h : Txs w a len cap ss) : St w w.heap.size a len cap ((ss.take len).map (·.data.toList)) := by
  rcases h with ⟨rfl, rfl, rfl, rfl⟩ | ⟨ad, rfl, h1, h2, h3, h4⟩
  · exact Sv.empty _ _
  · rw [if_pos rfl] at h3
    refine ⟨by rw [Tx_len, List.length_map, List.length_take, h3]; omega, h1, h2, fun h => (by cases h), fun ad' ha hn => ?_⟩
    cases ha
    refine ⟨World.block_lt_of_cell? w _ (h4 0 (by omega)) |> fun h => by rwa [add_block] at h, fun j u hu => ?_⟩
    obtain ⟨x, hx, rfl⟩ := Tx_get' hu
    rw [List.getElem?_map, Option.map_eq_some_iff] at hx
    obtain ⟨s, hs, rfl⟩ := hx
    have hj := (List.getElem?_eq_some_iff.1 hs).1
    rw [List.length_take] at hj
    rw [List.getElem?_take, if_pos (by omega)] at hs
    rw [h4 j (by omega), List.getD_eq_getElem?_getD, hs]
    simp [encStr]
theorem nameSays_all (s : ByteArray) (a : Option Addr) (len cap : Nat) (zs : List ByteArray) (W : World) (hs : s.size ≤ maxLen) (h : Txs W a len cap zs) (hL : laidMetH Tryd.prog laid24 W) :
    Calls Tryd.prog 3 #[.string s, .slice a len cap] W fun e w' => e = .returned (.bool true) ∧ Below W.heap.size W w' := by
  obtain ⟨S, hS⟩ := sent_of_laid hL
  have := nameSays_any S s.data.toList a len cap _ W hS (st_of_txs h) (by rw [← Lib.size_eq]; exact hs)
  simpa [encStr] using this
theorem nameBounds_all (n at' c : Int) (W : World) (_ : (Lit.int .i64 n).wf = true) (_ : (Lit.int .i64 at').wf = true) (hc : (Lit.int .u8 c).wf = true) (hL : laidMetH Tryd.prog laid24 W) :
    Calls Tryd.prog 4 #[.int .i64 n, .int .i64 at', .int .u8 c] W fun e w' => e = .returned (.bool true) ∧ Below W.heap.size W w' := by
  obtain ⟨S, hS⟩ := sent_of_laid hL
  exact nameBounds_any S n at' c W hS (by simp [Lit.wf, IntKind.min, IntKind.max, IntKind.bits, IntKind.signed] at hc; omega)
theorem nameSorts_all (a : Option Addr) (len cap : Nat) (zs : List ByteArray) (at' : Int) (W : World) (h : Txs W a len cap zs) (_ : (Lit.int .i64 at').wf = true) (hL : laidMetH Tryd.prog laid24 W) :
    Calls Tryd.prog 5 #[.slice a len cap, .int .i64 at'] W fun e w' => e = .returned (.bool true) ∧ Below W.heap.size W w' := by
  obtain ⟨S, hS⟩ := sent_of_laid hL
  exact nameSorts_any S at' a len cap _ W hS (st_of_txs h)
end Go.Proofs.YtdipikomfppihaaDoor
