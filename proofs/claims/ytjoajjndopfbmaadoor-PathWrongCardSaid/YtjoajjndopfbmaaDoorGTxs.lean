/- A slice of strings that came in. -/
import Derived.Test.YtjoajjndopfbmaaDoorGNmE
import Derived.SliceStrings
import Derived.Test.YtjoajjndopfbmaaDoorGAll
namespace Go.Proofs.YtjoajjndopfbmaaDoor
open Go.ChangeShapes Go.WideShapes Go.ChangeAt Go.RowKit

/-- a slice of strings that came in -/
def Txs (w : World) (a : Option Addr) (len cap : Nat) (ss : List ByteArray) : Prop :=
  (a = none ∧ len = 0 ∧ cap = 0 ∧ ss = []) ∨ ∃ ad : Addr, a = some ad ∧ len ≤ cap ∧ cap ≤ maxLen ∧ ss.length = (if true then cap else len) ∧ (∀ i, i < ss.length → w.cell? (ad.add i) = some (.string (ss.getD i ByteArray.empty)))
theorem st_of_txs {w : World} {a : Option Addr} {len cap : Nat} {ss : List ByteArray} (h : Txs w a len cap ss) : St w w.heap.size a len cap ((ss.take len).map (·.data.toList)) := by
  rcases h with ⟨rfl, rfl, rfl, rfl⟩ | ⟨ad, rfl, h1, h2, h3, h4⟩
  · exact Sv.empty _ _
  · rw [if_pos rfl] at h3
    refine ⟨by rw [Tx_len, List.length_map, List.length_take, h3]; omega, h1, h2, fun h => (by cases h), fun ad' ha hn => ?_⟩
    cases ha
    refine ⟨World.block_lt_of_cell? w _ (h4 0 (by omega)) |> fun h => by rwa [add_block] at h, fun j u hu => ?_⟩
    obtain ⟨x, hx, rfl⟩ := Tx_get' hu
    rw [List.getElem?_map, Option.map_eq_some_iff] at hx
    obtain ⟨s, hs, rfl⟩ := hx
    have hj := (List.getElem?_eq_some_iff.1 hs).1
    rw [List.length_take] at hj
    rw [List.getElem?_take, if_pos (by omega)] at hs
    rw [h4 j (by omega), List.getD_eq_getElem?_getD, hs]
    simp [encStr]
end Go.Proofs.YtjoajjndopfbmaaDoor
