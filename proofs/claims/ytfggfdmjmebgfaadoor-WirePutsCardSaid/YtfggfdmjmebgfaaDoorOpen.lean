/- Arguments, opened: a slice of integers that came in reads as a list of integers. -/
import Derived.Test.YtfggfdmjmebgfaaDoorLaid
import Derived.WalkKit
namespace Go.Proofs.YtfggfdmjmebgfaaDoor
open Go.ChangeShapes Go.WideShapes Go.ChangeAt Go.RowKit

theorem Tryd.own : ownKnob Tryd.prog.godebug = none := by kernel_rfl
theorem Tryd.laidOut : laidOutB Tryd.prog = true := by kernel_rfl

/-- a slice of integers that came in: nil, or a row of cells: the first 'len' are its elements -/
def IsRow (k : IntKind) (w : World) (a : Option Addr) (len cap : Nat) (zs : List Int) : Prop :=
  (a = none ∧ len = 0 ∧ cap = 0 ∧ zs = []) ∨
  ∃ x, a = some x ∧ len ≤ cap ∧ cap ≤ maxLen ∧ zs.length = cap ∧ (∀ i, i < zs.length → w.cell? (x.add i) = some (.int k (zs.getD i 0))) ∧ ∀ n ∈ zs, (Lit.int k n).wf = true

theorem sl_of_row {w : World} {a : Option Addr} {len cap : Nat} {zs : List Int} (h : IsRow .u8 w a len cap zs) : Sl w w.heap.size a len cap (zs.take len) := by
  rcases h with ⟨rfl, rfl, rfl, rfl⟩ | ⟨x, rfl, hl, hm, hz, hc, _⟩
  · exact Sl.empty _ _
  · refine ⟨by rw [List.length_take]; omega, hl, hm, (fun h => by cases h), fun ad ha hn => ?_⟩
    cases ha
    have h0 := hc 0 (by omega)
    refine ⟨by have := World.block_lt_of_cell? w _ h0; rwa [add_block] at this, fun j y hy => ?_⟩
    have hj : j < (zs.take len).length := (List.getElem?_eq_some_iff.1 hy).1
    rw [List.length_take] at hj
    rw [hc j (by omega)]
    rw [List.getElem?_take, if_pos (by omega)] at hy
    simp [List.getD, hy]
end Go.Proofs.YtfggfdmjmebgfaaDoor
