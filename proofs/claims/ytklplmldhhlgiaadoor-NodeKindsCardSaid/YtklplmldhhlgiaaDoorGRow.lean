/- Arguments, opened: a slice of integers that came in reads as a list. -/
import Derived.Test.YtklplmldhhlgiaaDoorRows
import Derived.Test.YtklplmldhhlgiaaDoorGBase
import Derived.ProofKit
import Derived.LaidMore
import Derived.LaidLaws
import Derived.OpenShut
import Derived.ShutString
import Derived.ChangeOld
import Derived.Stop.Joined
import Derived.MakeChecks
namespace Go.Proofs.YtklplmldhhlgiaaDoor
open Go.ChangeShapes Go.WideShapes Go.ChangeAt Go.RowKit

theorem Tryd.own : ownKnob Tryd.prog.godebug = none := by kernel_rfl
theorem Tryd.laidOut : laidOutB Tryd.prog = true := by kernel_rfl
/-- a slice of integers that came in: nil, or a row of cells: the first 'len' are its elements -/
def IsRow (k : IntKind) (w : World) (a : Option Addr) (len cap : Nat) (zs : List Int) : Prop :=
  (a = none ∧ len = 0 ∧ cap = 0 ∧ zs = []) ∨
  ∃ x, a = some x ∧ len ≤ cap ∧ cap ≤ maxLen ∧ zs.length = cap ∧ (∀ i, i < zs.length → w.cell? (x.add i) = some (.int k (zs.getD i 0))) ∧ ∀ n ∈ zs, (Lit.int k n).wf = true
theorem sl_of_row {w : World} {a : Option Addr} {len cap : Nat} {zs : List Int} (h : IsRow .u8 w a len cap zs) : Sl w w.heap.size a len cap (zs.take len) := by
  rcases h with ⟨rfl, rfl, rfl, rfl⟩ | ⟨x, rfl, hl, hm, hz, hc, _⟩
  · exact Sl.empty _ _
  · refine ⟨by rw [List.length_take]; omega, hl, hm, (fun h => by cases h), fun ad ha hn => ?_⟩
    cases ha
    have h0 := hc 0 (by omega)
    refine ⟨by have := World.block_lt_of_cell? w _ h0; rwa [add_block] at this, fun j y hy => ?_⟩
    have hj : j < (zs.take len).length := (List.getElem?_eq_some_iff.1 hy).1
    rw [List.length_take] at hj
    rw [hc j (by omega)]
    rw [List.getElem?_take, if_pos (by omega)] at hy
    simp [List.getD, hy]
theorem sn_of_row {w : World} {a : Option Addr} {len cap : Nat} {zs : List Int} (h : IsRow .i64 w a len cap zs) : Sn w w.heap.size a len cap (zs.take len) ∧ Wide (zs.take len) := by
  rcases h with ⟨rfl, rfl, rfl, rfl⟩ | ⟨x, rfl, hl, hm, hz, hc, hw⟩
  · exact ⟨⟨rfl, Nat.le_refl _, by unfold maxLen; omega, fun _ => rfl, fun _ h => by cases h⟩, fun _ h => by cases h⟩
  · refine ⟨⟨by rw [List.length_take]; omega, hl, hm, (fun h => by cases h), fun ad ha hn => ?_⟩, fun y hy => ?_⟩
    · cases ha
      have h0 := hc 0 (by omega)
      refine ⟨by have := World.block_lt_of_cell? w _ h0; rwa [add_block] at this, fun j y hy => ?_⟩
      have hj : j < (zs.take len).length := (List.getElem?_eq_some_iff.1 hy).1
      rw [List.length_take] at hj
      rw [hc j (by omega)]
      rw [List.getElem?_take, if_pos (by omega)] at hy
      simp [List.getD, hy]
    · have := bounds_i64 (hw y (List.mem_of_mem_take hy))
      omega

theorem byt_of_row {w : World} {a : Option Addr} {len cap : Nat} {zs : List Int} (h : IsRow .u8 w a len cap zs) : Byt (zs.take len) := by
  rcases h with ⟨rfl, rfl, rfl, rfl⟩ | ⟨x, rfl, hl, hm, hz, hc, hw⟩
  · exact Byt.nil
  · intro y hy
    exact bounds_u8 (hw y (List.mem_of_mem_take hy))
end Go.Proofs.YtklplmldhhlgiaaDoor
