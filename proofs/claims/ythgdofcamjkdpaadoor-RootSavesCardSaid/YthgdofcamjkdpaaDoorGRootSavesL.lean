/- The list that RootSaves takes for each Epoch: its function of its own. -/
import Derived.Test.YthgdofcamjkdpaaDoorGRootSavesP
namespace Go.Proofs.YthgdofcamjkdpaaDoor
open Go.RowKit

def listOf (l : List Int) (i : Nat) : List Int := match l[i]? with
  | some x => [x % 5000, (i : Int)]
  | none => [(i : Int), 7, 8]
theorem listOf_len (l : List Int) (i : Nat) : (listOf l i).length ≤ 3 := by unfold listOf; split <;> simp
theorem listOf_in (l : List Int) (i : Nat) (hi : i ≤ 1000) : ∀ x, x ∈ listOf l i → 0 ≤ x ∧ x ≤ 6000 := by
  intro x hx
  unfold listOf at hx
  split at hx
  · simp only [List.mem_cons, List.not_mem_nil, or_false] at hx
    rcases hx with rfl | rfl
    · rename_i y _
      have h1 : 0 ≤ y % 5000 := Int.emod_nonneg _ (by omega)
      have h2 : y % 5000 < 5000 := Int.emod_lt_of_pos _ (by omega)
      omega
    · omega
  · simp only [List.mem_cons, List.not_mem_nil, or_false] at hx
    omega
set_option maxRecDepth 100000 in
set_option maxHeartbeats 2000000 in
theorem list_any (l : List Int) (A : Option Addr) (n c g i : Nat) (w : World) (hg : w.cell? ⟨g, 0, none⟩ = some (.slice A n c)) (hl : Sn w w.heap.size A n c l) :
    Calls Tryd.prog 14 #[.int .i64 (i : Int), .pointer (some ⟨g, 0, none⟩)] w fun e w' => ∃ (a : Addr) (m c' : Nat), e = .returned (.slice (some a) m c') ∧ Sn w' w'.heap.size (some a) m c' (listOf l i) ∧ Below w.heap.size w w' := by
  have HL := hid hl
  have hlen := hid hl.len
  by_cases hlt : i < n
  · obtain ⟨ad, x, rfl, _, hx, hc⟩ := hl.get hlt
    have HX := hid hx
    obtain ⟨y, hy⟩ : ∃ y, x % 5000 = y := ⟨_, rfl⟩
    have hL : listOf l i = [y, (i : Int)] := by unfold listOf; rw [hx, ← hy]
    rw [hL]
    have HY := hid hy
    clear hl hx hL hy
    go_enter Tryd.func14, Tryd.ntmps14
    go_wp2_with fail
    refine (number_any x 5000 _ (by omega) (by omega)).mono ?_
    rw [HY.out]
    rintro e w2 ⟨rfl, rfl⟩
    go_wp2
    go_ret
    exact ⟨_, _, _, rfl, Sn.lits w [y, (i : Int)] (by simp), (Below.refl _ _).alloc (Nat.le_refl _) _⟩
  · have hL : listOf l i = [(i : Int), 7, 8] := by unfold listOf; rw [List.getElem?_eq_none (by rw [hlen.out]; omega)]
    rw [hL]
    clear hl hL
    go_enter Tryd.func14, Tryd.ntmps14
    go_wp2
    go_ret
    exact ⟨_, _, _, rfl, Sn.lits w [(i : Int), 7, 8] (by simp), (Below.refl _ _).alloc (Nat.le_refl _) _⟩
end Go.Proofs.YthgdofcamjkdpaaDoor
