/- Package geo's Paired, the document's list search and its geometry; the chapter's example. -/
import Derived.Test.YtfdabbpfphnbhaaDoorGGeo
import Derived.Test.YtfdabbpfphnbhaaDoorGRow
import Derived.Maps.OwnSet
namespace Go.Proofs.YtfdabbpfphnbhaaDoor
open Go.RowKit Go.Maps

def amB (l : List Int) (m : Int) : Bool := decide (m ∈ l)
def pairB (H : Int) (l : List Int) : Bool := l.any fun x => mirB H x && amB l (prt H x)
theorem mir_iff {H x : Int} : mirB H x = true ↔ 0 ≤ x ∧ x < 2 * H := by unfold mirB; simp
theorem prt_mir {H x : Int} (h : mirB H x = true) : mirB H (prt H x) = true ∧ prt H (prt H x) = x ∧ prt H x ≠ x ∧ 0 ≤ prt H x ∧ prt H x < 2 * H := by
  obtain ⟨h0, h1⟩ := mir_iff.1 h
  by_cases h2 : x < H
  · have e : prt H x = x + H := by unfold prt; rw [if_pos ⟨h0, h2⟩]
    rw [e]
    exact ⟨mir_iff.2 (by omega), by unfold prt; rw [if_neg (by omega), if_pos (by omega)]; omega, by omega, by omega, by omega⟩
  · have e : prt H x = x - H := by unfold prt; rw [if_neg (by omega), if_pos (by omega)]
    rw [e]
    exact ⟨mir_iff.2 (by omega), by unfold prt; rw [if_pos (by omega)]; omega, by omega, by omega, by omega⟩
def NoPair (H : Int) (l : List Int) : Prop := ∀ x, x ∈ l → mirB H x = true → prt H x ∉ l
theorem NoPair.nil (H : Int) : NoPair H [] := fun x h => by cases h
theorem NoPair.more {H x : Int} {l : List Int} (h : NoPair H l) (hx : mirB H x = true → prt H x ∉ l) : NoPair H (l ++ [x]) := by
  intro y hy hm hp
  rcases List.mem_append.1 hy with hy | hy
  · rcases List.mem_append.1 hp with hp | hp
    · exact h y hy hm hp
    · simp at hp
      have := prt_mir hm
      have hmx : mirB H x = true := hp ▸ this.1
      exact hx hmx (by rw [← hp, this.2.1]; exact hy)
  · simp at hy
    subst hy
    rcases List.mem_append.1 hp with hp | hp
    · exact hx hm hp
    · simp at hp
      exact (prt_mir hm).2.2.1 hp
theorem NoPair.no {H : Int} {l : List Int} (h : NoPair H l) : pairB H l = false := by
  unfold pairB
  rw [List.any_eq_false]
  intro x hx hc
  simp only [Bool.and_eq_true, amB, decide_eq_true_eq] at hc
  exact h x hx hc.1 hc.2
theorem pair_yes {H x : Int} {l : List Int} {k j : Nat} (hx : l[k]? = some x) (hm : mirB H x = true) (hp : prt H x ∈ l.take j) : pairB H l = true := by
  unfold pairB
  rw [List.any_eq_true]
  exact ⟨x, List.mem_of_getElem? hx, by simp only [Bool.and_eq_true, amB, decide_eq_true_eq]; exact ⟨hm, List.mem_of_mem_take hp⟩⟩

/-- the blocks that were met, as a map's datum -/
structure Met (H : Int) (D : DataW Unit) (l : List Int) : Prop where
  isMap : IsMap D
  has : ∀ z : Int, Maps.has D (.int .i64 z) = (amB l z && mirB H z)
theorem Met.nil (H : Int) : Met H (.map []) [] := ⟨⟨_, rfl⟩, fun z => by simp [amB, Maps.has]⟩
theorem Met.more {H x : Int} {D : DataW Unit} {l : List Int} (h : Met H D l) (hm : mirB H x = true) : Met H (D.put (.int .i64 x) (.agg [])) (l ++ [x]) := by
  refine ⟨IsMap.put h.isMap _ _, fun z => ?_⟩
  by_cases e : z = x
  · subst e
    rw [has_put_same h.isMap (show WideAt.IsKeyLit (.int .i64 z) from trivial), hm]
    simp [amB]
  · rw [has_put_other (by intro e'; apply e; simpa using e'), h.has]
    have : amB (l ++ [x]) z = amB l z := by simp [amB, e]
    rw [this]
theorem Met.skip {H x : Int} {D : DataW Unit} {l : List Int} (h : Met H D l) (hm : mirB H x = false) : Met H D (l ++ [x]) := by
  refine ⟨h.isMap, fun z => ?_⟩
  rw [h.has]
  by_cases e : z = x
  · subst e; rw [hm]; simp
  · have : amB (l ++ [x]) z = amB l z := by simp [amB, e]
    rw [this]
theorem am_take {l : List Int} {m : Int} {k : Nat} (hk : l.length ≤ k) (h : m ∉ l.take k) : amB l m = false := by
  rw [List.take_of_length_le hk] at h
  simp [amB, h]
theorem am_at {l : List Int} {m x : Int} {k : Nat} (hx : l[k]? = some x) (h : x = m) : amB l m = true := by
  subst h
  simp [amB, List.mem_of_getElem? hx]

theorem hal_gm {n : Int} (h1 : 300 ≤ n) (h2 : n ≤ 6000) : Gm n (hal n) := by unfold hal; exact ⟨by omega, by omega, h2⟩
theorem gm0 : Gm 0 0 := ⟨by omega, by omega, by omega⟩
/-- a boxed geometry's cells -/
theorem gcells {w : World} {g : Nat} {B H : Int} (h : Blk w g 91 #[.int .i64 B, .int .i64 H]) : w.cell? ⟨g, 0, none⟩ = some (.int .i64 B) ∧ w.cell? ⟨g, 1, none⟩ = some (.int .i64 H) := ⟨h.cell 0, h.cell 1⟩
theorem law4 : Keyed Tryd.prog 3 := int_keyed Tryd.underlying3
theorem key4 {x : Int} (h : -9223372036854775808 ≤ x ∧ x ≤ 9223372036854775807) : keyOf Tryd.prog 3 (.int .i64 x) = some (.int .i64 x) := keyOf_int_mk Tryd.underlying3 (WalkArith.wf_i64 h)
end Go.Proofs.YtfdabbpfphnbhaaDoor
