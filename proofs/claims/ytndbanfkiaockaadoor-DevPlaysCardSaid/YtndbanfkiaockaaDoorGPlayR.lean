/- The document's device: what can be read in its fields. -/
import Derived.Test.YtndbanfkiaockaaDoorGPlay
namespace Go.Proofs.YtndbanfkiaockaaDoor
open Go.RowKit

theorem RefIn.slice_fault {w : World} {b : RB} {fl nx : List Value} {s : DSt} {F : Nat → Prop} (h : RefIn w b fl nx s F) : w.cell? ⟨b.p, 3, none⟩ = some (.slice (some ⟨b.gt, 0, none⟩) s.blks.length s.blks.length) ∧ Sv w w.heap.size (some ⟨b.gt, 0, none⟩) s.blks.length s.blks.length ((s.blks.map BSt.fault).map Value.bool) := by
  refine ⟨by rw [h.mem.box.cell 3]; simp [RB.cells], ?_⟩
  obtain ⟨A, c, hv, hs, _⟩ := h.mem.hft.form
  injection hv with h1 h2 h3
  subst h1 h3
  rw [← h2] at hs
  exact hs
theorem ref_fault {w : World} {x : Nat} {t : DSt} {G : Nat → Prop} (h : RefDev w x t G) {j : Nat} (hj : j < t.blks.length) :
    ∃ ad : Addr, w.cell? ⟨x, 3, none⟩ = some (.slice (some ad) t.blks.length t.blks.length) ∧ w.cell? (ad.add j) = some (.bool (t.faulted (j : Int))) := by
  obtain ⟨b, fl, nx, rfl, hin⟩ := h
  obtain ⟨c3, hs⟩ := hin.slice_fault
  obtain ⟨y, hy⟩ : ∃ y, t.blks[j]? = some y := ⟨_, List.getElem?_eq_getElem hj⟩
  obtain ⟨ad, ha, _, hc⟩ := hs.get (k := j) (u := .bool y.fault) (by rw [List.getElem?_map, List.getElem?_map, hy]; rfl)
  refine ⟨ad, by rw [c3, ha], ?_⟩
  rw [hc]
  unfold DSt.faulted DSt.inB
  rw [Int.toNat_natCast, hy]
  simp [hj]
theorem ref_cells {w : World} {x : Nat} {t : DSt} {G : Nat → Prop} (h : RefDev w x t G) : w.cell? ⟨x, 8, none⟩ = some (.bool t.down) ∧ w.cell? ⟨x, 6, none⟩ = some (.int .i64 (t.calls : Int)) := by
  obtain ⟨b, rfl, hb⟩ := h.box
  exact ⟨by rw [hb.cell 8]; rfl, by rw [hb.cell 6]; rfl⟩
theorem not_faulted {t : DSt} {i : Int} (h : ¬ (0 ≤ i ∧ i < t.blks.length)) : t.faulted i = false := by
  unfold DSt.faulted DSt.inB
  rcases Int.lt_or_le i 0 with h0 | h0
  · have : ¬ 0 ≤ i := by omega
    simp [this]
  · have : ¬ i < t.blks.length := fun h' => h ⟨h0, h'⟩
    simp [this]
end Go.Proofs.YtndbanfkiaockaaDoor
