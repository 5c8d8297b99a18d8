/- Something in memory carried along a walk, with what lies beside it: R w F: it is there, in the blocks F. -/
import Derived.Test.YtklplmldhhlgiaaDoorGBase
namespace Go.Proofs.YtklplmldhhlgiaaDoor
open Go.RowKit

/-- something that lies beside, in blocks B, and stays while these do -/
structure Ly where
  C : World → Prop
  B : Nat → Prop
  keeps : ∀ {w w' : World}, C w → (∀ g, B g → g < w.heap.size) → Kept B w w' → C w'
def Ly.P (K : Ly) (w : World) (F : Nat → Prop) : Prop := K.C w ∧ ∀ g, K.B g → g < w.heap.size ∧ ¬ F g
/-- a block of its own -/
def Ly.blk (g : Nat) (t : TypeId) (cs : Array Value) : Ly where
  C w := Blk w g t cs
  B k := k = g
  keeps h _ hk := h.same (hk.1 g rfl)
/-- a row of the call's own -/
def Ly.row (B0 : Nat) (t : TypeId) (z : Nat) (v : Value) (m : Nat) (l : List Value) : Ly where
  C w := w.ownsRow B0 t z v m l
  B g := v.ownBlock = some g
  keeps := by
    intro w w' h hl hk
    rcases h.2 with ⟨rfl, h0⟩ | ⟨g, cap, cur, rfl, hb, hg, hr⟩
    · exact ⟨h.1, .inl ⟨rfl, h0⟩⟩
    · exact ⟨h.1, .inr ⟨g, cap, cur, rfl, hb, (hk.1 g rfl).trans hg, hr⟩⟩
/-- cells that are read: from the address on -/
def Ly.cells (ad : Addr) (xs : List Value) : Ly where
  C w := ∀ j x, xs[j]? = some x → w.cell? (ad.add j) = some x
  B g := g = ad.block
  keeps := by
    intro w w' h _ hk j x hx
    rw [← h j x hx]
    unfold World.cell?
    rw [add_block, hk.1 ad.block rfl]
theorem Ly.kept {K : Ly} {w w' : World} {F F' : Nat → Prop} (h : K.P w F) (ho : Only F w w') (hn : ∀ g, g < w.heap.size → ¬ F g → ¬ F' g) : K.P w' F' := by
  refine ⟨K.keeps h.1 (fun g hg => (h.2 g hg).1) (ho.kept (fun g hg => (h.2 g hg).1) (fun g hg hc => (h.2 g hg).2 hc)), fun g hg => ?_⟩
  obtain ⟨h1, h2⟩ := h.2 g hg
  exact ⟨Nat.lt_of_lt_of_le h1 ho.size, hn g h1 h2⟩
/-- what is carried can be carried -/
structure Stays (R : World → (Nat → Prop) → Prop) : Prop where
  kept : ∀ {w w' : World} {F : Nat → Prop}, R w F → Kept F w w' → R w' F
  lt : ∀ {w : World} {F : Nat → Prop}, R w F → ∀ k, F k → k < w.heap.size
def Cr (R : World → (Nat → Prop) → Prop) (w0 w : World) (ks : List Ly) : Prop :=
  ∃ F, R w F ∧ Below w0.heap.size w0 w ∧ (∀ k, F k → w0.heap.size ≤ k) ∧ ∀ K, K ∈ ks → K.P w F
/-- what a call that turns it leaves -/
def Turned (R' : World → (Nat → Prop) → Prop) (w : World) (F : Nat → Prop) (w' : World) : Prop := ∃ F', R' w' F' ∧ Only F w w' ∧ ∀ k, F' k → F k ∨ w.heap.size ≤ k
section
variable {R R' : World → (Nat → Prop) → Prop} {w0 w w' : World} {ks : List Ly} {F : Nat → Prop}
theorem Cr.below (h : Cr R w0 w ks) : Below w0.heap.size w0 w := by obtain ⟨F, _, h, _⟩ := h; exact h
theorem Cr.less {ls : List Ly} (h : Cr R w0 w ks) (hl : ∀ K, K ∈ ls → K ∈ ks) : Cr R w0 w ls := by
  obtain ⟨F, h1, h2, h3, hk⟩ := h; exact ⟨F, h1, h2, h3, fun K hK => hk K (hl K hK)⟩
theorem Cr.tail {K : Ly} (h : Cr R w0 w (K :: ks)) : Cr R w0 w ks := h.less fun _ hL => List.mem_cons_of_mem _ hL
theorem Cr.get {K : Ly} (h : Cr R w0 w ks) (hK : K ∈ ks) : K.C w := by obtain ⟨F, _, _, _, hk⟩ := h; exact (hk K hK).1
theorem Cr.lies {K : Ly} (h : Cr R w0 w ks) (hK : K ∈ ks) {g : Nat} (hg : K.B g) : g < w.heap.size := by obtain ⟨F, _, _, _, hk⟩ := h; exact ((hk K hK).2 g hg).1
theorem Cr.turn (h : Cr R w0 w ks) (hs : ∀ F, R w F → Turned R' w F w') : Cr R' w0 w' ks := by
  obtain ⟨F, h1, h2, h3, hk⟩ := h
  obtain ⟨F', r, ho, hf⟩ := hs F h1
  refine ⟨F', r, h2.trans (ho.below h2.size h3), fun k hk => ?_, fun K hK => Ly.kept (hk K hK) ho (fun g hlt hn h4 => ?_)⟩
  · rcases hf k hk with h5 | h5
    · exact h3 k h5
    · have := h2.size; omega
  · rcases hf g h4 with h5 | h5
    · exact hn h5
    · omega
theorem Cr.on (S : Stays R) (h : Cr R w0 w ks) (hb : Below w.heap.size w w') : Cr R w0 w' ks :=
  h.turn fun F r => ⟨F, S.kept r (Kept.of_below hb (S.lt r)), Only.of_below hb, fun _ hk => .inl hk⟩
/-- something that is new since w -/
theorem Cr.new (S : Stays R) (h : Cr R w0 w ks) (hb : Below w.heap.size w w') (K : Ly) (hK : K.C w') (hB : ∀ k, K.B k → w.heap.size ≤ k ∧ k < w'.heap.size) : Cr R w0 w' (K :: ks) := by
  obtain ⟨F, h1, h2, h3, hk⟩ := h
  refine ⟨F, S.kept h1 (Kept.of_below hb (S.lt h1)), h2.trans (hb.mono h2.size), h3, fun L hL => ?_⟩
  rcases List.mem_cons.1 hL with rfl | hL
  · exact ⟨hK, fun k hk => ⟨(hB k hk).2, fun hf => by have := S.lt h1 _ hf; have := (hB k hk).1; omega⟩⟩
  · exact Ly.kept (hk L hL) (Only.of_below hb) (fun g _ h2 => h2)
/-- something that was there ahead of w0 -/
theorem Cr.arg (h : Cr R w0 w ks) (K : Ly) (hK : K.C w0) (hB : ∀ k, K.B k → k < w0.heap.size) : Cr R w0 w (K :: ks) := by
  obtain ⟨F, h1, h2, h3, hk⟩ := h
  refine ⟨F, h1, h2, h3, fun L hL => ?_⟩
  rcases List.mem_cons.1 hL with rfl | hL
  · exact ⟨L.keeps hK hB (Kept.of_below h2 hB), fun k hk => ⟨Nat.lt_of_lt_of_le (hB k hk) h2.size, fun hf => by have := h3 _ hf; have := hB k hk; omega⟩⟩
  · exact hk L hL
theorem Cr.box (S : Stays R) (h : Cr R w0 w ks) (t : TypeId) (cs : Array Value) : Cr R w0 (w.alloc (.cells cs t)) (Ly.blk w.heap.size t cs :: ks) :=
  h.new S ((Below.refl _ _).alloc (Nat.le_refl _) _) (Ly.blk w.heap.size t cs) (Blk.new w _ _) (fun k hk => by
    obtain rfl : k = w.heap.size := hk
    exact ⟨Nat.le_refl _, by simp⟩)
/-- a block beside it, at or above w0's, is turned alone: what it holds now is K' -/
theorem Cr.other (S : Stays R) {K K' : Ly} {g1 : Nat} (h : Cr R w0 w (K :: ks)) (hKg : K.B g1) (hg : w.grownBy w' (some g1)) (hn : ∀ L, L ∈ ks → ¬ L.B g1) (h0 : w0.heap.size ≤ g1) (hK : K'.C w') (hB : ∀ k, K'.B k → (k = g1 ∨ w.heap.size ≤ k) ∧ k < w'.heap.size) : Cr R w0 w' (K' :: ks) := by
  obtain ⟨F, h1, h2, h3, hk⟩ := h
  have hnF : ¬ F g1 := ((hk K List.mem_cons_self).2 g1 hKg).2
  have ho : Only (fun k => k = g1) w w' := ⟨hg.os, hg.tape, hg.output, hg.size, fun i hi hne => hg.block i hi (fun e => hne (by injection e))⟩
  have hkF : Kept F w w' := ⟨fun i hi => hg.block i (S.lt h1 i hi) (fun e => by injection e with e; exact hnF (e ▸ hi)), hg.size⟩
  refine ⟨F, S.kept h1 hkF, h2.grown hg h2.size (fun k hk => by injection hk with hk; omega), h3, fun L hL => ?_⟩
  rcases List.mem_cons.1 hL with rfl | hL
  · refine ⟨hK, fun k hk => ⟨(hB k hk).2, fun hf => ?_⟩⟩
    rcases (hB k hk).1 with rfl | h5
    · exact hnF hf
    · have := S.lt h1 k hf; omega
  · obtain ⟨a, b⟩ := hk L (List.mem_cons_of_mem _ hL)
    exact ⟨L.keeps a (fun k hk => (b k hk).1) (ho.kept (fun k hk => (b k hk).1) (fun k hk e => hn L hL (e ▸ hk))), fun k hk => ⟨Nat.lt_of_lt_of_le (b k hk).1 hg.size, (b k hk).2⟩⟩
theorem Cr.drewN (S : Stays R) (h : Cr R w0 w ks) (n : Nat) : Cr R w0 (w.drewN n) ks := h.on S ⟨rfl, rfl, rfl, Nat.le_refl _, fun _ _ => rfl⟩
end
end Go.Proofs.YtklplmldhhlgiaaDoor
