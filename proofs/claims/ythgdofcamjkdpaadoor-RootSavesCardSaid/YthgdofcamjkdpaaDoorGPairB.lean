/- A play with pairs carried along, with what lies beside them; each step as one contract. -/
import Derived.Test.YthgdofcamjkdpaaDoorGPairA
namespace Go.Proofs.YthgdofcamjkdpaaDoor
open Go.RowKit

/-- something that lies beside the device and the pairs, in blocks B, and stays while these do -/
structure Kd where
  C : World → Prop
  B : Nat → Prop
  keeps : ∀ {w w' : World}, C w → (∀ g, B g → g < w.heap.size) → Kept B w w' → C w'
/-- it is there, and beside these blocks -/
def Kd.P (K : Kd) (w : World) (F G : Nat → Prop) : Prop := K.C w ∧ ∀ g, K.B g → g < w.heap.size ∧ ¬ F g ∧ ¬ G g
/-- a boxed ref -/
def Kd.ref (g : Nat) (i z : Int) : Kd where
  C w := Blk w g 56 #[.int .i64 i, .int .u32 z]
  B k := k = g
  keeps h _ hk := h.same (hk.1 g rfl)
/-- bytes -/
def Kd.byt (A : Option Addr) (k c : Nat) (l : List Int) : Kd where
  C w := Sl w w.heap.size A k c l
  B g := ∃ ad, A = some ad ∧ 0 < k ∧ ad.block = g
  keeps := by
    intro w w' h _ hk
    refine ⟨h.len, h.cap, h.max, h.nil, fun ad ha h0 => ?_⟩
    obtain ⟨h1, h2⟩ := h.at_ ad ha h0
    refine ⟨Nat.lt_of_lt_of_le h1 hk.2, fun j x hx => ?_⟩
    rw [← h2 j x hx]
    unfold World.cell?
    rw [add_block, hk.1 ad.block ⟨ad, ha, h0, rfl⟩]
theorem Kd.kept {K : Kd} {w w' : World} {F G F' G' : Nat → Prop} (h : K.P w F G) (ho : Only (fun k => F k ∨ G k) w w') (hn : ∀ g, g < w.heap.size → ¬ F g → ¬ G g → ¬ F' g ∧ ¬ G' g) : K.P w' F' G' := by
  refine ⟨K.keeps h.1 (fun g hg => (h.2 g hg).1) (ho.kept (fun g hg => (h.2 g hg).1) (fun g hg hc => hc.elim (h.2 g hg).2.1 (h.2 g hg).2.2)), fun g hg => ?_⟩
  obtain ⟨h1, h2, h3⟩ := h.2 g hg
  exact ⟨Nat.lt_of_lt_of_le h1 ho.size, hn g h1 h2 h3⟩
def Pk (Real : World → Nat → DSt → (Nat → Prop) → Prop) (PR : World → Nat → Nat → Nat → Nat → (Nat → Prop) → Prop) (S : Nat → Addr) (w0 w : World) (d p : Nat) (s : DSt) (n m q : Nat) (ks : List Kd) : Prop :=
  ∃ F G, Pd Real PR S w0 w d p s n m q F G ∧ ∀ K, K ∈ ks → K.P w F G
section
variable {Real : World → Nat → DSt → (Nat → Prop) → Prop} {PR : World → Nat → Nat → Nat → Nat → (Nat → Prop) → Prop} {S : Nat → Addr} {w0 w w' : World} {d p n m q m' q' : Nat} {s s' : DSt} {ks : List Kd}
theorem Pk.below (h : Pk Real PR S w0 w d p s n m q ks) : Below w0.heap.size w0 w := by obtain ⟨F, G, h, _⟩ := h; exact h.below
theorem Pk.sent (h : Pk Real PR S w0 w d p s n m q ks) : Sent5 w S := by obtain ⟨F, G, h, _⟩ := h; exact h.sent
theorem Pk.up (h : Pk Real PR S w0 w d p s n m q ks) : Up s n q := by obtain ⟨F, G, h, _⟩ := h; exact h.up
theorem Pk.less {ls : List Kd} (h : Pk Real PR S w0 w d p s n m q ks) (hl : ∀ K, K ∈ ls → K ∈ ks) : Pk Real PR S w0 w d p s n m q ls := by
  obtain ⟨F, G, h, hk⟩ := h; exact ⟨F, G, h, fun K hK => hk K (hl K hK)⟩
theorem Pk.step' {F G : Nat → Prop} {Q : (Nat → Prop) → (Nat → Prop) → Prop} (hk : ∀ K, K ∈ ks → K.P w F G) (h : Stepped Real PR S w0 w d p s' n m' q' F G Q w') : ∃ F' G', Pd Real PR S w0 w' d p s' n m' q' F' G' ∧ (∀ K, K ∈ ks → K.P w' F' G') ∧ Q F' G' := by
  obtain ⟨F', G', h1, ho, hf, hg, hQ⟩ := h
  refine ⟨F', G', h1, fun K hK => Kd.kept (hk K hK) ho (fun g hlt h2 h3 => ⟨fun h4 => ?_, fun h4 => ?_⟩), hQ⟩
  · rcases hf g h4 with h5 | h5 | h5
    · exact h2 h5
    · exact h3 h5
    · omega
  · rcases hg g h4 with h5 | h5 | h5
    · exact h2 h5
    · exact h3 h5
    · omega
theorem Pk.step {F G : Nat → Prop} {Q : (Nat → Prop) → (Nat → Prop) → Prop} (hk : ∀ K, K ∈ ks → K.P w F G) (h : Stepped Real PR S w0 w d p s' n m' q' F G Q w') : Pk Real PR S w0 w' d p s' n m' q' ks := by
  obtain ⟨F', G', h1, h2, _⟩ := Pk.step' hk h
  exact ⟨F', G', h1, h2⟩
theorem Pk.on (D : DevOk Real) (P : PairOk Real PR) (h : Pk Real PR S w0 w d p s n m q ks) (hb : Below w.heap.size w w') : Pk Real PR S w0 w' d p s n m q ks := by
  obtain ⟨F, G, h, hk⟩ := h
  exact ⟨F, G, h.on D P hb, fun K hK => Kd.kept (hk K hK) (Only.of_below hb) (fun g _ h2 h3 => ⟨h2, h3⟩)⟩
theorem Pk.box (D : DevOk Real) (P : PairOk Real PR) (h : Pk Real PR S w0 w d p s n m q ks) (i z : Int) : Pk Real PR S w0 (w.alloc (.cells #[.int .i64 i, .int .u32 z] 56)) d p s n m q (Kd.ref w.heap.size i z :: ks) := by
  obtain ⟨F, G, h, hk⟩ := h
  have hb : Below w.heap.size w (w.alloc (.cells #[.int .i64 i, .int .u32 z] 56)) := (Below.refl _ _).alloc (Nat.le_refl _) _
  refine ⟨F, G, h.on D P hb, fun K hK => ?_⟩
  rcases List.mem_cons.1 hK with rfl | hK
  · exact ⟨Blk.new w _ _, fun g hg => by
      obtain rfl : g = w.heap.size := hg
      exact ⟨by simp, fun hf => Nat.lt_irrefl _ (D.lt h.real _ hf), fun hf => Nat.lt_irrefl _ (P.lt h.pr _ hf)⟩⟩
  · exact Kd.kept (hk K hK) (Only.of_below hb) (fun g _ h2 h3 => ⟨h2, h3⟩)
theorem Pk.cells {g : Nat} {i z : Int} (h : Pk Real PR S w0 w d p s n m q ks) (hK : Kd.ref g i z ∈ ks) : w.cell? ⟨g, 0, none⟩ = some (.int .i64 i) ∧ w.cell? ⟨g, 1, none⟩ = some (.int .u32 z) := by
  obtain ⟨F, G, h, hk⟩ := h
  have h1 : Blk w g 56 #[.int .i64 i, .int .u32 z] := (hk _ hK).1
  exact ⟨h1.cell 0, h1.cell 1⟩
theorem Pk.bytes {A : Option Addr} {k c : Nat} {l : List Int} (h : Pk Real PR S w0 w d p s n m q ks) (hK : Kd.byt A k c l ∈ ks) : Sl w w.heap.size A k c l := by
  obtain ⟨F, G, h, hk⟩ := h
  exact (hk _ hK).1
/-- bytes that came in -/
theorem Pk.arg {A : Option Addr} {k c : Nat} {l : List Int} (h : Pk Real PR S w0 w d p s n m q ks) (hl : Sl w0 w0.heap.size A k c l) : Pk Real PR S w0 w d p s n m q (Kd.byt A k c l :: ks) := by
  obtain ⟨F, G, h, hk⟩ := h
  refine ⟨F, G, h, fun K hK => ?_⟩
  rcases List.mem_cons.1 hK with rfl | hK
  · refine ⟨hl.on h.below, fun g hg => ?_⟩
    obtain ⟨ad, ha, h0, rfl⟩ := hg
    have h1 := (hl.at_ ad ha h0).1
    exact ⟨Nat.lt_of_lt_of_le h1 h.below.size, fun hf => by have := h.fn _ hf; omega, fun hf => by have := h.gn _ hf; omega⟩
  · exact hk K hK
/-- bytes made since -/
theorem Pk.more (D : DevOk Real) (P : PairOk Real PR) {A : Option Addr} {k c : Nat} {l : List Int} (h : Pk Real PR S w0 w d p s n m q ks) (hb : Below w.heap.size w w') (hl : Sl w' w'.heap.size A k c l) (hn : ∀ ad, A = some ad → w.heap.size ≤ ad.block) : Pk Real PR S w0 w' d p s n m q (Kd.byt A k c l :: ks) := by
  obtain ⟨F, G, h, hk⟩ := h
  refine ⟨F, G, h.on D P hb, fun K hK => ?_⟩
  rcases List.mem_cons.1 hK with rfl | hK
  · refine ⟨hl, fun g hg => ?_⟩
    obtain ⟨ad, ha, h0, rfl⟩ := hg
    exact ⟨(hl.at_ ad ha h0).1, fun hf => by have := D.lt h.real _ hf; have := hn ad ha; omega, fun hf => by have := P.lt h.pr _ hf; have := hn ad ha; omega⟩
  · exact Kd.kept (hk K hK) (Only.of_below hb) (fun g _ h2 h3 => ⟨h2, h3⟩)

theorem pk_flush (D : DevOk Real) (P : PairOk Real PR) (h : Pk Real PR S w0 w d p s n m q ks) (hq : q + 1 ≤ 1000) :
    Calls Tryd.prog 31 #[.pointer (some ⟨d, 0, none⟩)] w fun e w' => e = .returned .nilIface ∧ Pk Real PR S w0 w' d p (fl s) n m (q + 1) ks := by
  obtain ⟨F, G, h, hk⟩ := h
  exact (pd_flush D P h hq).mono fun e w' ⟨he, hs⟩ => ⟨he, Pk.step hk hs⟩
theorem pk_write (P : PairOk Real PR) {i : Nat} (hi : i < halN n) {A : Option Addr} {c : Nat} {l : List Int} (hb : Byt l) (hq : q + 2 ≤ 1000) (h : Pk Real PR S w0 w d p s n m q (Kd.byt A 256 c l :: ks)) :
    Calls Tryd.prog 29 #[.pointer (some ⟨p, 0, none⟩), .int .i64 (i : Int), .slice A 256 c] w fun e w' => e = .returned (.tuple #[refV i (crcOf (nats l)), .nilIface]) ∧ Pk Real PR S w0 w' d p (pWrite s (halN n) i l) n m (q + 2) ks := by
  obtain ⟨F, G, h, hk⟩ := h
  obtain ⟨h1, h2⟩ := hk _ List.mem_cons_self
  exact (pd_write P h hi h1 (fun ad ha => (h2 _ ⟨ad, ha, by omega, rfl⟩).2) hb hq).mono fun e w' ⟨he, hs⟩ => ⟨he, Pk.step (fun K hK => hk K (List.mem_cons_of_mem _ hK)) hs⟩
theorem pk_writeBad (P : PairOk Real PR) {i : Int} (hi : i < 0 ∨ (halN n : Int) ≤ i) {A : Option Addr} {c : Nat} {l : List Int} (h : Pk Real PR S w0 w d p s n m q (Kd.byt A 256 c l :: ks)) :
    Calls Tryd.prog 29 #[.pointer (some ⟨p, 0, none⟩), .int .i64 i, .slice A 256 c] w fun e w' => ∃ a z v, EV S 103 v ∧ e = .returned (.tuple #[.agg #[.int .i64 a, .int .u32 z], v]) ∧ Pk Real PR S w0 w' d p s n m q ks := by
  obtain ⟨F, G, h, hk⟩ := h
  obtain ⟨h1, h2⟩ := hk _ List.mem_cons_self
  exact (pd_writeBad P h hi h1).mono fun e w' ⟨⟨a, z, v, hv, he⟩, hs⟩ => ⟨a, z, v, hv, he, Pk.step (fun K hK => hk K (List.mem_cons_of_mem _ hK)) hs⟩
theorem pk_sees (D : DevOk Real) (P : PairOk Real PR) (h : Pk Real PR S w0 w d p s n m q ks) (hS : Sent w0 S) {c c' : Int} {v : Value} (hv : EV S c v) :
    Calls Tryd.prog 8 #[v, .int .i64 c'] w fun e w' => e = .returned (.bool (c == c')) ∧ Pk Real PR S w0 w' d p s n m q ks :=
  (is_any S c c' v w (hS.on h.below) hv).mono fun _ _ ⟨he, hb⟩ => ⟨he, h.on D P hb⟩
end
end Go.Proofs.YthgdofcamjkdpaaDoor
