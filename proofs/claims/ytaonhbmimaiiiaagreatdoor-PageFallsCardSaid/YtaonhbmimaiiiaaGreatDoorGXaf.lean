/- Put together out of 4 texts. A play with pairs carried along, with what lies beside them; each step as one contract. -/
import Derived.Test.YtaonhbmimaiiiaaGreatDoorGXae
namespace Go.Proofs.YtaonhbmimaiiiaaGreatDoor
open Go.RowKit

/-- something that lies beside the device and the pairs, in blocks B, and stays while these do -/
structure Kd where
  C : World → Prop
  B : Nat → Prop
  keeps : ∀ {w w' : World}, C w → (∀ g, B g → g < w.heap.size) → Kept B w w' → C w'
/-- it is there, and beside these blocks -/
def Kd.P (K : Kd) (w : World) (F G : Nat → Prop) : Prop := K.C w ∧ ∀ g, K.B g → g < w.heap.size ∧ ¬ F g ∧ ¬ G g
/-- a boxed ref -/
def Kd.ref (g : Nat) (i z : Int) : Kd where
  C w := Blk w g 99 #[.int .i64 i, .int .u32 z]
  B k := k = g
  keeps h _ hk := h.same (hk.1 g rfl)
/-- bytes -/
def Kd.byt (A : Option Addr) (k c : Nat) (l : List Int) : Kd where
  C w := Sl w w.heap.size A k c l
  B g := ∃ ad, A = some ad ∧ 0 < k ∧ ad.block = g
  keeps := by
    intro w w' h _ hk
    refine ⟨h.len, h.cap, h.max, h.nil, fun ad ha h0 => ?_⟩
    obtain ⟨h1, h2⟩ := h.at_ ad ha h0
    refine ⟨Nat.lt_of_lt_of_le h1 hk.2, fun j x hx => ?_⟩
    rw [← h2 j x hx]
    unfold World.cell?
    rw [add_block, hk.1 ad.block ⟨ad, ha, h0, rfl⟩]
theorem Kd.kept {K : Kd} {w w' : World} {F G F' G' : Nat → Prop} (h : K.P w F G) (ho : Only (fun k => F k ∨ G k) w w') (hn : ∀ g, g < w.heap.size → ¬ F g → ¬ G g → ¬ F' g ∧ ¬ G' g) : K.P w' F' G' := by
  refine ⟨K.keeps h.1 (fun g hg => (h.2 g hg).1) (ho.kept (fun g hg => (h.2 g hg).1) (fun g hg hc => hc.elim (h.2 g hg).2.1 (h.2 g hg).2.2)), fun g hg => ?_⟩
  obtain ⟨h1, h2, h3⟩ := h.2 g hg
  exact ⟨Nat.lt_of_lt_of_le h1 ho.size, hn g h1 h2 h3⟩
def Pk (Real : World → Nat → DSt → (Nat → Prop) → Prop) (PR : World → Nat → Nat → Nat → Nat → (Nat → Prop) → Prop) (S : Nat → Addr) (w0 w : World) (d p : Nat) (s : DSt) (n m q : Nat) (ks : List Kd) : Prop :=
  ∃ F G, Pd Real PR S w0 w d p s n m q F G ∧ ∀ K, K ∈ ks → K.P w F G
section
variable {Real : World → Nat → DSt → (Nat → Prop) → Prop} {PR : World → Nat → Nat → Nat → Nat → (Nat → Prop) → Prop} {S : Nat → Addr} {w0 w w' : World} {d p n m q m' q' : Nat} {s s' : DSt} {ks : List Kd}
theorem Pk.below (h : Pk Real PR S w0 w d p s n m q ks) : Below w0.heap.size w0 w := by obtain ⟨F, G, h, _⟩ := h; exact h.below
theorem Pk.sent (h : Pk Real PR S w0 w d p s n m q ks) : Sent5 w S := by obtain ⟨F, G, h, _⟩ := h; exact h.sent
theorem Pk.up (h : Pk Real PR S w0 w d p s n m q ks) : Up s n q := by obtain ⟨F, G, h, _⟩ := h; exact h.up
theorem Pk.less {ls : List Kd} (h : Pk Real PR S w0 w d p s n m q ks) (hl : ∀ K, K ∈ ls → K ∈ ks) : Pk Real PR S w0 w d p s n m q ls := by
  obtain ⟨F, G, h, hk⟩ := h; exact ⟨F, G, h, fun K hK => hk K (hl K hK)⟩
theorem Pk.step' {F G : Nat → Prop} {Q : (Nat → Prop) → (Nat → Prop) → Prop} (hk : ∀ K, K ∈ ks → K.P w F G) (h : Stepped Real PR S w0 w d p s' n m' q' F G Q w') : ∃ F' G', Pd Real PR S w0 w' d p s' n m' q' F' G' ∧ (∀ K, K ∈ ks → K.P w' F' G') ∧ Q F' G' := by
  obtain ⟨F', G', h1, ho, hf, hg, hQ⟩ := h
  refine ⟨F', G', h1, fun K hK => Kd.kept (hk K hK) ho (fun g hlt h2 h3 => ⟨fun h4 => ?_, fun h4 => ?_⟩), hQ⟩
  · rcases hf g h4 with h5 | h5 | h5
    · exact h2 h5
    · exact h3 h5
    · omega
  · rcases hg g h4 with h5 | h5 | h5
    · exact h2 h5
    · exact h3 h5
    · omega
theorem Pk.step {F G : Nat → Prop} {Q : (Nat → Prop) → (Nat → Prop) → Prop} (hk : ∀ K, K ∈ ks → K.P w F G) (h : Stepped Real PR S w0 w d p s' n m' q' F G Q w') : Pk Real PR S w0 w' d p s' n m' q' ks := by
  obtain ⟨F', G', h1, h2, _⟩ := Pk.step' hk h
  exact ⟨F', G', h1, h2⟩
theorem Pk.on (D : DevOk Real) (P : PairOk Real PR) (h : Pk Real PR S w0 w d p s n m q ks) (hb : Below w.heap.size w w') : Pk Real PR S w0 w' d p s n m q ks := by
  obtain ⟨F, G, h, hk⟩ := h
  exact ⟨F, G, h.on D P hb, fun K hK => Kd.kept (hk K hK) (Only.of_below hb) (fun g _ h2 h3 => ⟨h2, h3⟩)⟩
theorem Pk.box (D : DevOk Real) (P : PairOk Real PR) (h : Pk Real PR S w0 w d p s n m q ks) (i z : Int) : Pk Real PR S w0 (w.alloc (.cells #[.int .i64 i, .int .u32 z] 99)) d p s n m q (Kd.ref w.heap.size i z :: ks) := by
  obtain ⟨F, G, h, hk⟩ := h
  have hb : Below w.heap.size w (w.alloc (.cells #[.int .i64 i, .int .u32 z] 99)) := (Below.refl _ _).alloc (Nat.le_refl _) _
  refine ⟨F, G, h.on D P hb, fun K hK => ?_⟩
  rcases List.mem_cons.1 hK with rfl | hK
  · exact ⟨Blk.new w _ _, fun g hg => by
      obtain rfl : g = w.heap.size := hg
      exact ⟨by simp, fun hf => Nat.lt_irrefl _ (D.lt h.real _ hf), fun hf => Nat.lt_irrefl _ (P.lt h.pr _ hf)⟩⟩
  · exact Kd.kept (hk K hK) (Only.of_below hb) (fun g _ h2 h3 => ⟨h2, h3⟩)
theorem Pk.cells {g : Nat} {i z : Int} (h : Pk Real PR S w0 w d p s n m q ks) (hK : Kd.ref g i z ∈ ks) : w.cell? ⟨g, 0, none⟩ = some (.int .i64 i) ∧ w.cell? ⟨g, 1, none⟩ = some (.int .u32 z) := by
  obtain ⟨F, G, h, hk⟩ := h
  have h1 : Blk w g 99 #[.int .i64 i, .int .u32 z] := (hk _ hK).1
  exact ⟨h1.cell 0, h1.cell 1⟩
theorem Pk.bytes {A : Option Addr} {k c : Nat} {l : List Int} (h : Pk Real PR S w0 w d p s n m q ks) (hK : Kd.byt A k c l ∈ ks) : Sl w w.heap.size A k c l := by
  obtain ⟨F, G, h, hk⟩ := h
  exact (hk _ hK).1
/-- bytes made since -/
theorem Pk.more (D : DevOk Real) (P : PairOk Real PR) {A : Option Addr} {k c : Nat} {l : List Int} (h : Pk Real PR S w0 w d p s n m q ks) (hb : Below w.heap.size w w') (hl : Sl w' w'.heap.size A k c l) (hn : ∀ ad, A = some ad → w.heap.size ≤ ad.block) : Pk Real PR S w0 w' d p s n m q (Kd.byt A k c l :: ks) := by
  obtain ⟨F, G, h, hk⟩ := h
  refine ⟨F, G, h.on D P hb, fun K hK => ?_⟩
  rcases List.mem_cons.1 hK with rfl | hK
  · refine ⟨hl, fun g hg => ?_⟩
    obtain ⟨ad, ha, h0, rfl⟩ := hg
    exact ⟨(hl.at_ ad ha h0).1, fun hf => by have := D.lt h.real _ hf; have := hn ad ha; omega, fun hf => by have := P.lt h.pr _ hf; have := hn ad ha; omega⟩
  · exact Kd.kept (hk K hK) (Only.of_below hb) (fun g _ h2 h3 => ⟨h2, h3⟩)

end
end Go.Proofs.YtaonhbmimaiiiaaGreatDoor
namespace Go.Proofs.YtaonhbmimaiiiaaGreatDoor
open Go.RowKit

/-- blocks i and j are a and c -/
structure At (s : DSt) (i j : Nat) (a c : BSt) : Prop where
  a : s.blks[i]? = some a
  c : s.blks[j]? = some c
/-- written and flushed -/
def cl (l : List Int) (e : Bool) : BSt := ⟨l, l, false, false, false, e⟩
theorem flush_write (b : BSt) (l : List Int) : (b.write l).flush = cl l b.ever := rfl
theorem read_write (b : BSt) (l : List Int) : (b.write l).read = (0, l) := rfl
theorem right_of {b : BSt} {l : List Int} (h : b.read = (0, l)) : b.right (crcOf (nats l)) = true := by unfold BSt.right; rw [h]; simp
section
variable {s : DSt} {n q i j H z : Nat} {a c : BSt} {l : List Int}
theorem At.new (hi : i < n) (hj : j < n) : At (DSt.new n) i j blank blank := ⟨new_at hi, new_at hj⟩
theorem At.write (h : At s i (i + H) a c) (hH : 0 < H) (l : List Int) : At (pWrite s H i l) i (i + H) (a.write l) (c.write l) := by
  unfold pWrite
  exact ⟨(put_else (by omega)).trans (put_at h.a), put_at ((put_else (by omega)).trans h.c)⟩
theorem At.fl (h : At s i j a c) : At (fl s) i j a.flush c.flush := ⟨fl_at h.a, fl_at h.c⟩
theorem At.put1 (h : At s i j a c) (hij : i ≠ j) (l : List Int) : At (s.put i l) i j (a.write l) c := ⟨put_at h.a, (put_else hij).trans h.c⟩
theorem pRead_one (u : Up s n q) (hi : i < n) (h : At s i (i + H) a c) (ha : a.right z = true) : pRead s H i z = (0, a.read.2, s, 0) := by
  unfold pRead
  rw [u.right hi h.a, if_pos ha, u.read hi h.a]
theorem pRead_two (u : Up s n q) (hi : i + H < n) (h : At s i (i + H) a c) (ha : a.right z = false) (hc : c.right z = true) : pRead s H i z = (0, c.read.2, s.put i c.read.2, 1) := by
  unfold pRead
  rw [u.right (by omega) h.a, if_neg (by rw [ha]; decide), u.right hi h.c, if_pos hc, u.read hi h.c]
end
section
variable {Real : World → Nat → DSt → (Nat → Prop) → Prop} {PR : World → Nat → Nat → Nat → Nat → (Nat → Prop) → Prop}
end
end Go.Proofs.YtaonhbmimaiiiaaGreatDoor
namespace Go.Proofs.YtaonhbmimaiiiaaGreatDoor
open Go.RowKit

theorem countP_modify {α : Type} (p : α → Bool) (f : α → α) : ∀ (l : List α) (i : Nat) (x : α), l[i]? = some x → p (f x) = true → (l.modify i f).countP p = l.countP p + (if p x = true then 0 else 1)
  | [], i, x, h, _ => by simp at h
  | y :: l, 0, x, h, hf => by
    simp at h
    subst h
    simp [List.countP_cons, hf]
    split <;> simp_all
  | y :: l, i + 1, x, h, hf => by
    simp at h
    have := countP_modify p f l i x h hf
    simp only [List.modify_succ_cons, List.countP_cons, this]
    omega
section
variable {Real : World → Nat → DSt → (Nat → Prop) → Prop} {PR : World → Nat → Nat → Nat → Nat → (Nat → Prop) → Prop} {S : Nat → Addr} {w0 w w' : World} {d p n m q m' q' : Nat} {s s' : DSt} {ks : List Kd}
end
end Go.Proofs.YtaonhbmimaiiiaaGreatDoor
namespace Go.Proofs.YtaonhbmimaiiiaaGreatDoor
open Go.RowKit

theorem Up.crash {s : DSt} {n q : Nat} (h : Up s n q) (picks : List Int) : Up (s.crash picks) n q := ⟨rfl, rfl, by rw [crash_len]; exact h.len, okN_crash h.okN⟩
theorem crash_get {s : DSt} {k : Nat} {b : BSt} (h : s.blks[k]? = some b) (picks : List Int) : (s.crash picks).blks[k]? = some (b.crash (keepP picks ((s.blks.take k).countP BSt.pend))) := by
  unfold DSt.crash
  simp [List.getElem?_mapIdx, h, crashAt]
/-- nothing pending -/
def Calm (s : DSt) : Prop := ∀ b, b ∈ s.blks → b.pend = false
theorem calm_fl (s : DSt) : Calm (fl s) := by
  intro b hb
  simp only [fl, List.mem_map] at hb
  obtain ⟨a, _, rfl⟩ := hb
  unfold BSt.flush
  split
  · rfl
  · rename_i h; simpa using h
theorem calm_take {s : DSt} (h : Calm s) (k : Nat) : (s.blks.take k).countP BSt.pend = 0 := by
  rw [List.countP_eq_zero]
  intro b hb
  rw [h b (List.mem_of_mem_take hb)]
  decide
theorem take_modify_lt {α : Type} (l : List α) (f : α → α) {i k : Nat} (h : k ≤ i) : (l.modify i f).take k = l.take k := by
  apply List.ext_getElem?
  intro x
  simp only [List.getElem?_take, List.getElem?_modify]
  split
  · have : ¬ i = x := by omega
    simp [this]
  · rfl
theorem take_modify_ge {α : Type} (l : List α) (f : α → α) (i k : Nat) : (l.modify i f).take k = (l.take k).modify i f := by
  apply List.ext_getElem?
  intro x
  simp only [List.getElem?_take, List.getElem?_modify]
  split
  · rfl
  · rfl
/-- behind a write of a pair, nothing else pending, the power gone: each of the two as its pick says -/
theorem At.crash {s : DSt} {i H : Nat} {a c : BSt} (h : At s i (i + H) a c) (hc : Calm s) (hH : 0 < H) (l picks : List Int) :
    At ((pWrite s H i l).crash picks) i (i + H) ((a.write l).crash (keepP picks 0)) ((c.write l).crash (keepP picks 1)) := by
  have hw := h.write hH l
  have e : (pWrite s H i l).blks = (s.blks.modify i (BSt.write l)).modify (i + H) (BSt.write l) := by
    unfold pWrite DSt.put DSt.turn
    simp only [Int.toNat_natCast]
  have r0 : ((pWrite s H i l).blks.take i).countP BSt.pend = 0 := by
    rw [e, take_modify_lt _ _ (by omega), take_modify_lt _ _ (Nat.le_refl _)]
    exact calm_take hc i
  have r1 : ((pWrite s H i l).blks.take (i + H)).countP BSt.pend = 1 := by
    rw [e, take_modify_lt _ _ (Nat.le_refl _), take_modify_ge]
    have ht : (s.blks.take (i + H))[i]? = some a := by rw [List.getElem?_take, if_pos (by omega)]; exact h.a
    have := countP_modify BSt.pend (BSt.write l) _ i a ht rfl
    rw [this, calm_take hc, hc a (List.mem_of_getElem? h.a)]
    rfl
  have g0 := crash_get hw.a picks
  have g1 := crash_get hw.c picks
  rw [r0] at g0
  rw [r1] at g1
  exact ⟨g0, g1⟩
section
variable {Real : World → Nat → DSt → (Nat → Prop) → Prop} {PR : World → Nat → Nat → Nat → Nat → (Nat → Prop) → Prop} {S : Nat → Addr} {w0 w w' : World} {d p n m q m' q' : Nat} {s s' : DSt} {ks : List Kd}
/-- another device, and pairs over it, that lie beside -/
def Kd.two (D : DevOk Real) (P : PairOk Real PR) (c z : Nat) (s : DSt) (n m : Nat) (F G : Nat → Prop) : Kd where
  C w := Real w c s F ∧ PR w z c n m G
  B k := F k ∨ G k
  keeps := fun ⟨h1, h2⟩ _ hk => ⟨D.kept h1 ⟨fun i hi => hk.1 i (.inl hi), hk.2⟩, P.kept h2 ⟨fun i hi => hk.1 i (.inr hi), hk.2⟩⟩
end
end Go.Proofs.YtaonhbmimaiiiaaGreatDoor
