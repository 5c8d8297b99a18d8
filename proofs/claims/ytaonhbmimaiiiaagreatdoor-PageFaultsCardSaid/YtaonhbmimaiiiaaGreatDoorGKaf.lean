/- Put together out of 5 texts. A play with pairs carried along, with what lies beside them; each step as one contract. -/
import Derived.Test.YtaonhbmimaiiiaaGreatDoorGKae
namespace Go.Proofs.YtaonhbmimaiiiaaGreatDoor
open Go.RowKit

/-- something that lies beside the device and the pairs, in blocks B, and stays while these do -/
structure Kd where
  C : World → Prop
  B : Nat → Prop
  keeps : ∀ {w w' : World}, C w → (∀ g, B g → g < w.heap.size) → Kept B w w' → C w'
/-- it is there, and beside these blocks -/
def Kd.P (K : Kd) (w : World) (F G : Nat → Prop) : Prop := K.C w ∧ ∀ g, K.B g → g < w.heap.size ∧ ¬ F g ∧ ¬ G g
/-- a boxed ref -/
def Kd.ref (g : Nat) (i z : Int) : Kd where
  C w := Blk w g 99 #[.int .i64 i, .int .u32 z]
  B k := k = g
  keeps h _ hk := h.same (hk.1 g rfl)
/-- bytes -/
def Kd.byt (A : Option Addr) (k c : Nat) (l : List Int) : Kd where
  C w := Sl w w.heap.size A k c l
  B g := ∃ ad, A = some ad ∧ 0 < k ∧ ad.block = g
  keeps := by
    intro w w' h _ hk
    refine ⟨h.len, h.cap, h.max, h.nil, fun ad ha h0 => ?_⟩
    obtain ⟨h1, h2⟩ := h.at_ ad ha h0
    refine ⟨Nat.lt_of_lt_of_le h1 hk.2, fun j x hx => ?_⟩
    rw [← h2 j x hx]
    unfold World.cell?
    rw [add_block, hk.1 ad.block ⟨ad, ha, h0, rfl⟩]
theorem Kd.kept {K : Kd} {w w' : World} {F G F' G' : Nat → Prop} (h : K.P w F G) (ho : Only (fun k => F k ∨ G k) w w') (hn : ∀ g, g < w.heap.size → ¬ F g → ¬ G g → ¬ F' g ∧ ¬ G' g) : K.P w' F' G' := by
  refine ⟨K.keeps h.1 (fun g hg => (h.2 g hg).1) (ho.kept (fun g hg => (h.2 g hg).1) (fun g hg hc => hc.elim (h.2 g hg).2.1 (h.2 g hg).2.2)), fun g hg => ?_⟩
  obtain ⟨h1, h2, h3⟩ := h.2 g hg
  exact ⟨Nat.lt_of_lt_of_le h1 ho.size, hn g h1 h2 h3⟩
def Pk (Real : World → Nat → DSt → (Nat → Prop) → Prop) (PR : World → Nat → Nat → Nat → Nat → (Nat → Prop) → Prop) (S : Nat → Addr) (w0 w : World) (d p : Nat) (s : DSt) (n m q : Nat) (ks : List Kd) : Prop :=
  ∃ F G, Pd Real PR S w0 w d p s n m q F G ∧ ∀ K, K ∈ ks → K.P w F G
section
variable {Real : World → Nat → DSt → (Nat → Prop) → Prop} {PR : World → Nat → Nat → Nat → Nat → (Nat → Prop) → Prop} {S : Nat → Addr} {w0 w w' : World} {d p n m q m' q' : Nat} {s s' : DSt} {ks : List Kd}
theorem Pk.below (h : Pk Real PR S w0 w d p s n m q ks) : Below w0.heap.size w0 w := by obtain ⟨F, G, h, _⟩ := h; exact h.below
theorem Pk.sent (h : Pk Real PR S w0 w d p s n m q ks) : Sent5 w S := by obtain ⟨F, G, h, _⟩ := h; exact h.sent
theorem Pk.up (h : Pk Real PR S w0 w d p s n m q ks) : Up s n q := by obtain ⟨F, G, h, _⟩ := h; exact h.up
theorem Pk.less {ls : List Kd} (h : Pk Real PR S w0 w d p s n m q ks) (hl : ∀ K, K ∈ ls → K ∈ ks) : Pk Real PR S w0 w d p s n m q ls := by
  obtain ⟨F, G, h, hk⟩ := h; exact ⟨F, G, h, fun K hK => hk K (hl K hK)⟩
theorem Pk.step' {F G : Nat → Prop} {Q : (Nat → Prop) → (Nat → Prop) → Prop} (hk : ∀ K, K ∈ ks → K.P w F G) (h : Stepped Real PR S w0 w d p s' n m' q' F G Q w') : ∃ F' G', Pd Real PR S w0 w' d p s' n m' q' F' G' ∧ (∀ K, K ∈ ks → K.P w' F' G') ∧ Q F' G' := by
  obtain ⟨F', G', h1, ho, hf, hg, hQ⟩ := h
  refine ⟨F', G', h1, fun K hK => Kd.kept (hk K hK) ho (fun g hlt h2 h3 => ⟨fun h4 => ?_, fun h4 => ?_⟩), hQ⟩
  · rcases hf g h4 with h5 | h5 | h5
    · exact h2 h5
    · exact h3 h5
    · omega
  · rcases hg g h4 with h5 | h5 | h5
    · exact h2 h5
    · exact h3 h5
    · omega
theorem Pk.step {F G : Nat → Prop} {Q : (Nat → Prop) → (Nat → Prop) → Prop} (hk : ∀ K, K ∈ ks → K.P w F G) (h : Stepped Real PR S w0 w d p s' n m' q' F G Q w') : Pk Real PR S w0 w' d p s' n m' q' ks := by
  obtain ⟨F', G', h1, h2, _⟩ := Pk.step' hk h
  exact ⟨F', G', h1, h2⟩
theorem Pk.on (D : DevOk Real) (P : PairOk Real PR) (h : Pk Real PR S w0 w d p s n m q ks) (hb : Below w.heap.size w w') : Pk Real PR S w0 w' d p s n m q ks := by
  obtain ⟨F, G, h, hk⟩ := h
  exact ⟨F, G, h.on D P hb, fun K hK => Kd.kept (hk K hK) (Only.of_below hb) (fun g _ h2 h3 => ⟨h2, h3⟩)⟩
theorem Pk.box (D : DevOk Real) (P : PairOk Real PR) (h : Pk Real PR S w0 w d p s n m q ks) (i z : Int) : Pk Real PR S w0 (w.alloc (.cells #[.int .i64 i, .int .u32 z] 99)) d p s n m q (Kd.ref w.heap.size i z :: ks) := by
  obtain ⟨F, G, h, hk⟩ := h
  have hb : Below w.heap.size w (w.alloc (.cells #[.int .i64 i, .int .u32 z] 99)) := (Below.refl _ _).alloc (Nat.le_refl _) _
  refine ⟨F, G, h.on D P hb, fun K hK => ?_⟩
  rcases List.mem_cons.1 hK with rfl | hK
  · exact ⟨Blk.new w _ _, fun g hg => by
      obtain rfl : g = w.heap.size := hg
      exact ⟨by simp, fun hf => Nat.lt_irrefl _ (D.lt h.real _ hf), fun hf => Nat.lt_irrefl _ (P.lt h.pr _ hf)⟩⟩
  · exact Kd.kept (hk K hK) (Only.of_below hb) (fun g _ h2 h3 => ⟨h2, h3⟩)
theorem Pk.cells {g : Nat} {i z : Int} (h : Pk Real PR S w0 w d p s n m q ks) (hK : Kd.ref g i z ∈ ks) : w.cell? ⟨g, 0, none⟩ = some (.int .i64 i) ∧ w.cell? ⟨g, 1, none⟩ = some (.int .u32 z) := by
  obtain ⟨F, G, h, hk⟩ := h
  have h1 : Blk w g 99 #[.int .i64 i, .int .u32 z] := (hk _ hK).1
  exact ⟨h1.cell 0, h1.cell 1⟩
theorem Pk.bytes {A : Option Addr} {k c : Nat} {l : List Int} (h : Pk Real PR S w0 w d p s n m q ks) (hK : Kd.byt A k c l ∈ ks) : Sl w w.heap.size A k c l := by
  obtain ⟨F, G, h, hk⟩ := h
  exact (hk _ hK).1
/-- bytes that came in -/
theorem Pk.arg {A : Option Addr} {k c : Nat} {l : List Int} (h : Pk Real PR S w0 w d p s n m q ks) (hl : Sl w0 w0.heap.size A k c l) : Pk Real PR S w0 w d p s n m q (Kd.byt A k c l :: ks) := by
  obtain ⟨F, G, h, hk⟩ := h
  refine ⟨F, G, h, fun K hK => ?_⟩
  rcases List.mem_cons.1 hK with rfl | hK
  · refine ⟨hl.on h.below, fun g hg => ?_⟩
    obtain ⟨ad, ha, h0, rfl⟩ := hg
    have h1 := (hl.at_ ad ha h0).1
    exact ⟨Nat.lt_of_lt_of_le h1 h.below.size, fun hf => by have := h.fn _ hf; omega, fun hf => by have := h.gn _ hf; omega⟩
  · exact hk K hK
/-- bytes made since -/
theorem Pk.more (D : DevOk Real) (P : PairOk Real PR) {A : Option Addr} {k c : Nat} {l : List Int} (h : Pk Real PR S w0 w d p s n m q ks) (hb : Below w.heap.size w w') (hl : Sl w' w'.heap.size A k c l) (hn : ∀ ad, A = some ad → w.heap.size ≤ ad.block) : Pk Real PR S w0 w' d p s n m q (Kd.byt A k c l :: ks) := by
  obtain ⟨F, G, h, hk⟩ := h
  refine ⟨F, G, h.on D P hb, fun K hK => ?_⟩
  rcases List.mem_cons.1 hK with rfl | hK
  · refine ⟨hl, fun g hg => ?_⟩
    obtain ⟨ad, ha, h0, rfl⟩ := hg
    exact ⟨(hl.at_ ad ha h0).1, fun hf => by have := D.lt h.real _ hf; have := hn ad ha; omega, fun hf => by have := P.lt h.pr _ hf; have := hn ad ha; omega⟩
  · exact Kd.kept (hk K hK) (Only.of_below hb) (fun g _ h2 h3 => ⟨h2, h3⟩)

theorem pk_flush (D : DevOk Real) (P : PairOk Real PR) (h : Pk Real PR S w0 w d p s n m q ks) (hq : q + 1 ≤ 900000) :
    Calls Tryz.prog 28 #[.pointer (some ⟨d, 0, none⟩)] w fun e w' => e = .returned .nilIface ∧ Pk Real PR S w0 w' d p (fl s) n m (q + 1) ks := by
  obtain ⟨F, G, h, hk⟩ := h
  exact (pd_flush D P h hq).mono fun e w' ⟨he, hs⟩ => ⟨he, Pk.step hk hs⟩
theorem pk_spoil (D : DevOk Real) (P : PairOk Real PR) (h : Pk Real PR S w0 w d p s n m q ks) (i at' : Int) (bits : Nat) (hb : bits < 4294967296) :
    Calls Tryz.prog 26 #[.pointer (some ⟨d, 0, none⟩), .int .i64 i, .int .i64 at', .int .u32 (bits : Int)] w fun e w' => e = .returned (.bool (s.spoil i at' bits).1) ∧ Pk Real PR S w0 w' d p (s.spoil i at' bits).2 n m q ks := by
  obtain ⟨F, G, h, hk⟩ := h
  exact (pd_spoil D P h i at' bits hb).mono fun e w' ⟨he, hs⟩ => ⟨he, Pk.step hk hs⟩
theorem pk_fail (D : DevOk Real) (P : PairOk Real PR) (h : Pk Real PR S w0 w d p s n m q ks) (i : Int) :
    Calls Tryz.prog 25 #[.pointer (some ⟨d, 0, none⟩), .int .i64 i] w fun e w' => e = .returned (.bool (s.fail i).1) ∧ Pk Real PR S w0 w' d p (s.fail i).2 n m q ks := by
  obtain ⟨F, G, h, hk⟩ := h
  exact (pd_fail D P h i).mono fun e w' ⟨he, hs⟩ => ⟨he, Pk.step hk hs⟩
theorem pk_write (P : PairOk Real PR) {i : Nat} (hi : i < halN n) {A : Option Addr} {c : Nat} {l : List Int} (hb : Byt l) (hq : q + 2 ≤ 900000) (h : Pk Real PR S w0 w d p s n m q (Kd.byt A 256 c l :: ks)) :
    Calls Tryz.prog 106 #[.pointer (some ⟨p, 0, none⟩), .int .i64 (i : Int), .slice A 256 c] w fun e w' => e = .returned (.tuple #[refV i (crcOf (nats l)), .nilIface]) ∧ Pk Real PR S w0 w' d p (pWrite s (halN n) i l) n m (q + 2) ks := by
  obtain ⟨F, G, h, hk⟩ := h
  obtain ⟨h1, h2⟩ := hk _ List.mem_cons_self
  exact (pd_write P h hi h1 (fun ad ha => (h2 _ ⟨ad, ha, by omega, rfl⟩).2) hb hq).mono fun e w' ⟨he, hs⟩ => ⟨he, Pk.step (fun K hK => hk K (List.mem_cons_of_mem _ hK)) hs⟩
theorem pk_writeBad (P : PairOk Real PR) {i : Int} (hi : i < 0 ∨ (halN n : Int) ≤ i) {A : Option Addr} {c : Nat} {l : List Int} (h : Pk Real PR S w0 w d p s n m q (Kd.byt A 256 c l :: ks)) :
    Calls Tryz.prog 106 #[.pointer (some ⟨p, 0, none⟩), .int .i64 i, .slice A 256 c] w fun e w' => ∃ a z v, EV S 103 v ∧ e = .returned (.tuple #[.agg #[.int .i64 a, .int .u32 z], v]) ∧ Pk Real PR S w0 w' d p s n m q ks := by
  obtain ⟨F, G, h, hk⟩ := h
  obtain ⟨h1, h2⟩ := hk _ List.mem_cons_self
  exact (pd_writeBad P h hi h1).mono fun e w' ⟨⟨a, z, v, hv, he⟩, hs⟩ => ⟨a, z, v, hv, he, Pk.step (fun K hK => hk K (List.mem_cons_of_mem _ hK)) hs⟩
/-- a Read that does well -/
theorem pk_read (P : PairOk Real PR) (h : Pk Real PR S w0 w d p s n m q ks) {i z r : Nat} {l : List Int} (hi : i < halN n) (hz : z < 4294967296) (hq : q + 1 ≤ 900000) (hm : m ≤ 1000) (h256 : l.length = 256) (he : pRead s (halN n) i z = (0, l, s', r)) :
    Calls Tryz.prog 78 #[.pointer (some ⟨p, 0, none⟩), refV i z] w fun e w' => ∃ A c, e = .returned (.tuple #[.slice A 256 c, .nilIface]) ∧ Pk Real PR S w0 w' d p s' n (m + r) (q + 1) (Kd.byt A 256 c l :: ks) := by
  obtain ⟨F, G, h, hk⟩ := h
  refine (pd_read P h hi hz hq hm).mono ?_
  rw [he]
  rintro e w' ⟨A, k, c, v, rfl, hv, hl, hs⟩
  have h1 := hl rfl
  have hle := h1.len
  rw [h256] at hle
  subst hle
  obtain ⟨F', G', h3, h4, h5⟩ := Pk.step' hk hs
  refine ⟨A, c, by rw [hv.nil], F', G', h3, fun K hK => ?_⟩
  rcases List.mem_cons.1 hK with rfl | hK
  · refine ⟨h1, fun g hg => ?_⟩
    obtain ⟨ad, ha, h0, rfl⟩ := hg
    exact ⟨(h1.at_ ad ha h0).1, (h5 rfl ad ha).2⟩
  · exact h4 K hK
/-- .. and one that finds neither -/
theorem pk_readNo (P : PairOk Real PR) (h : Pk Real PR S w0 w d p s n m q ks) {i z : Nat} {l : List Int} (hi : i < halN n) (hz : z < 4294967296) (hq : q + 1 ≤ 900000) (hm : m ≤ 1000) (he : pRead s (halN n) i z = (107, l, s, 0)) :
    Calls Tryz.prog 78 #[.pointer (some ⟨p, 0, none⟩), refV i z] w fun e w' => ∃ A k c v, EV S 107 v ∧ e = .returned (.tuple #[.slice A k c, v]) ∧ Pk Real PR S w0 w' d p s n m (q + 1) ks := by
  obtain ⟨F, G, h, hk⟩ := h
  refine (pd_read P h hi hz hq hm).mono ?_
  rw [he]
  rintro e w' ⟨A, k, c, v, rfl, hv, _, hs⟩
  exact ⟨A, k, c, v, hv, rfl, Pk.step hk hs⟩
theorem pk_readBad (P : PairOk Real PR) (h : Pk Real PR S w0 w d p s n m q ks) {i : Int} {z : Nat} (hi : i < 0 ∨ (halN n : Int) ≤ i) (hz : z < 4294967296) :
    Calls Tryz.prog 78 #[.pointer (some ⟨p, 0, none⟩), .agg #[.int .i64 i, .int .u32 (z : Int)]] w fun e w' => ∃ A k c v, EV S 103 v ∧ e = .returned (.tuple #[.slice A k c, v]) ∧ Pk Real PR S w0 w' d p s n m q ks := by
  obtain ⟨F, G, h, hk⟩ := h
  exact (pd_readBad P h hi hz).mono fun e w' ⟨⟨A, k, c, v, he, hv⟩, hs⟩ => ⟨A, k, c, v, hv, he, Pk.step hk hs⟩
theorem pk_mend (P : PairOk Real PR) (h : Pk Real PR S w0 w d p s n m q ks) {i z r : Nat} {code : Int} (hi : i < halN n) (hz : z < 4294967296) (hq : q + 1 ≤ 900000) (hm : m ≤ 1000) (he : pMend s (halN n) i z = (code, r, s')) :
    Calls Tryz.prog 71 #[.pointer (some ⟨p, 0, none⟩), refV i z] w fun e w' => ∃ v, EV S code v ∧ e = .returned (.tuple #[.int .i64 (r : Int), v]) ∧ Pk Real PR S w0 w' d p s' n (m + r) (q + 1) ks := by
  obtain ⟨F, G, h, hk⟩ := h
  refine (pd_mend P h hi hz hq hm).mono ?_
  rw [he]
  rintro e w' ⟨⟨v, he, hv⟩, hs⟩
  exact ⟨v, hv, he, Pk.step hk hs⟩
theorem pk_same (D : DevOk Real) (P : PairOk Real PR) (h : Pk Real PR S w0 w d p s n m q ks) {A B : Option Addr} {k c k' c' : Nat} {l l' : List Int} (hA : Kd.byt A k c l ∈ ks) (hB : Kd.byt B k' c' l' ∈ ks) :
    Calls Tryz.prog 34 #[.slice A k c, .slice B k' c'] w fun e w' => e = .returned (.bool (sameB l l')) ∧ Pk Real PR S w0 w' d p s n m q ks := by
  refine (same_any _ _ _ _ _ _ _ _ _ _ _ (h.bytes hA) (h.bytes hB)).mono ?_
  rintro e w' ⟨he, r, rfl⟩
  exact ⟨he, h.on D P ⟨rfl, rfl, rfl, Nat.le_refl _, fun _ _ => rfl⟩⟩
theorem pk_faulted (D : DevOk Real) (P : PairOk Real PR) (h : Pk Real PR S w0 w d p s n m q ks) (i : Int) :
    Calls Tryz.prog 30 #[.pointer (some ⟨d, 0, none⟩), .int .i64 i] w fun e w' => e = .returned (.bool (s.faulted i)) ∧ Pk Real PR S w0 w' d p s n m q ks := by
  have h0 := h
  obtain ⟨F, G, h, hk⟩ := h
  refine (D.faulted d s F i w h.real h.ok).mono ?_
  rintro e w' ⟨he, r, rfl⟩
  exact ⟨he, h0.on D P ⟨rfl, rfl, rfl, Nat.le_refl _, fun _ _ => rfl⟩⟩
theorem pk_geo (D : DevOk Real) (P : PairOk Real PR) (h : Pk Real PR S w0 w d p s n m q ks) :
    Calls Tryz.prog 68 #[.pointer (some ⟨p, 0, none⟩)] w fun e w' => e = .returned (gv (n : Int) (halN n : Int)) ∧ Pk Real PR S w0 w' d p s n m q ks := by
  have h0 := h
  obtain ⟨F, G, h, hk⟩ := h
  exact (P.geo p d n m G w h.pr).mono fun e w' ⟨he, hb⟩ => ⟨he, h0.on D P hb⟩
theorem pk_sees (D : DevOk Real) (P : PairOk Real PR) (h : Pk Real PR S w0 w d p s n m q ks) (hS : Sent w0 S) {c c' : Int} {v : Value} (hv : EV S c v) :
    Calls Tryz.prog 23 #[v, .int .i64 c'] w fun e w' => e = .returned (.bool (c == c')) ∧ Pk Real PR S w0 w' d p s n m q ks :=
  (is_any S c c' v w (hS.on h.below) hv).mono fun _ _ ⟨he, hb⟩ => ⟨he, h.on D P hb⟩
end
end Go.Proofs.YtaonhbmimaiiiaaGreatDoor
namespace Go.Proofs.YtaonhbmimaiiiaaGreatDoor
open Go.RowKit

/-- blocks i and j are a and c -/
structure At (s : DSt) (i j : Nat) (a c : BSt) : Prop where
  a : s.blks[i]? = some a
  c : s.blks[j]? = some c
/-- written and flushed -/
def cl (l : List Int) (e : Bool) : BSt := ⟨l, l, false, false, false, e⟩
theorem flush_write (b : BSt) (l : List Int) : (b.write l).flush = cl l b.ever := rfl
theorem flush_cl (l : List Int) (e : Bool) : (cl l e).flush = cl l e := rfl
theorem read_cl (l : List Int) (e : Bool) : (cl l e).read = (0, l) := rfl
theorem read_write (b : BSt) (l : List Int) : (b.write l).read = (0, l) := rfl
theorem right_of {b : BSt} {l : List Int} (h : b.read = (0, l)) : b.right (crcOf (nats l)) = true := by unfold BSt.right; rw [h]; simp
theorem right_failed (l : List Int) (e : Bool) (z : Nat) : (cl l e).failed.right z = false := rfl
theorem right_spoilt {l : List Int} (hl : Byt l) (h256 : l.length = 256) (e : Bool) {at' : Int} {bits : Nat} (h0 : 0 ≤ at') (h1 : at' ≤ 252) (hb : bits ≠ 0) (hb2 : bits < 4294967296) : ((cl l e).spoil at' bits).right (crcOf (nats l)) = false := by
  have e1 : ((cl l e).spoil at' bits).read = (0, turned l at' bits) := rfl
  unfold BSt.right
  rw [e1]
  simp [(turned_other hl h256 h0 h1 hb hb2).2]
section
variable {s : DSt} {n q i j H z : Nat} {a c : BSt} {l : List Int}
theorem At.new (hi : i < n) (hj : j < n) : At (DSt.new n) i j blank blank := ⟨new_at hi, new_at hj⟩
theorem At.write (h : At s i (i + H) a c) (hH : 0 < H) (l : List Int) : At (pWrite s H i l) i (i + H) (a.write l) (c.write l) := by
  unfold pWrite
  exact ⟨(put_else (by omega)).trans (put_at h.a), put_at ((put_else (by omega)).trans h.c)⟩
theorem At.fl (h : At s i j a c) : At (fl s) i j a.flush c.flush := ⟨fl_at h.a, fl_at h.c⟩
theorem At.put1 (h : At s i j a c) (hij : i ≠ j) (l : List Int) : At (s.put i l) i j (a.write l) c := ⟨put_at h.a, (put_else hij).trans h.c⟩
theorem At.put2 (h : At s i j a c) (hij : i ≠ j) (l : List Int) : At (s.put j l) i j a (c.write l) := ⟨(put_else (Ne.symm hij)).trans h.a, put_at h.c⟩
theorem spoil_yes {b : BSt} (hb : s.blks[i]? = some b) (hf : b.pend = false ∧ b.fault = false) {at' : Int} {bits : Nat} (h0 : 0 ≤ at') (h1 : at' ≤ 252) (hz : bits ≠ 0) : s.spoil (i : Int) at' bits = (true, s.turn (i : Int) (BSt.spoil at' bits)) := by
  unfold DSt.spoil
  rw [if_pos ⟨by rw [DSt.free_at hb, hf.1, hf.2]; rfl, h0, h1, hz⟩]
theorem fail_yes {b : BSt} (hb : s.blks[i]? = some b) (hf : b.pend = false ∧ b.fault = false) : s.fail (i : Int) = (true, s.turn (i : Int) BSt.failed) := by
  unfold DSt.fail
  rw [if_pos (by rw [DSt.free_at hb, hf.1, hf.2]; rfl)]
theorem At.turn1 (h : At s i j a c) (hij : i ≠ j) (f : BSt → BSt) : At (s.turn (i : Int) f) i j (f a) c := ⟨turn_at h.a, (turn_else hij).trans h.c⟩
theorem At.turn2 (h : At s i j a c) (hij : i ≠ j) (f : BSt → BSt) : At (s.turn (j : Int) f) i j a (f c) := ⟨(turn_else (Ne.symm hij)).trans h.a, turn_at h.c⟩
theorem pRead_one (u : Up s n q) (hi : i < n) (h : At s i (i + H) a c) (ha : a.right z = true) : pRead s H i z = (0, a.read.2, s, 0) := by
  unfold pRead
  rw [u.right hi h.a, if_pos ha, u.read hi h.a]
theorem pRead_two (u : Up s n q) (hi : i + H < n) (h : At s i (i + H) a c) (ha : a.right z = false) (hc : c.right z = true) : pRead s H i z = (0, c.read.2, s.put i c.read.2, 1) := by
  unfold pRead
  rw [u.right (by omega) h.a, if_neg (by rw [ha]; decide), u.right hi h.c, if_pos hc, u.read hi h.c]
theorem pRead_no (u : Up s n q) (hi : i + H < n) (h : At s i (i + H) a c) (ha : a.right z = false) (hc : c.right z = false) : pRead s H i z = (107, [], s, 0) := by
  unfold pRead
  rw [u.right (by omega) h.a, if_neg (by rw [ha]; decide), u.right hi h.c, if_neg (by rw [hc]; decide)]
theorem pMend_both (u : Up s n q) (hi : i + H < n) (h : At s i (i + H) a c) (ha : a.right z = true) (hc : c.right z = true) : pMend s H i z = (0, 0, s) := by
  unfold pMend
  rw [u.right (by omega) h.a, if_pos ha, u.right hi h.c, if_pos hc]
theorem pMend_two (u : Up s n q) (hi : i + H < n) (h : At s i (i + H) a c) (ha : a.right z = true) (hc : c.right z = false) : pMend s H i z = (0, 1, s.put (i + H) a.read.2) := by
  unfold pMend
  rw [u.right (by omega) h.a, if_pos ha, u.right hi h.c, if_neg (by rw [hc]; decide), u.read (by omega) h.a]
theorem pMend_one (u : Up s n q) (hi : i + H < n) (h : At s i (i + H) a c) (ha : a.right z = false) (hc : c.right z = true) : pMend s H i z = (0, 1, s.put i c.read.2) := by
  unfold pMend
  rw [u.right (by omega) h.a, if_neg (by rw [ha]; decide), u.right hi h.c, if_pos hc, u.read hi h.c]
theorem pMend_no (u : Up s n q) (hi : i + H < n) (h : At s i (i + H) a c) (ha : a.right z = false) (hc : c.right z = false) : pMend s H i z = (107, 0, s) := by
  unfold pMend
  rw [u.right (by omega) h.a, if_neg (by rw [ha]; decide), u.right hi h.c, if_neg (by rw [hc]; decide)]
theorem faulted_at (u : Up s n q) (hi : i < n) {b : BSt} (hb : s.blks[i]? = some b) : s.faulted (i : Int) = b.fault := by
  unfold DSt.faulted
  rw [u.inB hi, Int.toNat_natCast, hb]; rfl
end
section
variable {Real : World → Nat → DSt → (Nat → Prop) → Prop} {PR : World → Nat → Nat → Nat → Nat → (Nat → Prop) → Prop}
end
end Go.Proofs.YtaonhbmimaiiiaaGreatDoor
namespace Go.Proofs.YtaonhbmimaiiiaaGreatDoor
open Go.RowKit

theorem countP_modify {α : Type} (p : α → Bool) (f : α → α) : ∀ (l : List α) (i : Nat) (x : α), l[i]? = some x → p (f x) = true → (l.modify i f).countP p = l.countP p + (if p x = true then 0 else 1)
  | [], i, x, h, _ => by simp at h
  | y :: l, 0, x, h, hf => by
    simp at h
    subst h
    simp [List.countP_cons, hf]
    split <;> simp_all
  | y :: l, i + 1, x, h, hf => by
    simp at h
    have := countP_modify p f l i x h hf
    simp only [List.modify_succ_cons, List.countP_cons, this]
    omega
theorem put_pending {s : DSt} {i : Nat} {b : BSt} (h : s.blks[i]? = some b) (l : List Int) : (s.put i l).pending = s.pending + (if b.pend = true then 0 else 1) := countP_modify BSt.pend (BSt.write l) s.blks i b h rfl
theorem new_pending (n : Nat) : (DSt.new n).pending = 0 := by
  unfold DSt.pending DSt.new
  rw [List.countP_eq_zero]
  intro b hb
  rw [List.eq_of_mem_replicate hb]
  decide
section
variable {Real : World → Nat → DSt → (Nat → Prop) → Prop} {PR : World → Nat → Nat → Nat → Nat → (Nat → Prop) → Prop} {S : Nat → Addr} {w0 w w' : World} {d p n m q m' q' : Nat} {s s' : DSt} {ks : List Kd}
theorem pk_devRead (D : DevOk Real) (P : PairOk Real PR) (h : Pk Real PR S w0 w d p s n m q ks) {i : Nat} {b : BSt} {l : List Int} (hi : i < n) (hb : s.blks[i]? = some b) (hl : b.read = (0, l)) (h256 : l.length = 256) :
    Calls Tryz.prog 97 #[.pointer (some ⟨d, 0, none⟩), .int .i64 (i : Int)] w fun e w' => ∃ A c, e = .returned (.tuple #[.slice A 256 c, .nilIface]) ∧ Pk Real PR S w0 w' d p s n m q (Kd.byt A 256 c l :: ks) := by
  have h0 := h
  obtain ⟨F, G, h, hk⟩ := h
  refine (D.read S d s F i w h.sent h.real h.ok).mono ?_
  rw [h.up.read hi hb, hl]
  rintro e w' ⟨A, k, c, v, rfl, hv, hs, hb2, hn⟩
  have hlen := hs.len
  rw [h256] at hlen
  subst hlen
  exact ⟨A, c, by rw [hv.nil], h0.more D P hb2 hs hn⟩
end
end Go.Proofs.YtaonhbmimaiiiaaGreatDoor
namespace Go.Proofs.YtaonhbmimaiiiaaGreatDoor
open Go.RowKit

theorem Sn.lits (w : World) (l : List Int) (h : l.length ≤ 1000) : Sn (w.alloc (.cells (l.map (Value.int .i64)).toArray 3)) (w.alloc (.cells (l.map (Value.int .i64)).toArray 3)).heap.size (some ⟨w.heap.size, 0, none⟩) l.length l.length l := by
  refine ⟨rfl, Nat.le_refl _, by unfold maxLen; omega, (fun h => by cases h), fun ad ha hn => ?_⟩
  cases ha
  refine ⟨by simp, fun j x hx => ?_⟩
  have hb := Blk.new w 3 (l.map (Value.int .i64)).toArray
  have e : (⟨w.heap.size, 0, none⟩ : Addr).add j = ⟨w.heap.size, j, none⟩ := by
    unfold Addr.add; split
    · rename_i h0; subst h0; rfl
    · simp
  rw [e, hb.cell j]
  simp [hx]
theorem Up.crash {s : DSt} {n q : Nat} (h : Up s n q) (picks : List Int) : Up (s.crash picks) n q := ⟨rfl, rfl, by rw [crash_len]; exact h.len, okN_crash h.okN⟩
theorem crash_get {s : DSt} {k : Nat} {b : BSt} (h : s.blks[k]? = some b) (picks : List Int) : (s.crash picks).blks[k]? = some (b.crash (keepP picks ((s.blks.take k).countP BSt.pend))) := by
  unfold DSt.crash
  simp [List.getElem?_mapIdx, h, crashAt]
/-- nothing pending -/
def Calm (s : DSt) : Prop := ∀ b, b ∈ s.blks → b.pend = false
theorem calm_fl (s : DSt) : Calm (fl s) := by
  intro b hb
  simp only [fl, List.mem_map] at hb
  obtain ⟨a, _, rfl⟩ := hb
  unfold BSt.flush
  split
  · rfl
  · rename_i h; simpa using h
theorem calm_take {s : DSt} (h : Calm s) (k : Nat) : (s.blks.take k).countP BSt.pend = 0 := by
  rw [List.countP_eq_zero]
  intro b hb
  rw [h b (List.mem_of_mem_take hb)]
  decide
theorem take_modify_lt {α : Type} (l : List α) (f : α → α) {i k : Nat} (h : k ≤ i) : (l.modify i f).take k = l.take k := by
  apply List.ext_getElem?
  intro x
  simp only [List.getElem?_take, List.getElem?_modify]
  split
  · have : ¬ i = x := by omega
    simp [this]
  · rfl
theorem take_modify_ge {α : Type} (l : List α) (f : α → α) (i k : Nat) : (l.modify i f).take k = (l.take k).modify i f := by
  apply List.ext_getElem?
  intro x
  simp only [List.getElem?_take, List.getElem?_modify]
  split
  · rfl
  · rfl
/-- behind a write of a pair, nothing else pending, the power gone: each of the two as its pick says -/
theorem At.crash {s : DSt} {i H : Nat} {a c : BSt} (h : At s i (i + H) a c) (hc : Calm s) (hH : 0 < H) (l picks : List Int) :
    At ((pWrite s H i l).crash picks) i (i + H) ((a.write l).crash (keepP picks 0)) ((c.write l).crash (keepP picks 1)) := by
  have hw := h.write hH l
  have e : (pWrite s H i l).blks = (s.blks.modify i (BSt.write l)).modify (i + H) (BSt.write l) := by
    unfold pWrite DSt.put DSt.turn
    simp only [Int.toNat_natCast]
  have r0 : ((pWrite s H i l).blks.take i).countP BSt.pend = 0 := by
    rw [e, take_modify_lt _ _ (by omega), take_modify_lt _ _ (Nat.le_refl _)]
    exact calm_take hc i
  have r1 : ((pWrite s H i l).blks.take (i + H)).countP BSt.pend = 1 := by
    rw [e, take_modify_lt _ _ (Nat.le_refl _), take_modify_ge]
    have ht : (s.blks.take (i + H))[i]? = some a := by rw [List.getElem?_take, if_pos (by omega)]; exact h.a
    have := countP_modify BSt.pend (BSt.write l) _ i a ht rfl
    rw [this, calm_take hc, hc a (List.mem_of_getElem? h.a)]
    rfl
  have g0 := crash_get hw.a picks
  have g1 := crash_get hw.c picks
  rw [r0] at g0
  rw [r1] at g1
  exact ⟨g0, g1⟩
/-- a block whose write was dropped -/
def od (la lb : List Int) (e : Bool) : BSt := ⟨la, lb, false, false, false, e⟩
/-- .. kept, or dropped -/
def fb (k : Bool) (la lb : List Int) (e : Bool) : BSt := if k = true then cl lb e else od la lb e
theorem crash_cl (la lb : List Int) (e k : Bool) : ((cl la e).write lb).crash k = fb k la lb e := by
  cases k <;> rfl
theorem read_od (la lb : List Int) (e : Bool) : (od la lb e).read = (0, la) := rfl
section
variable {Real : World → Nat → DSt → (Nat → Prop) → Prop} {PR : World → Nat → Nat → Nat → Nat → (Nat → Prop) → Prop} {S : Nat → Addr} {w0 w w' : World} {d p n m q m' q' : Nat} {s s' : DSt} {ks : List Kd}
theorem pk_crash (D : DevOk Real) (P : PairOk Real PR) (h : Pk Real PR S w0 w d p s n m q ks) (l : List Int) (hl : l.length ≤ 1000) :
    Calls Tryz.prog 24 #[.pointer (some ⟨d, 0, none⟩), .slice (some ⟨w.heap.size, 0, none⟩) l.length l.length] (w.alloc (.cells (l.map (Value.int .i64)).toArray 3)) fun e w' => e = .returned (.tuple #[]) ∧ Pk Real PR S w0 w' d p (s.crash l) n m q ks := by
  have hlt : ∀ F G, Pd Real PR S w0 w d p s n m q F G → ¬ F w.heap.size := fun F G h hf => Nat.lt_irrefl _ (D.lt h.real _ hf)
  obtain ⟨F, G, h, hk⟩ := h
  have hb : Below w.heap.size w (w.alloc (.cells (l.map (Value.int .i64)).toArray 3)) := (Below.refl _ _).alloc (Nat.le_refl _) _
  have h2 := h.on D P hb
  have hk2 : ∀ K, K ∈ ks → K.P (w.alloc (.cells (l.map (Value.int .i64)).toArray 3)) F G := fun K hK => Kd.kept (hk K hK) (Only.of_below hb) (fun g _ a b => ⟨a, b⟩)
  refine (D.crash d s F _ _ _ l _ h2.real h2.ok (Sn.lits w l hl) (fun ad ha _ => by cases ha; exact hlt F G h) hl).mono ?_
  rintro e w' ⟨he, hu⟩
  obtain ⟨F', h3, ho, hf⟩ := h2.dev P hu (h2.up.crash l) h2.small
  exact ⟨he, Pk.step (Q := fun _ _ => True) hk2 ⟨F', G, h3, ho, hf, fun k hk => .inr (.inl hk), trivial⟩⟩
theorem pk_open (D : DevOk Real) (P : PairOk Real PR) (h : Pk Real PR S w0 w d p s n m q ks) :
    Calls Tryz.prog 50 #[.pointer (some ⟨d, 0, none⟩)] w fun e w' => ∃ p', e = .returned (.tuple #[.pointer (some ⟨p', 0, none⟩), .nilIface]) ∧ Pk Real PR S w0 w' d p' s n 0 q ks ∧ Below w.heap.size w w' := by
  obtain ⟨F, G, h, hk⟩ := h
  refine (P.open_ S d s F w h.sent h.real h.ok (by rw [h.up.len]; exact h.n0)).mono ?_
  rintro e w' ⟨p', G', he, hp, hb, hg⟩
  rw [h.up.len] at hp
  refine ⟨p', he, ⟨F, G', ⟨D.kept h.real (Kept.of_below hb (D.lt h.real)), hp, h.below.trans (hb.mono h.below.size), h.sent0, h.fn, fun k hk' => by have := hg k hk'; have := h.below.size; omega, fun k hk' hg' => by have := D.lt h.real k hk'; have := hg k hg'; omega, h.up, h.small, h.n0, h.n1⟩, fun K hK => ?_⟩, hb⟩
  exact Kd.kept (hk K hK) (Only.of_below hb) (fun g hlt h2 _ => ⟨h2, fun hg' => by have := hg g hg'; omega⟩)
/-- another device, and pairs over it, that lie beside -/
def Kd.two (D : DevOk Real) (P : PairOk Real PR) (c z : Nat) (s : DSt) (n m : Nat) (F G : Nat → Prop) : Kd where
  C w := Real w c s F ∧ PR w z c n m G
  B k := F k ∨ G k
  keeps := fun ⟨h1, h2⟩ _ hk => ⟨D.kept h1 ⟨fun i hi => hk.1 i (.inl hi), hk.2⟩, P.kept h2 ⟨fun i hi => hk.1 i (.inr hi), hk.2⟩⟩
/-- .. the device and the pairs lie below block B -/
def PkB (Real : World → Nat → DSt → (Nat → Prop) → Prop) (PR : World → Nat → Nat → Nat → Nat → (Nat → Prop) → Prop) (S : Nat → Addr) (w0 w : World) (d p : Nat) (s : DSt) (n m q : Nat) (ks : List Kd) (B : Nat) : Prop :=
  ∃ F G, Pd Real PR S w0 w d p s n m q F G ∧ (∀ K, K ∈ ks → K.P w F G) ∧ ∀ k, F k ∨ G k → k < B
theorem PkB.pk {B : Nat} (h : PkB Real PR S w0 w d p s n m q ks B) : Pk Real PR S w0 w d p s n m q ks := by obtain ⟨F, G, h, hk, _⟩ := h; exact ⟨F, G, h, hk⟩
/-- pairs opened over the copy -/
theorem pk_openTwo (D : DevOk Real) (P : PairOk Real PR) {wb : World} (h : PkB Real PR S w0 w d p s n m q ks wb.heap.size) {c : Nat} {Fc : Nat → Prop} (hc : Real w c s Fc) (hb : Below wb.heap.size wb w) (hf : ∀ k, Fc k → wb.heap.size ≤ k) :
    Calls Tryz.prog 50 #[.pointer (some ⟨c, 0, none⟩)] w fun e w' => ∃ z Gc, e = .returned (.tuple #[.pointer (some ⟨z, 0, none⟩), .nilIface]) ∧ Pk Real PR S w0 w' d p s n m q (Kd.two D P c z s n 0 Fc Gc :: ks) ∧ (∀ k, Fc k → ¬ Gc k) ∧ (∀ k, Fc k ∨ Gc k → wb.heap.size ≤ k) := by
  obtain ⟨F, G, h, hk, hFG⟩ := h
  refine (P.open_ S c s Fc w h.sent hc h.ok (by rw [h.up.len]; exact h.n0)).mono ?_
  rintro e w' ⟨z, Gc, he, hz, hb2, hg⟩
  rw [h.up.len] at hz
  have hsz := hb.size
  refine ⟨z, Gc, he, ⟨F, G, h.on D P hb2, fun K hK => ?_⟩, fun k h1 h2 => ?_, fun k hk' => ?_⟩
  · rcases List.mem_cons.1 hK with rfl | hK
    · refine ⟨⟨D.kept hc (Kept.of_below hb2 (D.lt hc)), hz⟩, fun g hg' => ?_⟩
      have hle : wb.heap.size ≤ g := by
        rcases hg' with h5 | h5
        · exact hf g h5
        · have := hg g h5; omega
      refine ⟨?_, fun h6 => by have := hFG g (.inl h6); omega, fun h6 => by have := hFG g (.inr h6); omega⟩
      rcases hg' with h5 | h5
      · have := D.lt hc g h5; have := hb2.size; omega
      · exact P.lt hz g h5
    · exact Kd.kept (hk K hK) (Only.of_below hb2) (fun g _ a b => ⟨a, b⟩)
  · have := D.lt hc k h1; have := hg k h2; omega
  · rcases hk' with h5 | h5
    · exact hf k h5
    · have := hg k h5; omega
theorem Pk.two_lt {D : DevOk Real} {P : PairOk Real PR} {c z n2 m2 : Nat} {s2 : DSt} {F2 G2 : Nat → Prop} (h : Pk Real PR S w0 w d p s n m q ks) (hK : Kd.two D P c z s2 n2 m2 F2 G2 ∈ ks) : ∀ k, F2 k ∨ G2 k → k < w.heap.size := by
  obtain ⟨F, G, h, hk⟩ := h
  exact fun k hk' => ((hk _ hK).2 k hk').1
/-- the other device's turn -/
theorem Pk.swap {D : DevOk Real} {P : PairOk Real PR} {c z m2 q2 : Nat} {s2 : DSt} {F2 G2 : Nat → Prop} {ls : List Kd} (h : Pk Real PR S w0 w d p s n m q ks) (hK : Kd.two D P c z s2 n m2 F2 G2 ∈ ks) (hu : Up s2 n q2) (hq : q2 ≤ 900000) (hap : ∀ k, F2 k → ¬ G2 k) (hle : ∀ k, F2 k ∨ G2 k → w0.heap.size ≤ k) (hls : ∀ K, K ∈ ls → K ∈ ks ∧ ∀ g, K.B g → ¬ F2 g ∧ ¬ G2 g) : Pk Real PR S w0 w c z s2 n m2 q2 ls := by
  obtain ⟨F, G, h, hk⟩ := h
  obtain ⟨⟨h1, h2⟩, _⟩ := hk _ hK
  exact ⟨F2, G2, ⟨h1, h2, h.below, h.sent0, fun k hk' => hle k (.inl hk'), fun k hk' => hle k (.inr hk'), hap, hu, hq, h.n0, h.n1⟩, fun K hK2 => ⟨(hk K (hls K hK2).1).1, fun g hg => ⟨((hk K (hls K hK2).1).2 g hg).1, (hls K hK2).2 g hg⟩⟩⟩
/-- a Read that does well, and tells that its bytes are new -/
theorem pk_readNew (P : PairOk Real PR) (h : Pk Real PR S w0 w d p s n m q ks) {i z r : Nat} {l : List Int} (hi : i < halN n) (hz : z < 4294967296) (hq : q + 1 ≤ 900000) (hm : m ≤ 1000) (h256 : l.length = 256) (he : pRead s (halN n) i z = (0, l, s', r)) :
    Calls Tryz.prog 78 #[.pointer (some ⟨p, 0, none⟩), refV i z] w fun e w' => ∃ A c, e = .returned (.tuple #[.slice A 256 c, .nilIface]) ∧ Pk Real PR S w0 w' d p s' n (m + r) (q + 1) (Kd.byt A 256 c l :: ks) ∧ ∀ ad, A = some ad → w.heap.size ≤ ad.block := by
  obtain ⟨F, G, h, hk⟩ := h
  refine (pd_read P h hi hz hq hm).mono ?_
  rw [he]
  rintro e w' ⟨A, k, c, v, rfl, hv, hl, hs⟩
  have h1 := hl rfl
  have hle := h1.len
  rw [h256] at hle
  subst hle
  obtain ⟨F', G', h3, h4, h5⟩ := Pk.step' hk hs
  refine ⟨A, c, by rw [hv.nil], ⟨F', G', h3, fun K hK => ?_⟩, fun ad ha => (h5 rfl ad ha).1⟩
  rcases List.mem_cons.1 hK with rfl | hK
  · refine ⟨h1, fun g hg => ?_⟩
    obtain ⟨ad, ha, h0, rfl⟩ := hg
    exact ⟨(h1.at_ ad ha h0).1, (h5 rfl ad ha).2⟩
  · exact h4 K hK
end
end Go.Proofs.YtaonhbmimaiiiaaGreatDoor
namespace Go.Proofs.YtaonhbmimaiiiaaGreatDoor

/-- a number's lowest bytes, the lowest first -/
def numB (k n : Nat) : List Int := (List.range k).map fun i => ((n / 256 ^ i % 256 : Nat) : Int)
theorem numB_len (k n : Nat) : (numB k n).length = k := by simp [numB]
theorem numB_succ (k n : Nat) : numB (k + 1) n = numB k n ++ [((n / 256 ^ k % 256 : Nat) : Int)] := by simp [numB, List.range_succ]
theorem numB_byt (k n : Nat) : Byt (numB k n) := by
  intro x hx
  simp only [numB, List.mem_map] at hx
  obtain ⟨i, _, rfl⟩ := hx
  have := Nat.mod_lt (n / 256 ^ i) (show 0 < 256 by omega)
  omega
/-- .. and back -/
def numOf : List Int → Nat
  | [] => 0
  | x :: l => x.toNat + 256 * numOf l
theorem numOf_snoc (l : List Int) (x : Int) : numOf (l ++ [x]) = numOf l + 256 ^ l.length * x.toNat := by
  induction l with
  | nil => simp [numOf]
  | cons y l ih =>
    simp only [List.cons_append, numOf, ih, List.length_cons, Nat.pow_succ]
    have : 256 * (256 ^ l.length * x.toNat) = 256 ^ l.length * 256 * x.toNat := by rw [Nat.mul_comm (256 ^ l.length) 256, Nat.mul_assoc]
    omega
theorem numOf_lt {l : List Int} (h : Byt l) : numOf l < 256 ^ l.length := by
  induction l with
  | nil => simp [numOf]
  | cons y l ih =>
    have hy := h y List.mem_cons_self
    have hl := ih fun x hx => h x (List.mem_cons_of_mem _ hx)
    simp only [numOf, List.length_cons, Nat.pow_succ]
    have : y.toNat ≤ 255 := by omega
    omega
theorem numOf_numB (k n : Nat) : numOf (numB k n) = n % 256 ^ k := by
  induction k with
  | zero => simp [numB, numOf, Nat.mod_one]
  | succ k ih => rw [numB_succ, numOf_snoc, ih, numB_len, Int.toNat_natCast, Nat.mod_pow_succ]
theorem numOf_zeros (k : Nat) : numOf (List.replicate k 0) = 0 := by
  induction k with
  | zero => rfl
  | succ k ih => rw [List.replicate_succ, numOf, ih]; rfl

/-- a root: how many commits, what it points to: places and sums -/
structure RSt where
  epoch : Int
  refs : List (Int × Nat)
theorem RSt.ext' {a b : RSt} (h1 : a.epoch = b.epoch) (h2 : a.refs = b.refs) : a = b := by
  cases a; cases b; simp_all
instance : DecidableEq RSt := fun a b => if h : a.epoch = b.epoch ∧ a.refs = b.refs then .isTrue (RSt.ext' h.1 h.2) else .isFalse fun e => h (by rw [e]; exact ⟨rfl, rfl⟩)
/-- a place that may not be -/
def badAddr (l : List (Int × Nat)) : Bool := l.any fun x => decide (x.1 < 0 ∨ 6000 < x.1)
/-- why there is no such root; 0: there is -/
def RSt.code (r : RSt) : Int := if r.epoch < 1 ∨ 1099511627776 < r.epoch then 103 else if badAddr r.refs = true then 103 else if 16 < r.refs.length then 104 else 0
/-- sums are sums -/
def Sums (l : List (Int × Nat)) : Prop := ∀ x, x ∈ l → x.2 < 4294967296
theorem Sums.at_ {l : List (Int × Nat)} (h : Sums l) {k : Nat} {x : Int × Nat} (hx : l[k]? = some x) : x.2 < 4294967296 := h x (List.mem_of_getElem? hx)
theorem RSt.fine {r : RSt} (h : r.code = 0) : 1 ≤ r.epoch ∧ r.epoch ≤ 1099511627776 ∧ (∀ x, x ∈ r.refs → 0 ≤ x.1 ∧ x.1 ≤ 6000) ∧ r.refs.length ≤ 16 := by
  unfold RSt.code at h
  split at h
  · cases h
  · split at h
    · cases h
    · split at h
      · cases h
      · rename_i h1 h2 h3
        refine ⟨by omega, by omega, fun x hx => ?_, by omega⟩
        simp only [badAddr, Bool.not_eq_true, List.any_eq_false, decide_eq_true_eq] at h2
        have := h2 x hx
        omega
theorem RSt.fine_iff {r : RSt} (h0 : 1 ≤ r.epoch) (h1 : r.epoch ≤ 1099511627776) (h2 : ∀ x, x ∈ r.refs → 0 ≤ x.1 ∧ x.1 ≤ 6000) (h3 : r.refs.length ≤ 16) : r.code = 0 := by
  unfold RSt.code
  rw [if_neg (by omega), if_neg, if_neg (by omega)]
  simp only [badAddr, Bool.not_eq_true, List.any_eq_false, decide_eq_true_eq]
  intro x hx
  have := h2 x hx
  omega
def refB (x : Int × Nat) : List Int := numB 2 x.1.toNat ++ numB 4 x.2
theorem refB_len (x : Int × Nat) : (refB x).length = 6 := by simp [refB, numB_len]
def refsB (l : List (Int × Nat)) : List Int := l.flatMap refB
theorem refsB_len (l : List (Int × Nat)) : (refsB l).length = 6 * l.length := by
  induction l with
  | nil => rfl
  | cons x l ih => simp only [refsB, List.flatMap_cons, List.length_append, List.length_cons] at ih ⊢; rw [ih, refB_len]; omega
theorem refsB_drop (l : List (Int × Nat)) (i : Nat) : (refsB l).drop (6 * i) = refsB (l.drop i) := by
  induction i generalizing l with
  | zero => simp
  | succ i ih =>
    rcases l with _ | ⟨x, l⟩
    · simp [refsB]
    · have e : 6 * (i + 1) = (refB x).length + 6 * i := by rw [refB_len]; omega
      have e2 : refsB (x :: l) = refB x ++ refsB l := by simp [refsB]
      rw [e2, e, List.drop_length_add_append, ih, List.drop_succ_cons]
theorem refsB_snoc (l : List (Int × Nat)) (x : Int × Nat) : refsB (l ++ [x]) = refsB l ++ refB x := by simp [refsB]
theorem refsB_byt (l : List (Int × Nat)) : Byt (refsB l) := by
  intro x hx
  simp only [refsB, List.mem_flatMap] at hx
  obtain ⟨y, _, hy⟩ := hx
  exact ((numB_byt 2 _).append (numB_byt 4 _)) x hy
/-- a root, laid once -/
def laidB (r : RSt) : List Int := numB 6 r.epoch.toNat ++ (numB 1 r.refs.length ++ refsB r.refs)
theorem laidB_len (r : RSt) : (laidB r).length = 7 + 6 * r.refs.length := by
  simp only [laidB, List.length_append, numB_len, refsB_len]; omega
theorem laidB_byt (r : RSt) : Byt (laidB r) := (numB_byt _ _).append ((numB_byt _ _).append (refsB_byt _))
def halfB (r : RSt) : List Int := laidB r ++ List.replicate (128 - (laidB r).length) 0
theorem halfB_len {r : RSt} (h : r.refs.length ≤ 16) : (halfB r).length = 128 := by
  have := laidB_len r
  simp only [halfB, List.length_append, List.length_replicate]; omega
theorem halfB_byt (r : RSt) : Byt (halfB r) := (laidB_byt r).append fun x hx => by rw [List.eq_of_mem_replicate hx]; omega
/-- a root, as a block has it -/
def bytesOf (r : RSt) : List Int := halfB r ++ halfB r
theorem bytesOf_len {r : RSt} (h : r.refs.length ≤ 16) : (bytesOf r).length = 256 := by
  rw [bytesOf, List.length_append, halfB_len h]
theorem bytesOf_byt (r : RSt) : Byt (bytesOf r) := (halfB_byt r).append (halfB_byt r)
theorem bytesOf_twice {r : RSt} (h : r.refs.length ≤ 16) {j : Nat} (hj : j < 128) : (bytesOf r)[j]? = (bytesOf r)[j + 128]? := by
  have hl := halfB_len h
  rw [bytesOf, List.getElem?_append_left (by omega), List.getElem?_append_right (by omega), hl, Nat.add_sub_cancel]
/-- what was laid at a block's beginning -/
def toldRef (b : List Int) (i : Nat) : Int × Nat := (((numOf ((b.drop (7 + 6 * i)).take 2) : Nat) : Int), numOf ((b.drop (9 + 6 * i)).take 4))
def toldN (b : List Int) : Nat := min (numOf ((b.drop 6).take 1)) 16
def told (b : List Int) : RSt := ⟨((numOf (b.take 6) : Nat) : Int), (List.range (toldN b)).map (toldRef b)⟩
theorem told_len (b : List Int) : (told b).refs.length ≤ 16 := by simp [told, toldN]; omega
theorem told_sums {b : List Int} (h : Byt b) : Sums (told b).refs := by
  intro x hx
  simp only [told, List.mem_map] at hx
  obtain ⟨i, _, rfl⟩ := hx
  have h1 := numOf_lt ((h.drop (9 + 6 * i)).take 4)
  have h2 : ((b.drop (9 + 6 * i)).take 4).length ≤ 4 := by rw [List.length_take]; omega
  have h3 : (256 : Nat) ^ ((b.drop (9 + 6 * i)).take 4).length ≤ 256 ^ 4 := Nat.pow_le_pow_right (by omega) h2
  have h4 : (256 : Nat) ^ 4 = 4294967296 := by decide
  show numOf ((b.drop (9 + 6 * i)).take 4) < 4294967296
  omega
theorem told_bytes {r : RSt} (h : r.code = 0) (hs : Sums r.refs) : told (bytesOf r) = r := by
  obtain ⟨h0, h1, h2, h3⟩ := r.fine h
  obtain ⟨rest, hrest⟩ : ∃ rest, bytesOf r = numB 6 r.epoch.toNat ++ (numB 1 r.refs.length ++ (refsB r.refs ++ rest)) := ⟨_, by simp only [bytesOf, halfB, laidB, List.append_assoc]; rfl⟩
  have e6 : (bytesOf r).take 6 = numB 6 r.epoch.toNat := by rw [hrest, List.take_left' (numB_len _ _)]
  have d6 : (bytesOf r).drop 6 = numB 1 r.refs.length ++ (refsB r.refs ++ rest) := by rw [hrest, List.drop_left' (numB_len _ _)]
  have e1 : ((bytesOf r).drop 6).take 1 = numB 1 r.refs.length := by rw [d6, List.take_left' (numB_len _ _)]
  have d7 : (bytesOf r).drop 7 = refsB r.refs ++ rest := by
    have : (bytesOf r).drop 7 = ((bytesOf r).drop 6).drop 1 := by rw [List.drop_drop]
    rw [this, d6, List.drop_left' (numB_len _ _)]
  have n0 : numOf ((bytesOf r).take 6) = r.epoch.toNat := by
    rw [e6, numOf_numB]
    have : (256 : Nat) ^ 6 = 281474976710656 := by decide
    rw [Nat.mod_eq_of_lt (by omega)]
  have n1 : toldN (bytesOf r) = r.refs.length := by
    unfold toldN
    rw [e1, numOf_numB, Nat.pow_one, Nat.mod_eq_of_lt (by omega)]
    omega
  refine RSt.ext' (by show ((numOf _ : Nat) : Int) = _; rw [n0]; omega) ?_
  show (List.range (toldN (bytesOf r))).map _ = _
  rw [n1]
  apply List.ext_getElem?
  intro i
  rw [List.getElem?_map]
  by_cases hi : i < r.refs.length
  · obtain ⟨x, hx⟩ : ∃ x, r.refs[i]? = some x := ⟨_, List.getElem?_eq_getElem hi⟩
    rw [List.getElem?_range hi, hx]
    have dx : (bytesOf r).drop (7 + 6 * i) = refB x ++ (refsB (r.refs.drop (i + 1)) ++ rest) := by
      have : (bytesOf r).drop (7 + 6 * i) = ((bytesOf r).drop 7).drop (6 * i) := by rw [List.drop_drop]
      have hl := refsB_len r.refs
      have e2 : ∀ (a : Int × Nat) l, refsB (a :: l) = refB a ++ refsB l := fun a l => by simp [refsB]
      have hd : r.refs.drop i = x :: r.refs.drop (i + 1) := by
        obtain ⟨hk, rfl⟩ := List.getElem?_eq_some_iff.1 hx
        exact List.drop_eq_getElem_cons hk
      rw [this, d7, List.drop_append_of_le_length (by omega), refsB_drop, hd, e2, List.append_assoc]
    have d2 : (bytesOf r).drop (9 + 6 * i) = numB 4 x.2 ++ (refsB (r.refs.drop (i + 1)) ++ rest) := by
      have : (bytesOf r).drop (9 + 6 * i) = ((bytesOf r).drop (7 + 6 * i)).drop 2 := by rw [List.drop_drop]; congr 1; omega
      rw [this, dx, refB, List.append_assoc, List.drop_left' (numB_len _ _)]
    have hv := h2 x (List.mem_of_getElem? hx)
    have hz := hs.at_ hx
    show some (toldRef (bytesOf r) i) = some x
    unfold toldRef
    rw [d2, List.take_left' (numB_len _ _), dx, refB, List.append_assoc, List.take_left' (numB_len _ _), numOf_numB, numOf_numB]
    have p2 : (256 : Nat) ^ 2 = 65536 := by decide
    have p4 : (256 : Nat) ^ 4 = 4294967296 := by decide
    rw [Nat.mod_eq_of_lt (by omega), Nat.mod_eq_of_lt (by omega)]
    congr 1
    exact Prod.ext (by show ((x.1.toNat : Nat) : Int) = x.1; omega) rfl
  · rw [List.getElem?_eq_none (by simpa using hi), List.getElem?_eq_none (by omega)]; rfl

/-- the root that bytes are -/
def readR (b : List Int) : Option RSt := if b.length = 256 ∧ (told b).code = 0 ∧ bytesOf (told b) = b then some (told b) else none
theorem readR_bytes {r : RSt} (h : r.code = 0) (hs : Sums r.refs) : readR (bytesOf r) = some r := by
  have e := told_bytes h hs
  unfold readR
  rw [e, if_pos ⟨bytesOf_len (r.fine h).2.2.2, h, rfl⟩]
theorem readR_inv {b : List Int} {r : RSt} (h : readR b = some r) : b.length = 256 ∧ r.code = 0 ∧ bytesOf r = b ∧ told b = r := by
  unfold readR at h
  split at h
  · rename_i h1
    injection h with h
    subst h
    exact ⟨h1.1, h1.2.1, h1.2.2, rfl⟩
  · cases h
theorem readR_short {b : List Int} (h : b.length ≠ 256) : readR b = none := by
  unfold readR; rw [if_neg fun h1 => h h1.1]
theorem readR_zeros : readR (List.replicate 256 0) = none := by
  unfold readR
  rw [if_neg]
  rintro ⟨_, h, _⟩
  have e : (told (List.replicate 256 0)).epoch = 0 := by
    show ((numOf ((List.replicate 256 (0 : Int)).take 6) : Nat) : Int) = 0
    rw [List.take_replicate, numOf_zeros]; rfl
  have := (RSt.fine h).1
  omega
/-- four bytes in a row turned: none -/
theorem readR_turned {r : RSt} (h : r.refs.length ≤ 16) (at' : Int) (bits : Nat) (hne : turned (bytesOf r) at' bits ≠ bytesOf r) : readR (turned (bytesOf r) at' bits) = none := by
  rcases hr : readR (turned (bytesOf r) at' bits) with _ | x
  · rfl
  · exfalso
    obtain ⟨_, hc, hb, _⟩ := readR_inv hr
    have hx := (RSt.fine hc).2.2.2
    refine hne ?_
    have hat : ¬ at' < 0 := fun h0 => hne (by unfold turned; rw [if_pos h0])
    obtain ⟨p, rfl⟩ : ∃ p : Nat, at' = (p : Int) := ⟨at'.toNat, by omega⟩
    have et : turned (bytesOf r) (p : Int) bits = turns (bytesOf r) p bits 4 := by
      unfold turned; rw [if_neg hat, Int.toNat_natCast]
    rw [et] at hb ⊢
    have tw : ∀ j, j < 128 → (turns (bytesOf r) p bits 4)[j]? = (turns (bytesOf r) p bits 4)[j + 128]? := fun j hj => by
      rw [← hb]; exact bytesOf_twice hx hj
    have out : ∀ j, ¬ (p ≤ j ∧ j < p + 4) → (turns (bytesOf r) p bits 4)[j]? = (bytesOf r)[j]? := fun j hj => by
      rw [turns_get]
      cases (bytesOf r)[j]? <;> simp [hj]
    have hl := bytesOf_len h
    apply List.ext_getElem?
    intro j
    by_cases hj : p ≤ j ∧ j < p + 4
    · rcases Nat.lt_or_ge j 128 with h1 | h1
      · rw [tw j h1, out (j + 128) (by omega), bytesOf_twice h h1]
      · rcases Nat.lt_or_ge j 256 with h2 | h2
        · obtain ⟨i, rfl⟩ : ∃ i, j = i + 128 := ⟨j - 128, by omega⟩
          rw [← tw i (by omega), out i (by omega), bytesOf_twice h (by omega)]
        · rw [List.getElem?_eq_none (by rw [turns_len]; omega), List.getElem?_eq_none (by omega)]
    · exact out j hj
theorem readR_told {r : RSt} (h : r.code = 0) (hs : Sums r.refs) (at' : Int) (bits : Nat) : readR (turned (bytesOf r) at' bits) = if turned (bytesOf r) at' bits = bytesOf r then some r else none := by
  split
  · rename_i e; rw [e]; exact readR_bytes h hs
  · rename_i e; exact readR_turned (r.fine h).2.2.2 at' bits e

/-- of two roots the one of the greater Epoch -/
def better (out : RSt) (o : Option RSt) : RSt := match o with
  | some r => if out.epoch < r.epoch then r else out
  | none => out
def noRoot : RSt := ⟨0, []⟩
/-- of four blocks -/
def newestOf (a b c d : Option RSt) : RSt := better (better (better (better noRoot a) b) c) d
/-- how many have it -/
def has (r : RSt) (o : Option RSt) : Nat := if o = some r then 1 else 0
def copiesOf (a b c d : Option RSt) : Nat :=
  if (newestOf a b c d).epoch = 0 then 0 else if (newestOf a b c d).epoch % 2 = 0 then has (newestOf a b c d) a + has (newestOf a b c d) b else has (newestOf a b c d) c + has (newestOf a b c d) d
/-- what block i is, if it can be read and is one -/
def DSt.root (s : DSt) (i : Nat) : Option RSt := readR (s.read (i : Int)).2
/-- Save: the error's number, the device -/
def saveR (s : DSt) (H : Nat) (r : RSt) : Int × DSt :=
  if r.code ≠ 0 then (r.code, s) else
  if (s.write (r.epoch % 2) (bytesOf r)).1 ≠ 0 then s.write (r.epoch % 2) (bytesOf r) else
  if ((s.write (r.epoch % 2) (bytesOf r)).2.write (r.epoch % 2 + H) (bytesOf r)).1 ≠ 0 then (s.write (r.epoch % 2) (bytesOf r)).2.write (r.epoch % 2 + H) (bytesOf r) else
  ((s.write (r.epoch % 2) (bytesOf r)).2.write (r.epoch % 2 + H) (bytesOf r)).2.flush
end Go.Proofs.YtaonhbmimaiiiaaGreatDoor
