/- The power gone behind a write of a pair; pairs opened anew; a device and its copy side by side. -/
import Derived.Test.YthgdofcamjkdpaaDoorGPairD
namespace Go.Proofs.YthgdofcamjkdpaaDoor
open Go.RowKit

theorem Sn.lits (w : World) (l : List Int) (h : l.length ≤ 1000) : Sn (w.alloc (.cells (l.map (Value.int .i64)).toArray 3)) (w.alloc (.cells (l.map (Value.int .i64)).toArray 3)).heap.size (some ⟨w.heap.size, 0, none⟩) l.length l.length l := by
  refine ⟨rfl, Nat.le_refl _, by unfold maxLen; omega, (fun h => by cases h), fun ad ha hn => ?_⟩
  cases ha
  refine ⟨by simp, fun j x hx => ?_⟩
  have hb := Blk.new w 3 (l.map (Value.int .i64)).toArray
  have e : (⟨w.heap.size, 0, none⟩ : Addr).add j = ⟨w.heap.size, j, none⟩ := by
    unfold Addr.add; split
    · rename_i h0; subst h0; rfl
    · simp
  rw [e, hb.cell j]
  simp [hx]
theorem Up.crash {s : DSt} {n q : Nat} (h : Up s n q) (picks : List Int) : Up (s.crash picks) n q := ⟨rfl, rfl, by rw [crash_len]; exact h.len, okN_crash h.okN⟩
theorem crash_get {s : DSt} {k : Nat} {b : BSt} (h : s.blks[k]? = some b) (picks : List Int) : (s.crash picks).blks[k]? = some (b.crash (keepP picks ((s.blks.take k).countP BSt.pend))) := by
  unfold DSt.crash
  simp [List.getElem?_mapIdx, h, crashAt]
/-- nothing pending -/
def Calm (s : DSt) : Prop := ∀ b, b ∈ s.blks → b.pend = false
theorem calm_fl (s : DSt) : Calm (fl s) := by
  intro b hb
  simp only [fl, List.mem_map] at hb
  obtain ⟨a, _, rfl⟩ := hb
  unfold BSt.flush
  split
  · rfl
  · rename_i h; simpa using h
theorem calm_take {s : DSt} (h : Calm s) (k : Nat) : (s.blks.take k).countP BSt.pend = 0 := by
  rw [List.countP_eq_zero]
  intro b hb
  rw [h b (List.mem_of_mem_take hb)]
  decide
theorem take_modify_lt {α : Type} (l : List α) (f : α → α) {i k : Nat} (h : k ≤ i) : (l.modify i f).take k = l.take k := by
  apply List.ext_getElem?
  intro x
  simp only [List.getElem?_take, List.getElem?_modify]
  split
  · have : ¬ i = x := by omega
    simp [this]
  · rfl
theorem take_modify_ge {α : Type} (l : List α) (f : α → α) (i k : Nat) : (l.modify i f).take k = (l.take k).modify i f := by
  apply List.ext_getElem?
  intro x
  simp only [List.getElem?_take, List.getElem?_modify]
  split
  · rfl
  · rfl
/-- behind a write of a pair, nothing else pending, the power gone: each of the two as its pick says -/
theorem At.crash {s : DSt} {i H : Nat} {a c : BSt} (h : At s i (i + H) a c) (hc : Calm s) (hH : 0 < H) (l picks : List Int) :
    At ((pWrite s H i l).crash picks) i (i + H) ((a.write l).crash (keepP picks 0)) ((c.write l).crash (keepP picks 1)) := by
  have hw := h.write hH l
  have e : (pWrite s H i l).blks = (s.blks.modify i (BSt.write l)).modify (i + H) (BSt.write l) := by
    unfold pWrite DSt.put DSt.turn
    simp only [Int.toNat_natCast]
  have r0 : ((pWrite s H i l).blks.take i).countP BSt.pend = 0 := by
    rw [e, take_modify_lt _ _ (by omega), take_modify_lt _ _ (Nat.le_refl _)]
    exact calm_take hc i
  have r1 : ((pWrite s H i l).blks.take (i + H)).countP BSt.pend = 1 := by
    rw [e, take_modify_lt _ _ (Nat.le_refl _), take_modify_ge]
    have ht : (s.blks.take (i + H))[i]? = some a := by rw [List.getElem?_take, if_pos (by omega)]; exact h.a
    have := countP_modify BSt.pend (BSt.write l) _ i a ht rfl
    rw [this, calm_take hc, hc a (List.mem_of_getElem? h.a)]
    rfl
  have g0 := crash_get hw.a picks
  have g1 := crash_get hw.c picks
  rw [r0] at g0
  rw [r1] at g1
  exact ⟨g0, g1⟩
/-- a block whose write was dropped -/
def od (la lb : List Int) (e : Bool) : BSt := ⟨la, lb, false, false, false, e⟩
/-- .. kept, or dropped -/
def fb (k : Bool) (la lb : List Int) (e : Bool) : BSt := if k = true then cl lb e else od la lb e
theorem crash_cl (la lb : List Int) (e k : Bool) : ((cl la e).write lb).crash k = fb k la lb e := by
  cases k <;> rfl
theorem read_od (la lb : List Int) (e : Bool) : (od la lb e).read = (0, la) := rfl
section
variable {Real : World → Nat → DSt → (Nat → Prop) → Prop} {PR : World → Nat → Nat → Nat → Nat → (Nat → Prop) → Prop} {S : Nat → Addr} {w0 w w' : World} {d p n m q m' q' : Nat} {s s' : DSt} {ks : List Kd}
theorem pk_crash (D : DevOk Real) (P : PairOk Real PR) (h : Pk Real PR S w0 w d p s n m q ks) (l : List Int) (hl : l.length ≤ 1000) :
    Calls Tryd.prog 17 #[.pointer (some ⟨d, 0, none⟩), .slice (some ⟨w.heap.size, 0, none⟩) l.length l.length] (w.alloc (.cells (l.map (Value.int .i64)).toArray 3)) fun e w' => e = .returned (.tuple #[]) ∧ Pk Real PR S w0 w' d p (s.crash l) n m q ks := by
  have hlt : ∀ F G, Pd Real PR S w0 w d p s n m q F G → ¬ F w.heap.size := fun F G h hf => Nat.lt_irrefl _ (D.lt h.real _ hf)
  obtain ⟨F, G, h, hk⟩ := h
  have hb : Below w.heap.size w (w.alloc (.cells (l.map (Value.int .i64)).toArray 3)) := (Below.refl _ _).alloc (Nat.le_refl _) _
  have h2 := h.on D P hb
  have hk2 : ∀ K, K ∈ ks → K.P (w.alloc (.cells (l.map (Value.int .i64)).toArray 3)) F G := fun K hK => Kd.kept (hk K hK) (Only.of_below hb) (fun g _ a b => ⟨a, b⟩)
  refine (D.crash d s F _ _ _ l _ h2.real h2.ok (Sn.lits w l hl) (fun ad ha _ => by cases ha; exact hlt F G h) hl).mono ?_
  rintro e w' ⟨he, hu⟩
  obtain ⟨F', h3, ho, hf⟩ := h2.dev P hu (h2.up.crash l) h2.small
  exact ⟨he, Pk.step (Q := fun _ _ => True) hk2 ⟨F', G, h3, ho, hf, fun k hk => .inr (.inl hk), trivial⟩⟩
theorem pk_open (D : DevOk Real) (P : PairOk Real PR) (h : Pk Real PR S w0 w d p s n m q ks) :
    Calls Tryd.prog 28 #[.pointer (some ⟨d, 0, none⟩)] w fun e w' => ∃ p', e = .returned (.tuple #[.pointer (some ⟨p', 0, none⟩), .nilIface]) ∧ Pk Real PR S w0 w' d p' s n 0 q ks ∧ Below w.heap.size w w' := by
  obtain ⟨F, G, h, hk⟩ := h
  refine (P.open_ S d s F w h.sent h.real h.ok (by rw [h.up.len]; exact h.n0)).mono ?_
  rintro e w' ⟨p', G', he, hp, hb, hg⟩
  rw [h.up.len] at hp
  refine ⟨p', he, ⟨F, G', ⟨D.kept h.real (Kept.of_below hb (D.lt h.real)), hp, h.below.trans (hb.mono h.below.size), h.sent0, h.fn, fun k hk' => by have := hg k hk'; have := h.below.size; omega, fun k hk' hg' => by have := D.lt h.real k hk'; have := hg k hg'; omega, h.up, h.small, h.n0, h.n1⟩, fun K hK => ?_⟩, hb⟩
  exact Kd.kept (hk K hK) (Only.of_below hb) (fun g hlt h2 _ => ⟨h2, fun hg' => by have := hg g hg'; omega⟩)
/-- another device, and pairs over it, that lie beside -/
def Kd.two (D : DevOk Real) (P : PairOk Real PR) (c z : Nat) (s : DSt) (n m : Nat) (F G : Nat → Prop) : Kd where
  C w := Real w c s F ∧ PR w z c n m G
  B k := F k ∨ G k
  keeps := fun ⟨h1, h2⟩ _ hk => ⟨D.kept h1 ⟨fun i hi => hk.1 i (.inl hi), hk.2⟩, P.kept h2 ⟨fun i hi => hk.1 i (.inr hi), hk.2⟩⟩
/-- .. the device and the pairs lie below block B -/
def PkB (Real : World → Nat → DSt → (Nat → Prop) → Prop) (PR : World → Nat → Nat → Nat → Nat → (Nat → Prop) → Prop) (S : Nat → Addr) (w0 w : World) (d p : Nat) (s : DSt) (n m q : Nat) (ks : List Kd) (B : Nat) : Prop :=
  ∃ F G, Pd Real PR S w0 w d p s n m q F G ∧ (∀ K, K ∈ ks → K.P w F G) ∧ ∀ k, F k ∨ G k → k < B
theorem PkB.pk {B : Nat} (h : PkB Real PR S w0 w d p s n m q ks B) : Pk Real PR S w0 w d p s n m q ks := by obtain ⟨F, G, h, hk, _⟩ := h; exact ⟨F, G, h, hk⟩
/-- pairs opened over the copy -/
theorem pk_openTwo (D : DevOk Real) (P : PairOk Real PR) {wb : World} (h : PkB Real PR S w0 w d p s n m q ks wb.heap.size) {c : Nat} {Fc : Nat → Prop} (hc : Real w c s Fc) (hb : Below wb.heap.size wb w) (hf : ∀ k, Fc k → wb.heap.size ≤ k) :
    Calls Tryd.prog 28 #[.pointer (some ⟨c, 0, none⟩)] w fun e w' => ∃ z Gc, e = .returned (.tuple #[.pointer (some ⟨z, 0, none⟩), .nilIface]) ∧ Pk Real PR S w0 w' d p s n m q (Kd.two D P c z s n 0 Fc Gc :: ks) ∧ (∀ k, Fc k → ¬ Gc k) ∧ (∀ k, Fc k ∨ Gc k → wb.heap.size ≤ k) := by
  obtain ⟨F, G, h, hk, hFG⟩ := h
  refine (P.open_ S c s Fc w h.sent hc h.ok (by rw [h.up.len]; exact h.n0)).mono ?_
  rintro e w' ⟨z, Gc, he, hz, hb2, hg⟩
  rw [h.up.len] at hz
  have hsz := hb.size
  refine ⟨z, Gc, he, ⟨F, G, h.on D P hb2, fun K hK => ?_⟩, fun k h1 h2 => ?_, fun k hk' => ?_⟩
  · rcases List.mem_cons.1 hK with rfl | hK
    · refine ⟨⟨D.kept hc (Kept.of_below hb2 (D.lt hc)), hz⟩, fun g hg' => ?_⟩
      have hle : wb.heap.size ≤ g := by
        rcases hg' with h5 | h5
        · exact hf g h5
        · have := hg g h5; omega
      refine ⟨?_, fun h6 => by have := hFG g (.inl h6); omega, fun h6 => by have := hFG g (.inr h6); omega⟩
      rcases hg' with h5 | h5
      · have := D.lt hc g h5; have := hb2.size; omega
      · exact P.lt hz g h5
    · exact Kd.kept (hk K hK) (Only.of_below hb2) (fun g _ a b => ⟨a, b⟩)
  · have := D.lt hc k h1; have := hg k h2; omega
  · rcases hk' with h5 | h5
    · exact hf k h5
    · have := hg k h5; omega
theorem Pk.two_lt {D : DevOk Real} {P : PairOk Real PR} {c z n2 m2 : Nat} {s2 : DSt} {F2 G2 : Nat → Prop} (h : Pk Real PR S w0 w d p s n m q ks) (hK : Kd.two D P c z s2 n2 m2 F2 G2 ∈ ks) : ∀ k, F2 k ∨ G2 k → k < w.heap.size := by
  obtain ⟨F, G, h, hk⟩ := h
  exact fun k hk' => ((hk _ hK).2 k hk').1
/-- the other device's turn -/
theorem Pk.swap {D : DevOk Real} {P : PairOk Real PR} {c z m2 q2 : Nat} {s2 : DSt} {F2 G2 : Nat → Prop} {ls : List Kd} (h : Pk Real PR S w0 w d p s n m q ks) (hK : Kd.two D P c z s2 n m2 F2 G2 ∈ ks) (hu : Up s2 n q2) (hq : q2 ≤ 1000) (hap : ∀ k, F2 k → ¬ G2 k) (hle : ∀ k, F2 k ∨ G2 k → w0.heap.size ≤ k) (hls : ∀ K, K ∈ ls → K ∈ ks ∧ ∀ g, K.B g → ¬ F2 g ∧ ¬ G2 g) : Pk Real PR S w0 w c z s2 n m2 q2 ls := by
  obtain ⟨F, G, h, hk⟩ := h
  obtain ⟨⟨h1, h2⟩, _⟩ := hk _ hK
  exact ⟨F2, G2, ⟨h1, h2, h.below, h.sent0, fun k hk' => hle k (.inl hk'), fun k hk' => hle k (.inr hk'), hap, hu, hq, h.n0, h.n1⟩, fun K hK2 => ⟨(hk K (hls K hK2).1).1, fun g hg => ⟨((hk K (hls K hK2).1).2 g hg).1, (hls K hK2).2 g hg⟩⟩⟩
end
end Go.Proofs.YthgdofcamjkdpaaDoor
