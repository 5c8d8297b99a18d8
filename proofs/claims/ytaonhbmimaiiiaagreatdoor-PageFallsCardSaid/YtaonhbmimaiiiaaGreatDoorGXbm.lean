/- Put together out of 3 texts. Package page: a store over a device that is armed, carried along a walk; the device behind a fall. -/
import Derived.Test.YtaonhbmimaiiiaaGreatDoorGXbl
import Derived.Test.YtaonhbmimaiiiaaGreatDoorGXbd
import Derived.Test.YtaonhbmimaiiiaaGreatDoorGXbh
namespace Go.Proofs.YtaonhbmimaiiiaaGreatDoor
open Go.RowKit Go.Maps

/-- the power went in a commit: the device alone -/
def DvFell (Real : World → Nat → DSt → (Nat → Prop) → Prop) (w : World) (d n q : Nat) (T : Nat → Prop) (s : DSt) (P : PS) (ch : Chg) (w' : World) : Prop :=
  ∃ u F', Real w' d u.fall F' ∧ CFall s P ch (halN n) u ∧ Up u n q ∧ Only T w w' ∧ ∀ k, F' k → T k ∨ w.heap.size ≤ k
section
variable {Real : World → Nat → DSt → (Nat → Prop) → Prop} {PR : World → Nat → Nat → Nat → Nat → (Nat → Prop) → Prop} {S : Nat → Addr} {w0 w w' : World} {d g n q mk k : Nat} {T : Nat → Prop} {s : DSt} {P : PS} {ch : Chg} {cont : Cont}
theorem sh_armed (h : Shop Real PR S w0 w d g n q mk T s P ch) : Shop (RealA Real 0) PR S w0 w d g n q mk T s P ch := by
  obtain ⟨p, mm, m, F, G, Dm, C, h1, h2⟩ := h
  exact ⟨p, mm, m, F, G, Dm, C, pa_of_pd h1, h2⟩
theorem sh_unarmed (h : Shop (RealA Real 0) PR S w0 w d g n q mk T s P ch) : Shop Real PR S w0 w d g n q mk T s P ch := by
  obtain ⟨p, mm, m, F, G, Dm, C, h1, h2⟩ := h
  exact ⟨p, mm, m, F, G, Dm, C, pd_of_pa h1, h2⟩
theorem shA_lt (D : DevOk Real) (O : PairOk Real PR) (h : Shop (RealA Real k) PR S w0 w d g n q mk T s P ch) : ∀ x, T x → x < w.heap.size := fun x hk => by
  obtain ⟨p, mm, m, F, G, Dm, C, h1, h2, h3, h4, h5, h6, h7, h8⟩ := h
  rcases (h8 x).1 hk with h | h | h | h | h
  · exact D.lt (s := s.armed k) h1.real x h
  · exact O.lt h1.pr x h
  · rw [h]; exact h3.box.lt
  · rw [h]; exact h3.chd.map.lt
  · exact (h3.chd.lt x h).1
theorem shA_beside (D : DevOk Real) (O : PairOk Real PR) {K : Nat → Prop} (h : Shop (RealA Real k) PR S w0 w d g n q mk T s P ch) (ho : Only K w w') (hK : ∀ k, T k → ¬ K k) (hB : ∀ k, K k → w0.heap.size ≤ k) : Shop (RealA Real k) PR S w0 w' d g n q mk T s P ch := by
  obtain ⟨p, mm, m, F, G, Dm, C, h1, h2, h3, h4, h5, h6, h7, h8⟩ := h
  exact ⟨p, mm, m, F, G, Dm, C, paBeside D O h1 ho (fun k hk => hK k ((h8 k).2 (.inl hk))) (fun k hk => hK k ((h8 k).2 (.inr (.inl hk)))) hB, h2, h3.only ho (hK g ((h8 g).2 (.inr (.inr (.inl rfl))))) (hK mm ((h8 mm).2 (.inr (.inr (.inr (.inl rfl)))))) (fun k hk => hK k ((h8 k).2 (.inr (.inr (.inr (.inr hk)))))), h4, h5, h6, h7, h8⟩
theorem sh_arm (D : DevOk Real) (O : PairOk Real PR) (h : Shop (RealA Real k) PR S w0 w d g n q mk T s P ch) (hk : k ≤ 1000) (j : Nat) :
    Calls Tryz.prog 18 #[.pointer (some ⟨d, 0, none⟩), .int .i64 (j : Int)] w fun e w' => e = .returned (.tuple #[]) ∧ ShopUpd (RealA Real j) PR S w0 w d g n q mk T s P ch w' := by
  obtain ⟨p, mm, m, F, G, Dm, C, k1, k2, k3, k4, k5, k6, k7, k8⟩ := h
  have hr : Real w d (s.armed k) F := k1.real
  refine (D.arm d (s.armed k) F (j : Int) w hr (k1.up.armed_ok (by have := k1.small; omega) hk)).mono ?_
  rintro e w' ⟨rfl, hu⟩
  have hu' : RealUpd Real w d (s.armed j) F w' := hu
  obtain ⟨F', i1, i2, i3⟩ := paDev O k1 hu' k1.up k1.small
  exact ⟨rfl, shop_step k3 k4 k5 k6 k7 k8 i1 i2 i3 (fun k hk => .inr (.inl hk)) k2⟩
/-- Down, of a device that is armed, or fallen -/
theorem sh_down (D : DevOk Real) (h : Shop (RealA Real k) PR S w0 w d g n q mk T s P ch) (hk : k ≤ 1000) :
    Calls Tryz.prog 22 #[.pointer (some ⟨d, 0, none⟩)] w (Quiet w (.bool false)) := by
  obtain ⟨p, mm, m, F, G, Dm, C, k1, _⟩ := h
  have hr : Real w d (s.armed k) F := k1.real
  have hd : (s.armed k).down = false := k1.up.down
  rw [← hd]
  exact D.down d (s.armed k) F w hr (k1.up.armed_ok (by have := k1.small; omega) hk)
theorem sh_commitNoneA (h : Shop (RealA Real k) PR S w0 w d g n q mk T s P ch) (h0 : (keysOf ch).length = 0) :
    Calls Tryz.prog 21 #[.pointer (some ⟨g, 0, none⟩)] w fun e w' => e = .returned .nilIface ∧ w' = w := by
  obtain ⟨p, mm, m1, F, G, Dm, C, k1, k2, k3, _⟩ := h
  exact commitNone_any g d p mm Dm C w k3 h0
theorem sh_commitA (D : DevOk Real) (O : PairOk Real PR) (OA : PairArm Real PR) (hS : Sent7 w0 S) (h : Shop (RealA Real k) PR S w0 w d g n q mk T s P ch) (hkl : k ≤ 1000) (hk : Keeps s n q P cont) (h0 : 0 < (keysOf ch).length) (hf : fitsB P ch (halN n) = true) (hq : q ≤ 600000) :
    Calls Tryz.prog 21 #[.pointer (some ⟨g, 0, none⟩)] w fun e w' => (e = .returned .nilIface ∧ ∃ k', k' ≤ 1000 ∧ ShopUpd (RealA Real k') PR S w0 w d g n (q + 1000) mk T (comDev P ch s (halN n)) (commitTo P ch s (halN n)).2 noChg w') ∨ ∃ v, e = .returned v ∧ EV S 106 v ∧ DvFell Real w d n (q + 1000) T s P ch w' := by
  obtain ⟨hg1, hg2⟩ := h.chg
  obtain ⟨p, mm, m1, F, G, Dm, C, k1, k2, k3, k4, k5, k6, k7, k8⟩ := h
  have he := hk.ep1
  have he0 := hk.ep0
  have hfr : 0 < (freeOf P (halN n)).length := by
    have h9 := free_len hk.fine.apart
    have h10 := hk.fine.room
    have h11 := hk.fine.apart.two
    omega
  have hep := commitTo_epoch P ch s (halN n)
  have hH : halN n ≤ 512 := by unfold halN; omega
  have hcode := (root_code (com_fine (s := s) hk.fine hH hg1 hg2 hf) hH (by omega) (by omega)).1
  refine (commitA_any D O OA S w0 w g d p mm n m1 q k Dm C F G s k3 k1 hkl (Sent7.six' hS) ⟨k7.1, k7.2.1⟩ k4 k5 k6 h0 hk.ep0 (by omega) hk.fine.small hf hfr hq hcode).mono ?_
  have hgl := k3.box.lt
  have hml := k3.chd.map.lt
  rintro e w' (⟨rfl, k', hk', F', G', i1, i2, i3, i4, i5⟩ | ⟨v, rfl, hv, u, F', f1, f2, f3, f4, f5⟩)
  · left
    have out : ∀ k, k < w.heap.size → ¬ (F k ∨ G k) → ¬ (F' k ∨ G' k) := fun k hk hn h => by
      rcases h with h | h
      · rcases i4 k h with h | h | h
        · exact hn (.inl h)
        · exact hn (.inr h)
        · omega
      · rcases i5 k h with h | h | h
        · exact hn (.inl h)
        · exact hn (.inr h)
        · omega
    refine ⟨rfl, k', hk', fun k => F' k ∨ G' k ∨ k = g ∨ k = mm ∨ False, ⟨p, mm, m1, F', G', _, _, i1, k2, i2, out g hgl k4, out mm hml k5, fun _ h => h.elim, ⟨k7.1, k7.2.1, fun _ h => h.elim⟩, fun _ => Iff.rfl⟩, i3.mono (fun i hi => .inl ((k8 i).2 ?_)), fun k hk => ?_⟩
    · rcases hi with hi | hi | hi | hi
      · exact .inl hi
      · exact .inr (.inl hi)
      · exact .inr (.inr (.inl hi))
      · exact .inr (.inr (.inr (.inl hi)))
    · rcases hk with hk | hk | hk | hk | hk
      · rcases i4 k hk with h | h | h
        · exact .inl ((k8 k).2 (.inl h))
        · exact .inl ((k8 k).2 (.inr (.inl h)))
        · exact .inr h
      · rcases i5 k hk with h | h | h
        · exact .inl ((k8 k).2 (.inl h))
        · exact .inl ((k8 k).2 (.inr (.inl h)))
        · exact .inr h
      · exact .inl ((k8 k).2 (.inr (.inr (.inl hk))))
      · exact .inl ((k8 k).2 (.inr (.inr (.inr (.inl hk)))))
      · exact hk.elim
  · right
    refine ⟨v, rfl, hv, u, F', f1, f2, f3, f4.mono (fun i hi => .inl ((k8 i).2 ?_)), fun x hx => ?_⟩
    · rcases hi with hi | hi | hi | hi
      · exact .inl hi
      · exact .inr (.inl hi)
      · exact .inr (.inr (.inl hi))
      · exact .inr (.inr (.inr (.inl hi)))
    · rcases f5 x hx with h | h | h
      · exact .inl ((k8 x).2 (.inl h))
      · exact .inl ((k8 x).2 (.inr (.inl h)))
      · exact .inr h
/-- Open, armed -/
theorem dv_openA (D : DevOk Real) (O : PairOk Real PR) (OA : PairArm Real PR) (hS : Sent7 w0 S) {F : Nat → Prop} (hb0 : Below w0.heap.size w0 w) (hr : Real w d (s.armed k) F) (hk : k ≤ 1000) (hF : ∀ k, F k → w0.heap.size ≤ k) (hst : Stays s n q P cont) (hq : q ≤ 600000) (n0 : 300 ≤ n) (n1 : n ≤ 6000) :
    Calls Tryz.prog 15 #[.pointer (some ⟨d, 0, none⟩)] w fun e w' => (∃ v, e = .returned v) ∧ Opd Real w d n q F F P cont w' := by
  have h1 := hst.ep1
  have h0 := hst.ep0
  by_cases he : P.epoch = 0
  · have e := hst.new he
    rw [e] at hst ⊢
    exact openNewA_any D O S w0 w d n q k F cont s (Sent7.six' hS) hb0 hr hk hF hst (by omega) n0 n1
  · exact openOldA_any D O OA S w0 w d n q k F P cont s (Sent7.six' hS) hb0 hr hk hF hst (by omega) n0 n1 ⟨by omega, by omega⟩
/-- Open, the power on, behind whatever fell -/
theorem dv_open (D : DevOk Real) (O : PairOk Real PR) (hS : Sent7 w0 S) {F : Nat → Prop} (hb0 : Below w0.heap.size w0 w) (hr : Real w d s F) (hF : ∀ k, F k → w0.heap.size ≤ k) (hst : Stays s n q P cont) (hq : q ≤ 600000) (n0 : 300 ≤ n) (n1 : n ≤ 6000) :
    Calls Tryz.prog 15 #[.pointer (some ⟨d, 0, none⟩)] w fun e w' => ∃ g' T' s', e = .returned (.tuple #[.pointer (some ⟨g', 0, none⟩), .nilIface]) ∧ Shop Real PR S w0 w' d g' n (q + 10) 7 T' s' P noChg ∧ Keeps s' n (q + 10) P cont ∧ Calm s' ∧ Only F w w' ∧ ∀ k, T' k → F k ∨ w.heap.size ≤ k := by
  have hu := hst.up
  have fin : ∀ e w' s' q', q' ≤ q + 10 → Up s' n (q + 10) → Keeps s' n (q + 10) P cont → Calm s' → OpenR Real PR S w0 w d s' n q' P F e w' → ∃ g' T' s', e = .returned (.tuple #[.pointer (some ⟨g', 0, none⟩), .nilIface]) ∧ Shop Real PR S w0 w' d g' n (q + 10) 7 T' s' P noChg ∧ Keeps s' n (q + 10) P cont ∧ Calm s' ∧ Only F w w' ∧ ∀ k, T' k → F k ∨ w.heap.size ≤ k := by
    rintro e w' s' q' _ hup hkp hcm ⟨g', p, mm, m, F', G', rfl, k1, k2, k3, k4, k5, k6, k7, k8, k9, k10⟩
    have hz := hb0.size
    refine ⟨g', fun k => F' k ∨ G' k ∨ k = g' ∨ k = mm ∨ False, s', rfl, ⟨p, mm, m, F', G', _, _, ⟨k1.real, k1.pr, k1.below, k1.sent0, k1.fn, k1.gn, k1.ap, hup, by omega, n0, n1⟩, k2, k3, k4, k5, fun _ h => h.elim, ⟨by omega, by omega, fun _ h => h.elim⟩, fun _ => Iff.rfl⟩, hkp, hcm, k8, fun k hk => ?_⟩
    rcases hk with hk | hk | hk | hk | hk
    · exact k9 k hk
    · exact k10 k hk
    · exact .inr (by omega)
    · exact .inr (by omega)
    · exact hk.elim
  by_cases h0 : P.epoch = 0
  · have e := hst.new h0
    have hro := hst.roots
    rw [e] at hro
    refine (openNew_any D O S w0 w d n q F s (Sent7.six' hS) hb0 hr hF hu (by omega) n0 n1 hro).mono ?_
    intro e' w' h
    rw [← e] at h
    exact fin e' w' s q (by omega) (hu.more (by omega)) ((stays_keeps0 hst h0).more (by omega)) hst.calm h
  · have h1 : 1 ≤ P.epoch := by have := hst.ep0; omega
    have h2 := hst.ep1
    obtain ⟨k1, k2, k3⟩ := stays_keeps hst (by omega) n0 (by omega)
    refine (openOld_any D O S w0 w d n q F P cont s (Sent7.six' hS) hb0 hr hF hu (by omega) n0 n1 hst.fine hst.held hst.roots ⟨h1, by omega⟩).mono ?_
    intro e' w' h
    exact fin e' w' _ (q + 10) (by omega) k3 k1 k2 h
end
end Go.Proofs.YtaonhbmimaiiiaaGreatDoor
namespace Go.Proofs.YtaonhbmimaiiiaaGreatDoor
open Go.RowKit Go.Maps

section
variable {w w' : World} {T T' K : Nat → Prop} {f f' x : Nat → Value} {M M' : Mdl}
theorem MdOk.putNow (h : MdOk w T f M) (N : Nat → List Int) (hx : ∀ i, i < 30 → ∃ A n c, x i = .slice A n c ∧ Sl w w.heap.size A n c (N i) ∧ ∀ ad, A = some ad → 0 < n → ¬ T ad.block) : MdOk w T (putF f 0 30 x) { M with now := N } where
  now := fun i hi => by
    have := putF_at f (o := 0) (m := 30) (i := i) x hi
    rw [Nat.zero_add] at this; rw [this]; exact hx i hi
  was := fun i hi => by rw [putF_ne _ _ (by omega)]; exact h.was i hi
  on := fun i hi => by rw [putF_ne _ _ (by omega)]; exact h.on i hi
  had := fun i hi => by rw [putF_ne _ _ (by omega)]; exact h.had i hi
  ep := by rw [putF_ne _ _ (by omega)]; exact h.ep
  tch := fun i hi => by rw [putF_ne _ _ (by omega)]; exact h.tch i hi
theorem MdOk.putWas (h : MdOk w T f M) (N : Nat → List Int) (hx : ∀ i, i < 30 → ∃ A n c, x i = .slice A n c ∧ Sl w w.heap.size A n c (N i) ∧ ∀ ad, A = some ad → 0 < n → ¬ T ad.block) : MdOk w T (putF f 30 30 x) { M with was := N } where
  now := fun i hi => by rw [putF_ne _ _ (by omega)]; exact h.now i hi
  was := fun i hi => by rw [putF_at _ _ hi]; exact hx i hi
  on := fun i hi => by rw [putF_ne _ _ (by omega)]; exact h.on i hi
  had := fun i hi => by rw [putF_ne _ _ (by omega)]; exact h.had i hi
  ep := by rw [putF_ne _ _ (by omega)]; exact h.ep
  tch := fun i hi => by rw [putF_ne _ _ (by omega)]; exact h.tch i hi
theorem MdOk.putOn (h : MdOk w T f M) (b : Nat → Bool) (hx : ∀ i, i < 30 → x i = .bool (b i)) : MdOk w T (putF f 60 30 x) { M with on := b } where
  now := fun i hi => by rw [putF_ne _ _ (by omega)]; exact h.now i hi
  was := fun i hi => by rw [putF_ne _ _ (by omega)]; exact h.was i hi
  on := fun i hi => by rw [putF_at _ _ hi]; exact hx i hi
  had := fun i hi => by rw [putF_ne _ _ (by omega)]; exact h.had i hi
  ep := by rw [putF_ne _ _ (by omega)]; exact h.ep
  tch := fun i hi => by rw [putF_ne _ _ (by omega)]; exact h.tch i hi
theorem MdOk.putHad (h : MdOk w T f M) (b : Nat → Bool) (hx : ∀ i, i < 30 → x i = .bool (b i)) : MdOk w T (putF f 90 30 x) { M with had := b } where
  now := fun i hi => by rw [putF_ne _ _ (by omega)]; exact h.now i hi
  was := fun i hi => by rw [putF_ne _ _ (by omega)]; exact h.was i hi
  on := fun i hi => by rw [putF_ne _ _ (by omega)]; exact h.on i hi
  had := fun i hi => by rw [putF_at _ _ hi]; exact hx i hi
  ep := by rw [putF_ne _ _ (by omega)]; exact h.ep
  tch := fun i hi => by rw [putF_ne _ _ (by omega)]; exact h.tch i hi
theorem MdOk.congr (h : MdOk w T f M) (he : ∀ i, i < 151 → f' i = f i) : MdOk w T f' M where
  now := fun i hi => by rw [he _ (by omega)]; exact h.now i hi
  was := fun i hi => by rw [he _ (by omega)]; exact h.was i hi
  on := fun i hi => by rw [he _ (by omega)]; exact h.on i hi
  had := fun i hi => by rw [he _ (by omega)]; exact h.had i hi
  ep := by rw [he _ (by omega)]; exact h.ep
  tch := fun i hi => by rw [he _ (by omega)]; exact h.tch i hi
/-- a whole model laid over another one -/
theorem MdOk.putAll (h : MdOk w T f M) (f0 : Nat → Value) : MdOk w T (putF f0 0 151 f) M :=
  h.congr (fun i hi => by
    have := putF_at f0 (o := 0) (m := 151) (i := i) f hi
    rw [Nat.zero_add] at this; exact this)
theorem MdOk.less (h : MdOk w T f M) (hT : ∀ k, T' k → T k) : MdOk w T' f M := h.only (K := fun _ => False) (Only.refl _ _) (fun _ h => h.elim) (fun k hk => .inl (hT k hk))
theorem MdOk.one (h : MdOk w T f M) (i : Nat) (hi : i < 151) : (f i).oneCell' = true := by
  rcases Nat.lt_or_ge i 30 with h1 | h1
  · exact h.oneNow i h1
  · rcases Nat.lt_or_ge i 60 with h2 | h2
    · have := h.oneWas (i - 30) (by omega); rwa [show 30 + (i - 30) = i by omega] at this
    · rcases Nat.lt_or_ge i 90 with h3 | h3
      · have := h.oneOn (i - 60) (by omega); rwa [show 60 + (i - 60) = i by omega] at this
      · rcases Nat.lt_or_ge i 120 with h4 | h4
        · have := h.oneHad (i - 90) (by omega); rwa [show 90 + (i - 90) = i by omega] at this
        · rcases Nat.lt_or_ge i 121 with h5 | h5
          · rw [show i = 120 by omega, h.ep]; rfl
          · have := h.tch (i - 121) (by omega); rw [show 121 + (i - 121) = i by omega] at this; rw [this]; rfl
end
/-- what stays when things beside it turn -/
structure Bsd (St : (Nat → Prop) → World → Prop) (B : Nat) : Prop where
  beside : ∀ T K w w', St T w → Only K w w' → (∀ k, T k → ¬ K k) → (∀ k, K k → B ≤ k) → St T w'
  lt : ∀ T w, St T w → ∀ k, T k → k < w.heap.size
/-- models at some blocks, each in its cells, beside what lies in T -/
structure Mols (St : (Nat → Prop) → World → Prop) (B : Nat) (w : World) (T : Nat → Prop) (L : List (Nat × (Nat → Value) × Mdl)) : Prop where
  st : St T w
  base : ∀ x, x ∈ L → B ≤ x.1
  off : ∀ x, x ∈ L → ¬ T x.1
  nodup : (L.map (·.1)).Nodup
  blk : ∀ x, x ∈ L → Blk w x.1 34 (fnL 151 x.2.1).toArray
  md : ∀ x, x ∈ L → MdOk w (fun k => T k ∨ k ∈ L.map (·.1)) x.2.1 x.2.2
section
variable {St St' : (Nat → Prop) → World → Prop} {B : Nat} {w w' : World} {T T' : Nat → Prop} {L : List (Nat × (Nat → Value) × Mdl)} {b : Nat} {f x : Nat → Value} {M M' : Mdl}
theorem Mols.lt (h : Mols St B w T L) {y : Nat × (Nat → Value) × Mdl} (hy : y ∈ L) : y.1 < w.heap.size := (h.blk y hy).lt
theorem Mols.mem (h : Mols St B w T L) {k : Nat} (hk : k ∈ L.map (·.1)) : k < w.heap.size ∧ ¬ T k ∧ B ≤ k := by
  obtain ⟨y, hy, rfl⟩ := List.mem_map.1 hk
  exact ⟨h.lt hy, h.off y hy, h.base y hy⟩
/-- a call of what lies in T -/
theorem Mols.step (h : Mols St B w T L) (hst : St' T' w') (ho : Only T w w') (hT : ∀ k, T' k → T k ∨ w.heap.size ≤ k) : Mols St' B w' T' L where
  st := hst
  base := h.base
  off := fun y hy hk => (hT _ hk).elim (h.off y hy) (fun e => by have := h.lt hy; omega)
  nodup := h.nodup
  blk := fun y hy => (ho.block y.1 (h.lt hy) (h.off y hy)).trans (h.blk y hy)
  md := fun y hy => (h.md y hy).only ho (fun k hk => .inl (.inl hk)) (fun k hk => hk.elim (fun h => (hT k h).imp .inl id) (fun h => .inl (.inr h)))
theorem Mols.on (Q : Bsd St B) (h : Mols St B w T L) (hb : Below w.heap.size w w') : Mols St B w' T L :=
  h.step (Q.beside T (fun _ => False) w w' h.st (Only.of_below hb) (fun _ _ h => h) (fun _ h => h.elim)) (Only.of_below hb) (fun _ hk => .inl hk)
theorem Mols.turn {St' : (Nat → Prop) → World → Prop} (h : Mols St B w T L) (hst : St' T w) : Mols St' B w T L := ⟨hst, h.base, h.off, h.nodup, h.blk, h.md⟩
/-- one of the models turned, in its own block -/
theorem Mols.set (Q : Bsd St B) (h : Mols St B w T L) {i : Nat} (hi : L[i]? = some (b, f, M)) {f' : Nat → Value} (ho : Only (fun k => k = b) w w') (hblk : Blk w' b 34 (fnL 151 f').toArray) (hmd : MdOk w (fun k => T k ∨ k ∈ L.map (·.1)) f' M') : Mols St B w' T (L.set i (b, f', M')) := by
  have hm : (b, f, M) ∈ L := List.mem_of_getElem? hi
  have hlen : i < L.length := (List.getElem?_eq_some_iff.1 hi).1
  have e : (L.set i (b, f', M')).map (·.1) = L.map (·.1) := by
    rw [List.map_set]
    apply List.ext_getElem?
    intro j
    rw [List.getElem?_set]
    by_cases hj : i = j
    · subst hj; rw [if_pos rfl, if_pos (by rw [List.length_map]; exact hlen), List.getElem?_map, hi]; rfl
    · rw [if_neg hj]
  have hbn : ¬ T b := h.off _ hm
  have md' : ∀ {g : Nat → Value} {N : Mdl}, MdOk w (fun k => T k ∨ k ∈ L.map (·.1)) g N → MdOk w' (fun k => T k ∨ k ∈ (L.set i (b, f', M')).map (·.1)) g N := fun hg => by
    rw [e]
    exact hg.only ho (fun k hk => .inl (.inr (by rw [hk]; exact List.mem_map.2 ⟨_, hm, rfl⟩))) (fun k hk => .inl hk)
  have mem : ∀ y, y ∈ L.set i (b, f', M') → y = (b, f', M') ∨ (y ∈ L ∧ y.1 ≠ b) := fun y hy => by
    obtain ⟨j, hj⟩ := List.getElem?_of_mem hy
    rw [List.getElem?_set] at hj
    by_cases hij : i = j
    · subst hij; rw [if_pos rfl, if_pos hlen] at hj; injection hj with hj; exact .inl hj.symm
    · rw [if_neg hij] at hj
      refine .inr ⟨List.mem_of_getElem? hj, fun e1 => hij ?_⟩
      have hj2 := (List.getElem?_eq_some_iff.1 hj).1
      have a1 : (L.map (·.1))[i]'(by rw [List.length_map]; exact hlen) = b := by
        rw [List.getElem_map]; rw [List.getElem?_eq_getElem hlen] at hi; injection hi with hi; rw [hi]
      have a2 : (L.map (·.1))[j]'(by rw [List.length_map]; exact hj2) = b := by
        rw [List.getElem_map]; rw [List.getElem?_eq_getElem hj2] at hj; injection hj with hj; rw [hj]; exact e1
      exact (List.getElem_inj h.nodup).1 (a1.trans a2.symm)
  refine ⟨Q.beside T _ w w' h.st ho (fun k hk e => hbn (e ▸ hk)) (fun k e => by rw [e]; exact h.base _ hm), fun y hy => ?_, fun y hy => ?_, by rw [e]; exact h.nodup, fun y hy => ?_, fun y hy => ?_⟩
  · rcases mem y hy with rfl | ⟨h1, _⟩
    · exact h.base (b, f, M) hm
    · exact h.base y h1
  · rcases mem y hy with rfl | ⟨h1, _⟩
    · exact hbn
    · exact h.off y h1
  · rcases mem y hy with rfl | ⟨h1, h2⟩
    · exact hblk
    · exact (ho.block y.1 (h.lt h1) h2).trans (h.blk y h1)
  · rcases mem y hy with rfl | ⟨h1, _⟩
    · exact md' hmd
    · exact md' (h.md y h1)
theorem Mols.puts (Q : Bsd St B) (h : Mols St B w T L) {i : Nat} (hi : L[i]? = some (b, f, M)) {o m : Nat} (hm : o + m ≤ 151) (hmd : MdOk w (fun k => T k ∨ k ∈ L.map (·.1)) (putF f o m x) M') : Mols St B (w.setCells b o (fnL m x)) T (L.set i (b, putF f o m x, M')) :=
  h.set Q hi (only_puts o (fnL m x)) (blkF_puts (h.blk _ (List.mem_of_getElem? hi)) hm x) hmd
theorem Mols.up (Q : Bsd St B) (h : Mols St B w T L) {i : Nat} (hi : L[i]? = some (b, f, M)) {o : Nat} {v : Value} (hmd : MdOk w (fun k => T k ∨ k ∈ L.map (·.1)) (upF f o v) M') : Mols St B (w.setCell ⟨b, o, none⟩ v) T (L.set i (b, upF f o v, M')) :=
  h.set Q hi ((Only.refl (fun k => k = b) w).put (p := ⟨b, o, none⟩) rfl v) (blkF_up (h.blk _ (List.mem_of_getElem? hi)) o v) hmd
/-- a new one, like one that is there -/
theorem Mols.copy (Q : Bsd St B) (h : Mols St B w T L) {y : Nat × (Nat → Value) × Mdl} (hy : y ∈ L) (hB : B ≤ w.heap.size) : Mols St B (w.alloc (.cells (fnL 151 y.2.1).toArray 34)) T (L ++ [(w.heap.size, y.2.1, y.2.2)]) := by
  have hbl : Below w.heap.size w (w.alloc (.cells (fnL 151 y.2.1).toArray 34)) := (Below.refl _ _).alloc (Nat.le_refl _) _
  have h1 := h.on Q hbl
  have e : (L ++ [(w.heap.size, y.2.1, y.2.2)]).map (·.1) = L.map (·.1) ++ [w.heap.size] := by rw [List.map_append]; rfl
  have md' : ∀ {g : Nat → Value} {N : Mdl}, MdOk w (fun k => T k ∨ k ∈ L.map (·.1)) g N → MdOk (w.alloc (.cells (fnL 151 y.2.1).toArray 34)) (fun k => T k ∨ k ∈ (L ++ [(w.heap.size, y.2.1, y.2.2)]).map (·.1)) g N := fun hg => by
    rw [e]
    refine hg.only (K := fun _ => False) (Only.of_below hbl) (fun _ h => h.elim) (fun k hk => ?_)
    rcases hk with hk | hk
    · exact .inl (.inl hk)
    · rcases List.mem_append.1 hk with hk | hk
      · exact .inl (.inr hk)
      · exact .inr (by have : k = w.heap.size := by simpa using hk
                       omega)
  have mem : ∀ z, z ∈ L ++ [(w.heap.size, y.2.1, y.2.2)] → z ∈ L ∨ z = (w.heap.size, y.2.1, y.2.2) := fun z hz => by
    rcases List.mem_append.1 hz with hz | hz
    · exact .inl hz
    · exact .inr (by simpa using hz)
  refine ⟨h1.st, fun z hz => ?_, fun z hz => ?_, ?_, fun z hz => ?_, fun z hz => ?_⟩
  · rcases mem z hz with hz | rfl
    · exact h.base z hz
    · exact hB
  · rcases mem z hz with hz | rfl
    · exact h.off z hz
    · exact fun hk => by have := Q.lt T w h.st _ hk; simp only at this; omega
  · rw [e]
    refine List.nodup_append.2 ⟨h.nodup, by simp, fun a ha c hc e1 => ?_⟩
    have h2 : c = w.heap.size := by simpa using hc
    have := (h.mem ha).1
    omega
  · rcases mem z hz with hz | rfl
    · exact h1.blk z hz
    · exact Blk.new w _ _
  · rcases mem z hz with hz | rfl
    · exact md' (h.md z hz)
    · exact md' (h.md y hy)
/-- the first one alone -/
theorem Mols.first (h : Mols St B w T ((b, f, M) :: L)) : St T w ∧ B ≤ b ∧ MdAt w T b M := by
  refine ⟨h.st, h.base _ (List.mem_cons_self ..), f, h.off _ (List.mem_cons_self ..), h.blk _ (List.mem_cons_self ..), (h.md _ (List.mem_cons_self ..)).less (fun k hk => ?_)⟩
  rcases hk with hk | hk
  · exact .inl hk
  · exact .inr (by rw [hk]; exact List.mem_cons_self ..)
theorem mols_one (hst : St T w) (hB : B ≤ b) (hn : ¬ T b) (hblk : Blk w b 34 (fnL 151 f).toArray) (hmd : MdOk w (fun k => T k ∨ k = b) f M) : Mols St B w T [(b, f, M)] := by
  refine ⟨hst, fun y hy => ?_, fun y hy => ?_, by simp, fun y hy => ?_, fun y hy => ?_⟩
  all_goals have e : y = (b, f, M) := by simpa using hy
  all_goals subst e
  · exact hB
  · exact hn
  · exact hblk
  · exact hmd.less (fun k hk => hk.imp id (fun h => by simpa using h))
end
end Go.Proofs.YtaonhbmimaiiiaaGreatDoor
namespace Go.Proofs.YtaonhbmimaiiiaaGreatDoor
open Go.RowKit Go.Maps

/-- the device alone, new since w0 -/
def RealT (Real : World → Nat → DSt → (Nat → Prop) → Prop) (w0 : World) (d : Nat) (t : DSt) : (Nat → Prop) → World → Prop := fun T w => Real w d t T ∧ Below w0.heap.size w0 w ∧ ∀ k, T k → w0.heap.size ≤ k
/-- a store over it -/
def ShT (Real : World → Nat → DSt → (Nat → Prop) → Prop) (PR : World → Nat → Nat → Nat → Nat → (Nat → Prop) → Prop) (S : Nat → Addr) (w0 : World) (d g n q k : Nat) (s : DSt) (P : PS) (ch : Chg) : (Nat → Prop) → World → Prop := fun T w => Shop (RealA Real k) PR S w0 w d g n q 7 T s P ch
/-- .. with nothing armed -/
def ShR (Real : World → Nat → DSt → (Nat → Prop) → Prop) (PR : World → Nat → Nat → Nat → Nat → (Nat → Prop) → Prop) (S : Nat → Addr) (w0 : World) (d g n q : Nat) (s : DSt) (P : PS) (ch : Chg) : (Nat → Prop) → World → Prop := fun T w => Shop Real PR S w0 w d g n q 7 T s P ch
/-- behind a Commit that answered v: it was done, or the power went -/
def CmT (Real : World → Nat → DSt → (Nat → Prop) → Prop) (PR : World → Nat → Nat → Nat → Nat → (Nat → Prop) → Prop) (S : Nat → Addr) (w0 : World) (d g n q : Nat) (s : DSt) (P : PS) (ch : Chg) (Mb : Mdl) (v : Value) : (Nat → Prop) → World → Prop := fun T w =>
  (v = .nilIface ∧ ∃ k' s' P' cont', k' ≤ 1000 ∧ ShT Real PR S w0 d g n q k' s' P' noChg T w ∧ Keeps s' n q P' cont' ∧ Calm s' ∧ Agr P' noChg cont' Mb) ∨
  (EV S 106 v ∧ 0 < (keysOf ch).length ∧ ∃ u, RealT Real w0 d u.fall T w ∧ CFall s P ch (halN n) u ∧ Up u n q)
section
variable {Real : World → Nat → DSt → (Nat → Prop) → Prop} {PR : World → Nat → Nat → Nat → Nat → (Nat → Prop) → Prop} {S : Nat → Addr} {w0 w w' : World} {d g n q k hb : Nat} {T : Nat → Prop} {s t v : DSt} {P : PS} {ch : Chg} {cont : Cont} {M : Mdl} {L : List (Nat × (Nat → Value) × Mdl)}
theorem realT_bsd (D : DevOk Real) : Bsd (RealT Real w0 d t) w0.heap.size where
  beside := fun _ _ _ _ h ho hd hB => ⟨D.kept h.1 (ho.kept (D.lt h.1) hd), h.2.1.trans (ho.below h.2.1.size hB), h.2.2⟩
  lt := fun _ _ h => D.lt h.1
theorem shT_bsd (D : DevOk Real) (O : PairOk Real PR) : Bsd (ShT Real PR S w0 d g n q k s P ch) w0.heap.size where
  beside := fun _ _ _ _ h ho hd hB => shA_beside D O h ho hd hB
  lt := fun _ _ h => shA_lt D O h
theorem shR_bsd (D : DevOk Real) (O : PairOk Real PR) : Bsd (ShR Real PR S w0 d g n q s P ch) w0.heap.size where
  beside := fun _ _ _ _ h ho hd hB => Shop.beside D O h ho hd hB
  lt := fun _ _ h => Shop.lt D O h
theorem cmT_bsd (D : DevOk Real) (O : PairOk Real PR) {Mb : Mdl} {val : Value} : Bsd (CmT Real PR S w0 d g n q s P ch Mb val) w0.heap.size where
  beside := fun T K w w' h ho hd hB => by
    rcases h with ⟨h1, k', s', P', cont', h2, h3, h4⟩ | ⟨h1, h2, u, h3, h4⟩
    · exact .inl ⟨h1, k', s', P', cont', h2, (shT_bsd D O).beside T K w w' h3 ho hd hB, h4⟩
    · exact .inr ⟨h1, h2, u, (realT_bsd D).beside T K w w' h3 ho hd hB, h4⟩
  lt := fun T w h => by
    rcases h with ⟨h1, k', s', P', cont', h2, h3, h4⟩ | ⟨h1, h2, u, h3, h4⟩
    · exact (shT_bsd D O).lt T w h3
    · exact (realT_bsd D).lt T w h3
theorem mol_upd (h : Mols (RealT Real w0 d t) w0.heap.size w T L) (hu : RealUpd Real w d v T w') : ∃ T', Mols (RealT Real w0 d v) w0.heap.size w' T' L := by
  obtain ⟨T', r1, r2, r3⟩ := hu
  have hz := h.st.2.1.size
  exact ⟨T', h.step ⟨r1, h.st.2.1.trans (r2.below hz h.st.2.2), fun k hk => (r3 k hk).elim (h.st.2.2 k) (fun e => by omega)⟩ r2 r3⟩
theorem mol_crash (D : DevOk Real) (h : Mols (RealT Real w0 d t) w0.heap.size w T L) (ho : t.ok) {A : Option Addr} {m c : Nat} {picks : List Int} (hs : Sn w0 w0.heap.size A m c picks) (hm : m ≤ 1000) :
    Calls Tryz.prog 24 #[.pointer (some ⟨d, 0, none⟩), .slice A m c] w fun e w' => e = .returned (.tuple #[]) ∧ ∃ T', Mols (RealT Real w0 d (t.crash picks)) w0.heap.size w' T' L := by
  refine (D.crash d t T A m c picks w h.st.1 ho (sn_on hs h.st.2.1) (fun ad ha h0 hk => ?_) hm).mono ?_
  · have h1 := h.st.2.2 _ hk
    have h2 := (hs.at_ ad ha h0).1
    omega
  · rintro e w' ⟨rfl, hu⟩
    exact ⟨rfl, mol_upd h hu⟩
theorem mol_arm (D : DevOk Real) (h : Mols (RealT Real w0 d t) w0.heap.size w T L) (ho : t.ok) (j : Nat) :
    Calls Tryz.prog 18 #[.pointer (some ⟨d, 0, none⟩), .int .i64 (j : Int)] w fun e w' => e = .returned (.tuple #[]) ∧ ∃ T', Mols (RealT Real w0 d (t.armed j)) w0.heap.size w' T' L := by
  refine (D.arm d t T (j : Int) w h.st.1 ho).mono ?_
  rintro e w' ⟨rfl, hu⟩
  have hu' : RealUpd Real w d (t.armed j) T w' := hu
  exact ⟨rfl, mol_upd h hu'⟩
theorem mol_openA (D : DevOk Real) (O : PairOk Real PR) (OA : PairArm Real PR) (hS : Sent7 w0 S) {j : Nat} (h : Mols (RealT Real w0 d (v.armed j)) w0.heap.size w T L) (hj : j ≤ 1000) (hst : Stays v n q P cont) (hq : q ≤ 600000) (n0 : 300 ≤ n) (n1 : n ≤ 6000) :
    Calls Tryz.prog 15 #[.pointer (some ⟨d, 0, none⟩)] w fun e w' => (∃ r, e = .returned r) ∧ ∃ t T', Mols (RealT Real w0 d t) w0.heap.size w' T' L ∧ t.ok ∧ ∀ picks, Stays (t.crash picks) n (q + 3) P cont := by
  refine (dv_openA D O OA hS h.st.2.1 h.st.1 hj h.st.2.2 hst hq n0 n1).mono ?_
  rintro e w' ⟨⟨r, rfl⟩, t, F', r1, r2, r3, r4, r5⟩
  obtain ⟨T', hm⟩ := mol_upd h ⟨F', r1, r4, r5⟩
  exact ⟨⟨r, rfl⟩, t, T', hm, r2.ok (by omega), r3⟩
theorem mol_open (D : DevOk Real) (O : PairOk Real PR) (hS : Sent7 w0 S) (h : Mols (RealT Real w0 d v) w0.heap.size w T L) (hst : Stays v n q P cont) (hq : q ≤ 600000) (n0 : 300 ≤ n) (n1 : n ≤ 6000) :
    Calls Tryz.prog 15 #[.pointer (some ⟨d, 0, none⟩)] w fun e w' => ∃ g' s' T', e = .returned (.tuple #[.pointer (some ⟨g', 0, none⟩), .nilIface]) ∧ Mols (ShR Real PR S w0 d g' n (q + 10) s' P noChg) w0.heap.size w' T' L ∧ Keeps s' n (q + 10) P cont ∧ Calm s' := by
  refine (dv_open D O hS h.st.2.1 h.st.1 h.st.2.2 hst hq n0 n1).mono ?_
  rintro e w' ⟨g', T', s', rfl, h1, h2, h3, h4, h5⟩
  exact ⟨g', s', T', rfl, h.step h1 h4 h5, h2, h3⟩
/-- Commit, armed or not -/
theorem mol_commit (D : DevOk Real) (O : PairOk Real PR) (OA : PairArm Real PR) (hS : Sent7 w0 S) (h : Mols (ShT Real PR S w0 d g n q k s P ch) w0.heap.size w T L) (hk : k ≤ 1000) (hkp : Keeps s n q P cont) (hcm : Calm s) (hag : Agr P ch cont M) (hr : 100 ≤ halN n) (hq : q ≤ 600000) :
    Calls Tryz.prog 21 #[.pointer (some ⟨g, 0, none⟩)] w fun e w' => ∃ val T', e = .returned val ∧ Mols (CmT Real PR S w0 d g n (q + 1000) s P ch (M.commit (if 0 < (keysOf ch).length then M.ep + 1 else M.ep)) val) w0.heap.size w' T' L := by
  obtain ⟨p, mm, m1, F, G, Dm, C, k1, _⟩ := id h.st
  have hn0 := k1.n0
  have hn1 := k1.n1
  have hup : Up s n q := k1.up
  rcases Nat.eq_zero_or_pos (keysOf ch).length with h0 | h0
  · refine (sh_commitNoneA h.st h0).mono ?_
    rintro e w' ⟨rfl, rfl⟩
    have e1 := agr_nokeys hag h0
    have hag' := agr_commit (P' := P) (e := M.ep) hag hag.ep
    rw [if_neg (by omega)]
    subst e1
    rw [noChg_cont] at hag'
    refine ⟨_, T, rfl, h.turn (.inl ⟨rfl, k, s, P, cont, hk, ?_, hkp.more (by omega), hcm, hag'⟩)⟩
    obtain ⟨p, mm, m, F, G, Dm, C, i1, i2⟩ := h.st
    exact ⟨p, mm, m, F, G, Dm, C, ⟨i1.real, i1.pr, i1.below, i1.sent0, i1.fn, i1.gn, i1.ap, i1.up.more (by omega), by omega, i1.n0, i1.n1⟩, i2⟩
  · have hfit : fitsB P ch (halN n) = true := fits_room hkp.fine (N := 30) (fun j hj => by rw [hag.cnt j]; exact if_neg (by omega)) (by omega)
    have hg := Shop.chg h.st
    have hH := halN_two (n := n)
    obtain ⟨_, hku, hkk⟩ := keeps_commit hkp hup (by omega) hg.1 hg.2 hfit
    have hcm2 : Calm (comDev P ch s (halN n)) := calm_fl _
    rw [if_pos h0]
    refine (sh_commitA D O OA hS h.st hk hkp h0 hfit hq).mono ?_
    rintro e w' (⟨rfl, k', hk', T', i1, i2, i3⟩ | ⟨val, rfl, hv, u, F', f1, f2, f3, f4, f5⟩)
    · refine ⟨_, T', rfl, h.step (.inl ⟨rfl, k', _, _, _, hk', i1, hkk, hcm2, agr_commit hag ?_⟩) i2 i3⟩
      rw [commitTo_epoch, hag.ep]
    · have hz := (Shop.below h.st).size
      have hnew := Shop.new h.st
      refine ⟨val, F', rfl, h.step (.inr ⟨hv, h0, u, ⟨f1, (Shop.below h.st).trans (f4.below hz hnew), fun k hk => (f5 k hk).elim (hnew k) (fun e => by omega)⟩, f2, f3⟩) f4 f5⟩
theorem mol_armS (D : DevOk Real) (O : PairOk Real PR) (h : Mols (ShT Real PR S w0 d g n q k s P ch) w0.heap.size w T L) (hk : k ≤ 1000) (y : Int) :
    Calls Tryz.prog 18 #[.pointer (some ⟨d, 0, none⟩), .int .i64 (y % 50)] w fun e w' => e = .returned (.tuple #[]) ∧ ∃ j T', j ≤ 1000 ∧ Mols (ShT Real PR S w0 d g n q j s P ch) w0.heap.size w' T' L := by
  have e : y % 50 = (((y % 50).toNat : Nat) : Int) := by omega
  rw [e]
  refine (sh_arm D O h.st hk _).mono ?_
  rintro e w' ⟨rfl, T', i1, i2, i3⟩
  exact ⟨rfl, _, T', by omega, h.step i1 i2 i3⟩
theorem mol_disarm (D : DevOk Real) (O : PairOk Real PR) (h : Mols (ShT Real PR S w0 d g n q k s P ch) w0.heap.size w T L) (hk : k ≤ 1000) :
    Calls Tryz.prog 18 #[.pointer (some ⟨d, 0, none⟩), .int .i64 0] w fun e w' => e = .returned (.tuple #[]) ∧ ∃ T', Mols (ShR Real PR S w0 d g n q s P ch) w0.heap.size w' T' L := by
  refine (sh_arm D O h.st hk 0).mono ?_
  rintro e w' ⟨rfl, T', i1, i2, i3⟩
  exact ⟨rfl, T', h.step (sh_unarmed i1) i2 i3⟩
theorem mol_same (D : DevOk Real) (O : PairOk Real PR) (hS : Sent w0 S) (h : Mols (ShR Real PR S w0 d g n q s P noChg) w0.heap.size w T L) (hkp : Keeps s n q P cont) (hq : q + 1 ≤ 900000) {i b : Nat} {f : Nat → Value} (hi : L[i]? = some (b, f, M)) :
    Calls Tryz.prog 17 #[.pointer (some ⟨g, 0, none⟩), .pointer (some ⟨b, 0, none⟩)] w fun e w' => ∃ r T', e = .returned (.bool r) ∧ Mols (ShR Real PR S w0 d g n q s P noChg) w0.heap.size w' T' L ∧ (r = true → P.epoch = M.ep) ∧ (Agr P noChg cont M → r = true) := by
  have hm := List.mem_of_getElem? hi
  have hz := (Shop.below h.st).size
  refine (sameP_any (asks_of D O hS hkp hq (by omega)) b f M T w h.st hz (h.off _ hm) (h.blk _ hm) ((h.md _ hm).less (fun k hk => hk.imp id (fun e => by rw [e]; exact List.mem_map.2 ⟨_, hm, rfl⟩)))).mono ?_
  rintro e w' ⟨r, rfl, ⟨T', k1, k2, k3⟩, k4, k5⟩
  refine ⟨r, T', rfl, h.step k1 k2 k3, k4, fun hag => ?_⟩
  have e1 : contC cont noChg = M.cont := funext hag.cnt
  exact k5 (fun i _ => hag.cnt i) (by rw [pages_some hkp.fine e1 (fun i hi => mcont_off hi), e1]) hag.ep
end
end Go.Proofs.YtaonhbmimaiiiaaGreatDoor
