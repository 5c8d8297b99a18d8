/- Put together out of 8 texts. Package page over plain values: pairs of which one side may be faulted; a whole device of them. -/
import Derived.Test.YtajcfhhnmjcmjaaGreatDoorGXbf
import Derived.Test.YtajcfhhnmjcmjaaGreatDoorGXbc
namespace Go.Proofs.YtajcfhhnmjcmjaaGreatDoor

/-- laid twice -/
structure Twice (l : List Int) : Prop where
  byt : Byt l
  len : l.length = 256
  two : ∀ j, j < 128 → l[j]? = l[j + 128]?
theorem twice_root {l : List Int} (h : (readR l).isSome = true) (hy : Byt l) : Twice l := by
  rcases hr : readR l with _ | x
  · rw [hr] at h; cases h
  · obtain ⟨h1, hc, hb, _⟩ := readR_inv hr
    have hx := (RSt.fine hc).2.2.2
    exact ⟨hy, h1, fun j hj => by rw [← hb]; exact bytesOf_twice hx hj⟩
theorem twice_zeros : Twice (zerosL 256) := by
  refine ⟨fun x hx => ?_, List.length_replicate, fun j hj => ?_⟩
  · have : x = 0 := List.eq_of_mem_replicate hx
    omega
  · unfold zerosL
    rw [List.getElem?_replicate, List.getElem?_replicate, if_pos (by omega), if_pos (by omega)]
theorem zeroB_eq {l : List Int} (h : zeroB l = true) (hl : l.length = 256) : l = zerosL 256 := by
  unfold zeroB at h
  rw [List.all_eq_true] at h
  exact List.eq_replicate_iff.2 ⟨hl, fun x hx => by simpa using h x hx⟩
theorem not_twice {l : List Int} (h : Twice l) {at' : Int} {bits : Nat} (h0 : 0 ≤ at') (h1 : at' ≤ 252) (hb : bits ≠ 0) (hb2 : bits < 4294967296) : ¬ Twice (turned l at' bits) := by
  intro ht
  refine (turned_other h.byt h.len h0 h1 hb hb2).1 ?_
  obtain ⟨p, rfl⟩ : ∃ p : Nat, at' = (p : Int) := ⟨at'.toNat, by omega⟩
  have et : turned l (p : Int) bits = turns l p bits 4 := by unfold turned; rw [if_neg (by omega), Int.toNat_natCast]
  rw [et] at ht ⊢
  have out : ∀ j, ¬ (p ≤ j ∧ j < p + 4) → (turns l p bits 4)[j]? = l[j]? := fun j hj => by
    rw [turns_get]
    cases l[j]? <;> simp [hj]
  apply List.ext_getElem?
  intro j
  by_cases hj : p ≤ j ∧ j < p + 4
  · rcases Nat.lt_or_ge j 128 with h1 | h1
    · rw [ht.two j h1, out (j + 128) (by omega), h.two j h1]
    · rcases Nat.lt_or_ge j 256 with h2 | h2
      · obtain ⟨i, rfl⟩ : ∃ i, j = i + 128 := ⟨j - 128, by omega⟩
        rw [← ht.two i (by omega), out i (by omega), h.two i (by omega)]
      · rw [List.getElem?_eq_none (by rw [turns_len, h.len]; omega), List.getElem?_eq_none (by rw [h.len]; omega)]
  · exact out j hj
/-- a pair: l on the one side, m on the other; one of both reads right; where nothing is said of faults, both -/
structure Pr (s : DSt) (H f : Nat) (l m : List Int) (d : Bool) : Prop where
  a : Blkd s f l
  b : Blkd s (f + H) m
  or : Rt s f l ∨ Rt s (f + H) m
  both : d = false → Rt s f l ∧ Rt s (f + H) m
section
variable {s s' : DSt} {f H n q : Nat} {l m : List Int} {d : Bool}
theorem Pr.same (h : Pr s H f l m d) (h1 : s'.blks[f]? = s.blks[f]?) (h2 : s'.blks[f + H]? = s.blks[f + H]?) : Pr s' H f l m d :=
  ⟨h.a.same h1, h.b.same h2, h.or.imp (fun h => h.same h1) (fun h => h.same h2), fun e => ⟨(h.both e).1.same h1, (h.both e).2.same h2⟩⟩
theorem Pr.flushed (h : Pr s H f l m d) : Pr (fl s) H f l m d :=
  ⟨h.a.flushed, h.b.flushed, h.or.imp (fun h => h.flushed) (fun h => h.flushed), fun e => ⟨(h.both e).1.flushed, (h.both e).2.flushed⟩⟩
theorem Pr.put1 (h : Pr s H f l m d) (hH : 0 < H) (k : List Int) : Pr (s.put f k) H f k m d :=
  ⟨(h.a.put k).blkd, h.b.else_ (by omega), .inl (h.a.put k), fun e => ⟨h.a.put k, (h.both e).2.else_ (by omega)⟩⟩
theorem Pr.done (h : Pr s H f l m d) : Pr s H f l m true := ⟨h.a, h.b, h.or, fun e => by cases e⟩
/-- one side is faulted -/
theorem Pr.hit1 (h : Pr s H f l m false) (ha : Blkd s' f l) (hb : s'.blks[f + H]? = s.blks[f + H]?) : Pr s' H f l m true :=
  ⟨ha, h.b.same hb, .inr ((h.both rfl).2.same hb), fun e => by cases e⟩
theorem Pr.hit2 (h : Pr s H f l m false) (ha : s'.blks[f]? = s.blks[f]?) (hb : Blkd s' (f + H) m) : Pr s' H f l m true :=
  ⟨h.a.same ha, hb, .inl ((h.both rfl).1.same ha), fun e => by cases e⟩
theorem right_rt {b : BSt} (h1 : St l b) (hy : Byt l) (h256 : l.length = 256) : b.read = (0, l) ↔ b.right (crcOf (nats l)) = true := by
  constructor
  · exact right_of
  · exact h1.right hy h256
theorem Pr.two (h : Pr s H f l l d) : Two s H f l := by
  obtain ⟨a, ha, sa⟩ := h.a
  obtain ⟨b, hb, sb⟩ := h.b
  refine ⟨a, b, ⟨ha, hb⟩, sa, sb, ?_⟩
  rcases h.or with ⟨a', h1, _, h3⟩ | ⟨b', h1, _, h3⟩
  · rw [ha] at h1; cases h1; exact .inl (right_of h3)
  · rw [hb] at h1; cases h1; exact .inr (right_of h3)
end
end Go.Proofs.YtajcfhhnmjcmjaaGreatDoor
namespace Go.Proofs.YtajcfhhnmjcmjaaGreatDoor

structure Fau (s : DSt) (n q : Nat) (P : PS) (cont : Cont) (c : Nat → List Int) (done : Nat → Bool) : Prop where
  fine : Fine (halN n) P cont
  e0 : 0 < P.epoch
  rt : RtOk P
  up : Up s n q
  item : ∀ x l, Item P cont x l → Pr s (halN n) x.1.toNat l l (done x.1.toNat)
  root : ∀ i, i < 2 → Pr s (halN n) i (c i) (c (i + halN n)) (done i)
  ok : ∀ i a, i < 2 → a = i ∨ a = i + halN n → Twice (c a) ∧ rightB P i (c a) = true ∧ Under (rootSt P) (readR (c a))
section
variable {s s' : DSt} {n q a i : Nat} {P : PS} {cont : Cont} {c : Nat → List Int} {done : Nat → Bool} {l : List Int}
theorem Rt.read (h : Rt s a l) (u : Up s n q) (ha : a < n) : s.read (a : Int) = (0, l) := by
  obtain ⟨b, h1, _, h3⟩ := h
  rw [u.read ha h1, h3]
theorem Rt.root (h : Rt s a l) (u : Up s n q) (ha : a < n) : s.root a = readR l := by unfold DSt.root; rw [h.read u ha]
theorem Rt.wrong (h : Rt s a l) (u : Up s n q) (ha : a < n) (hr : rightB P i l = true) : wrongB s P i a = false := by
  unfold wrongB
  rw [h.read u ha, hr]
  rfl
/-- what reads wrong is no root -/
theorem Blkd.root (h : Blkd s a l) (u : Up s n q) (ha : a < n) (ht : Twice l) : Rt s a l ∨ s.root a = none := by
  rcases h.reads with h1 | ⟨b, h1, _, _, h2⟩
  · exact .inl h1
  · right
    unfold DSt.root
    rw [u.read ha h1]
    rcases h2 with h2 | ⟨at', bits, k0, k1, k2, k3, h2⟩
    · rw [h2]; exact readR_short (by simp)
    · rw [h2]
      show readR (turned l at' bits) = none
      rcases hr : readR (turned l at' bits) with _ | x
      · rfl
      · exact absurd (twice_root (by rw [hr]; rfl) (turned_byt ht.byt _ _)) (not_twice ht k0 k1 k2 k3)
theorem Fau.held (h : Fau s n q P cont c done) : Held s (halN n) P cont := fun x l hi => (h.item x l hi).two
theorem Fau.roots (h : Fau s n q P cont c done) (n0 : 300 ≤ n) : Roots s (halN n) (rootSt P) := by
  have hh := half_facts n0
  have hU : ∀ i a, i < 2 → a = i ∨ a = i + halN n → Under (rootSt P) (s.root a) := fun i a hi ha => by
    have hb : Blkd s a (c a) := by
      rcases ha with rfl | rfl
      · exact (h.root a hi).a
      · exact (h.root i hi).b
    rcases hb.root h.up (by omega) (h.ok i a hi ha).1 with h1 | h1
    · rw [h1.root h.up (by omega)]; exact (h.ok i a hi ha).2.2
    · rw [h1]; exact under_none _
  refine ⟨fun a ha => ?_, fun h0 => ?_, fun h0 => by have := h.e0; exact absurd h0 (by show ¬ P.epoch = 0; omega)⟩
  · rcases ha with rfl | rfl | rfl | rfl
    · exact hU 0 0 (by omega) (.inl rfl)
    · exact hU 0 (halN n) (by omega) (.inr (by omega))
    · exact hU 1 1 (by omega) (.inl rfl)
    · exact hU 1 (1 + halN n) (by omega) (.inr rfl)
  · obtain ⟨hp, he⟩ := par (rootSt P)
    obtain ⟨p, hpe⟩ : ∃ p, ((rootSt P).epoch % 2).toNat = p := ⟨_, rfl⟩
    rw [hpe] at hp he ⊢
    have hown : ∀ a, a = p ∨ a = p + halN n → readR (c a) = some (rootSt P) := fun a ha => by
      have h1 := (h.ok p a (by omega) ha).2.1
      unfold rightB at h1
      rw [if_pos (by have : P.epoch % 2 = (p : Int) := he; omega)] at h1
      have e : c a = hasB P := by simpa [sameB] using h1
      rw [e]
      unfold hasB
      rw [if_neg (by have := h.e0; omega)]
      exact readR_bytes (h.rt.2.2.1 h.e0) h.rt.2.2.2
    rcases (h.root p (by omega)).or with h1 | h1
    · left; rw [h1.root h.up (by omega)]; exact hown p (.inl rfl)
    · right; rw [h1.root h.up (by omega)]; exact hown (p + halN n) (.inr rfl)
/-- blocks of two places are apart -/
theorem Fau.others (h : Fau s n q P cont c done) (hH : 2 ≤ halN n) {q' : Nat} (up' : Up s' n q') (f : Nat) (hf : f < halN n) (hs : ∀ j, j ≠ f → j ≠ f + halN n → s'.blks[j]? = s.blks[j]?) {c' : Nat → List Int} {done' : Nat → Bool} (hd : ∀ j, j ≠ f → done' j = done j) (hc : ∀ a, a ≠ f → a ≠ f + halN n → c' a = c a)
    (hi : ∀ x l, Item P cont x l → x.1.toNat = f → Pr s (halN n) f l l (done f) → Pr s' (halN n) f l l (done' f))
    (hr : f < 2 → Pr s' (halN n) f (c' f) (c' (f + halN n)) (done' f) ∧ ∀ a, a = f ∨ a = f + halN n → Twice (c' a) ∧ rightB P f (c' a) = true ∧ Under (rootSt P) (readR (c' a))) : Fau s' n q' P cont c' done' where
  fine := h.fine
  e0 := h.e0
  rt := h.rt
  up := up'
  item := fun x l hx => by
    obtain ⟨g, hg, g2, g3⟩ := (hx.fine h.fine).1
    have hk := h.item x l hx
    rw [hg, Int.toNat_natCast] at hk ⊢
    by_cases e : g = f
    · subst e
      exact hi x l hx (by rw [hg]; rfl) hk
    · rw [hd g e]
      exact hk.same (hs g e (by omega)) (hs (g + halN n) (by omega) (by omega))
  root := fun j hj => by
    by_cases e : j = f
    · subst e; exact (hr hj).1
    · have hk := h.root j hj
      rw [hd j e, hc j e (by omega), hc (j + halN n) (by omega) (by omega)]
      exact hk.same (hs j e (by omega)) (hs (j + halN n) (by omega) (by omega))
  ok := fun j a hj ha => by
    by_cases e : j = f
    · subst e; exact (hr hj).2 a ha
    · rw [hc a (by rcases ha with rfl | rfl <;> omega) (by rcases ha with rfl | rfl <;> omega)]
      exact h.ok j a hj ha
/-! what keeps it -/
theorem Fau.flush (h : Fau s n q P cont c done) : Fau (fl s) n (q + 1) P cont c done where
  fine := h.fine
  e0 := h.e0
  rt := h.rt
  up := h.up.flush.2
  item := fun x l hx => (h.item x l hx).flushed
  root := fun j hj => (h.root j hj).flushed
  ok := h.ok
def setD (done : Nat → Bool) (f : Nat) (b : Bool) : Nat → Bool := fun j => if j = f then b else done j
def setC (c : Nat → List Int) (a : Nat) (l : List Int) : Nat → List Int := fun j => if j = a then l else c j
/-- one side of a pair is faulted: a call that turns block a alone, which was written last with what it was -/
theorem Fau.hit (h : Fau s n q P cont c done) (hH : 2 ≤ halN n) {f a : Nat} (hf : f < halN n) (ha : a = f ∨ a = f + halN n) (hd : done f = false) (up' : Up s' n q) (hs : ∀ j, j ≠ a → s'.blks[j]? = s.blks[j]?) (hb : ∀ l, Blkd s a l → Blkd s' a l) : Fau s' n q P cont c (setD done f true) := by
  refine h.others hH up' f hf (fun j h1 h2 => hs j (by rcases ha with rfl | rfl <;> omega)) (fun j hj => if_neg hj) (fun _ _ _ => rfl) (fun x l hx he hp => ?_) (fun h2 => ⟨?_, fun b hb' => h.ok f b h2 hb'⟩)
  · rw [hd] at hp
    rw [show setD done f true f = true from if_pos rfl]
    rcases ha with rfl | rfl
    · exact hp.hit1 (hb l hp.a) (hs _ (by omega))
    · exact hp.hit2 (hs _ (by omega)) (hb l hp.b)
  · have hp := h.root f h2
    rw [hd] at hp
    rw [show setD done f true f = true from if_pos rfl]
    rcases ha with rfl | rfl
    · exact hp.hit1 (hb _ hp.a) (hs _ (by omega))
    · exact hp.hit2 (hs _ (by omega)) (hb _ hp.b)
theorem Fau.fail (h : Fau s n q P cont c done) (hH : 2 ≤ halN n) {f a : Nat} (hf : f < halN n) (ha : a = f ∨ a = f + halN n) (hd : done f = false) : Fau (s.fail (a : Int)).2 n q P cont c (setD done f true) :=
  h.hit hH hf ha hd (h.up.fail _) (fun _ hj => fail_else (fun e => hj e.symm)) (fun _ hb => hb.fail)
theorem Fau.spoil (h : Fau s n q P cont c done) (hH : 2 ≤ halN n) {f a : Nat} (hf : f < halN n) (ha : a = f ∨ a = f + halN n) (hd : done f = false) {at' : Int} {bits : Nat} (hb : bits < 4294967296) : Fau (s.spoil (a : Int) at' bits).2 n q P cont c (setD done f true) :=
  h.hit hH hf ha hd (h.up.spoil _ _ _) (fun _ hj => spoil_else (fun e => hj e.symm) at' bits) (fun _ hbk => hbk.spoil hb)
end
end Go.Proofs.YtajcfhhnmjcmjaaGreatDoor
namespace Go.Proofs.YtajcfhhnmjcmjaaGreatDoor

section
variable {s s' : DSt} {n q a i f : Nat} {P : PS} {cont : Cont} {c : Nat → List Int} {done : Nat → Bool} {l m : List Int} {d : Bool}
theorem Blkd.right (h : Blkd s a l) (u : Up s n q) (ha : a < n) (hy : Byt l) (h256 : l.length = 256) : s.right a (crcOf (nats l)) = true ↔ Rt s a l := by
  obtain ⟨b, h1, h2⟩ := h
  rw [u.right ha h1, ← right_rt h2 hy h256]
  exact ⟨fun h3 => ⟨b, h1, h2, h3⟩, fun ⟨b', k1, _, k3⟩ => by rw [h1] at k1; cases k1; exact k3⟩
/-- a pair of a page or an index, read or mended -/
theorem Pr.read (h : Pr s (halN n) f l l d) (u : Up s n q) (hf : f + halN n < n) (hH : 0 < halN n) (hy : Byt l) (h256 : l.length = 256) :
    (pRead s (halN n) f (crcOf (nats l))).1 = 0 ∧ (pRead s (halN n) f (crcOf (nats l))).2.1 = l ∧ (pRead s (halN n) f (crcOf (nats l))).2.2.2 ≤ 1 ∧ Up (pRead s (halN n) f (crcOf (nats l))).2.2.1 n (q + 1) ∧ Pr (pRead s (halN n) f (crcOf (nats l))).2.2.1 (halN n) f l l d ∧ ∀ j, j ≠ f → (pRead s (halN n) f (crcOf (nats l))).2.2.1.blks[j]? = s.blks[j]? := by
  have ra := h.a.right u (by omega) hy h256
  have rb := h.b.right u hf hy h256
  unfold pRead
  by_cases h1 : s.right f (crcOf (nats l)) = true
  · rw [if_pos h1]
    refine ⟨rfl, ?_, Nat.zero_le _, u.more (by omega), h, fun _ _ => rfl⟩
    show (s.read (f : Int)).2 = l
    rw [(ra.1 h1).read u (by omega)]
  · rw [if_neg h1]
    have hb : Rt s (f + halN n) l := by
      rcases h.or with h2 | h2
      · exact absurd (ra.2 h2) h1
      · exact h2
    rw [if_pos (rb.2 hb)]
    have e : (s.read ((f + halN n : Nat) : Int)).2 = l := by rw [hb.read u hf]
    rw [e]
    exact ⟨rfl, rfl, Nat.le_refl _, (u.write (by omega) h256 hy).2, h.put1 hH l, fun j hj => put_else (fun e => hj e.symm)⟩
theorem half_four {n : Nat} (n0 : 300 ≤ n) : 2 ≤ halN n ∧ 2 * halN n ≤ n := by
  have := half_facts n0
  omega
/-- a page or an index is read -/
theorem Fau.read (h : Fau s n q P cont c done) (n0 : 300 ≤ n) {x : Int × Nat} (hx : Item P cont x l) :
    (pRead s (halN n) x.1.toNat x.2).1 = 0 ∧ (pRead s (halN n) x.1.toNat x.2).2.1 = l ∧ (pRead s (halN n) x.1.toNat x.2).2.2.2 ≤ 1 ∧ Fau (pRead s (halN n) x.1.toNat x.2).2.2.1 n (q + 1) P cont c done := by
  obtain ⟨⟨f, hf, f2, f3⟩, hz, h256, hy⟩ := hx.fine h.fine
  have hh := half_four n0
  have hp := h.item x l hx
  rw [hf, Int.toNat_natCast] at hp ⊢
  rw [hz]
  obtain ⟨r1, r2, r3, r4, r5, r6⟩ := hp.read h.up (by omega) (by omega) hy h256
  refine ⟨r1, r2, r3, h.others hh.1 r4 f f3 (fun j h1 _ => r6 j h1) (fun _ _ => rfl) (fun _ _ _ => rfl) (fun y m hy' he _ => ?_) (fun h2 => absurd h2 (by omega))⟩
  obtain ⟨g, hg, _⟩ := (hy'.fine h.fine).1
  have e : y.1 = x.1 := by rw [hf, hg]; rw [hg, Int.toNat_natCast] at he; rw [he]
  obtain ⟨_, rfl⟩ := hy'.same h.fine hx e
  exact r5
end
end Go.Proofs.YtajcfhhnmjcmjaaGreatDoor
namespace Go.Proofs.YtajcfhhnmjcmjaaGreatDoor

theorem twice_has {P : PS} (h : RtOk P) : Twice (hasB P) := by
  unfold hasB
  split
  · exact twice_zeros
  · rename_i h0
    have hc := h.2.2.1 (by have := h.1; omega)
    have hx := (RSt.fine hc).2.2.2
    exact ⟨bytesOf_byt _, bytesOf_len hx, fun j hj => bytesOf_twice hx hj⟩
section
variable {s s' : DSt} {n q a i f : Nat} {P : PS} {cont : Cont} {c : Nat → List Int} {done : Nat → Bool} {l m : List Int} {d : Bool}
theorem right_has (hr : RtOk P) (h0 : 0 < P.epoch) : rightB P i (hasB P) = true ∧ readR (hasB P) = some (rootSt P) := by
  have e : readR (hasB P) = some (rootSt P) := by
    unfold hasB
    rw [if_neg (by omega)]
    exact readR_bytes (hr.2.2.1 h0) hr.2.2.2
  refine ⟨?_, e⟩
  unfold rightB
  split
  · exact same_self _
  · rw [e]; rfl
/-- who points to a block is a page or an index -/
theorem item_of (hF : Fine (halN n) P cont) {x : Int × Nat} (hx : x ∈ P.refs) : ∃ l, Item P cont x l := by
  unfold PS.refs at hx
  obtain ⟨hm, hp⟩ := List.mem_filter.1 hx
  obtain ⟨k, hk⟩ := List.getElem?_of_mem hm
  rcases all_cases hF.len hk with ⟨h7, hk'⟩ | ⟨j, rfl, hj, hk'⟩
  · exact ⟨_, .index hk' hp⟩
  · rcases hF.page j x hk' with ⟨h1, _⟩ | ⟨_, ⟨l, h2, _⟩, _⟩
    · rw [h1] at hp; cases hp
    · exact ⟨_, .page hk' hp h2⟩
/-- opened -/
theorem Fau.rd (h : Fau s n q P cont c done) (n0 : 300 ≤ n) : ∀ j, j ≤ 7 → Fau (rdTo (halN n) P.idx s j).1 n (q + j) P cont c done
  | 0, _ => h
  | j + 1, hj => by
    have ih := h.rd n0 j (by omega)
    obtain ⟨y, hy⟩ : ∃ y, P.idx[j]? = some y := ⟨_, List.getElem?_eq_getElem (by rw [h.fine.len.i]; omega)⟩
    rcases hp : points y with _ | _
    · rw [rdTo_no hy hp]
      have hu := ih.up.more (k := q + (j + 1)) (by omega)
      exact { ih with up := hu }
    · have hit : Item P cont y (indexB P.pgs j) := .index hy hp
      obtain ⟨⟨f, hf, _⟩, _⟩ := hit.fine h.fine
      have hy' : y = ((f : Int), y.2) := Prod.ext hf rfl
      have r := (ih.read n0 hit).2.2.2
      rw [hf, Int.toNat_natCast] at r
      rw [hy'] at hy hp
      rw [rdTo_yes hy hp]
      exact r
theorem pw_at {p : Nat} {k : List Int} (h1 : Blkd s p l) (h2 : Blkd s (p + halN n) m) (hH : 0 < halN n) : Rt (pWrite s (halN n) p k) p k ∧ Rt (pWrite s (halN n) p k) (p + halN n) k :=
  ⟨(h1.put k).else_ (by omega), (h2.else_ (by omega)).put k⟩
/-- the root is saved anew -/
theorem Fau.rootAnew (h : Fau s n q P cont c done) (n0 : 300 ≤ n) {p : Nat} (hp : P.epoch % 2 = (p : Int)) : Fau (pWrite s (halN n) p (hasB P)) n (q + 2) P cont (setC (setC c p (hasB P)) (p + halN n) (hasB P)) done := by
  have hh := half_four n0
  have hb := hasB_len h.rt
  have hg := right_has (i := p) h.rt h.e0
  have hpr := h.root p (by omega)
  have hw := pw_at (k := hasB P) hpr.a hpr.b (by omega)
  have u1 := (h.up.write (i := p) (by omega) hb.1 hb.2).2
  have u2 := (u1.write (i := p + halN n) (by omega) hb.1 hb.2).2
  have e1 : setC (setC c p (hasB P)) (p + halN n) (hasB P) p = hasB P := by unfold setC; rw [if_neg (by omega), if_pos rfl]
  have e2 : setC (setC c p (hasB P)) (p + halN n) (hasB P) (p + halN n) = hasB P := if_pos rfl
  refine h.others hh.1 u2 p (by omega) (fun j h3 h4 => (put_else (fun e => h4 e.symm)).trans (put_else (fun e => h3 e.symm))) (fun _ _ => rfl) (fun a h3 h4 => by unfold setC; rw [if_neg h4, if_neg h3]) (fun x l hx he _ => ?_) (fun _ => ⟨?_, fun b hb' => ?_⟩)
  · obtain ⟨g, hg', g2', _⟩ := (hx.fine h.fine).1
    rw [hg', Int.toNat_natCast] at he; omega
  · rw [e1, e2]
    exact ⟨hw.1.blkd, hw.2.blkd, .inl hw.1, fun _ => hw⟩
  · have hc : setC (setC c p (hasB P)) (p + halN n) (hasB P) b = hasB P := by
      rcases hb' with rfl | rfl
      · exact e1
      · exact e2
    rw [hc]
    exact ⟨twice_has h.rt, hg.1, by rw [hg.2]; exact under_self _⟩
theorem Fau.open_ (h : Fau s n q P cont c done) (n0 : 300 ≤ n) : ∃ c', Fau (opDev s (halN n) P) n (q + 10) P cont c' done := by
  have h7 := h.rd n0 7 (Nat.le_refl _)
  unfold opDev
  split
  · obtain ⟨p, hp⟩ : ∃ p : Nat, P.epoch % 2 = (p : Int) := ⟨(P.epoch % 2).toNat, by omega⟩
    have e1 : (P.epoch % 2).toNat = p := by omega
    have e2 : bytesOf (rootSt P) = hasB P := by unfold hasB; rw [if_neg (by have := h.e0; omega)]
    rw [e1, e2]
    exact ⟨_, (h7.rootAnew n0 hp).flush⟩
  · have hu := h7.up.more (k := q + 10) (by omega)
    exact ⟨c, { h7 with up := hu }⟩
end
end Go.Proofs.YtajcfhhnmjcmjaaGreatDoor
namespace Go.Proofs.YtajcfhhnmjcmjaaGreatDoor

/-- each block of the roots reads as it may -/
def RtAll (s : DSt) (n : Nat) (P : PS) : Prop := ∀ i a, i < 2 → a = i ∨ a = i + halN n → ∃ l, Rt s a l ∧ Twice l ∧ rightB P i l = true ∧ Under (rootSt P) (readR l)
theorem readR_zeros' : readR (zerosL 256) = none := readR_zeros
theorem zeroB_zeros : zeroB (zerosL 256) = true := by
  unfold zeroB
  rw [List.all_eq_true]
  intro x hx
  have : x = 0 := List.eq_of_mem_replicate hx
  rw [this]; rfl
theorem rtAll_new {n : Nat} (h0 : 300 ≤ n) : RtAll (DSt.new n) n (noPS 0) := by
  have hh := half_four h0
  intro i a hi ha
  refine ⟨zerosL 256, ⟨blank, new_at (by omega), .sound rfl rfl rfl rfl, rfl⟩, twice_zeros, ?_, by rw [readR_zeros']; exact under_none _⟩
  unfold rightB
  split
  · exact same_self _
  · rw [zeroB_zeros, Bool.or_true]
section
variable {s s' : DSt} {n q a i f : Nat} {P : PS} {ch : Chg} {cont : Cont}
theorem Keeps.rt (hk : Keeps s n q P cont) (hq : q ≤ 1000000) : RtOk P := by
  have he := hk.ep0
  have h2 := hk.ep1
  by_cases h3 : P.epoch = 0
  · refine ⟨by omega, by omega, fun h4 => by omega, fun x hx => (hk.fine.small.1 x hx).2.2⟩
  · obtain ⟨k1, k2⟩ := root_code hk.fine (by unfold halN; omega) (by omega) (by omega)
    exact ⟨he, by omega, fun _ => k1, k2⟩
theorem rtAll_commit (hk : Keeps s n q P cont) (u : Up s n q) (hq : q ≤ 800000) (h0 : 300 ≤ n) (hc : ∀ k l, ch k = some l → Byt l ∧ l.length ≤ 248) (hoff : ∀ k, 256 ≤ k → ch k = none) (hf : fitsB P ch (halN n) = true) (hr : RtAll s n P) : RtAll (comDev P ch s (halN n)) n (commitTo P ch s (halN n)).2 := by
  have hh := half_four h0
  obtain ⟨_, _, hk2⟩ := keeps_commit hk u hq hc hoff hf
  have hep := commitTo_epoch P ch s (halN n)
  have he0 := hk.ep0
  have hrt := hk.rt (by omega)
  have hrt2 := hk2.rt (by omega)
  obtain ⟨P2, hP2⟩ : ∃ P2, (commitTo P ch s (halN n)).2 = P2 := ⟨_, rfl⟩
  rw [hP2] at hep hrt2 ⊢
  obtain ⟨p, hp⟩ : ∃ p : Nat, P2.epoch % 2 = (p : Int) := ⟨(P2.epoch % 2).toNat, by omega⟩
  have e1 : (P2.epoch % 2).toNat = p := by omega
  have e2 : bytesOf (rootSt P2) = hasB P2 := by unfold hasB; rw [if_neg (by omega)]
  have hfit : (pagesOf P ch).length + (indexesOf P ch).length ≤ (freeOf P (halN n)).length := by
    unfold fitsB at hf
    simp only [Bool.and_eq_true, decide_eq_true_eq] at hf
    exact hf.1
  have hs : ∀ a, a < 2 ∨ (halN n ≤ a ∧ a < halN n + 2) → (commitTo P ch s (halN n)).1.blks[a]? = s.blks[a]? := fun a ha => by
    rw [com_dev]
    refine pWrites_else _ _ (fun x hx => ?_)
    have h2 := free_two (ws_addr hfit hc hx).1
    have h3 := (freeOf_is (ws_addr hfit hc hx).1).1
    omega
  unfold comDev
  rw [hP2, e1, e2]
  intro i a hi ha
  obtain ⟨l, k1, k2, k3, k4⟩ := hr i a hi ha
  have hg := right_has (i := i) hrt2 (by omega)
  have m1 : Rt (fl (commitTo P ch s (halN n)).1) a l := (k1.same (hs a (by omega))).flushed
  by_cases hip : i = p
  · subst hip
    obtain ⟨la, ka, _⟩ := hr i i hi (.inl rfl)
    obtain ⟨lb, kb, _⟩ := hr i (i + halN n) hi (.inr rfl)
    have ma := ((ka.same (hs i (by omega))).flushed).blkd
    have mb := ((kb.same (hs (i + halN n) (by omega))).flushed).blkd
    have hw := pw_at (k := hasB P2) ma mb (by omega)
    refine ⟨hasB P2, ?_, twice_has hrt2, hg.1, by rw [hg.2]; exact under_self _⟩
    rcases ha with rfl | rfl
    · exact hw.1.flushed
    · exact hw.2.flushed
  · refine ⟨l, ((m1.else_ (by omega)).else_ (by omega)).flushed, k2, ?_, ?_⟩
    all_goals
      unfold rightB at k3
      rw [if_pos (by omega)] at k3
      have e3 : l = hasB P := by simpa [sameB] using k3
      rw [e3]
    · unfold rightB
      rw [if_neg (by omega)]
      by_cases h3 : P.epoch = 0
      · unfold hasB; rw [if_pos h3, zeroB_zeros, Bool.or_true]
      · rw [(right_has (i := i) hrt (by omega)).2]; rfl
    · by_cases h3 : P.epoch = 0
      · unfold hasB; rw [if_pos h3, readR_zeros']; exact under_none _
      · rw [(right_has (i := i) hrt (by omega)).2]
        exact under_less (by show P.epoch < P2.epoch; omega)
/-- ahead of the first fault -/
theorem Fau.start (hk : Keeps s n q P cont) (u : Up s n q) (h0 : 300 ≤ n) (hq : q ≤ 1000000) (he : 0 < P.epoch) (hr : RtAll s n P) : ∃ c, Fau s n q P cont c (fun _ => false) := by
  have hh := half_four h0
  have hca : ∀ i a, i < 2 → a = i ∨ a = i + halN n → Rt s a (s.read (a : Int)).2 ∧ Twice (s.read (a : Int)).2 ∧ rightB P i (s.read (a : Int)).2 = true ∧ Under (rootSt P) (readR (s.read (a : Int)).2) := fun i a hi ha => by
    obtain ⟨l, k1, k2, k3, k4⟩ := hr i a hi ha
    have e : (s.read (a : Int)).2 = l := by rw [k1.read u (by omega)]
    rw [e]
    exact ⟨k1, k2, k3, k4⟩
  refine ⟨fun a => (s.read (a : Int)).2, hk.fine, he, hk.rt hq, u, fun x l hx => ?_, fun i hi => ?_, fun i a hi ha => (hca i a hi ha).2⟩
  · obtain ⟨a, b, hat, sa, sb, _⟩ := hk.held x l hx
    have ra : Rt s x.1.toNat l := ⟨a, hat.a, sa, sa.clean (hk.clean a (List.mem_of_getElem? hat.a))⟩
    have rb : Rt s (x.1.toNat + halN n) l := ⟨b, hat.c, sb, sb.clean (hk.clean b (List.mem_of_getElem? hat.c))⟩
    exact ⟨ra.blkd, rb.blkd, .inl ra, fun _ => ⟨ra, rb⟩⟩
  · have ra := (hca i i hi (.inl rfl)).1
    have rb := (hca i (i + halN n) hi (.inr rfl)).1
    exact ⟨ra.blkd, rb.blkd, .inl ra, fun _ => ⟨ra, rb⟩⟩
end
end Go.Proofs.YtajcfhhnmjcmjaaGreatDoor
namespace Go.Proofs.YtajcfhhnmjcmjaaGreatDoor
open Go.RowKit Go.Maps

/-- how many pairs below j something was done to -/
def cntTo (done : Nat → Bool) : Nat → Nat
  | 0 => 0
  | j + 1 => cntTo done j + if done j = true then 1 else 0
theorem cnt_same {done done' : Nat → Bool} : ∀ j, (∀ i, i < j → done' i = done i) → cntTo done' j = cntTo done j
  | 0, _ => rfl
  | j + 1, h => by
    unfold cntTo
    rw [cnt_same j (fun i hi => h i (by omega)), h j (by omega)]
theorem cnt_off {done : Nat → Bool} {f : Nat} (hd : done f = true) : ∀ j, f < j → cntTo (setD done f false) j + 1 = cntTo done j
  | 0, h => absurd h (by omega)
  | j + 1, h => by
    unfold cntTo
    by_cases e : f = j
    · subst e
      have e2 := cnt_same (done := done) (done' := setD done f false) f (fun i hi => if_neg (by omega))
      rw [e2, hd, show setD done f false f = false from if_pos rfl]
      simp
    · have ih := cnt_off hd j (by omega)
      rw [show setD done f false j = done j from if_neg (by omega)]
      omega
theorem cnt_le (done : Nat → Bool) (j : Nat) : cntTo done j ≤ j := by
  induction j with
  | zero => exact Nat.le_refl _
  | succ j ih =>
    unfold cntTo
    split <;> omega
section
variable {s s' : DSt} {n q a i f : Nat} {P : PS} {cont : Cont} {c : Nat → List Int} {done : Nat → Bool} {l m : List Int}
/-- a page or an index is read: nothing turns, or one that was faulted is mended -/
theorem Fau.readP (h : Fau s n q P cont c done) (n0 : 300 ≤ n) {x : Int × Nat} (hx : Item P cont x l) :
    ∃ q' done', Fau (pRead s (halN n) x.1.toNat x.2).2.2.1 n q' P cont c done' ∧ q' + cntTo done' (halN n) ≤ q + cntTo done (halN n) ∧ (pRead s (halN n) x.1.toNat x.2).2.2.2 + cntTo done' (halN n) ≤ cntTo done (halN n) ∧ ∀ K : (Nat → Bool) → Prop, (∀ dn f, K dn → K (setD dn f false)) → K done → K done' := by
  obtain ⟨⟨f, hf, f2, f3⟩, hz, h256, hy⟩ := hx.fine h.fine
  have hh := half_four n0
  have hp := h.item x l hx
  rw [hf, Int.toNat_natCast] at hp ⊢
  rw [hz]
  have ra := hp.a.right h.up (by omega) hy h256
  have rb := hp.b.right h.up (by omega) hy h256
  unfold pRead
  by_cases h1 : s.right f (crcOf (nats l)) = true
  · rw [if_pos h1]
    exact ⟨q, done, h, Nat.le_refl _, by simp, fun _ _ hk => hk⟩
  · rw [if_neg h1]
    have hb : Rt s (f + halN n) l := by
      rcases hp.or with h2 | h2
      · exact absurd (ra.2 h2) h1
      · exact h2
    have hd : done f = true := by
      rcases hd : done f with _ | _
      · rw [hd] at hp; exact absurd (ra.2 (hp.both rfl).1) h1
      · rfl
    rw [if_pos (rb.2 hb)]
    have e : (s.read ((f + halN n : Nat) : Int)).2 = l := by rw [hb.read h.up (by omega)]
    rw [e]
    have hp1 := hp.put1 (by omega : 0 < halN n) l
    have hc := cnt_off hd (halN n) f3
    refine ⟨q + 1, setD done f false, h.others hh.1 (h.up.write (by omega) h256 hy).2 f f3 (fun j h3 _ => put_else (fun e => h3 e.symm)) (fun j hj => if_neg hj) (fun _ _ _ => rfl) (fun y m' hy' he _ => ?_) (fun h2 => absurd h2 (by omega)), by omega, by show 1 + _ ≤ _; omega, fun _ hK hk => hK _ _ hk⟩
    obtain ⟨g, hg, _⟩ := (hy'.fine h.fine).1
    have e2 : y.1 = x.1 := by rw [hf, hg]; rw [hg, Int.toNat_natCast] at he; rw [he]
    obtain ⟨_, rfl⟩ := hy'.same h.fine hx e2
    rw [show setD done f false f = false from if_pos rfl]
    exact ⟨hp1.a, hp1.b, hp1.or, fun _ => ⟨hp.a.put _, hb.else_ (by omega)⟩⟩
end
/-- a store over a device with faults, at the most Q calls and mends -/
def FSt (Real : World → Nat → DSt → (Nat → Prop) → Prop) (PR : World → Nat → Nat → Nat → Nat → (Nat → Prop) → Prop) (S : Nat → Addr) (w0 : World) (d g n Q M : Nat) (P : PS) (cont : Cont) (K : (Nat → Bool) → Prop) (T : Nat → Prop) (w : World) : Prop :=
  ∃ s q mk c done, Shop Real PR S w0 w d g n q mk T s P noChg ∧ Fau s n q P cont c done ∧ q + cntTo done (halN n) ≤ Q ∧ mk + cntTo done (halN n) ≤ M ∧ K done
section
variable {Real : World → Nat → DSt → (Nat → Prop) → Prop} {PR : World → Nat → Nat → Nat → Nat → (Nat → Prop) → Prop} {S : Nat → Addr} {w0 w w' : World} {d g n q mk Q M : Nat} {T : Nat → Prop} {s s' : DSt} {P : PS} {ch : Chg} {cont : Cont} {c : Nat → List Int} {done : Nat → Bool} {K : (Nat → Bool) → Prop}
theorem fst_read (D : DevOk Real) (O : PairOk Real PR) (h : FSt Real PR S w0 d g n Q M P cont K T w) (hQ : Q ≤ 800000) (hM : M ≤ 900) (hK : ∀ dn f, K dn → K (setD dn f false)) {i : Nat} {l : List Int} (hi : i < 256) (hc : cont i = some l) :
    Calls Tryz.prog 76 #[.pointer (some ⟨g, 0, none⟩), .int .i64 (i : Int)] w fun e w' => (∃ A k c, e = .returned (.tuple #[.slice A k c, .nilIface]) ∧ Sl w' w'.heap.size A k c l) ∧ ∃ T', FSt Real PR S w0 d g n Q M P cont K T' w' ∧ Only T w w' ∧ ∀ k, T' k → T k ∨ w.heap.size ≤ k := by
  obtain ⟨s, q, mk, c, done, hsh, hfa, hq, hm, hkd⟩ := h
  have n0 := hsh.pd.2.2.1
  obtain ⟨p, mm, m1, F, G, Dm, C, k1, k2, k3, k4, k5, k6, k7, k8⟩ := hsh
  obtain ⟨x, hx⟩ := hfa.fine.len.page hi
  rcases hfa.fine.page i x hx with ⟨_, _, h2⟩ | ⟨hp, ⟨l1, e1, e2, e3, e4, e5⟩, _⟩
  · rw [h2] at hc; cases hc
  · rw [e1] at hc
    obtain rfl : l1 = l := by injection hc
    have hit : Item P cont x (pageB l1) := .page hx hp e1
    obtain ⟨⟨f, hf, f2, f3⟩, hz, _, _⟩ := hit.fine hfa.fine
    obtain ⟨r1, r2, r3, _⟩ := hfa.read n0 hit
    obtain ⟨q', done', z1, z2, z3, z4⟩ := hfa.readP n0 hit
    have hx' : x = ((f : Int), x.2) := Prod.ext hf rfl
    rw [hf, Int.toNat_natCast] at r1 r2 r3 z1 z3
    rw [hx'] at hx
    refine (readDev_any D O S w0 w g d p mm n m1 q i f x.2 Dm C F G s l1 k3 k1 hi rfl hx (by omega) f3 (hfa.fine.small.2 _ (List.mem_of_getElem? hx)).2.2 r1 r2 e2 e3 (by omega) (by omega) ⟨fun h => k4 (.inl h), fun h => k4 (.inr h)⟩).mono ?_
    rintro e w' ⟨A, k, c1, rfl, hsl, F', G', j1, j2, j3, j4, _⟩
    obtain ⟨T', t1, t2, t3⟩ := shop_step (q' := q') (mk' := mk + (pRead s (halN n) f x.2).2.2.2) k3 k4 k5 k6 k7 k8 ⟨j1.real, j1.pr, j1.below, j1.sent0, j1.fn, j1.gn, j1.ap, z1.up, by omega, j1.n0, j1.n1⟩ j2 j3 j4 (by omega)
    exact ⟨⟨A, k, c1, rfl, hsl⟩, T', ⟨_, q', _, c, done', t1, z1, by omega, by omega, z4 K hK hkd⟩, t2, t3⟩
end
end Go.Proofs.YtajcfhhnmjcmjaaGreatDoor
namespace Go.Proofs.YtajcfhhnmjcmjaaGreatDoor
open Go.RowKit Go.Maps

section
variable {Real : World → Nat → DSt → (Nat → Prop) → Prop} {PR : World → Nat → Nat → Nat → Nat → (Nat → Prop) → Prop} {S : Nat → Addr} {w0 w w' : World} {d g n q mk Q M : Nat} {T : Nat → Prop} {s s' : DSt} {P : PS} {ch : Chg} {cont : Cont} {c : Nat → List Int} {done : Nat → Bool} {K : (Nat → Bool) → Prop}
/-- a call of the device beneath it -/
theorem sh_dev (O : PairOk Real PR) (h : Shop Real PR S w0 w d g n q mk T s P ch) {q' : Nat} (hu : Up s' n q') (hq : q' ≤ 900000) {fn : Nat} {args : Array Value} {Pe : Ending → Prop} (hc : ∀ F, Real w d s F → s.ok → (∀ k, F k → T k) → Calls Tryz.prog fn args w fun e w' => Pe e ∧ RealUpd Real w d s' F w') :
    Calls Tryz.prog fn args w fun e w' => Pe e ∧ ShopUpd Real PR S w0 w d g n q' mk T s' P ch w' := by
  obtain ⟨p, mm, m1, F, G, Dm, C, k1, k2, k3, k4, k5, k6, k7, k8⟩ := h
  refine (hc F k1.real k1.ok (fun k hk => (k8 k).2 (.inl hk))).mono ?_
  rintro e w' ⟨he, hr⟩
  obtain ⟨F', z1, z2, z3⟩ := k1.dev O hr hu hq
  exact ⟨he, shop_step k3 k4 k5 k6 k7 k8 z1 z2 z3 (fun k hk => .inr (.inl hk)) k2⟩
/-- opened anew -/
theorem fst_open (D : DevOk Real) (O : PairOk Real PR) (hS : Sent7 w0 S) (h : Shop Real PR S w0 w d g n q mk T s P ch) (hfa : Fau s n q P cont c done) (hq : q ≤ 600000) (hk : K done) (hQ : q + 10 + cntTo done (halN n) ≤ Q) (hM : 7 + cntTo done (halN n) ≤ M) :
    Calls Tryz.prog 27 #[.pointer (some ⟨d, 0, none⟩)] w fun e w' => ∃ g' T', e = .returned (.tuple #[.pointer (some ⟨g', 0, none⟩), .nilIface]) ∧ FSt Real PR S w0 d g' n Q M P cont K T' w' ∧ Only T w w' ∧ ∀ k, T' k → T k ∨ w.heap.size ≤ k := by
  obtain ⟨p, mm, m1, F, G, Dm, C, k1, k2, k3, k4, k5, k6, k7, k8⟩ := h
  obtain ⟨c', hop⟩ := hfa.open_ k1.n0
  have he := hfa.rt.2.1
  refine (openOld_any D O S w0 w d n q F P cont s (Sent7.six' hS) k1.below k1.real k1.fn k1.up (by omega) k1.n0 k1.n1 hfa.fine hfa.held (hfa.roots k1.n0) ⟨by have := hfa.e0; omega, by omega⟩).mono ?_
  rintro e w' ⟨g', p2, mm2, m2, F', G', rfl, j1, j2, j3, j4, j5, j6, j7, j8, j9, j10⟩
  have hz := k1.below.size
  refine ⟨g', fun k => F' k ∨ G' k ∨ k = g' ∨ k = mm2 ∨ False, rfl, ⟨_, q + 10, 7, c', done, ⟨p2, mm2, m2, F', G', _, _, ⟨j1.real, j1.pr, j1.below, j1.sent0, j1.fn, j1.gn, j1.ap, hop.up, by omega, j1.n0, j1.n1⟩, j2, j3, j4, j5, fun _ h => h.elim, ⟨by omega, by omega, fun _ h => h.elim⟩, fun _ => Iff.rfl⟩, hop, hQ, hM, hk⟩, j8.mono (fun i hi => .inl ((k8 i).2 (.inl hi))), fun k hk => ?_⟩
  rcases hk with hk | hk | hk | hk | hk
  · exact (j9 k hk).imp (fun h => (k8 k).2 (.inl h)) id
  · exact (j10 k hk).imp (fun h => (k8 k).2 (.inl h)) id
  · exact .inr (by omega)
  · exact .inr (by omega)
  · exact hk.elim
end
end Go.Proofs.YtajcfhhnmjcmjaaGreatDoor
namespace Go.Proofs.YtajcfhhnmjcmjaaGreatDoor
open Go.RowKit Go.Maps

section
variable {Real : World → Nat → DSt → (Nat → Prop) → Prop} {PR : World → Nat → Nat → Nat → Nat → (Nat → Prop) → Prop} {S : Nat → Addr} {w0 w w' : World} {d g n q mk hb : Nat} {s : DSt} {P : PS} {ch : Chg} {cont : Cont} {M : Mdl}
end
end Go.Proofs.YtajcfhhnmjcmjaaGreatDoor
