/- What package dir has to keep, call by call; a directory carried along a walk. -/
import Derived.Test.YtcjiimfgmmgifaaDoorGEnB
import Derived.Test.YtcjiimfgmmgifaaDoorGSee
import Derived.Test.YtcjiimfgmmgifaaDoorGNumber
namespace Go.Proofs.YtcjiimfgmmgifaaDoor
open Go.RowKit Go.Shelf Go.Sort

theorem EV.nil {S : Nat → Addr} {v : Value} (h : EV S 0 v) : v = .nilIface := by
  generalize hc : (0 : Int) = c at h
  rcases h with _ | ⟨j, hj⟩
  · rfl
  · omega
theorem EV.one {S : Nat → Addr} {c : Int} {v : Value} (h : EV S c v) (hc : c ≠ 0) : ∃ j : Nat, j < 24 ∧ c = 101 + (j : Int) ∧ v = .iface 112 (.pointer (some (S j))) := by
  rcases h with _ | ⟨j, hj⟩
  · exact absurd rfl hc
  · exact ⟨j, hj, rfl, rfl⟩
/-- the zero value's cells -/
abbrev dirZ : Array Value := #[.slice none 0 0]
/-- how many stand ahead of a name -/
def lowE (D : List En) (s : Nam) : Nat := (D.takeWhile (fun x => decide (x.s < s))).length
def insE (D : List En) (e : En) : List En := D.take (lowE D e.s) ++ [e] ++ D.drop (lowE D e.s)
def delE (D : List En) (s : Nam) : List En := if fnd D s < D.length then D.take (fnd D s) ++ D.drop (fnd D s + 1) else D
def setE (D : List En) (s : Nam) (e : En) : List En := if fnd D s < D.length ∧ rightE e = true then D.modify (fnd D s) (fun x => ⟨x.s, e.n, e.k⟩) else D
/-- why one is not added -/
def addC (D : List En) (e : En) : Int :=
  if vldC ⟨e.s.toArray⟩ = 0 then (if spec ⟨e.s.toArray⟩ = true then 114 else if rightE e = true then (if fnd D e.s < D.length then 110 else 0) else 103) else vldC ⟨e.s.toArray⟩
def addE (D : List En) (e : En) : List En := if addC D e = 0 then insE D e else D
/-- what an entry that comes from outside keeps -/
structure EnOk (e : En) : Prop where
  s : e.s.length ≤ 1000000
  n0 : -9223372036854775808 ≤ e.n
  n1 : e.n ≤ 9223372036854775807
  k0 : -9223372036854775808 ≤ e.k
  k1 : e.k ≤ 9223372036854775807
/-- the directory's calls, of whatever it is in memory: 'DR w g D F': at g it is D, in the blocks F -/
structure DirOk (DR : World → Nat → List En → (Nat → Prop) → Prop) : Prop where
  stays : ∀ g D, Stays (fun w F => DR w g D F)
  zero : ∀ w : World, DR (w.alloc (.cells dirZ 27)) w.heap.size [] (fun k => k = w.heap.size)
  clone : ∀ {w : World} {g : Nat} {D : List En} {F : Nat → Prop}, DR w g D F → D.length ≤ 10000 →
    Calls Tryd.prog 7 #[.pointer (some ⟨g, 0, none⟩)] w fun r w' => Below w.heap.size w w' ∧ ∃ q F2, r = .returned (.pointer (some ⟨q, 0, none⟩)) ∧ DR w' q D F2 ∧ ∀ k, F2 k → w.heap.size ≤ k
  len : ∀ {w : World} {g : Nat} {D : List En} {F : Nat → Prop}, DR w g D F →
    Calls Tryd.prog 8 #[.pointer (some ⟨g, 0, none⟩)] w fun r w' => r = .returned (.int .i64 (D.length : Int)) ∧ Below w.heap.size w w'
  add : ∀ (S : Nat → Addr) (e : En) {w : World} {g : Nat} {D : List En} {F : Nat → Prop}, Sent w S → DR w g D F → D.length ≤ 10000 → EnOk e →
    Calls Tryd.prog 14 #[.pointer (some ⟨g, 0, none⟩), enV e] w fun r w' => (∃ v, r = .returned v ∧ EV S (addC D e) v) ∧ Turned (fun w F => DR w g (addE D e) F) w F w'
  del : ∀ (s : Nam) {w : World} {g : Nat} {D : List En} {F : Nat → Prop}, DR w g D F → D.length ≤ 10000 →
    Calls Tryd.prog 16 #[.pointer (some ⟨g, 0, none⟩), encStr s] w fun r w' => (∃ x, r = .returned (.tuple #[enV x, .bool (isIn D s)]) ∧ ∀ e, D[fnd D s]? = some e → x = e) ∧ Turned (fun w F => DR w g (delE D s) F) w F w'
  set : ∀ (s : Nam) (e : En) {w : World} {g : Nat} {D : List En} {F : Nat → Prop}, DR w g D F → D.length ≤ 10000 → EnOk e →
    Calls Tryd.prog 18 #[.pointer (some ⟨g, 0, none⟩), encStr s, enV e] w fun r w' => r = .returned (.bool (isIn D s && rightE e)) ∧ Turned (fun w F => DR w g (setE D s e) F) w F w'
  all : ∀ {w : World} {g : Nat} {D : List En} {F : Nat → Prop}, DR w g D F → D.length ≤ 10000 →
    Calls Tryd.prog 20 #[.pointer (some ⟨g, 0, none⟩)] w fun r w' => EMade w D r w'
  from_ : ∀ (a : Nam) (n : Int) {w : World} {g : Nat} {D : List En} {F : Nat → Prop}, DR w g D F → D.length ≤ 10000 → -9223372036854775808 ≤ n → n ≤ 9223372036854775807 →
    Calls Tryd.prog 21 #[.pointer (some ⟨g, 0, none⟩), encStr a, .int .i64 n] w fun r w' => (∃ v, r = .returned (.tuple #[v, .bool (moreE D a n)]) ∧ EOwn w' w.heap.size v (fromE D a n)) ∧ Below w.heap.size w w'
  get : ∀ (s : Nam) {w : World} {g : Nat} {D : List En} {F : Nat → Prop}, DR w g D F → D.length ≤ 10000 →
    Calls Tryd.prog 23 #[.pointer (some ⟨g, 0, none⟩), encStr s] w fun r w' => (∃ x, r = .returned (.tuple #[enV x, .bool (isIn D s)]) ∧ ∀ e, D[fnd D s]? = some e → x = e) ∧ Below w.heap.size w w'
/-- a second directory, beside -/
def Ly.dir {DR : World → Nat → List En → (Nat → Prop) → Prop} (O : DirOk DR) (q : Nat) (D : List En) (F : Nat → Prop) : Ly where
  C w := DR w q D F
  B k := F k
  keeps h _ hk := (O.stays q D).kept h hk
/-- entries of the call's own -/
abbrev Ly.ens (B : Nat) (v : Value) (L : List En) : Ly := Ly.row B 29 3 v L.length (EC L)
/-- the directory at g, carried -/
abbrev Dk (DR : World → Nat → List En → (Nat → Prop) → Prop) (w0 w : World) (g : Nat) (D : List En) (ks : List Ly) : Prop := Cr (fun w F => DR w g D F) w0 w ks
section
variable {DR : World → Nat → List En → (Nat → Prop) → Prop} {w0 w w' : World} {g : Nat} {D : List En} {ks : List Ly}
theorem dk_zero (O : DirOk DR) (hb : Below w0.heap.size w0 w) (hl : ∀ K, K ∈ ks → K.C w ∧ ∀ k, K.B k → k < w.heap.size) : Dk DR w0 (w.alloc (.cells dirZ 27)) w.heap.size [] ks := by
  refine ⟨fun k => k = w.heap.size, O.zero w, hb.alloc hb.size _, fun k hk => by have := hb.size; omega, fun K hK => ?_⟩
  obtain ⟨h1, h2⟩ := hl K hK
  exact ⟨K.keeps h1 h2 (Kept.of_below ((Below.refl _ _).alloc (Nat.le_refl _) _) h2), fun k hk => ⟨by have := h2 k hk; simp; omega, fun e => by have := h2 k hk; omega⟩⟩
theorem dk_len (O : DirOk DR) (h : Dk DR w0 w g D ks) :
    Calls Tryd.prog 8 #[.pointer (some ⟨g, 0, none⟩)] w fun r w' => r = .returned (.int .i64 (D.length : Int)) ∧ Dk DR w0 w' g D ks ∧ Below w.heap.size w w' := by
  have h' := h
  obtain ⟨F, hd, _⟩ := h
  exact (O.len hd).mono fun r w' ⟨he, hb⟩ => ⟨he, h'.on (O.stays g D) hb, hb⟩
theorem dk_lenOther (O : DirOk DR) {q : Nat} {D2 : List En} {F2 : Nat → Prop} (h : Dk DR w0 w g D ks) (hK : Ly.dir O q D2 F2 ∈ ks) :
    Calls Tryd.prog 8 #[.pointer (some ⟨q, 0, none⟩)] w fun r w' => r = .returned (.int .i64 (D2.length : Int)) ∧ Dk DR w0 w' g D ks ∧ Below w.heap.size w w' := by
  have hd : DR w q D2 F2 := h.get hK
  exact (O.len hd).mono fun r w' ⟨he, hb⟩ => ⟨he, h.on (O.stays g D) hb, hb⟩
theorem dk_clone (O : DirOk DR) (h : Dk DR w0 w g D ks) (hD : D.length ≤ 10000) :
    Calls Tryd.prog 7 #[.pointer (some ⟨g, 0, none⟩)] w fun r w' => ∃ q F2, r = .returned (.pointer (some ⟨q, 0, none⟩)) ∧ Dk DR w0 w' g D (Ly.dir O q D F2 :: ks) ∧ Below w.heap.size w w' ∧ ∀ k, F2 k → w.heap.size ≤ k := by
  have h' := h
  obtain ⟨F, hd, _⟩ := h
  refine (O.clone hd hD).mono fun r w' ⟨hb, q, F2, he, hd2, hf⟩ => ⟨q, F2, he, h'.new (O.stays g D) hb (Ly.dir O q D F2) hd2 (fun k hk => ⟨hf k hk, (O.stays q D).lt hd2 k hk⟩), hb, hf⟩
theorem dk_add (O : DirOk DR) (S : Nat → Addr) (e : En) (hS : Sent w0 S) (h : Dk DR w0 w g D ks) (hD : D.length ≤ 10000) (he : EnOk e) :
    Calls Tryd.prog 14 #[.pointer (some ⟨g, 0, none⟩), enV e] w fun r w' => (∃ v, r = .returned v ∧ EV S (addC D e) v) ∧ Dk DR w0 w' g (addE D e) ks := by
  have h' := h
  obtain ⟨F, hd, hb, hF, hk⟩ := h
  refine (O.add S e (hS.on hb) hd hD he).mono fun r w' ⟨hr, F', r1, ho, hf⟩ => ⟨hr, ?_⟩
  refine ⟨F', r1, hb.trans (ho.below hb.size hF), fun k hk => ?_, fun K hK => Ly.kept (hk K hK) ho (fun g hlt hn h4 => ?_)⟩
  · rcases hf k hk with h5 | h5
    · exact hF k h5
    · have := hb.size; omega
  · rcases hf g h4 with h5 | h5
    · exact hn h5
    · omega
theorem dk_del (O : DirOk DR) (s : Nam) (h : Dk DR w0 w g D ks) (hD : D.length ≤ 10000) :
    Calls Tryd.prog 16 #[.pointer (some ⟨g, 0, none⟩), encStr s] w fun r w' => (∃ x, r = .returned (.tuple #[enV x, .bool (isIn D s)]) ∧ ∀ e, D[fnd D s]? = some e → x = e) ∧ Dk DR w0 w' g (delE D s) ks := by
  obtain ⟨F, hd, hb, hF, hk⟩ := h
  refine (O.del s hd hD).mono fun r w' ⟨hr, F', r1, ho, hf⟩ => ⟨hr, ?_⟩
  refine ⟨F', r1, hb.trans (ho.below hb.size hF), fun k hk => ?_, fun K hK => Ly.kept (hk K hK) ho (fun g hlt hn h4 => ?_)⟩
  · rcases hf k hk with h5 | h5
    · exact hF k h5
    · have := hb.size; omega
  · rcases hf g h4 with h5 | h5
    · exact hn h5
    · omega
theorem dk_set (O : DirOk DR) (s : Nam) (e : En) (h : Dk DR w0 w g D ks) (hD : D.length ≤ 10000) (he : EnOk e) :
    Calls Tryd.prog 18 #[.pointer (some ⟨g, 0, none⟩), encStr s, enV e] w fun r w' => r = .returned (.bool (isIn D s && rightE e)) ∧ Dk DR w0 w' g (setE D s e) ks := by
  obtain ⟨F, hd, hb, hF, hk⟩ := h
  refine (O.set s e hd hD he).mono fun r w' ⟨hr, F', r1, ho, hf⟩ => ⟨hr, ?_⟩
  refine ⟨F', r1, hb.trans (ho.below hb.size hF), fun k hk => ?_, fun K hK => Ly.kept (hk K hK) ho (fun g hlt hn h4 => ?_)⟩
  · rcases hf k hk with h5 | h5
    · exact hF k h5
    · have := hb.size; omega
  · rcases hf g h4 with h5 | h5
    · exact hn h5
    · omega
theorem dk_all (O : DirOk DR) (h : Dk DR w0 w g D ks) (hD : D.length ≤ 10000) :
    Calls Tryd.prog 20 #[.pointer (some ⟨g, 0, none⟩)] w fun r w' => EMade w D r w' ∧ Dk DR w0 w' g D ks := by
  have h' := h
  obtain ⟨F, hd, _⟩ := h
  exact (O.all hd hD).mono fun r w' hm => ⟨hm, h'.on (O.stays g D) hm.choose_spec.2.2⟩
theorem dk_from (O : DirOk DR) (a : Nam) (n : Int) (h : Dk DR w0 w g D ks) (hD : D.length ≤ 10000) (h0 : -9223372036854775808 ≤ n) (h1 : n ≤ 9223372036854775807) :
    Calls Tryd.prog 21 #[.pointer (some ⟨g, 0, none⟩), encStr a, .int .i64 n] w fun r w' => (∃ v, r = .returned (.tuple #[v, .bool (moreE D a n)]) ∧ EOwn w' w.heap.size v (fromE D a n)) ∧ Below w.heap.size w w' ∧ Dk DR w0 w' g D ks := by
  have h' := h
  obtain ⟨F, hd, _⟩ := h
  exact (O.from_ a n hd hD h0 h1).mono fun r w' ⟨hv, hb⟩ => ⟨hv, hb, h'.on (O.stays g D) hb⟩
theorem dk_get (O : DirOk DR) (s : Nam) (h : Dk DR w0 w g D ks) (hD : D.length ≤ 10000) :
    Calls Tryd.prog 23 #[.pointer (some ⟨g, 0, none⟩), encStr s] w fun r w' => (∃ x, r = .returned (.tuple #[enV x, .bool (isIn D s)]) ∧ ∀ e, D[fnd D s]? = some e → x = e) ∧ Below w.heap.size w w' ∧ Dk DR w0 w' g D ks := by
  have h' := h
  obtain ⟨F, hd, _⟩ := h
  exact (O.get s hd hD).mono fun r w' ⟨hv, hb⟩ => ⟨hv, hb, h'.on (O.stays g D) hb⟩
/-- entries that were made since w, carried -/
theorem Dk.made (O : DirOk DR) {B : Nat} {v : Value} {L : List En} (h : Dk DR w0 w g D ks) (hb : Below w.heap.size w w') (ho : EOwn w' B v L) (hB : w.heap.size ≤ B) : Dk DR w0 w' g D (Ly.ens B v L :: ks) :=
  h.new (O.stays g D) hb (Ly.ens B v L) ho (fun k hk => ⟨Nat.le_trans hB (World.ownsRow.lt ho k hk).1, (World.ownsRow.lt ho k hk).2⟩)
theorem row_free {B n c g1 z : Nat} {t : TypeId} {xs : List Value} {m : Nat} (h : w.ownsRow B t z (.slice (some ⟨g1, 0, none⟩) n c) m xs) (k : Nat) : w.frozen? ⟨g1, k, none⟩ = false := by
  rcases h.2 with ⟨h', _⟩ | ⟨g', cap', cur, h', _, hg, _⟩
  · simp at h'
  · simp only [Value.slice.injEq, Option.some.injEq, Addr.mk.injEq, and_true] at h'
    obtain ⟨rfl, _⟩ := h'
    exact frozen_of_row w g1 k cur t hg
/-- a cell of a row beside is written -/
theorem Dk.store (O : DirOk DR) {B n c g1 z i : Nat} {t : TypeId} {xs : List Value} {u : Value} (h : Dk DR w0 w g D (Ly.row B t z (.slice (some ⟨g1, 0, none⟩) n c) n xs :: ks)) (hn : ∀ L, L ∈ ks → ¬ L.B g1) (h0 : w0.heap.size ≤ B) : Dk DR w0 (w.setCell ⟨g1, i, none⟩ u) g D (Ly.row B t z (.slice (some ⟨g1, 0, none⟩) n c) n (xs.set i u) :: ks) := by
  have hr : w.ownsRow B t z (.slice (some ⟨g1, 0, none⟩) n c) n xs := h.get List.mem_cons_self
  obtain ⟨k1, k2⟩ := hr.stored i u
  exact h.other (O.stays g D) (K' := Ly.row B t z (.slice (some ⟨g1, 0, none⟩) n c) n (xs.set i u)) (g1 := g1) rfl k2 hn (Nat.le_trans h0 (World.ownsRow.lt hr g1 rfl).1) k1 (fun k hk => ⟨.inl (Option.some.inj hk).symm, (World.ownsRow.lt k1 k hk).2⟩)
/-- entries beside, appended to -/
theorem Dk.grow (O : DirOk DR) {B : Nat} {v v' : Value} {L M : List En} (h : Dk DR w0 w g D (Ly.ens B v L :: ks)) (hn : ∀ K, K ∈ ks → ∀ k, v.ownBlock = some k → ¬ K.B k) (h0 : w0.heap.size ≤ B) (ho : EOwn w' B v' M) (hg : w.grownBy w' v.ownBlock) (hv : v'.ownBlock = v.ownBlock ∨ ∀ k, v'.ownBlock = some k → w.heap.size ≤ k) : Dk DR w0 w' g D (Ly.ens B v' M :: ks) := by
  have hr : EOwn w B v L := h.get List.mem_cons_self
  rcases hv0 : v.ownBlock with _ | g1
  · rw [hv0] at hg hv
    have hb : Below w.heap.size w w' := ⟨hg.os, hg.tape, hg.output, hg.size, fun i hi => hg.block i hi (by simp)⟩
    exact h.tail.new (O.stays g D) hb (Ly.ens B v' M) ho (fun k hk => ⟨(hv.elim (fun e => by cases (e.symm.trans (show v'.ownBlock = some k from hk))) (fun e => e k hk)), (World.ownsRow.lt ho k hk).2⟩)
  · rw [hv0] at hg hv
    exact h.other (O.stays g D) (K' := Ly.ens B v' M) (g1 := g1) hv0 hg (fun K hK => hn K hK g1 hv0) (Nat.le_trans h0 (World.ownsRow.lt hr g1 hv0).1) ho (fun k hk => ⟨hv.elim (fun e => .inl (Option.some.inj ((show v'.ownBlock = some k from hk).symm.trans e))) (fun e => .inr (e k hk)), (World.ownsRow.lt ho k hk).2⟩)
end
end Go.Proofs.YtcjiimfgmmgifaaDoor
