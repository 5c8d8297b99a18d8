/- Roots on a device, over plain values: what Save leaves, and what is there behind a fall. -/
import Derived.Test.YthgdofcamjkdpaaDoorGRootSpec
import Derived.Test.YthgdofcamjkdpaaDoorGPairE
namespace Go.Proofs.YthgdofcamjkdpaaDoor

/-- the two pairs of blocks: the one of parity p, the other one -/
structure Four (s : DSt) (H p : Nat) (a b c d : BSt) : Prop where
  here : At s p (p + H) a b
  there : At s (1 - p) (1 - p + H) c d
theorem Four.swap {s : DSt} {H p : Nat} {a b c d : BSt} (h : Four s H p a b c d) (hp : p ≤ 1) : Four s H (1 - p) c d a b := ⟨h.there, by rw [show 1 - (1 - p) = p by omega]; exact h.here⟩
theorem four_new {n H p : Nat} (hH : 1 + H < n) (hp : p ≤ 1) : Four (DSt.new n) H p blank blank blank blank := ⟨At.new (by omega) (by omega), At.new (by omega) (by omega)⟩
theorem blank_cl : blank = cl (List.replicate 256 0) false := rfl
/-- what such a pair reads as -/
theorem up_root {s : DSt} {n q i : Nat} {b : BSt} (u : Up s n q) (hi : i < n) (hb : s.blks[i]? = some b) : s.root i = readR b.read.2 := by
  unfold DSt.root; rw [u.read hi hb]
theorem calm_cl {s : DSt} {i : Nat} {b : BSt} (h : Calm s) (hb : s.blks[i]? = some b) : b.pend = false := h b (List.mem_of_getElem? hb)
theorem flush_calm {b : BSt} (h : b.pend = false) : b.flush = b := by unfold BSt.flush; rw [if_neg (by rw [h]; decide)]
theorem crash_calm {b : BSt} (h : b.pend = false) (k : Bool) : b.crash k = b := by unfold BSt.crash; rw [if_neg (by rw [h]; decide)]
theorem pWrite_else {s : DSt} {H i j : Nat} {l : List Int} (h1 : i ≠ j) (h2 : i + H ≠ j) : (pWrite s H i l).blks[j]? = s.blks[j]? := by
  unfold pWrite; rw [put_else h2, put_else h1]
theorem calm_new (n : Nat) : Calm (DSt.new n) := by
  intro b hb
  unfold DSt.new at hb
  rw [List.eq_of_mem_replicate hb]; rfl
section
variable {s : DSt} {n q H p : Nat} {a b c d : BSt} {r : RSt}
/-- a root is saved, the power on -/
theorem Four.save (h : Four s H p a b c d) (u : Up s n q) (hH : 1 + H < n) (h1 : 2 ≤ H) (hp : p ≤ 1) (hc : Calm s) (hr : r.code = 0) (he : r.epoch % 2 = (p : Int)) :
    ∃ s', saveR s H r = (0, s') ∧ Up s' n (q + 3) ∧ Calm s' ∧ Four s' H p (cl (bytesOf r) a.ever) (cl (bytesOf r) b.ever) c d := by
  have hl := bytesOf_len (RSt.fine hr).2.2.2
  have hy := bytesOf_byt r
  obtain ⟨e1, u1⟩ := u.write (i := p) (l := bytesOf r) (by omega) hl hy
  obtain ⟨e2, u2⟩ := u1.write (i := p + H) (l := bytesOf r) (by omega) hl hy
  obtain ⟨e3, u3⟩ := u2.flush
  refine ⟨fl (pWrite s H p (bytesOf r)), ?_, u3, calm_fl _, ?_, ?_⟩
  · unfold saveR
    rw [if_neg (by rw [hr]; simp), he, e1]
    rw [if_neg (by simp)]
    simp only
    rw [show ((p : Int) + (H : Int)) = ((p + H : Nat) : Int) by omega, e2]
    rw [if_neg (by simp)]
    exact e3
  · have := (h.here.write (by omega) (bytesOf r)).fl
    rwa [flush_write, flush_write] at this
  · have w1 := pWrite_else (s := s) (H := H) (i := p) (j := 1 - p) (l := bytesOf r) (by omega) (by omega)
    have w2 := pWrite_else (s := s) (H := H) (i := p) (j := 1 - p + H) (l := bytesOf r) (by omega) (by omega)
    have f1 := fl_at (w1.trans h.there.a)
    have f2 := fl_at (w2.trans h.there.c)
    rw [flush_calm (calm_cl hc h.there.a)] at f1
    rw [flush_calm (calm_cl hc h.there.c)] at f2
    exact ⟨f1, f2⟩
/-! the power goes at the k-th call -/
theorem write_more {t : DSt} {k i : Nat} {l : List Int} (hd : t.down = false) (ha : t.arm = k + 2) (hi : i < t.blks.length) (hl : l.length = 256) : ∃ t', t.write (i : Int) l = (0, t') ∧ t'.down = false ∧ t'.arm = k + 1 ∧ t'.blks = t.blks.modify i (BSt.write l) := by
  have hp : t.power = (0, { t with arm := k + 1 }) := by
    unfold DSt.power; rw [if_neg (by rw [hd]; decide), if_neg (by omega), if_neg (by omega), ha]; rfl
  refine ⟨{ ({ t with arm := k + 1 } : DSt).turn (i : Int) (BSt.write l) with calls := t.calls + 1 }, ?_, hd, rfl, ?_⟩
  · unfold DSt.write
    rw [hp, if_pos rfl]
    unfold DSt.write1
    rw [if_neg (by
      have : ({ t with arm := k + 1 } : DSt).inB (i : Int) = true := DSt.in_iff.2 ⟨by omega, by show (i : Int) < (t.blks.length : Nat); omega⟩
      show ¬ ({ t with arm := k + 1 } : DSt).inB (i : Int) = false
      rw [this]; decide), if_neg (by omega)]
  · show t.blks.modify (i : Int).toNat _ = _
    rw [Int.toNat_natCast]
theorem write_last {t : DSt} {i : Int} {l : List Int} (hd : t.down = false) (ha : t.arm = 1) : ∃ t', t.write i l = (106, t') ∧ t'.blks = t.blks := by
  have hp : t.power = (106, { t with arm := 0, down := true }) := by
    unfold DSt.power; rw [if_neg (by rw [hd]; decide), if_neg (by omega), if_pos ha]
  exact ⟨{ t with arm := 0, down := true }, by unfold DSt.write; rw [hp, if_neg (by simp)], rfl⟩
theorem flush_last {t : DSt} (hd : t.down = false) (ha : t.arm = 1) : ∃ t', t.flush = (106, t') ∧ t'.blks = t.blks := by
  have hp : t.power = (106, { t with arm := 0, down := true }) := by
    unfold DSt.power; rw [if_neg (by rw [hd]; decide), if_neg (by omega), if_pos ha]
  exact ⟨{ t with arm := 0, down := true }, by unfold DSt.flush; rw [hp, if_neg (by simp)], rfl⟩
theorem flush_more {t : DSt} {k : Nat} (hd : t.down = false) (ha : t.arm = k + 2) : ∃ t', t.flush = (0, t') ∧ t'.blks = t.blks.map BSt.flush := by
  have hp : t.power = (0, { t with arm := k + 1 }) := by
    unfold DSt.power; rw [if_neg (by rw [hd]; decide), if_neg (by omega), if_neg (by omega), ha]; rfl
  exact ⟨_, by unfold DSt.flush; rw [hp, if_pos rfl]; rfl, rfl⟩
theorem crash_of {t t' : DSt} (h : t.blks = t'.blks) (picks : List Int) : (t.crash picks).blks = (t'.crash picks).blks := by
  unfold DSt.crash; simp only [h]
theorem crash_else {t : DSt} {j : Nat} {x : BSt} (h : t.blks[j]? = some x) (hx : x.pend = false) (picks : List Int) : (t.crash picks).blks[j]? = some x := by
  rw [crash_get h, crash_calm hx]
theorem okN_save (h : s.okN q) : (saveR s H r).2.okN (q + 3) := by
  have hy := bytesOf_byt r
  unfold saveR
  split
  · exact h.more (by omega)
  · have h1 := okN_write (i := r.epoch % 2) h hy
    split
    · exact h1.more (by omega)
    · have h2 := okN_write (i := r.epoch % 2 + H) h1 hy
      split
      · exact h2.more (by omega)
      · exact okN_flush h2
theorem save_len : (saveR s H r).2.blks.length = s.blks.length := by
  unfold saveR
  split
  · rfl
  · split
    · exact write_len _ _ _
    · split
      · rw [write_len, write_len]
      · rw [flush_len, write_len, write_len]
/-- whatever was armed, behind a crash it is up -/
theorem up_saveCrash (u : Up s n q) (k : Int) (hk : k ≤ 1000) (picks : List Int) : Up ((saveR (s.setArm k) H r).2.crash picks) n (q + 3) :=
  ⟨rfl, rfl, by rw [crash_len, save_len]; exact u.len, okN_crash (okN_save (okN_arm u.okN (by omega)))⟩
/-- a block of the root's that is read as it was, or as it is to be -/
def Half (l : List Int) (a x : BSt) : Prop := (x = a ∨ ∃ e, x = cl l e)
/-- behind a Save whose k-th call found the power gone: what it answers, and what the blocks have then -/
theorem Four.falls (h : Four s H p a b c d) (u : Up s n q) (hH : 1 + H < n) (h1 : 2 ≤ H) (hp : p ≤ 1) (hc : Calm s) (hr : r.code = 0) (he : r.epoch % 2 = (p : Int)) (picks : List Int) :
    ((saveR (s.setArm 1) H r).1 = 106 ∧ Four ((saveR (s.setArm 1) H r).2.crash picks) H p a b c d) ∧
    ((saveR (s.setArm 2) H r).1 = 106 ∧ Four ((saveR (s.setArm 2) H r).2.crash picks) H p ((a.write (bytesOf r)).crash (keepP picks 0)) b c d) ∧
    ((saveR (s.setArm 3) H r).1 = 106 ∧ Four ((saveR (s.setArm 3) H r).2.crash picks) H p ((a.write (bytesOf r)).crash (keepP picks 0)) ((b.write (bytesOf r)).crash (keepP picks 1)) c d) ∧
    ((saveR (s.setArm 4) H r).1 = 0 ∧ Four ((saveR (s.setArm 4) H r).2.crash picks) H p (cl (bytesOf r) a.ever) (cl (bytesOf r) b.ever) c d) := by
  have hl := bytesOf_len (RSt.fine hr).2.2.2
  have hpa := calm_cl hc h.here.a
  have hpb := calm_cl hc h.here.c
  have hpc := calm_cl hc h.there.a
  have hpd := calm_cl hc h.there.c
  have hlen := u.len
  have pq : ((p : Int) + (H : Int)) = ((p + H : Nat) : Int) := by omega
  have bl : ∀ k : Int, (s.setArm k).blks = s.blks := fun _ => rfl
  have ar : ∀ k : Nat, (s.setArm (k : Int)).arm = k := fun k => by show ((k : Int)).toNat = k; omega
  have dn : ∀ k : Int, (s.setArm k).down = false := fun _ => u.down
  have he1 : ¬ p = 1 - p := by omega
  have he2 : ¬ p + H = 1 - p := by omega
  have he3 : ¬ p = 1 - p + H := by omega
  have he4 : ¬ p + H = 1 - p + H := by omega
  have he5 : ¬ p = p + H := by omega
  refine ⟨?_, ?_, ?_, ?_⟩
  · obtain ⟨t, ht, hb⟩ := write_last (t := s.setArm 1) (i := (p : Int)) (l := bytesOf r) (dn 1) (ar 1)
    have e : saveR (s.setArm 1) H r = (106, t) := by
      unfold saveR; rw [if_neg (by rw [hr]; simp), he, ht, if_pos (by simp)]
    rw [e]
    have hb' := hb.trans (bl 1)
    exact ⟨rfl, ⟨crash_else (by rw [hb']; exact h.here.a) hpa _, crash_else (by rw [hb']; exact h.here.c) hpb _⟩, ⟨crash_else (by rw [hb']; exact h.there.a) hpc _, crash_else (by rw [hb']; exact h.there.c) hpd _⟩⟩
  · obtain ⟨t, ht, hd, ha, hb⟩ := write_more (t := s.setArm 2) (k := 0) (i := p) (l := bytesOf r) (dn 2) (ar 2) (by rw [bl]; omega) hl
    obtain ⟨t2, ht2, hb2⟩ := write_last (t := t) (i := ((p + H : Nat) : Int)) (l := bytesOf r) hd ha
    have e : saveR (s.setArm 2) H r = (106, t2) := by
      unfold saveR; rw [if_neg (by rw [hr]; simp), he, ht, if_neg (by simp)]
      simp only
      rw [pq, ht2, if_pos (by simp)]
    rw [e]
    have hb' : t2.blks = s.blks.modify p (BSt.write (bytesOf r)) := hb2.trans (by rw [hb, bl])
    have ga : t2.blks[p]? = some (a.write (bytesOf r)) := by rw [hb', List.getElem?_modify, h.here.a]; simp
    have gx : ∀ j, ¬ p = j → t2.blks[j]? = s.blks[j]? := fun j hj => by rw [hb', List.getElem?_modify]; cases s.blks[j]? <;> simp [hj]
    have r0 : (t2.blks.take p).countP BSt.pend = 0 := by rw [hb', take_modify_lt _ _ (Nat.le_refl _)]; exact calm_take hc p
    have g0 := crash_get ga picks
    rw [r0] at g0
    exact ⟨rfl, ⟨g0, crash_else (by rw [gx _ he5]; exact h.here.c) hpb _⟩, ⟨crash_else (by rw [gx _ he1]; exact h.there.a) hpc _, crash_else (by rw [gx _ he3]; exact h.there.c) hpd _⟩⟩
  · obtain ⟨t, ht, hd, ha, hb⟩ := write_more (t := s.setArm 3) (k := 1) (i := p) (l := bytesOf r) (dn 3) (ar 3) (by rw [bl]; omega) hl
    obtain ⟨t2, ht2, hd2, ha2, hb2⟩ := write_more (t := t) (k := 0) (i := p + H) (l := bytesOf r) hd ha (by rw [hb, List.length_modify, bl]; omega) hl
    obtain ⟨t3, ht3, hb3⟩ := flush_last hd2 ha2
    have e : saveR (s.setArm 3) H r = (106, t3) := by
      unfold saveR; rw [if_neg (by rw [hr]; simp), he, ht, if_neg (by simp)]
      simp only
      rw [pq, ht2, if_neg (by simp)]
      exact ht3
    rw [e]
    have hb' : t3.blks = (pWrite s H p (bytesOf r)).blks := by
      rw [hb3, hb2, hb, bl]
      unfold pWrite DSt.put DSt.turn
      simp only [Int.toNat_natCast]
    have hcr := h.here.crash (by exact hc) (by omega) (bytesOf r) picks
    have w1 := pWrite_else (s := s) (H := H) (i := p) (j := 1 - p) (l := bytesOf r) he1 he2
    have w2 := pWrite_else (s := s) (H := H) (i := p) (j := 1 - p + H) (l := bytesOf r) he3 he4
    refine ⟨rfl, ⟨?_, ?_⟩, ⟨crash_else (by rw [hb', w1]; exact h.there.a) hpc _, crash_else (by rw [hb', w2]; exact h.there.c) hpd _⟩⟩
    · rw [crash_of hb']; exact hcr.a
    · rw [crash_of hb']; exact hcr.c
  · obtain ⟨t, ht, hd, ha, hb⟩ := write_more (t := s.setArm 4) (k := 2) (i := p) (l := bytesOf r) (dn 4) (ar 4) (by rw [bl]; omega) hl
    obtain ⟨t2, ht2, hd2, ha2, hb2⟩ := write_more (t := t) (k := 1) (i := p + H) (l := bytesOf r) hd ha (by rw [hb, List.length_modify, bl]; omega) hl
    obtain ⟨t3, ht3, hb3⟩ := flush_more hd2 ha2
    have e : saveR (s.setArm 4) H r = (0, t3) := by
      unfold saveR; rw [if_neg (by rw [hr]; simp), he, ht, if_neg (by simp)]
      simp only
      rw [pq, ht2, if_neg (by simp)]
      exact ht3
    rw [e]
    have hb' : t3.blks = (fl (pWrite s H p (bytesOf r))).blks := by
      rw [hb3, hb2, hb, bl]
      unfold fl pWrite DSt.put DSt.turn
      simp only [Int.toNat_natCast]
    have w1 := pWrite_else (s := s) (H := H) (i := p) (j := 1 - p) (l := bytesOf r) he1 he2
    have w2 := pWrite_else (s := s) (H := H) (i := p) (j := 1 - p + H) (l := bytesOf r) he3 he4
    have f0 := (h.here.write (by omega) (bytesOf r)).fl
    rw [flush_write, flush_write] at f0
    have f1 := fl_at (w1.trans h.there.a)
    have f2 := fl_at (w2.trans h.there.c)
    rw [flush_calm hpc] at f1
    rw [flush_calm hpd] at f2
    exact ⟨rfl, ⟨crash_else (by rw [hb']; exact f0.a) rfl _, crash_else (by rw [hb']; exact f0.c) rfl _⟩, ⟨crash_else (by rw [hb']; exact f1) hpc _, crash_else (by rw [hb']; exact f2) hpd _⟩⟩
end
/-! of four blocks the greatest -/
/-- it is r, or less -/
def Under (r : RSt) (o : Option RSt) : Prop := ∀ x, o = some x → x = r ∨ x.epoch < r.epoch
theorem under_none (r : RSt) : Under r none := fun _ h => by cases h
theorem under_self (r : RSt) : Under r (some r) := fun _ h => .inl (by injection h with h; exact h.symm)
theorem under_less {r x : RSt} (h : x.epoch < r.epoch) : Under r (some x) := fun _ e => .inr (by injection e with e; rw [← e]; exact h)
theorem better_under {r out : RSt} {o : Option RSt} (h : out = r ∨ out.epoch < r.epoch) (ho : Under r o) : (better out o = r ∨ (better out o).epoch < r.epoch) ∧ (out = r → better out o = r) ∧ (o = some r → better out o = r) := by
  rcases o with _ | x
  · exact ⟨h, fun e => e, fun e => by cases e⟩
  · have hx := ho x rfl
    unfold better
    simp only
    split
    · rename_i hlt
      refine ⟨hx, fun e => ?_, fun e => by injection e⟩
      subst e
      rcases hx with rfl | hx
      · rfl
      · omega
    · rename_i hlt
      refine ⟨h, fun e => e, fun e => ?_⟩
      injection e with e
      subst e
      rcases h with rfl | h
      · rfl
      · omega
theorem newest_is {r : RSt} (h0 : 0 < r.epoch) {a b c d : Option RSt} (ha : Under r a) (hb : Under r b) (hc : Under r c) (hd : Under r d) (h : a = some r ∨ b = some r ∨ c = some r ∨ d = some r) : newestOf a b c d = r := by
  obtain ⟨k1, m1, z1⟩ := better_under (out := noRoot) (.inr h0) ha
  obtain ⟨k2, m2, z2⟩ := better_under k1 hb
  obtain ⟨k3, m3, z3⟩ := better_under k2 hc
  obtain ⟨k4, m4, z4⟩ := better_under k3 hd
  unfold newestOf
  rcases h with h | h | h | h
  · exact m4 (m3 (m2 (z1 h)))
  · exact m4 (m3 (z2 h))
  · exact m4 (z3 h)
  · exact z4 h
theorem newest_none : newestOf none none none none = noRoot := rfl
/-- the roots of the device's four blocks, by parity -/
theorem newest_four {p : Nat} (hp : p ≤ 1) {r : RSt} (h0 : 0 < r.epoch) {f : Nat → Option RSt} {H : Nat} (h1 : Under r (f p)) (h2 : Under r (f (p + H))) (h3 : Under r (f (1 - p))) (h4 : Under r (f (1 - p + H))) (h : f p = some r ∨ f (p + H) = some r ∨ f (1 - p) = some r ∨ f (1 - p + H) = some r) : newestOf (f 0) (f H) (f 1) (f (1 + H)) = r := by
  rcases (show p = 0 ∨ p = 1 by omega) with rfl | rfl
  · simp only [Nat.zero_add, Nat.sub_zero] at h1 h2 h3 h4 h
    exact newest_is h0 h1 h2 h3 h4 h
  · simp only [Nat.zero_add, Nat.sub_self] at h1 h2 h3 h4 h
    refine newest_is h0 h3 h4 h1 h2 ?_
    rcases h with h | h | h | h
    · exact .inr (.inr (.inl h))
    · exact .inr (.inr (.inr h))
    · exact .inl h
    · exact .inr (.inl h)
theorem copies_four {p : Nat} (hp : p ≤ 1) {r : RSt} (h0 : 0 < r.epoch) (he : r.epoch % 2 = (p : Int)) {f : Nat → Option RSt} {H : Nat} (h : newestOf (f 0) (f H) (f 1) (f (1 + H)) = r) : copiesOf (f 0) (f H) (f 1) (f (1 + H)) = has r (f p) + has r (f (p + H)) := by
  unfold copiesOf
  rw [h, if_neg (by omega)]
  rcases (show p = 0 ∨ p = 1 by omega) with rfl | rfl
  · rw [if_pos (by omega), Nat.zero_add]
  · rw [if_neg (by omega)]
theorem has_self (r : RSt) : has r (some r) = 1 := if_pos rfl
theorem has_none (r : RSt) : has r none = 0 := rfl
theorem has_other {r x : RSt} (h : x.epoch ≠ r.epoch) : has r (some x) = 0 := if_neg fun e => h (by injection e with e; rw [e])
end Go.Proofs.YthgdofcamjkdpaaDoor
