/- Put together out of 4 texts. Package page's laws: an act told both: Commit. -/
import Derived.Test.YtaonhbmimaiiiaaGreatDoorGXbg
import Derived.Test.YtaonhbmimaiiiaaGreatDoorGXbd
namespace Go.Proofs.YtaonhbmimaiiiaaGreatDoor
open Go.RowKit Go.Maps

section
variable {Real : World → Nat → DSt → (Nat → Prop) → Prop} {PR : World → Nat → Nat → Nat → Nat → (Nat → Prop) → Prop} {S : Nat → Addr} {w0 w w' : World} {d g n q mk hb : Nat} {s : DSt} {P : PS} {ch : Chg} {cont : Cont} {M : Mdl}
end
end Go.Proofs.YtaonhbmimaiiiaaGreatDoor
namespace Go.Proofs.YtaonhbmimaiiiaaGreatDoor
open Go.RowKit Go.Maps

section
variable {Real : World → Nat → DSt → (Nat → Prop) → Prop} {PR : World → Nat → Nat → Nat → Nat → (Nat → Prop) → Prop} {S : Nat → Addr} {w0 w w' : World} {d g n q mk hb : Nat} {s : DSt} {P : PS} {ch : Chg} {cont : Cont} {M : Mdl}
theorem pages_some {cnt : Cont} (hk : Fine (halN n) P cont) (hc : contC cont ch = cnt) (h0 : ∀ i, 30 ≤ i → cnt i = none) : pagesTo P ch 256 = someTo cnt 30 := by
  subst hc
  unfold pagesTo someTo
  rw [show (256 : Nat) = 30 + 226 from rfl, List.range_add, List.filter_append]
  have e1 : ((List.range 226).map (30 + ·)).filter (thereB P ch) = [] := by
    rw [List.filter_eq_nil_iff]
    intro a ha
    obtain ⟨j, hj, rfl⟩ := List.mem_map.1 ha
    have := List.mem_range.1 hj
    rw [there_cont hk (by omega), h0 _ (by omega)]; decide
  rw [e1, List.append_nil]
  apply List.filter_congr
  intro a ha
  exact there_cont hk (by have := List.mem_range.1 ha; omega)
/-- a store can be asked -/
theorem asks_of (D : DevOk Real) (O : PairOk Real PR) (hS : Sent w0 S) (hk : Keeps s n q P cont) (hq : q + 1 ≤ 900000) (hmk : mk ≤ 1000) : Asks (fun T w => Shop Real PR S w0 w d g n q mk T s P ch) S w0.heap.size g (contC cont ch) (natsI (pagesTo P ch 256)) P.epoch where
  beside := fun T K w w' h ho hd hK => h.beside D O ho hd hK
  lt := fun T w h => h.lt D O
  sent := fun T w h => hS.on h.below
  no := fun T w i h hi hc => (sh_readNo D O hS.seven h hk.fine (by omega) hc).mono (by
    rintro e w' ⟨h1, h2, _⟩
    exact ⟨h1, h2⟩)
  yes := fun T w i l h hi hc => (sh_readYes D O h hk hq hmk (by omega) hc).mono (by
    rintro e w' ⟨⟨A, k, c, h1, h2, _⟩, h3⟩
    exact ⟨⟨A, k, c, h1, h2⟩, h3⟩)
  pages := fun T w h => sh_pages h
  epoch := fun T w h => sh_epoch h
theorem mcont_off {M : Mdl} {i : Nat} (h : 30 ≤ i) : M.cont i = none := if_neg (by omega)
theorem ShM.more {q' : Nat} (h : ShM Real PR S w0 w d g n q mk hb s P ch cont M) (hq : q ≤ q') (hq' : q' ≤ 900000) : ShM Real PR S w0 w d g n q' mk hb s P ch cont M := by
  obtain ⟨T, h1, h2⟩ := h
  exact ⟨T, h1.more hq hq' (Nat.le_refl _), h2⟩
end
end Go.Proofs.YtaonhbmimaiiiaaGreatDoor
namespace Go.Proofs.YtaonhbmimaiiiaaGreatDoor
open Go.RowKit Go.Maps

section
variable {Real : World → Nat → DSt → (Nat → Prop) → Prop} {PR : World → Nat → Nat → Nat → Nat → (Nat → Prop) → Prop}
theorem agr_new : Agr (noPS 0) noChg (fun _ => none) mdl0 where
  ep := rfl
  cnt := fun i => by rw [noChg_cont]; exact (mcont_no rfl).symm
  had := fun i => (if_neg (fun h => by cases h.2)).symm
  tch := fun i => by simp [noChg, mdl0]
end
end Go.Proofs.YtaonhbmimaiiiaaGreatDoor
namespace Go.Proofs.YtaonhbmimaiiiaaGreatDoor

/-- armed: the k-th call from here on finds the power gone; 0: none does -/
def DSt.armed (s : DSt) (k : Nat) : DSt := { s with arm := k }
/-- its power is gone -/
def DSt.fall (s : DSt) : DSt := { s with arm := 0, down := true }
section
variable {s u v t : DSt} {n q H p k i : Nat} {l : List Int} {r : RSt}
theorem Up.armed0 (h : Up s n q) : s.armed 0 = s := by
  obtain ⟨a, b, c, d⟩ := s
  have := h.arm
  simp only at this
  simp [DSt.armed, this]
theorem armed_power (hd : s.down = false) : (s.armed k).power = if k = 1 then (106, s.fall) else (0, s.armed (k - 1)) := by
  unfold DSt.power
  show (if s.down = true then (106, s.armed k) else if k = 0 then (0, s.armed k) else if k = 1 then (106, s.fall) else (0, s.armed (k - 1))) = _
  rw [if_neg (show ¬ s.down = true by rw [hd]; decide)]
  by_cases h0 : k = 0
  · subst h0; rfl
  · rw [if_neg h0]
theorem armed_write (h : Up s n q) (hi : i < n) (hl : l.length = 256) : (s.armed k).write (i : Int) l = if k = 1 then (106, s.fall) else (0, (s.put i l).armed (k - 1)) := by
  unfold DSt.write
  rw [armed_power h.down]
  by_cases hk : k = 1
  · simp only [if_pos hk]
    rw [if_neg (by decide)]
  · simp only [if_neg hk, if_true]
    unfold DSt.write1
    have hin : (s.armed (k - 1)).inB (i : Int) = true := h.inB hi
    rw [if_neg (by rw [hin]; decide), if_neg (by omega)]
    rfl
theorem armed_flush (h : Up s n q) : (s.armed k).flush = if k = 1 then (106, s.fall) else (0, (fl s).armed (k - 1)) := by
  unfold DSt.flush
  rw [armed_power h.down]
  by_cases hk : k = 1
  · simp only [if_pos hk]
    rw [if_neg (by decide)]
  · simp only [if_neg hk, if_true]
    rfl
theorem armed_wr2 (h : Up s n q) (hi : i + H < n) (hl : l.length = 256) (hy : Byt l) : wr2 (s.armed k) i H l = if k = 1 then (106, s.fall) else if k = 2 then (106, (s.put i l).fall) else (0, (pWrite s H i l).armed (k - 2)) := by
  unfold wr2
  rw [armed_write h (by omega) hl]
  by_cases hk : k = 1
  · simp only [if_pos hk]
    rw [if_pos (by decide)]
  · simp only [if_neg hk]
    rw [if_neg (by simp), armed_write (h.write (i := i) (by omega) hl hy).2 hi hl]
    by_cases hk2 : k = 2
    · rw [if_pos (by omega), if_pos hk2]
    · rw [if_neg (by omega), if_neg hk2, Nat.sub_sub]; rfl
theorem armed_save (h : Up s n q) (hH : 1 + H < n) (hc : r.code = 0) (hp : r.epoch % 2 = (p : Int)) : saveR (s.armed k) H r = if k = 1 then (106, s.fall) else if k = 2 then (106, (s.put p (bytesOf r)).fall) else if k = 3 then (106, (pWrite s H p (bytesOf r)).fall) else (0, (fl (pWrite s H p (bytesOf r))).armed (k - 3)) := by
  have hl := bytesOf_len (RSt.fine hc).2.2.2
  have hy := bytesOf_byt r
  have u2 := ((h.write (i := p) (by omega) hl hy).2.write (i := p + H) (by omega) hl hy).2
  rw [saveR_eq hc hp, armed_wr2 h (by omega) hl hy]
  by_cases h1 : k = 1
  · simp only [if_pos h1]
    rw [if_pos (by decide)]
  · simp only [if_neg h1]
    by_cases h2 : k = 2
    · simp only [if_pos h2]
      rw [if_pos (by decide)]
    · simp only [if_neg h2]
      rw [if_neg (by simp)]
      refine (armed_flush (s := pWrite s H p (bytesOf r)) u2).trans ?_
      by_cases h3 : k = 3
      · rw [if_pos (by omega), if_pos h3]
      · rw [if_neg (by omega), if_neg h3, Nat.sub_sub]
/-- written, at some of those places -/
inductive Pts (K : Nat → Prop) (s : DSt) : DSt → Prop
  | nil : Pts K s s
  | put {u : DSt} (i : Nat) (l : List Int) (h : Pts K s u) (hi : K i) : Pts K s (u.put i l)
variable {K : Nat → Prop}
theorem Pts.else_ (h : Pts K s u) {j : Nat} (hj : ¬ K j) : u.blks[j]? = s.blks[j]? := by
  induction h with
  | nil => rfl
  | put i l _ hi ih => exact (put_else (fun e => hj (by rw [← e]; exact hi))).trans ih
theorem Pts.clean (h : Pts K s u) (hc : Clean s) : Clean u := by
  induction h with
  | nil => exact hc
  | put i l _ hi ih => exact ih.put i l
theorem Pts.pWrite (h : Pts K s u) (h1 : K i) (h2 : K (i + H)) (l : List Int) : Pts K s (pWrite u H i l) := (h.put i l h1).put (i + H) l h2
theorem Pts.pWrites {ws : List (Nat × List Int)} (h : Pts K s u) (hw : ∀ x, x ∈ ws → K x.1 ∧ K (x.1 + H)) : Pts K s (pWrites u H ws) := by
  induction ws generalizing u with
  | nil => exact h
  | cons x ws ih => exact ih (h.pWrite (hw x (List.mem_cons_self ..)).1 (hw x (List.mem_cons_self ..)).2 x.2) (fun y hy => hw y (List.mem_cons_of_mem _ hy))
/-- a place of such a list, or its partner -/
def FrAt (fr : List Nat) (H j : Nat) : Prop := ∃ f, f ∈ fr ∧ (j = f ∨ j = f + H)
theorem FrAt.here {fr : List Nat} {f : Nat} (h : f ∈ fr) : FrAt fr H f := ⟨f, h, .inl rfl⟩
theorem FrAt.there {fr : List Nat} {f : Nat} (h : f ∈ fr) : FrAt fr H (f + H) := ⟨f, h, .inr rfl⟩
theorem crash_pend' (b : BSt) (k : Bool) : (b.crash k).pend = false := by
  unfold BSt.crash
  split
  · rfl
  · rename_i h; simpa using h
theorem calmCrash (s : DSt) (picks : List Int) : Calm (s.crash picks) := fun b hb => by
  obtain ⟨j, hj⟩ := List.getElem?_of_mem hb
  rcases h : s.blks[j]? with _ | x
  · have h1 := (List.getElem?_eq_some_iff.1 hj).1
    rw [crash_len] at h1
    rw [List.getElem?_eq_getElem h1] at h; cases h
  · rw [crash_get h] at hj
    injection hj with hj
    rw [← hj]; exact crash_pend' _ _
theorem Clean.crash (h : Clean s) (picks : List Int) : Clean (s.crash picks) := fun b hb => by
  obtain ⟨j, hj⟩ := List.getElem?_of_mem hb
  rcases hx : s.blks[j]? with _ | x
  · have h1 := (List.getElem?_eq_some_iff.1 hj).1
    rw [crash_len] at h1
    rw [List.getElem?_eq_getElem h1] at hx; cases hx
  · rw [crash_get hx] at hj
    injection hj with hj
    have := h x (List.mem_of_getElem? hx)
    rw [← hj]
    unfold BSt.crash
    split
    · split
      · rfl
      · exact this
    · exact this
/-- what isn't pending stays behind a crash -/
theorem crash_at (hc : ∀ b, s.blks[i]? = some b → b.pend = false) (picks : List Int) : (s.crash picks).blks[i]? = s.blks[i]? := by
  rcases h : s.blks[i]? with _ | x
  · rw [List.getElem?_eq_none (by rw [crash_len]; exact List.getElem?_eq_none_iff.1 h)]
  · exact crash_else h (hc x h) picks
theorem Calm.at_ (h : Calm s) {b : BSt} (hb : s.blks[i]? = some b) : b.pend = false := h b (List.mem_of_getElem? hb)
end
/-- what is there, whatever fell: all of state P, its root in one of both places at least; nothing pending, nothing faulted -/
structure Stays (s : DSt) (n q : Nat) (P : PS) (cont : Cont) : Prop where
  fine : Fine (halN n) P cont
  held : Held s (halN n) P cont
  roots : Roots s (halN n) (rootSt P)
  clean : Clean s
  calm : Calm s
  up : Up s n q
  ep0 : 0 ≤ P.epoch
  ep1 : P.epoch ≤ (q : Int)
  new : P.epoch = 0 → P = noPS 0
section
variable {s u v t : DSt} {n q q' p k i : Nat} {l : List Int} {P : PS} {cont : Cont} {ch : Chg}
theorem Keeps.stays (h : Keeps s n q P cont) (hc : Calm s) (hu : Up s n q) : Stays s n q P cont := ⟨h.fine, h.held, h.roots, h.clean, hc, hu, h.ep0, h.ep1, h.new⟩
/-- written elsewhere, and fallen -/
theorem Stays.pts {K : Nat → Prop} (h : Stays s n q P cont) (hu : Pts K s u) (hK : ∀ j, K j → 2 ≤ j ∧ j ≠ halN n ∧ j ≠ 1 + halN n ∧ ∀ f, 2 ≤ f → f < halN n → P.addrs.contains (f : Int) = true → j ≠ f ∧ j ≠ f + halN n) (up : Up u n q') (hq : q ≤ q') (picks : List Int) : Stays (u.crash picks) n q' P cont := by
  have same : ∀ j, ¬ K j → (u.crash picks).blks[j]? = s.blks[j]? := fun j hj => by
    have e := hu.else_ hj
    rw [crash_at (fun b hb => h.calm.at_ (by rw [← e]; exact hb)), e]
  have hep := h.ep1
  refine ⟨h.fine, h.held.same h.fine (fun f h2 h3 hm => ⟨same f (fun hk => (((hK f hk).2.2.2) f h2 h3 hm).1 rfl), same _ (fun hk => (((hK _ hk).2.2.2) f h2 h3 hm).2 rfl)⟩), ?_, (hu.clean h.clean).crash picks, calmCrash _ _, up.crash picks, h.ep0, by omega, h.new⟩
  refine h.roots.same (by rw [h.up.down]; rfl) (by rw [crash_len, up.len, h.up.len]) (fun i hi => ?_)
  rw [same i (fun hk => by have := hK i hk; omega)]
theorem Stays.crash (h : Stays s n q P cont) (picks : List Int) : Stays (s.crash picks) n q P cont :=
  h.pts (K := fun _ => False) .nil (fun _ h => h.elim) h.up (Nat.le_refl _) picks
theorem Stays.more (h : Stays s n q P cont) (hq : q ≤ q') : Stays s n q' P cont := ⟨h.fine, h.held, h.roots, h.clean, h.calm, h.up.more hq, h.ep0, by have := h.ep1; omega, h.new⟩
/-- free places are apart from what is there -/
theorem free_apart (_hF : Fine (halN n) P cont) {j : Nat} (h : FrAt (freeOf P (halN n)) (halN n) j) : 2 ≤ j ∧ j ≠ halN n ∧ j ≠ 1 + halN n ∧ ∀ f, 2 ≤ f → f < halN n → P.addrs.contains (f : Int) = true → j ≠ f ∧ j ≠ f + halN n := by
  obtain ⟨f, hf, hj⟩ := h
  have h2 := free_two hf
  obtain ⟨h3, h4⟩ := freeOf_is hf
  refine ⟨by omega, by omega, by omega, fun f' g2 g3 hm => ?_⟩
  have hne : f ≠ f' := fun e => by rw [e, hm] at h4; cases h4
  omega
end
end Go.Proofs.YtaonhbmimaiiiaaGreatDoor
