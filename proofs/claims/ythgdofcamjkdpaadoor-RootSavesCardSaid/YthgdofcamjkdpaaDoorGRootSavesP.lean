/- What a save whose k-th call finds the power gone leaves behind i saves (RootSaves). -/
import Derived.Test.YthgdofcamjkdpaaDoorGRootFaultsP
namespace Go.Proofs.YthgdofcamjkdpaaDoor
open Go.RowKit

theorem Was.cl {f : Nat → RSt} {k : Nat} {b : BSt} (h : Was f k b) : ∃ l e, b = cl l e ∧ ((k = 0 ∧ readR l = none) ∨ (1 ≤ k ∧ l = bytesOf (f k))) := by
  rcases h with ⟨h, rfl⟩ | ⟨h, e, rfl⟩
  · exact ⟨_, _, blank_cl, .inl ⟨h, readR_zeros⟩⟩
  · exact ⟨_, _, rfl, .inr ⟨h, rfl⟩⟩
theorem read_fell (l m : List Int) (e k : Bool) : readR (((cl l e).write m).crash k).read.2 = if k = true then readR m else readR l := by cases k <;> rfl
section
variable {f : Nat → RSt} {s : DSt} {n H q i p : Nat} {a b c d : BSt}
/-- whatever the two blocks of the save's pair became: as they were, or the new root -/
theorem after_fall (u : Up s n q) (h : Four s H p a b c d) (hH : 1 + H < n) (hp : p = (i + 1) % 2) (hc : ∀ k, 1 ≤ k → k ≤ i + 1 → (f k).code = 0) (hs : ∀ k, Sums (f k).refs) (he : ∀ k, (f k).epoch = (k : Int))
    (ha : readR a.read.2 = some (f (i + 1)) ∨ (i ≤ 1 ∧ readR a.read.2 = none) ∨ (2 ≤ i ∧ readR a.read.2 = some (f (i - 1))))
    (hb : readR b.read.2 = some (f (i + 1)) ∨ (i ≤ 1 ∧ readR b.read.2 = none) ∨ (2 ≤ i ∧ readR b.read.2 = some (f (i - 1))))
    (h3 : Was f i c) (h4 : Was f i d) : s.newest H = f (i + 1) ∨ (i = 0 ∧ s.newest H = noRoot) ∨ (1 ≤ i ∧ s.newest H = f i) := by
  have rc : (i = 0 ∧ readR c.read.2 = none) ∨ (1 ≤ i ∧ readR c.read.2 = some (f i)) := by
    obtain ⟨l, e, rfl, hl | ⟨h1, rfl⟩⟩ := h3.cl
    · exact .inl hl
    · exact .inr ⟨h1, readR_cl (hc i h1 (by omega)) (hs i)⟩
  have rd : (i = 0 ∧ readR d.read.2 = none) ∨ (1 ≤ i ∧ readR d.read.2 = some (f i)) := by
    obtain ⟨l, e, rfl, hl | ⟨h1, rfl⟩⟩ := h4.cl
    · exact .inl hl
    · exact .inr ⟨h1, readR_cl (hc i h1 (by omega)) (hs i)⟩
  have under : ∀ (k j : Nat), j ≤ k → Under (f k) (some (f j)) := fun k j hjk => by
    rcases (show j = k ∨ j < k by omega) with rfl | hlt
    · exact under_self _
    · exact under_less (by rw [he, he]; omega)
  have ua : ∀ k, (k = i + 1 ∨ (k = i ∧ readR a.read.2 ≠ some (f (i + 1)))) → Under (f k) (readR a.read.2) := fun k hk => by
    rcases ha with e | ⟨_, e⟩ | ⟨_, e⟩
    · rcases hk with rfl | ⟨_, hne⟩
      · rw [e]; exact under_self _
      · exact absurd e hne
    · rw [e]; exact under_none _
    · rw [e]; exact under k (i - 1) (by omega)
  have ub : ∀ k, (k = i + 1 ∨ (k = i ∧ readR b.read.2 ≠ some (f (i + 1)))) → Under (f k) (readR b.read.2) := fun k hk => by
    rcases hb with e | ⟨_, e⟩ | ⟨_, e⟩
    · rcases hk with rfl | ⟨_, hne⟩
      · rw [e]; exact under_self _
      · exact absurd e hne
    · rw [e]; exact under_none _
    · rw [e]; exact under k (i - 1) (by omega)
  have uc : ∀ k, i ≤ k → Under (f k) (readR c.read.2) := fun k hk => by
    rcases rc with ⟨_, e⟩ | ⟨_, e⟩ <;> rw [e]
    · exact under_none _
    · exact under k i hk
  have ud : ∀ k, i ≤ k → Under (f k) (readR d.read.2) := fun k hk => by
    rcases rd with ⟨_, e⟩ | ⟨_, e⟩ <;> rw [e]
    · exact under_none _
    · exact under k i hk
  by_cases hab : readR a.read.2 = some (f (i + 1)) ∨ readR b.read.2 = some (f (i + 1))
  · exact .inl (loads u h hH (by omega) (by rw [he]; omega) (ua _ (.inl rfl)) (ub _ (.inl rfl)) (uc _ (by omega)) (ud _ (by omega)) (hab.elim .inl (fun e => .inr (.inl e))))
  · have na : readR a.read.2 ≠ some (f (i + 1)) := fun e => hab (.inl e)
    have nb' : readR b.read.2 ≠ some (f (i + 1)) := fun e => hab (.inr e)
    rcases rc with ⟨h0, ec⟩ | ⟨h0, ec⟩
    · subst h0
      refine .inr (.inl ⟨rfl, ?_⟩)
      have ea : readR a.read.2 = none := by rcases ha with e | ⟨_, e⟩ | ⟨h2, _⟩; exact absurd e na; exact e; omega
      have eb : readR b.read.2 = none := by rcases hb with e | ⟨_, e⟩ | ⟨h2, _⟩; exact absurd e nb'; exact e; omega
      have ed : readR d.read.2 = none := by rcases rd with ⟨_, e⟩ | ⟨h2, _⟩; exact e; omega
      obtain ⟨e1, e2, e3, e4⟩ := newest_at u h hH (by omega)
      rw [ea] at e1
      rw [eb] at e2
      rw [ec] at e3
      rw [ed] at e4
      unfold DSt.newest
      subst hp
      simp only [Nat.zero_add, Nat.mod_succ, Nat.sub_self] at e1 e2 e3 e4
      rw [e1, e2, e3, e4]
      rfl
    · refine .inr (.inr ⟨h0, ?_⟩)
      exact loads u (h.swap (by omega)) hH (by omega) (by rw [he]; omega) (uc _ (Nat.le_refl _)) (ud _ (Nat.le_refl _)) (ua _ (.inr ⟨rfl, na⟩)) (ub _ (.inr ⟨rfl, nb'⟩)) (.inl ec)
theorem Saved.falls (h : Saved f s n H q i) (hH : 1 + H < n) (h1 : 2 ≤ H) (hc : ∀ k, 1 ≤ k → k ≤ i + 1 → (f k).code = 0) (hs : ∀ k, Sums (f k).refs) (he : ∀ k, (f k).epoch = (k : Int)) (arm : Nat) (a0 : 1 ≤ arm) (a1 : arm ≤ 4) (picks : List Int) :
    ∃ s2, (saveR (s.setArm (arm : Int)) H (f (i + 1))).2.crash picks = s2 ∧ Up s2 n (q + 3) ∧
      (((saveR (s.setArm (arm : Int)) H (f (i + 1))).1 = 0 ∧ s2.newest H = f (i + 1) ∧ s2.copies H = 2) ∨
       ((saveR (s.setArm (arm : Int)) H (f (i + 1))).1 = 106 ∧ (s2.newest H = f (i + 1) ∨ (i = 0 ∧ s2.newest H = noRoot) ∨ (1 ≤ i ∧ s2.newest H = f i)))) := by
  obtain ⟨a, b, c, d, hf, w1, w2, w3, w4⟩ := h.four
  have hcode := hc (i + 1) (by omega) (Nat.le_refl _)
  have hpar : (f (i + 1)).epoch % 2 = (((i + 1) % 2 : Nat) : Int) := by rw [he]; omega
  obtain ⟨f1, f2, f3, f4⟩ := hf.falls h.up hH h1 (by omega) h.calm hcode hpar picks
  have u2 := up_saveCrash (H := H) (r := f (i + 1)) h.up (arm : Int) (by omega) picks
  have rb : readR (bytesOf (f (i + 1))) = some (f (i + 1)) := readR_bytes hcode (hs _)
  have was : ∀ x, Was f (i - 1) x → ∀ k, (readR x.read.2 = some (f (i + 1)) ∨ (i ≤ 1 ∧ readR x.read.2 = none) ∨ (2 ≤ i ∧ readR x.read.2 = some (f (i - 1)))) ∧
      (readR ((x.write (bytesOf (f (i + 1)))).crash k).read.2 = some (f (i + 1)) ∨ (i ≤ 1 ∧ readR ((x.write (bytesOf (f (i + 1)))).crash k).read.2 = none) ∨ (2 ≤ i ∧ readR ((x.write (bytesOf (f (i + 1)))).crash k).read.2 = some (f (i - 1)))) := by
    intro x hx k
    obtain ⟨l, e, rfl, hl⟩ := hx.cl
    have hr : (i ≤ 1 ∧ readR l = none) ∨ (2 ≤ i ∧ readR l = some (f (i - 1))) := by
      rcases hl with ⟨h0, e⟩ | ⟨h0, rfl⟩
      · exact .inl ⟨by omega, e⟩
      · exact .inr ⟨by omega, readR_bytes (hc _ h0 (by omega)) (hs _)⟩
    refine ⟨.inr hr, ?_⟩
    rw [read_fell]
    cases k
    · exact .inr hr
    · exact .inl rb
  rcases (show arm = 1 ∨ arm = 2 ∨ arm = 3 ∨ arm = 4 by omega) with rfl | rfl | rfl | rfl
  · exact ⟨_, rfl, u2, .inr ⟨f1.1, after_fall u2 f1.2 hH rfl hc hs he (was a w1 true).1 (was b w2 true).1 w3 w4⟩⟩
  · exact ⟨_, rfl, u2, .inr ⟨f2.1, after_fall u2 f2.2 hH rfl hc hs he (was a w1 _).2 (was b w2 true).1 w3 w4⟩⟩
  · exact ⟨_, rfl, u2, .inr ⟨f3.1, after_fall u2 f3.2 hH rfl hc hs he (was a w1 _).2 (was b w2 _).2 w3 w4⟩⟩
  · have r4 := readR_cl (e := a.ever) hcode (hs (i + 1))
    have r5 := readR_cl (e := b.ever) hcode (hs (i + 1))
    have hn := after_fall u2 f4.2 hH rfl hc hs he (.inl r4) (.inl r5) w3 w4
    have hx : ∀ x, Was f i x → readR x.read.2 = none ∨ (1 ≤ i ∧ readR x.read.2 = some (f i)) := by
      intro x hx
      obtain ⟨l, e, rfl, ⟨_, hl⟩ | ⟨h0, rfl⟩⟩ := hx.cl
      · exact .inl hl
      · exact .inr ⟨h0, readR_cl (hc i h0 (by omega)) (hs i)⟩
    have hu : ∀ x, Was f i x → Under (f (i + 1)) (readR x.read.2) := fun x h => by
      rcases hx x h with e | ⟨_, e⟩ <;> rw [e]
      · exact under_none _
      · exact under_less (by rw [he, he]; omega)
    have hn1 := loads u2 f4.2 hH (by omega) (by rw [he]; omega) (by rw [r4]; exact under_self _) (by rw [r5]; exact under_self _) (hu c w3) (hu d w4) (.inl r4)
    refine ⟨_, rfl, u2, .inl ⟨f4.1, hn1, ?_⟩⟩
    rw [copied u2 f4.2 hH (by omega) (by rw [he]; omega) hpar hn1, r4, r5, has_self]
end
end Go.Proofs.YthgdofcamjkdpaaDoor
