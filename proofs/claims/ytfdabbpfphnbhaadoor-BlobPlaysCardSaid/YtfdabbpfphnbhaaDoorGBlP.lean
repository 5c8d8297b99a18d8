/- Package blob's laws, over plain values: how many are left, which place comes next, what a block is read as. -/
import Derived.Test.YtfdabbpfphnbhaaDoorGBlSpec
namespace Go.Proofs.YtfdabbpfphnbhaaDoor
open Go.RowKit

theorem ASt.same {a b : ASt} (h1 : ∀ k, a.use k = b.use k) (h2 : ∀ k, a.held k = b.held k) (h3 : a.last = b.last) : a = b := by
  obtain ⟨u, h, l⟩ := a
  obtain ⟨u', h', l'⟩ := b
  obtain rfl : u = u' := funext h1
  obtain rfl : h = h' := funext h2
  obtain rfl : l = l' := h3
  rfl
theorem put_use (a : ASt) (k i : Nat) : (a.put k).use i = setN a.use k true i := rfl
theorem put_held (a : ASt) (k i : Nat) : (a.put k).held i = a.held i := rfl
theorem took_use (a : ASt) (k i : Nat) : (a.took k).use i = setN a.use k true i := rfl
theorem took_held (a : ASt) (k i : Nat) : (a.took k).held i = a.held i := rfl
theorem drop_use (a : ASt) (k i : Nat) : (a.drop k).use i = setN a.use k false i := rfl
theorem drop_held (a : ASt) (k i : Nat) : (a.drop k).held i = setN a.held k true i := rfl
theorem done_use (a : ASt) (i : Nat) : a.done.use i = a.use i := rfl
theorem done_held (a : ASt) (i : Nat) : a.done.held i = false := rfl
theorem open_use' (n : Nat) (l : List RefS) (k : Nat) : (openA' n l).use k = decide (((k : Nat) : Int) ∈ l.map (·.1)) := rfl
theorem open_held (n : Nat) (l : List RefS) (k : Nat) : (openA' n l).held k = false := rfl
theorem free_def (a : ASt) (k : Nat) : a.free k = (!a.use k && !a.held k) := rfl
theorem dats_nodup (n : Nat) : (dats n).Nodup := by
  unfold dats
  rw [List.nodup_iff_pairwise_ne, List.pairwise_map]
  refine (List.nodup_iff_pairwise_ne.1 List.nodup_range).imp ?_
  intro x y h e
  exact h (by omega)
/-- one fewer, where one place was turned -/
theorem countP_off {p q : Nat → Bool} {k : Nat} : ∀ {l : List Nat}, l.Nodup → k ∈ l → p k = true → q k = false → (∀ i, i ≠ k → q i = p i) → l.countP q + 1 = l.countP p
  | [], _, hk, _, _, _ => by cases hk
  | x :: l, hn, hk, hp, hq, ho => by
    obtain ⟨hx, hn⟩ := List.nodup_cons.1 hn
    by_cases e : x = k
    · subst e
      have : l.countP q = l.countP p := List.countP_congr (fun i hi => by rw [ho i (fun e => hx (e ▸ hi))])
      simp [hp, hq, this]
    · have hk' : k ∈ l := by
        rcases List.mem_cons.1 hk with rfl | h
        · exact absurd rfl e
        · exact h
      have := countP_off hn hk' hp hq ho
      simp only [List.countP_cons, ho x e]
      omega
theorem left_put {n k : Nat} {a : ASt} (hf : a.free k = true) (h1 : datN n ≤ k) (h2 : k < n) : leftA n (a.put k) + 1 = leftA n a :=
  countP_off (k := k) (dats_nodup n) (dats_mem.2 ⟨h1, h2⟩) hf (by rw [free_def, put_use, setN_same]; rfl) (fun i hi => by rw [free_def, free_def, put_use, put_held, setN_other _ _ hi])
theorem left_drop {n k : Nat} {a : ASt} (hu : a.use k = true) : leftA n (a.drop k) = leftA n a := by
  refine List.countP_congr (fun i _ => ?_)
  rw [free_def, free_def, drop_use, drop_held]
  by_cases e : i = k
  · subst e; simp [setN, hu]
  · rw [setN_other _ _ e, setN_other _ _ e]
theorem left_all {n : Nat} {a : ASt} (h : ∀ k, datN n ≤ k → k < n → a.free k = true) : leftA n a = n - datN n := by
  unfold leftA
  rw [List.countP_eq_length.2 (fun k hk => h k (dats_mem.1 hk).1 (dats_mem.1 hk).2), dats_len]
theorem datN_300 : datN 300 = 150 := by decide
theorem cand_300 {a : ASt} {j : Nat} : candA 300 a j = 150 + (a.last - 150 + j) % 150 := by unfold candA; rw [datN_300]
/-- the place just behind -/
theorem next_first {a : ASt} {k : Nat} (hk : 150 + (a.last - 150 + 1) % 150 = k) (hf : a.free k = true) : IsNext 300 a k :=
  ⟨1, Nat.le_refl _, by rw [datN_300]; omega, by rw [cand_300, hk], hf, fun i h1 h2 => by omega⟩
theorem room_no {n k : Nat} {a : ASt} (h : NoRoom n a) (hf : a.free k = true) (h1 : datN n ≤ k) (h2 : k < n) : False := by
  have := h k h1 h2
  rw [hf] at this
  cases this

/-! BlobHeld: one is held, those behind it are put one by one -/
/-- i were put behind the one that is held -/
def heldA (i : Nat) : ASt := ⟨fun k => decide (151 ≤ k) && decide (k < 151 + i), fun k => decide (k = 150), 150 + i⟩
theorem put_use_fun (a : ASt) (k : Nat) : (a.put k).use = setN a.use k true := rfl
theorem held_use' (i k : Nat) : (heldA i).use k = (decide (151 ≤ k) && decide (k < 151 + i)) := rfl
theorem held_held (i k : Nat) : (heldA i).held k = decide (k = 150) := rfl
theorem held_first : ((openA' 300 []).put 150).drop 150 = heldA 0 := by
  refine ASt.same (fun k => ?_) (fun k => ?_) rfl
  · rw [drop_use, put_use_fun, held_use']
    by_cases e : k = 150
    · subst e; rfl
    · rw [setN_other _ _ e, setN_other _ _ e, open_use']
      simp
  · rw [drop_held, held_held]
    by_cases e : k = 150
    · subst e; rfl
    · rw [setN_other _ _ e, put_held, open_held]
      simp [e]
theorem open_next : IsNext 300 (openA' 300 []) 150 := next_first rfl rfl
theorem open_use : ((openA' 300 []).put 150).use 150 = true := rfl
theorem held_use : (heldA 0).use 150 = false := rfl
theorem held_free {i : Nat} (h : i < 149) : (heldA i).free (151 + i) = true := by
  rw [free_def, held_use', held_held]; simp; omega
theorem held_next {i : Nat} (h : i < 149) : IsNext 300 (heldA i) (151 + i) := next_first (show 150 + (150 + i - 150 + 1) % 150 = 151 + i by rw [Nat.mod_eq_of_lt (by omega)]; omega) (held_free h)
theorem held_put {i : Nat} : (heldA i).put (151 + i) = heldA (i + 1) := by
  refine ASt.same (fun k => ?_) (fun k => rfl) (show 151 + i = 150 + (i + 1) by omega)
  rw [put_use, held_use']
  by_cases e : k = 151 + i
  · subst e; rw [setN_same]; simp
  · rw [setN_other _ _ e, held_use', Bool.eq_iff_iff]; simp; omega
theorem held_left : ∀ {i : Nat}, i ≤ 149 → leftA 300 (heldA i) = 149 - i
  | 0, _ => by
    rw [← held_first, left_drop open_use]
    have h1 := left_put (n := 300) (k := 150) (a := openA' 300 []) rfl (by rw [datN_300]; omega) (by omega)
    have h2 : leftA 300 (openA' 300 []) = 150 := by rw [left_all (fun k _ _ => rfl), datN_300]
    omega
  | i + 1, h => by
    have h1 := held_left (i := i) (by omega)
    have h2 := left_put (n := 300) (k := 151 + i) (a := heldA i) (held_free (by omega)) (by rw [datN_300]; omega) (by omega)
    rw [held_put] at h2
    omega
theorem held_full : NoRoom 300 (heldA 149) := fun k h1 h2 => by
  rw [datN_300] at h1
  rw [free_def, held_use', held_held]
  by_cases e : k = 150
  · subst e; rfl
  · have h3 : decide (151 ≤ k) = true := by simp; omega
    have h4 : decide (k < 151 + 149) = true := by simp; omega
    rw [h3, h4]; rfl
theorem done_next : IsNext 300 (heldA 149).done 150 := next_first rfl rfl
theorem done_left : leftA 300 ((heldA 149).done.put 150) = 0 := by
  refine List.countP_eq_zero.2 (fun k hk => ?_)
  obtain ⟨h1, h2⟩ := dats_mem.1 hk
  rw [datN_300] at h1
  rw [free_def, put_use]
  by_cases e : k = 150
  · subst e; rw [setN_same]; decide
  · have h3 : decide (151 ≤ k) = true := by simp; omega
    have h4 : decide (k < 151 + 149) = true := by simp; omega
    rw [setN_other _ _ e, done_use, held_use', h3, h4]; simp

/-! BlobRound: each is put, dropped, and done now and then -/
/-- ahead of the i-th: nothing is in use, what is held is among the last ones put, fewer than g -/
structure RoundA (i g : Nat) (a : ASt) : Prop where
  use : ∀ k, a.use k = false
  held : ∀ k, a.held k = true → ∃ t, 1 ≤ t ∧ t ≤ i ∧ t ≤ i % g ∧ k = 150 + (i - t) % 150
  last : a.last = 150 + (i + 149) % 150
theorem round_first (g : Nat) : RoundA 0 g (openA' 300 []) := ⟨fun _ => rfl, fun k h => (by cases h), rfl⟩
theorem round_next {i g : Nat} {a : ASt} (h : RoundA i g a) (hg : 2 ≤ g) (hg2 : g ≤ 101) : a.free (150 + i % 150) = true ∧ IsNext 300 a (150 + i % 150) := by
  have hf : a.free (150 + i % 150) = true := by
    unfold ASt.free
    rw [h.use]
    cases hh : a.held (150 + i % 150) with
    | false => rfl
    | true =>
      obtain ⟨t, h1, h2, h3, h4⟩ := h.held _ hh
      have := Nat.mod_lt i (show 0 < g by omega)
      omega
  exact ⟨hf, next_first (by rw [h.last]; omega) hf⟩
theorem round_use {i : Nat} {a : ASt} : (a.put (150 + i % 150)).use (150 + i % 150) = true := setN_same _ _ _
/-- behind the drop -/
structure RoundB (i g : Nat) (a : ASt) : Prop where
  use : ∀ k, a.use k = false
  held : ∀ k, a.held k = true → ∃ t, 1 ≤ t ∧ t ≤ i + 1 ∧ t ≤ i % g + 1 ∧ k = 150 + (i + 1 - t) % 150
  last : a.last = 150 + i % 150
theorem round_drop {i g : Nat} {a : ASt} (h : RoundA i g a) : RoundB i g ((a.put (150 + i % 150)).drop (150 + i % 150)) where
  use k := by
    rw [drop_use]
    by_cases e : k = 150 + i % 150
    · rw [e, setN_same]
    · rw [setN_other _ _ e, put_use, setN_other _ _ e]; exact h.use k
  held k hk := by
    have hk : setN a.held (150 + i % 150) true k = true := hk
    by_cases e : k = 150 + i % 150
    · exact ⟨1, Nat.le_refl _, by omega, by omega, by rw [e]; rfl⟩
    · rw [setN_other _ _ e] at hk
      obtain ⟨t, h1, h2, h3, h4⟩ := h.held k hk
      exact ⟨t + 1, by omega, by omega, by omega, by rw [h4, show i + 1 - (t + 1) = i - t by omega]⟩
  last := rfl
theorem round_done {i g : Nat} {a : ASt} (h : RoundB i g a) : RoundA (i + 1) g a.done where
  use := h.use
  held k hk := by cases hk
  last := by show a.last = _; rw [h.last]; omega
theorem round_on {i g : Nat} {a : ASt} (h : RoundB i g a) (hg : 2 ≤ g) (hn : i % g ≠ g - 1) : RoundA (i + 1) g a where
  use := h.use
  held k hk := by
    obtain ⟨t, h1, h2, h3, h4⟩ := h.held k hk
    refine ⟨t, h1, h2, ?_, h4⟩
    have e : (i + 1) % g = i % g + 1 := by
      have := Nat.mod_lt i (show 0 < g by omega)
      rw [Nat.add_mod, Nat.mod_eq_of_lt (show 1 < g by omega), Nat.mod_eq_of_lt (by omega)]
    omega
  last := by rw [h.last]; omega
theorem round_used {i g : Nat} {a : ASt} (h : RoundA i g a) : usedA 300 a = [] := by
  unfold usedA
  rw [List.filter_eq_nil_iff.2 (fun k _ => by rw [h.use k]; decide)]
  rfl
theorem round_low {k : Nat} {a : ASt} (h : IsLow 300 a k) : (150 : Int) ≤ (k : Int) := by have := h.1; rw [datN_300] at this; omega

/-! what a block is read as -/
theorem dat_yes {k : Nat} (h1 : 150 ≤ k) (h2 : k < 300) : isDat 300 (k : Int) = true := by unfold isDat; rw [datN_300]; simp; omega
theorem get_of {s : DSt} {k z : Nat} {l : List Int} (h1 : 150 ≤ k) (h2 : k < 300) (hr : s.read (k : Int) = (0, l)) (hz : crcOf (nats l) = z) : getA s 300 (k : Int) z = (0, l) := by
  unfold getA
  rw [if_pos (dat_yes h1 h2), hr, if_pos rfl, if_pos hz]
theorem get_io {s : DSt} {k z : Nat} {l : List Int} (h1 : 150 ≤ k) (h2 : k < 300) (hr : s.read (k : Int) = (0, l)) (hz : crcOf (nats l) ≠ z) : getA s 300 (k : Int) z = (107, []) := by
  unfold getA
  rw [if_pos (dat_yes h1 h2), hr, if_pos rfl, if_neg hz]
theorem get_bad {s : DSt} {k z : Nat} {c : Int} {l : List Int} (h1 : 150 ≤ k) (h2 : k < 300) (hr : s.read (k : Int) = (c, l)) (hc : c ≠ 0) : getA s 300 (k : Int) z = (c, []) := by
  unfold getA
  rw [if_pos (dat_yes h1 h2), hr, if_neg hc]
theorem put_other {s : DSt} {k i : Nat} (l : List Int) (h : i ≠ k) : (s.put k l).blks[i]? = s.blks[i]? := by
  simp [DSt.put, DSt.turn, Ne.symm h]
theorem put_read {s : DSt} {n q k : Nat} {l : List Int} (u : Up s n q) (hk : k < n) (hl : l.length = 256) (hb : Byt l) : (s.put k l).read (k : Int) = (0, l) := by
  obtain ⟨b, h⟩ := u.at_ hk
  have u' := (u.write hk hl hb).2
  rw [u'.read hk (put_at h)]
  rfl
theorem put_readO {s : DSt} {n q k i : Nat} {l : List Int} (u : Up s n q) (hk : k < n) (hi : i < n) (hne : i ≠ k) (hl : l.length = 256) (hb : Byt l) : (s.put k l).read (i : Int) = s.read (i : Int) := by
  obtain ⟨b, h⟩ := u.at_ hi
  have u' := (u.write hk hl hb).2
  rw [u'.read hi ((put_other l hne).trans h), u.read hi h]

/-! BlobTells: the i-th of those put -/
def mark (i : Nat) : List Int := padB [(i : Int), 9]
theorem mark_byt {i : Nat} (h : i < 256) : Byt [(i : Int), 9] := fun x hx => by
  simp at hx
  rcases hx with rfl | rfl <;> omega
theorem mark_len (i : Nat) : (mark i).length = 256 := padB_len (by simp)
/-- the i-th block was written and flushed, and is not faulted -/
def LaidB (s : DSt) (i : Nat) : Prop := ∃ b, s.blks[150 + i]? = some b ∧ b.has = mark i ∧ b.pend = false ∧ b.fault = false ∧ b.fail = false
def Putted (s : DSt) (i : Nat) : Prop := ∃ b, s.blks[150 + i]? = some b ∧ b.next = mark i ∧ b.pend = true
theorem putted_put {s : DSt} {n q i : Nat} (u : Up s n q) (h : 150 + i < n) : Putted (s.put (150 + i) (mark i)) i := by
  obtain ⟨b, hb⟩ := u.at_ h
  exact ⟨_, put_at hb, rfl, rfl⟩
theorem putted_other {s : DSt} {i k : Nat} {l : List Int} (h : Putted s i) (hk : k ≠ 150 + i) : Putted (s.put k l) i := by
  obtain ⟨b, h1, h2⟩ := h
  exact ⟨b, (put_other l (Ne.symm hk)).trans h1, h2⟩
theorem laid_flush {s : DSt} {i : Nat} (h : Putted s i) : LaidB (fl s) i := by
  obtain ⟨b, h1, h2, h3⟩ := h
  refine ⟨b.flush, fl_at h1, ?_, ?_, ?_, ?_⟩ <;> simp [BSt.flush, BSt.settle, h2, h3]
theorem laid_read {s : DSt} {n q i : Nat} (u : Up s n q) (hi : 150 + i < n) (h : LaidB s i) : s.read ((150 + i : Nat) : Int) = (0, mark i) := by
  obtain ⟨b, h1, h2, h3, h4, h5⟩ := h
  rw [u.read hi h1]
  simp [BSt.read, h2, h3, h5]
end Go.Proofs.YtfdabbpfphnbhaaDoor
