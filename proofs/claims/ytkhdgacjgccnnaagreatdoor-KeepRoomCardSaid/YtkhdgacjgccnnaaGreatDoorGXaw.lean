/- Put together out of 2 texts. Package page over plain values: what lies where behind a commit. -/
import Derived.Test.YtkhdgacjgccnnaaGreatDoorGXav
namespace Go.Proofs.YtkhdgacjgccnnaaGreatDoor

/-! a list out of which some are picked, by a number each -/
theorem nodup_at {α : Type} {p : α → Bool} {f : α → Int} : ∀ {l : List α}, ((l.filter p).map f).Nodup → ∀ {a b : Nat} {x y : α}, l[a]? = some x → l[b]? = some y → p x = true → p y = true → f x = f y → a = b
  | [], _, a, b, x, y, h, _, _, _, _ => by simp at h
  | z :: l, hn, a, b, x, y, ha, hb, hx, hy, he => by
    rcases hz : p z with _ | _
    · have e : (z :: l).filter p = l.filter p := by simp [hz]
      rw [e] at hn
      rcases a with _ | a
      · simp at ha; subst ha; rw [hz] at hx; cases hx
      · rcases b with _ | b
        · simp at hb; subst hb; rw [hz] at hy; cases hy
        · have := nodup_at hn (by simpa using ha) (by simpa using hb) hx hy he
          omega
    · have e : (z :: l).filter p = z :: l.filter p := by simp [hz]
      rw [e, List.map_cons, List.nodup_cons] at hn
      have mem : ∀ {k : Nat} {w : α}, l[k]? = some w → p w = true → f w ∈ (l.filter p).map f := fun hk hw => List.mem_map.2 ⟨_, List.mem_filter.2 ⟨List.mem_of_getElem? hk, hw⟩, rfl⟩
      rcases a with _ | a <;> rcases b with _ | b
      · rfl
      · simp at ha hb; subst ha; exact absurd (by rw [he]; exact mem hb hy) hn.1
      · simp at ha hb; subst hb; exact absurd (by rw [← he]; exact mem ha hx) hn.1
      · have := nodup_at hn.2 (by simpa using ha) (by simpa using hb) hx hy he
        omega
theorem at_nodup {α : Type} {p : α → Bool} {f : α → Int} : ∀ {l : List α}, (∀ (a b : Nat) (x y : α), l[a]? = some x → l[b]? = some y → p x = true → p y = true → f x = f y → a = b) → ((l.filter p).map f).Nodup
  | [], _ => by simp
  | z :: l, h => by
    have ih := at_nodup (p := p) (f := f) (l := l) (fun a b x y ha hb hx hy he => by
      have := h (a + 1) (b + 1) x y (by simpa using ha) (by simpa using hb) hx hy he
      omega)
    rcases hz : p z with _ | _
    · have e : (z :: l).filter p = l.filter p := by simp [hz]
      rw [e]; exact ih
    · have e : (z :: l).filter p = z :: l.filter p := by simp [hz]
      rw [e, List.map_cons, List.nodup_cons]
      refine ⟨fun hm => ?_, ih⟩
      obtain ⟨w, hw, he⟩ := List.mem_map.1 hm
      obtain ⟨hw1, hw2⟩ := List.mem_filter.1 hw
      obtain ⟨k, hk⟩ := List.getElem?_of_mem hw1
      have := h 0 (k + 1) z w rfl (by simpa using hk) hz hw2 he.symm
      omega
/-- all Refs of a state, the indexes' ones first -/
def PS.all (P : PS) : List (Int × Nat) := P.idx ++ P.pgs
theorem all_idx {P : PS} (h : P.Len) {k : Nat} (hk : k < 7) : P.all[k]? = P.idx[k]? := by
  unfold PS.all; rw [List.getElem?_append_left (by rw [h.i]; exact hk)]
theorem all_pg {P : PS} (h : P.Len) (i : Nat) : P.all[7 + i]? = P.pgs[i]? := by
  unfold PS.all; rw [List.getElem?_append_right (by rw [h.i]; omega), h.i, Nat.add_sub_cancel_left]
theorem all_cases {P : PS} (h : P.Len) {q : Nat} {x : Int × Nat} (hx : P.all[q]? = some x) : (q < 7 ∧ P.idx[q]? = some x) ∨ ∃ i, q = 7 + i ∧ i < 256 ∧ P.pgs[i]? = some x := by
  rcases Nat.lt_or_ge q 7 with hq | hq
  · exact .inl ⟨hq, by rw [← all_idx h hq]; exact hx⟩
  · obtain ⟨i, rfl⟩ : ∃ i, q = 7 + i := ⟨q - 7, by omega⟩
    rw [all_pg h] at hx
    exact .inr ⟨i, rfl, by have := (List.getElem?_eq_some_iff.1 hx).1; rw [h.p] at this; exact this, hx⟩
/-- all lie in the first half, behind the roots' blocks, each at its own place -/
structure PS.Apart (P : PS) (H : Nat) : Prop where
  two : 2 ≤ H
  at_ : ∀ (q : Nat) (x : Int × Nat), P.all[q]? = some x → points x = true → 2 ≤ x.1 ∧ x.1 < (H : Int)
  inj : ∀ (a b : Nat) (x y : Int × Nat), P.all[a]? = some x → P.all[b]? = some y → points x = true → points y = true → x.1 = y.1 → a = b
theorem PS.Apart.sound {P : PS} {H : Nat} (h : P.Apart H) : P.Sound H := by
  have hm : ∀ a, a ∈ P.refs.map (·.1) → 2 ≤ a ∧ a < (H : Int) := fun a ha => by
    obtain ⟨x, hx, rfl⟩ := List.mem_map.1 ha
    obtain ⟨h1, h2⟩ := List.mem_filter.1 hx
    obtain ⟨q, hq⟩ := List.getElem?_of_mem h1
    exact h.at_ q x hq h2
  have h2 := h.two
  refine ⟨fun x hx => ?_, ?_⟩
  · rcases List.mem_cons.1 hx with rfl | hx
    · omega
    · rcases List.mem_cons.1 hx with rfl | hx
      · omega
      · exact (hm x hx).2
  · unfold PS.addrs
    rw [List.nodup_cons, List.nodup_cons]
    refine ⟨fun h0 => ?_, fun h1 => ?_, at_nodup (fun a b x y ha hb hx hy he => h.inj a b x y ha hb hx hy he)⟩
    · rcases List.mem_cons.1 h0 with h0 | h0
      · cases h0
      · have := (hm _ h0).1; omega
    · have := (hm _ h1).1; omega
theorem PS.Sound.apart {P : PS} {H : Nat} (h : P.Sound H) : P.Apart H := by
  obtain ⟨h1, h2⟩ := h
  unfold PS.addrs at h2
  rw [List.nodup_cons, List.nodup_cons] at h2
  obtain ⟨n0, n1, n2⟩ := h2
  refine ⟨by have := h1 1 (by unfold PS.addrs; simp); omega, fun q x hq hp => ?_, fun a b x y ha hb hx hy he => nodup_at n2 ha hb hx hy he⟩
  have hm : x.1 ∈ P.refs.map (·.1) := List.mem_map.2 ⟨x, List.mem_filter.2 ⟨List.mem_of_getElem? hq, hp⟩, rfl⟩
  have hp' : 0 < x.1 := by simpa [points] using hp
  have hne : x.1 ≠ 1 := fun e => n1 (by rw [← e]; exact hm)
  exact ⟨by omega, h1 x.1 (List.mem_cons_of_mem _ (List.mem_cons_of_mem _ hm))⟩
theorem mem_addrs {P : PS} {q : Nat} {x : Int × Nat} (hq : P.all[q]? = some x) (hp : points x = true) : P.addrs.contains x.1 = true := by
  rw [List.contains_iff_mem]
  exact List.mem_cons_of_mem _ (List.mem_cons_of_mem _ (List.mem_map.2 ⟨x, List.mem_filter.2 ⟨List.mem_of_getElem? hq, hp⟩, rfl⟩))
theorem free_two {P : PS} {H f : Nat} (h : f ∈ freeOf P H) : 2 ≤ f := by
  have h1 := (freeOf_is h).2
  rcases f with _ | _ | f
  · simp [PS.addrs] at h1
  · simp [PS.addrs] at h1
  · omega
theorem free_nodup (P : PS) (H : Nat) : (freeOf P H).Nodup := List.nodup_range.filter _
theorem pages_nodup (P : PS) (ch : Chg) : (pagesOf P ch).Nodup := (List.nodup_range.filter _).filter _
/-! each once -/
theorem once_has {l : List Nat} {x : Nat} (h : x ∈ l) : x ∈ once l := by
  obtain ⟨j, hj⟩ := List.getElem?_of_mem h
  have : ∀ m : Nat, ∀ j : Nat, j ≤ m → l[j]? = some x → x ∈ once l := fun m => by
    induction m with
    | zero =>
      intro j hj0 hj
      obtain rfl : j = 0 := by omega
      unfold once onceTo
      refine List.mem_filterMap.2 ⟨0, List.mem_range.2 (List.getElem?_eq_some_iff.1 hj).1, ?_⟩
      rw [if_neg (fun h => h.1 rfl)]; exact hj
    | succ m ih =>
      intro j hjm hj
      by_cases hc : j ≠ 0 ∧ l[j]? = l[j - 1]?
      · exact ih (j - 1) (by omega) (by rw [← hc.2]; exact hj)
      · unfold once onceTo
        refine List.mem_filterMap.2 ⟨j, List.mem_range.2 (List.getElem?_eq_some_iff.1 hj).1, ?_⟩
        rw [if_neg hc]; exact hj
  exact this j j (Nat.le_refl _) hj
theorem once_rising {l : List Nat} (h : l.Pairwise (· ≤ ·)) : (once l).Pairwise (· < ·) := by
  have key : ∀ j, j ≤ l.length → (onceTo l j).Pairwise (· < ·) ∧ ∀ y, y ∈ onceTo l j → ∀ z, l[j - 1]? = some z → y ≤ z := fun j => by
    induction j with
    | zero => exact fun _ => ⟨by simp [onceTo], fun y hy => by simp [onceTo] at hy⟩
    | succ j ih =>
      intro hj
      obtain ⟨ih1, ih2⟩ := ih (by omega)
      have hx : l[j]? = some (l[j]'(by omega)) := List.getElem?_eq_getElem (by omega)
      obtain ⟨x, hxe⟩ : ∃ x, l[j]'(by omega) = x := ⟨_, rfl⟩
      rw [hxe] at hx
      by_cases hc : j ≠ 0 ∧ l[j]? = l[j - 1]?
      · rw [onceTo_old hc.1 hc.2]
        exact ⟨ih1, fun y hy z hz => ih2 y hy z (by rw [← hc.2]; exact hz)⟩
      · rw [onceTo_new hx (by
          rcases Nat.eq_zero_or_pos j with h0 | h0
          · exact .inl h0
          · exact .inr (fun e => hc ⟨by omega, e⟩))]
        have hb : ∀ y, y ∈ onceTo l j → y < x := fun y hy => by
          rcases Nat.eq_zero_or_pos j with h0 | h0
          · subst h0; simp [onceTo] at hy
          · have hz : l[j - 1]? = some (l[j - 1]'(by omega)) := List.getElem?_eq_getElem (by omega)
            have h1 := ih2 y hy _ hz
            have h2 : l[j - 1]'(by omega) ≤ l[j]'(by omega) := List.pairwise_iff_getElem.1 h (j - 1) j (by omega) (by omega) (by omega)
            have h3 : l[j - 1]'(by omega) ≠ x := fun e => hc ⟨by omega, by rw [hz, e, hx]⟩
            omega
        refine ⟨List.pairwise_append.2 ⟨ih1, by simp, fun y hy z hz => by
          have e : z = x := by simpa using hz
          rw [e]; exact hb y hy⟩, fun y hy z hz => ?_⟩
        have e : z = x := by
          rw [Nat.add_sub_cancel, hx] at hz; injection hz with hz; exact hz.symm
        rw [e]
        rcases List.mem_append.1 hy with hy | hy
        · exact Nat.le_of_lt (hb y hy)
        · have e2 : y = x := by simpa using hy
          omega
  exact (key l.length (Nat.le_refl _)).1
/-- index k is touched by what was changed -/
def touched (ch : Chg) (k : Nat) : Prop := ∃ p, p < 256 ∧ (ch p).isSome = true ∧ p / 42 = k
theorem touched_iff {ch : Chg} {k : Nat} : touched ch k ↔ k ∈ (keysOf ch).map (· / 42) := by
  constructor
  · rintro ⟨p, h1, h2, h3⟩
    exact List.mem_map.2 ⟨p, keysOf_mem.2 ⟨h1, h2⟩, h3⟩
  · intro h
    obtain ⟨p, hp, he⟩ := List.mem_map.1 h
    exact ⟨p, (keysOf_mem.1 hp).1, (keysOf_mem.1 hp).2, he⟩
theorem indexesOf_iff {P : PS} {ch : Chg} {k : Nat} : k ∈ indexesOf P ch ↔ touched ch k ∧ emptyB P ch k = false := by
  unfold indexesOf
  rw [List.mem_filter, touched_iff]
  constructor
  · rintro ⟨h1, h2⟩; exact ⟨once_mem h1, by simpa using h2⟩
  · rintro ⟨h1, h2⟩; exact ⟨once_has h1, by simpa using h2⟩
theorem indexes_nodup (P : PS) (ch : Chg) : (indexesOf P ch).Nodup := by
  unfold indexesOf
  have h : ((keysOf ch).map (· / 42)).Pairwise (· ≤ ·) := List.pairwise_map.2 ((keysOf_sorted ch).imp (fun h => Nat.div_le_div_right (Nat.le_of_lt h)))
  exact ((once_rising h).imp (fun h => Nat.ne_of_lt h)).filter _
theorem pagesOf_iff {P : PS} {ch : Chg} {p : Nat} : p ∈ pagesOf P ch ↔ p < 256 ∧ ∃ l, ch p = some l ∧ 1 ≤ l.length := by
  constructor
  · exact pagesOf_is
  · rintro ⟨h1, l, h2, h3⟩
    unfold pagesOf
    exact List.mem_filter.2 ⟨keysOf_mem.2 ⟨h1, by rw [h2]; rfl⟩, by rw [thereB_some h2]; simp; omega⟩
theorem emptyB_iff {P : PS} {ch : Chg} {k : Nat} (hk : k < 7) : emptyB P ch k = true ↔ ∀ i, i < 256 → i / 42 = k → thereB P ch i = false := by
  unfold emptyB
  rw [List.all_eq_true]
  constructor
  · intro h i hi hik
    have := h (i - 42 * k) (List.mem_range.2 (by unfold endK; omega))
    rw [show 42 * k + (i - 42 * k) = i by omega] at this
    simpa using this
  · intro h j hj
    have hj2 := List.mem_range.1 hj
    have := h (42 * k + j) (by unfold endK at hj2; omega) (by unfold endK at hj2; omega)
    rw [this]; rfl
/-! without what was changed -/
theorem cut_pgs (P : PS) (K : List Nat) (i : Nat) : (P.cut K).pgs[i]? = if i ∈ K then (P.pgs[i]?).map (fun _ => (0, 0)) else P.pgs[i]? := by
  unfold PS.cut
  have : ∀ (l : List Nat) (Q : PS), (l.foldl PS.cutAt Q).pgs[i]? = if i ∈ l then (Q.pgs[i]?).map (fun _ => (0, 0)) else Q.pgs[i]? := fun l => by
    induction l with
    | nil => intro Q; simp
    | cons a l ih =>
      intro Q
      rw [List.foldl_cons, ih]
      have e : (Q.cutAt a).pgs[i]? = if i = a then (Q.pgs[i]?).map (fun _ => (0, 0)) else Q.pgs[i]? := by
        show (Q.pgs.set a (0, 0))[i]? = _
        rw [List.getElem?_set]
        by_cases h : a = i
        · subst h
          rcases hq : Q.pgs[a]? with _ | x
          · have : ¬ a < Q.pgs.length := fun h => by rw [List.getElem?_eq_getElem h] at hq; cases hq
            simp [this]
          · have : a < Q.pgs.length := (List.getElem?_eq_some_iff.1 hq).1
            simp [this]
        · rw [if_neg h, if_neg (fun e => h e.symm)]
      rw [e]
      by_cases h1 : i ∈ l
      · rw [if_pos h1, if_pos (List.mem_cons_of_mem _ h1)]
        split <;> cases Q.pgs[i]? <;> rfl
      · rw [if_neg h1]
        by_cases h2 : i = a
        · rw [if_pos h2, if_pos (by rw [h2]; exact List.mem_cons_self ..)]
        · rw [if_neg h2, if_neg (fun h => (List.mem_cons.1 h).elim h2 h1)]
  exact this K _
theorem cut_idx (P : PS) (K : List Nat) (k : Nat) : (P.cut K).idx[k]? = if k ∈ K.map (· / 42) then (P.idx[k]?).map (fun _ => (0, 0)) else P.idx[k]? := by
  unfold PS.cut
  have : ∀ (l : List Nat) (Q : PS), (l.foldl PS.cutAt Q).idx[k]? = if k ∈ l.map (· / 42) then (Q.idx[k]?).map (fun _ => (0, 0)) else Q.idx[k]? := fun l => by
    induction l with
    | nil => intro Q; simp
    | cons a l ih =>
      intro Q
      rw [List.foldl_cons, ih]
      have e : (Q.cutAt a).idx[k]? = if k = a / 42 then (Q.idx[k]?).map (fun _ => (0, 0)) else Q.idx[k]? := by
        show (Q.idx.set (a / 42) (0, 0))[k]? = _
        rw [List.getElem?_set]
        by_cases h : a / 42 = k
        · subst h
          rcases hq : Q.idx[a / 42]? with _ | x
          · have : ¬ a / 42 < Q.idx.length := fun h => by rw [List.getElem?_eq_getElem h] at hq; cases hq
            simp [this]
          · have : a / 42 < Q.idx.length := (List.getElem?_eq_some_iff.1 hq).1
            simp [this]
        · rw [if_neg h, if_neg (fun e => h e.symm)]
      rw [e, List.map_cons]
      by_cases h1 : k ∈ l.map (· / 42)
      · rw [if_pos h1, if_pos (List.mem_cons_of_mem _ h1)]
        split <;> cases Q.idx[k]? <;> rfl
      · rw [if_neg h1]
        by_cases h2 : k = a / 42
        · rw [if_pos h2, if_pos (by rw [h2]; exact List.mem_cons_self ..)]
        · rw [if_neg h2, if_neg (fun h => (List.mem_cons.1 h).elim h2 h1)]
  exact this K _
/-! the first i pages written; the first i indexes -/
section
variable {ch : Chg} {H : Nat} {fr lp li : List Nat} {s : DSt} {Q : PS}
theorem wpTo_else {j : Nat} : ∀ i, (∀ t, t < i → lp.getD t 0 ≠ j) → (wpTo ch H fr lp s Q i).2.pgs[j]? = Q.pgs[j]?
  | 0, _ => rfl
  | i + 1, h => by
    show (List.set (wpTo ch H fr lp s Q i).2.pgs _ _)[j]? = _
    rw [List.getElem?_set, if_neg (h i (by omega))]
    exact wpTo_else i (fun t ht => h t (by omega))
theorem wpTo_at (hL : Q.Len) (hn : lp.Nodup) {t : Nat} (ht : t < lp.length) (h6 : lp.getD t 0 < 256) : ∀ i, t < i → i ≤ lp.length → (wpTo ch H fr lp s Q i).2.pgs[lp.getD t 0]? = some (((fr.getD t 0 : Nat) : Int), crcOf (nats (pageB ((ch (lp.getD t 0)).getD []))))
  | 0, h, _ => by omega
  | i + 1, h, hi => by
    show (List.set (wpTo ch H fr lp s Q i).2.pgs _ _)[lp.getD t 0]? = _
    rw [List.getElem?_set]
    by_cases e : t = i
    · subst e
      rw [if_pos rfl, if_pos (by rw [(wpTo_len hL _).p]; exact h6)]
    · have hne : lp.getD i 0 ≠ lp.getD t 0 := fun e2 => e (by
        simp only [List.getD, List.getElem?_eq_getElem (show i < lp.length by omega), List.getElem?_eq_getElem ht, Option.getD_some] at e2
        exact ((List.getElem_inj hn).1 e2).symm)
      rw [if_neg hne]
      exact wpTo_at hL hn ht h6 i (by omega) (by omega)
theorem wiTo_else {j : Nat} : ∀ i, (∀ t, t < i → li.getD t 0 ≠ j) → (wiTo H fr li s Q i).2.idx[j]? = Q.idx[j]?
  | 0, _ => rfl
  | i + 1, h => by
    show (List.set (wiTo H fr li s Q i).2.idx _ _)[j]? = _
    rw [List.getElem?_set, if_neg (h i (by omega))]
    exact wiTo_else i (fun t ht => h t (by omega))
theorem wiTo_at (hL : Q.Len) (hn : li.Nodup) {t : Nat} (ht : t < li.length) (h6 : li.getD t 0 < 7) : ∀ i, t < i → i ≤ li.length → (wiTo H fr li s Q i).2.idx[li.getD t 0]? = some (((fr.getD t 0 : Nat) : Int), crcOf (nats (indexB Q.pgs (li.getD t 0))))
  | 0, h, _ => by omega
  | i + 1, h, hi => by
    show (List.set (wiTo H fr li s Q i).2.idx _ _)[li.getD t 0]? = _
    rw [List.getElem?_set]
    by_cases e : t = i
    · subst e
      rw [if_pos rfl, if_pos (by rw [(wiTo_len hL _).i]; exact h6), wiTo_pgs]
    · have hne : li.getD i 0 ≠ li.getD t 0 := fun e2 => e (by
        simp only [List.getD, List.getElem?_eq_getElem (show i < li.length by omega), List.getElem?_eq_getElem ht, Option.getD_some] at e2
        exact ((List.getElem_inj hn).1 e2).symm)
      rw [if_neg hne]
      exact wiTo_at hL hn ht h6 i (by omega) (by omega)
end
end Go.Proofs.YtkhdgacjgccnnaaGreatDoor
namespace Go.Proofs.YtkhdgacjgccnnaaGreatDoor

/-- what the pages have, with what was changed -/
abbrev Cont := Nat → Option (List Int)
def contC (cont : Cont) (ch : Chg) : Cont := fun i => match ch i with
  | some l => if l.length = 0 then none else some l
  | none => cont i
theorem contC_none {cont : Cont} {ch : Chg} {i : Nat} (h : ch i = none) : contC cont ch i = cont i := by unfold contC; rw [h]
theorem contC_some {cont : Cont} {ch : Chg} {i : Nat} {l : List Int} (h : ch i = some l) (h1 : 1 ≤ l.length) : contC cont ch i = some l := by
  unfold contC; rw [h]; simp only; rw [if_neg (by omega)]
theorem contC_drop {cont : Cont} {ch : Chg} {i : Nat} {l : List Int} (h : ch i = some l) (h1 : l.length = 0) : contC cont ch i = none := by
  unfold contC; rw [h]; simp only; rw [if_pos h1]
/-- a state, and what its pages have -/
structure Fine (H : Nat) (P : PS) (cont : Cont) : Prop where
  len : P.Len
  small : Small P.idx ∧ Small P.pgs
  apart : P.Apart H
  page : ∀ i x, P.pgs[i]? = some x → (points x = false ∧ x = (0, 0) ∧ cont i = none) ∨ (points x = true ∧ (∃ l, cont i = some l ∧ 1 ≤ l.length ∧ l.length ≤ 248 ∧ Byt l ∧ x.2 = crcOf (nats (pageB l))) ∧ ∃ y, P.idx[i / 42]? = some y ∧ points y = true)
  index : ∀ k y, P.idx[k]? = some y → (points y = false ∧ y = (0, 0)) ∨ (points y = true ∧ y.2 = crcOf (nats (indexB P.pgs k)))
  off : ∀ i, 256 ≤ i → cont i = none
  room : 2 * P.used.length ≤ H
theorem fine_new {H : Nat} (h : 4 ≤ H) (e : Int) : Fine H (noPS e) (fun _ => none) := by
  have hz : ∀ (q : Nat) (x : Int × Nat), (noPS e).all[q]? = some x → points x = false := fun q x hx => by
    have : x ∈ (noPS e).all := List.mem_of_getElem? hx
    rcases List.mem_append.1 this with h | h
    · rw [List.eq_of_mem_replicate h]; rfl
    · rw [List.eq_of_mem_replicate h]; rfl
  have hs : ∀ n, Small (List.replicate n (0, 0)) := fun n x hx => by rw [List.eq_of_mem_replicate hx]; decide
  refine ⟨noPS_len e, ⟨hs _, hs _⟩, ⟨by omega, fun q x hx hp => ?_, fun a b x y ha _ hx _ _ => ?_⟩, fun i x hx => .inl ?_, fun k y hy => .inl ?_, fun _ _ => rfl, ?_⟩
  · rw [hz q x hx] at hp; cases hp
  · rw [hz a x ha] at hx; cases hx
  · have hx2 : x = (0, 0) := List.eq_of_mem_replicate (List.mem_of_getElem? hx)
    subst hx2
    exact ⟨rfl, rfl, rfl⟩
  · have hx2 : y = (0, 0) := List.eq_of_mem_replicate (List.mem_of_getElem? hy)
    subst hx2
    exact ⟨rfl, rfl⟩
  · have hr : (noPS e).refs = [] := by
      unfold PS.refs
      rw [List.filter_eq_nil_iff]
      intro x hx
      obtain ⟨q, hq⟩ := List.getElem?_of_mem hx
      rw [hz q x hq]; decide
    rw [(used_perm _).length_eq, PS.addrs, hr]
    simp only [List.map_nil, List.length_cons, List.length_nil]; omega
theorem Fine.addr {H : Nat} {P : PS} {cont : Cont} (h : Fine H P cont) {q : Nat} {x : Int × Nat} (hx : P.all[q]? = some x) (hp : points x = true) : ∃ f : Nat, x.1 = (f : Int) ∧ 2 ≤ f ∧ f < H := by
  have := h.apart.at_ q x hx hp
  exact ⟨x.1.toNat, by omega, by omega, by omega⟩
theorem used_len (P : PS) : P.used.length = 2 + ((P.idx.filter points).length + (P.pgs.filter points).length) := by
  rw [(used_perm P).length_eq]
  simp only [PS.addrs, List.length_cons, List.length_map, PS.refs, List.filter_append, List.length_append]
  omega
theorem filt_two (p : Nat → Bool) (l : List Nat) : l.length = (l.filter (fun i => !p i)).length + (l.filter p).length := by
  induction l with
  | nil => rfl
  | cons a l ih => cases h : p a <;> simp [h] <;> omega
theorem free_len {H : Nat} {P : PS} (h : P.Apart H) : (freeOf P H).length + P.used.length = H := by
  have e : (List.range H).length = ((List.range H).filter (fun i : Nat => !P.addrs.contains (i : Int))).length + ((List.range H).filter (fun i : Nat => P.addrs.contains (i : Int))).length := by
    exact filt_two (fun i : Nat => P.addrs.contains (i : Int)) (List.range H)
  have hs := h.sound
  have e2 : ((List.range H).filter (fun i : Nat => P.addrs.contains (i : Int))).length = P.addrs.length := by
    have hp : (((List.range H).filter (fun i : Nat => P.addrs.contains (i : Int))).map (fun i : Nat => (i : Int))).Perm P.addrs := by
      refine (List.perm_ext_iff_of_nodup ?_ hs.2).2 (fun a => ?_)
      · exact List.pairwise_map.2 ((List.nodup_range.filter _).imp (fun h e => h (by omega)))
      · constructor
        · intro ha
          obtain ⟨i, hi, rfl⟩ := List.mem_map.1 ha
          exact List.contains_iff_mem.1 (List.mem_filter.1 hi).2
        · intro ha
          have h0 : 0 ≤ a := by
            rcases List.mem_cons.1 ha with rfl | ha
            · omega
            · rcases List.mem_cons.1 ha with rfl | ha
              · omega
              · obtain ⟨x, hx, rfl⟩ := List.mem_map.1 ha
                have := (List.mem_filter.1 hx).2
                simp [points] at this; omega
          have h1 := hs.1 a ha
          refine List.mem_map.2 ⟨a.toNat, List.mem_filter.2 ⟨List.mem_range.2 (by omega), ?_⟩, by omega⟩
          rw [List.contains_iff_mem, show ((a.toNat : Nat) : Int) = a by omega]; exact ha
    have := hp.length_eq
    rwa [List.length_map] at this
  have e3 := (used_perm P).length_eq
  rw [List.length_range] at e
  unfold freeOf
  omega
theorem filt_set (l : List (Int × Nat)) (i : Nat) (x : Int × Nat) : ((l.set i x).filter points).length ≤ (l.filter points).length + 1 := by
  induction l generalizing i with
  | nil => simp
  | cons a l ih =>
    rcases i with _ | i
    · rw [List.set_cons_zero, List.filter_cons, List.filter_cons]
      split <;> split <;> (try simp only [List.length_cons]) <;> omega
    · rw [List.set_cons_succ, List.filter_cons, List.filter_cons]
      have := ih i
      split <;> (try simp only [List.length_cons]) <;> omega
section
variable {P : PS} {ch : Chg} {s : DSt} {H : Nat}
theorem wpTo_count {ch : Chg} {H : Nat} {fr lp : List Nat} {s : DSt} {Q : PS} : ∀ i, ((wpTo ch H fr lp s Q i).2.pgs.filter points).length ≤ (Q.pgs.filter points).length + i
  | 0 => Nat.le_refl _
  | i + 1 => Nat.le_trans (filt_set _ _ _) (by have := wpTo_count (ch := ch) (H := H) (fr := fr) (lp := lp) (s := s) (Q := Q) i; omega)
theorem wiTo_count {H : Nat} {fr li : List Nat} {s : DSt} {Q : PS} : ∀ i, ((wiTo H fr li s Q i).2.idx.filter points).length ≤ (Q.idx.filter points).length + i
  | 0 => Nat.le_refl _
  | i + 1 => Nat.le_trans (filt_set _ _ _) (by have := wiTo_count (H := H) (fr := fr) (li := li) (s := s) (Q := Q) i; omega)
theorem com_room (hf : fitsB P ch H = true) : 2 * (commitTo P ch s H).2.used.length ≤ H := by
  unfold fitsB at hf
  simp only [Bool.and_eq_true, decide_eq_true_eq] at hf
  have h2 := hf.2
  rw [used_len] at h2 ⊢
  have h3 : (commitTo P ch s H).2.pgs = (wpTo ch H (freeOf P H) (pagesOf P ch) s (P.cut (keysOf ch)) (pagesOf P ch).length).2.pgs := by unfold commitTo; exact wiTo_pgs _
  have h4 := wpTo_count (ch := ch) (H := H) (fr := freeOf P H) (lp := pagesOf P ch) (s := s) (Q := P.cut (keysOf ch)) (pagesOf P ch).length
  have h5 := wiTo_count (H := H) (fr := (freeOf P H).drop (pagesOf P ch).length) (li := indexesOf P ch) (s := (wpTo ch H (freeOf P H) (pagesOf P ch) s (P.cut (keysOf ch)) (pagesOf P ch).length).1) (Q := (wpTo ch H (freeOf P H) (pagesOf P ch) s (P.cut (keysOf ch)) (pagesOf P ch).length).2) (indexesOf P ch).length
  rw [wpTo_idx] at h5
  rw [h3]
  have h6 : (commitTo P ch s H).2.idx = (wiTo H ((freeOf P H).drop (pagesOf P ch).length) (indexesOf P ch) (wpTo ch H (freeOf P H) (pagesOf P ch) s (P.cut (keysOf ch)) (pagesOf P ch).length).1 (wpTo ch H (freeOf P H) (pagesOf P ch) s (P.cut (keysOf ch)) (pagesOf P ch).length).2 (indexesOf P ch).length).2.idx := rfl
  rw [h6]
  omega
theorem getD_mem {l : List Nat} {t : Nat} (h : t < l.length) : l.getD t 0 ∈ l := by
  simp only [List.getD, List.getElem?_eq_getElem h, Option.getD_some]; exact List.getElem_mem h
theorem mem_getD {l : List Nat} {x : Nat} (h : x ∈ l) : ∃ t, t < l.length ∧ l.getD t 0 = x := by
  obtain ⟨t, ht⟩ := List.getElem?_of_mem h
  exact ⟨t, (List.getElem?_eq_some_iff.1 ht).1, by simp [List.getD, ht]⟩
theorem getD_inj {l : List Nat} (h : l.Nodup) {t u : Nat} (ht : t < l.length) (hu : u < l.length) (he : l.getD t 0 = l.getD u 0) : t = u := by
  simp only [List.getD, List.getElem?_eq_getElem ht, List.getElem?_eq_getElem hu, Option.getD_some] at he
  exact (List.getElem_inj h).1 he
theorem getD_drop (l : List Nat) (a t : Nat) : (l.drop a).getD t 0 = l.getD (a + t) 0 := by
  simp only [List.getD, List.getElem?_drop]
theorem com_pgs : (commitTo P ch s H).2.pgs = (wpTo ch H (freeOf P H) (pagesOf P ch) s (P.cut (keysOf ch)) (pagesOf P ch).length).2.pgs := by unfold commitTo; exact wiTo_pgs _
/-- each page's Ref behind the commit -/
theorem com_pg (hL : P.Len) {i : Nat} {x : Int × Nat} (hx : (commitTo P ch s H).2.pgs[i]? = some x) :
    (ch i = none ∧ P.pgs[i]? = some x) ∨ (∃ l, ch i = some l ∧ l.length = 0 ∧ x = (0, 0)) ∨ ∃ l t, ch i = some l ∧ 1 ≤ l.length ∧ t < (pagesOf P ch).length ∧ (pagesOf P ch).getD t 0 = i ∧ x = ((((freeOf P H).getD t 0 : Nat) : Int), crcOf (nats (pageB l))) := by
  have hi : i < 256 := by
    have h1 := (List.getElem?_eq_some_iff.1 hx).1
    rw [(commitTo_len hL ch s H).p] at h1; exact h1
  rw [com_pgs] at hx
  rcases hc : ch i with _ | l
  · left
    have hn : i ∉ pagesOf P ch := fun h => by obtain ⟨_, l, hl, _⟩ := pagesOf_iff.1 h; rw [hc] at hl; cases hl
    rw [wpTo_else _ (fun t ht e => hn (by rw [← e]; exact getD_mem ht)), cut_pgs, if_neg (fun h => by have := (keysOf_mem.1 h).2; rw [hc] at this; cases this)] at hx
    exact ⟨rfl, hx⟩
  · right
    rcases Nat.eq_zero_or_pos l.length with h0 | h0
    · left
      have hn : i ∉ pagesOf P ch := fun h => by
        obtain ⟨_, l', hl, h1⟩ := pagesOf_iff.1 h
        rw [hc] at hl; cases hl; omega
      rw [wpTo_else _ (fun t ht e => hn (by rw [← e]; exact getD_mem ht)), cut_pgs, if_pos (keysOf_mem.2 ⟨hi, by rw [hc]; rfl⟩)] at hx
      refine ⟨l, rfl, h0, ?_⟩
      obtain ⟨y, _, hy⟩ := Option.map_eq_some_iff.1 hx
      exact hy.symm
    · right
      obtain ⟨t, ht, he⟩ := mem_getD (pagesOf_iff.2 ⟨hi, l, hc, h0⟩)
      have := wpTo_at (ch := ch) (H := H) (fr := freeOf P H) (s := s) (cut_len hL (keysOf ch)) (pages_nodup P ch) ht (by rw [he]; exact hi) _ ht (Nat.le_refl _)
      rw [he, hx, hc] at this
      exact ⟨l, t, rfl, h0, ht, he, by injection this⟩
/-- .. each index's -/
theorem com_idx (hL : P.Len) {k : Nat} {x : Int × Nat} (hx : (commitTo P ch s H).2.idx[k]? = some x) :
    (¬ touched ch k ∧ P.idx[k]? = some x) ∨ (touched ch k ∧ emptyB P ch k = true ∧ x = (0, 0)) ∨ (touched ch k ∧ emptyB P ch k = false ∧ ∃ t, t < (indexesOf P ch).length ∧ (indexesOf P ch).getD t 0 = k ∧ x = ((((freeOf P H).getD ((pagesOf P ch).length + t) 0 : Nat) : Int), crcOf (nats (indexB (commitTo P ch s H).2.pgs k)))) := by
  have hk : k < 7 := by
    have h1 := (List.getElem?_eq_some_iff.1 hx).1
    rw [(commitTo_len hL ch s H).i] at h1; exact h1
  have hx0 := hx
  unfold commitTo at hx
  by_cases ht : touched ch k
  · right
    rcases he : emptyB P ch k with _ | _
    · right
      obtain ⟨t, htl, hte⟩ := mem_getD (indexesOf_iff.2 ⟨ht, he⟩)
      have := wiTo_at (H := H) (fr := (freeOf P H).drop (pagesOf P ch).length) (s := (wpTo ch H (freeOf P H) (pagesOf P ch) s (P.cut (keysOf ch)) (pagesOf P ch).length).1) (wpTo_len (ch := ch) (H := H) (fr := freeOf P H) (lp := pagesOf P ch) (s := s) (cut_len hL (keysOf ch)) (pagesOf P ch).length) (indexes_nodup P ch) htl (by rw [hte]; exact hk) _ htl (Nat.le_refl _)
      rw [hte, hx, getD_drop, ← com_pgs] at this
      exact ⟨ht, rfl, t, htl, hte, by injection this⟩
    · left
      have hn : k ∉ indexesOf P ch := fun h => by rw [(indexesOf_iff.1 h).2] at he; cases he
      rw [wiTo_else _ (fun t ht e => hn (by rw [← e]; exact getD_mem ht)), wpTo_idx, cut_idx, if_pos (touched_iff.1 ht)] at hx
      obtain ⟨y, _, hy⟩ := Option.map_eq_some_iff.1 hx
      exact ⟨ht, rfl, hy.symm⟩
  · left
    have hn : k ∉ indexesOf P ch := fun h => ht (indexesOf_iff.1 h).1
    rw [wiTo_else _ (fun t ht e => hn (by rw [← e]; exact getD_mem ht)), wpTo_idx, cut_idx, if_neg (fun h => ht (touched_iff.2 h))] at hx
    exact ⟨ht, hx⟩
/-- a Ref that points is the one that was there, or one of those that were written -/
theorem com_src (hL : P.Len) {q : Nat} {x : Int × Nat} (hx : (commitTo P ch s H).2.all[q]? = some x) (hp : points x = true) :
    P.all[q]? = some x ∨ ∃ T, T < (pagesOf P ch).length + (indexesOf P ch).length ∧ x.1 = (((freeOf P H).getD T 0 : Nat) : Int) ∧ q = if T < (pagesOf P ch).length then 7 + (pagesOf P ch).getD T 0 else (indexesOf P ch).getD (T - (pagesOf P ch).length) 0 := by
  rcases all_cases (commitTo_len hL ch s H) hx with ⟨hq, hx⟩ | ⟨i, rfl, hi, hx⟩
  · rcases com_idx hL hx with ⟨_, h⟩ | ⟨_, _, rfl⟩ | ⟨_, _, t, h1, h2, rfl⟩
    · exact .inl (by rw [all_idx hL hq]; exact h)
    · cases hp
    · refine .inr ⟨(pagesOf P ch).length + t, by omega, rfl, ?_⟩
      rw [if_neg (by omega), Nat.add_sub_cancel_left, h2]
  · rcases com_pg hL hx with ⟨_, h⟩ | ⟨_, _, _, rfl⟩ | ⟨l, t, _, _, h1, h2, rfl⟩
    · exact .inl (by rw [all_pg hL]; exact h)
    · cases hp
    · refine .inr ⟨t, by omega, rfl, ?_⟩
      rw [if_pos h1, h2]
theorem com_slots (hL : P.Len) {k : Nat} (ht : ¬ touched ch k) : indexB (commitTo P ch s H).2.pgs k = indexB P.pgs k := by
  have e : slotsOf (commitTo P ch s H).2.pgs k = slotsOf P.pgs k := by
    unfold slotsOf
    apply List.ext_getElem?
    intro j
    simp only [List.getElem?_take, List.getElem?_drop]
    by_cases hj : j < 42
    · rw [if_pos hj, if_pos hj]
      rcases Nat.lt_or_ge (42 * k + j) 256 with hi | hi
      · obtain ⟨x, hx⟩ := (commitTo_len hL ch s H).page hi
        have hn : ch (42 * k + j) = none := by
          rcases hc : ch (42 * k + j) with _ | l
          · rfl
          · exact absurd ⟨42 * k + j, hi, by rw [hc]; rfl, by omega⟩ ht
        rcases com_pg hL hx with ⟨_, h⟩ | ⟨l, hl, _⟩ | ⟨l, _, hl, _⟩
        · rw [hx, h]
        · rw [hn] at hl; cases hl
        · rw [hn] at hl; cases hl
      · rw [List.getElem?_eq_none (by rw [(commitTo_len hL ch s H).p]; exact hi), List.getElem?_eq_none (by rw [hL.p]; exact hi)]
    · rw [if_neg hj, if_neg hj]
  unfold indexB
  rw [e]
theorem com_fine {cont : Cont} (h : Fine H P cont) (hH : H ≤ 512) (hc : ∀ k l, ch k = some l → Byt l ∧ l.length ≤ 248) (hoff : ∀ k, 256 ≤ k → ch k = none) (hf : fitsB P ch H = true) : Fine H (commitTo P ch s H).2 (contC cont ch) := by
  have hL := h.len
  have hfit : (pagesOf P ch).length + (indexesOf P ch).length ≤ (freeOf P H).length := by
    unfold fitsB at hf
    simp only [Bool.and_eq_true, decide_eq_true_eq] at hf
    exact hf.1
  have hfm : ∀ T, T < (pagesOf P ch).length + (indexesOf P ch).length → (freeOf P H).getD T 0 ∈ freeOf P H := fun T hT => getD_mem (by omega)
  refine ⟨commitTo_len hL ch s H, commitTo_small h.small ch s hH hc, ⟨h.apart.two, fun q x hx hp => ?_, fun a b x y ha hb hpx hpy he => ?_⟩, fun i x hx => ?_, fun k y hy => ?_, fun i hi => ?_, com_room hf⟩
  · rcases com_src hL hx hp with h1 | ⟨T, hT, e, _⟩
    · exact h.apart.at_ q x h1 hp
    · have h1 := free_two (hfm T hT)
      have h2 := (freeOf_is (hfm T hT)).1
      rw [e]; omega
  · have old : ∀ {q : Nat} {x : Int × Nat} {T : Nat}, P.all[q]? = some x → points x = true → T < (pagesOf P ch).length + (indexesOf P ch).length → x.1 = (((freeOf P H).getD T 0 : Nat) : Int) → False := fun hq hp hT e => by
      have h1 := mem_addrs hq hp
      have h2 := (freeOf_is (hfm _ hT)).2
      rw [e, h2] at h1; cases h1
    rcases com_src hL ha hpx with h1 | ⟨T, hT, e1, q1⟩ <;> rcases com_src hL hb hpy with h2 | ⟨U, hU, e2, q2⟩
    · exact h.apart.inj a b x y h1 h2 hpx hpy he
    · exact (old h1 hpx hU (by rw [he, e2])).elim
    · exact (old h2 hpy hT (by rw [← he, e1])).elim
    · have hTU : T = U := getD_inj (free_nodup P H) (by omega) (by omega) (by rw [he] at e1; rw [e1] at e2; exact Int.ofNat_inj.1 e2)
      subst hTU
      rw [q1, q2]
  · have hi : i < 256 := by
      have h1 := (List.getElem?_eq_some_iff.1 hx).1
      rw [(commitTo_len hL ch s H).p] at h1; exact h1
    obtain ⟨y, hy⟩ := (commitTo_len hL ch s H).index (k := i / 42) (by omega)
    have hole : points x = true → thereB P ch i = true → ∃ y, (commitTo P ch s H).2.idx[i / 42]? = some y ∧ points y = true := fun hp hth => by
      refine ⟨y, hy, ?_⟩
      rcases com_idx hL hy with ⟨ht, h1⟩ | ⟨_, he, _⟩ | ⟨_, _, t, h1, _, rfl⟩
      · have hn : ch i = none := by
          rcases hc2 : ch i with _ | l
          · rfl
          · exact absurd ⟨i, hi, by rw [hc2]; rfl, rfl⟩ ht
        rcases com_pg hL hx with ⟨_, h2⟩ | ⟨l, hl, _⟩ | ⟨l, _, hl, _⟩
        · rcases h.page i x h2 with ⟨hf2, _⟩ | ⟨_, _, y', hy', hp'⟩
          · rw [hf2] at hp; cases hp
          · rw [h1] at hy'; cases hy'; exact hp'
        · rw [hn] at hl; cases hl
        · rw [hn] at hl; cases hl
      · rw [(emptyB_iff (by omega)).1 he i hi rfl] at hth; cases hth
      · have := free_two (hfm ((pagesOf P ch).length + t) (by omega))
        simp only [points, decide_eq_true_eq]; omega
    rcases com_pg hL hx with ⟨hn, h1⟩ | ⟨l, hl, h0, rfl⟩ | ⟨l, t, hl, h1, h2, _, rfl⟩
    · rcases h.page i x h1 with ⟨a1, a2, a3⟩ | ⟨a1, a2, a3⟩
      · exact .inl ⟨a1, a2, by rw [contC_none hn]; exact a3⟩
      · exact .inr ⟨a1, by rw [contC_none hn]; exact a2, hole a1 (by rw [thereB_none hn h1]; exact a1)⟩
    · exact .inl ⟨rfl, rfl, contC_drop hl h0⟩
    · have := free_two (hfm t (by omega))
      have hp : points ((((freeOf P H).getD t 0 : Nat) : Int), crcOf (nats (pageB l))) = true := by simp only [points, decide_eq_true_eq]; omega
      exact .inr ⟨hp, ⟨l, contC_some hl h1, h1, (hc i l hl).2, (hc i l hl).1, rfl⟩, hole hp (by rw [thereB_some hl]; simp; omega)⟩
  · rcases com_idx hL hy with ⟨ht, h1⟩ | ⟨_, _, rfl⟩ | ⟨_, _, t, h1, _, rfl⟩
    · rcases h.index k y h1 with h2 | ⟨h2, h3⟩
      · exact .inl h2
      · exact .inr ⟨h2, by rw [com_slots hL ht]; exact h3⟩
    · exact .inl ⟨rfl, rfl⟩
    · have := free_two (hfm ((pagesOf P ch).length + t) (by omega))
      exact .inr ⟨by simp only [points, decide_eq_true_eq]; omega, rfl⟩
  · rw [contC_none (hoff i hi)]; exact h.off i hi
end
end Go.Proofs.YtkhdgacjgccnnaaGreatDoor
