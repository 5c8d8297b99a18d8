/- Names: what may be a name, in plain words; lists of names that rise. -/
import Derived.Laws.RangeAny
import Derived.Lib.SlicesCompact
import Derived.Sort.EncStr
import Derived.Lib.IndexAny
import Derived.Lib.IndexBytes
namespace Go.Proofs.YtklplmldhhlgiaaDoor

/-- a byte that no name has -/
def nev (b : UInt8) : Bool := b == 47 || b == 0
def hasNev (l : List UInt8) : Bool := l.any nev
theorem nev_contains (b : UInt8) : ([47, 0] : List UInt8).contains b = nev b := by
  unfold nev
  rcases h : (b == 47) with _ | _ <;> rcases h' : (b == 0) with _ | _ <;> simp [List.contains, List.elem, h, h']
theorem hasNev_of {l : List UInt8} {i : Nat} {b : UInt8} (h : l[i]? = some b) (hb : nev b = true) : hasNev l = true :=
  List.any_eq_true.2 ⟨b, List.mem_of_getElem? h, hb⟩
theorem hasNev_none {l : List UInt8} (h : ∀ (j : Nat) b, l[j]? = some b → nev b = false) : hasNev l = false := by
  rw [hasNev, List.any_eq_false]
  intro b hb
  obtain ⟨j, hj⟩ := List.getElem?_of_mem hb
  simp [h j b hj]
/-- none of the first i bytes is one -/
def NoNev (l : List UInt8) (i : Nat) : Prop := ∀ (j : Nat) b, j < i → l[j]? = some b → nev b = false
theorem NoNev.zero (l : List UInt8) : NoNev l 0 := fun _ _ h => absurd h (Nat.not_lt_zero _)
theorem NoNev.succ {l : List UInt8} {i : Nat} {b : UInt8} (h : NoNev l i) (hx : l[i]? = some b) (hb : nev b = false) : NoNev l (i + 1) := fun j c hj hc => by
  by_cases e : j = i
  · subst e
    rw [hx] at hc
    obtain rfl := Option.some.inj hc
    exact hb
  · exact h j c (by omega) hc
theorem NoNev.all {l : List UInt8} {i : Nat} (h : NoNev l i) (hi : l.length ≤ i) : hasNev l = false :=
  hasNev_none fun j b hb => h j b (by have := (List.getElem?_eq_some_iff.1 hb).1; omega) hb

/-- behind a byte of 128 and more as many bytes as the model's decoding takes: none of them is a name's end -/
theorem decode_over (s : ByteArray) (i : Nat) (hi : i < s.size) (h : 128 ≤ (s[i]'hi).toNat) : i + (Utf8.decode s i).2 ≤ s.size ∧ ∀ j, i ≤ j → j < i + (Utf8.decode s i).2 → ∀ b, s.data.toList[j]? = some b → nev b = false := by
  have hn : ¬ (s[i]'hi).toNat < 128 := by omega
  have get : ∀ k b, s.data.toList[k]? = some b → s.get! k = b := by
    intro k b hb
    obtain ⟨hk, e⟩ := List.getElem?_eq_some_iff.1 hb
    have hk' : k < s.size := by simpa using hk
    have := Go.get_at s k hk'
    rw [Nat.add_zero] at this
    rw [this, ← e]
    simp [ByteArray.getElem_eq_getElem_data]
  have nv : ∀ b : UInt8, 128 ≤ b.toNat → nev b = false := by
    intro b hb
    unfold nev
    rcases e : (b == 47) with _ | _
    · rcases e' : (b == 0) with _ | _
      · rfl
      · obtain rfl := eq_of_beq e'
        exact absurd hb (by decide)
    · obtain rfl := eq_of_beq e
      exact absurd hb (by decide)
  have h0 : ∀ b, s.data.toList[i]? = some b → nev b = false := by
    intro b hb
    refine nv b ?_
    have := Go.get_at s i hi
    rw [Nat.add_zero, get i b hb] at this
    rw [this]
    exact h
  have hk : ∀ k, (s.get! (i + k)).toNat / 64 = 2 → ∀ b, s.data.toList[i + k]? = some b → nev b = false := by
    intro k h2 b hb
    refine nv b ?_
    rw [get _ b hb] at h2
    omega
  have hone : ∀ j, i ≤ j → j < i + 1 → ∀ b, s.data.toList[j]? = some b → nev b = false := by
    intro j h1 h2
    obtain rfl : j = i := by omega
    exact h0
  simp only [Utf8.decode, Go.get_at s i hi, hn, if_false]
  split
  · rename_i hc
    have hc1' : (s[i]'hi).toNat / 32 = 6 ∧ (i + 1 < s.size ∧ (s.get! (i + 1)).toNat / 64 = 2) := by simpa using hc
    have hc1 := hc1'.2
    split
    · refine ⟨by show i + 2 ≤ _; omega, fun j h1 h2 => ?_⟩
      have h2' : j < i + 2 := h2
      by_cases e : j = i
      · subst e; exact h0
      · obtain rfl : j = i + 1 := by omega
        exact hk 1 hc1.2
    · exact ⟨by show i + 1 ≤ _; omega, hone⟩
  · split
    · rename_i _ hc
      have hc' : (((s[i]'hi).toNat / 16 = 14) ∧ (i + 1 < s.size ∧ (s.get! (i + 1)).toNat / 64 = 2)) ∧ (i + 2 < s.size ∧ (s.get! (i + 2)).toNat / 64 = 2) := by simpa using hc
      split
      · refine ⟨by show i + 3 ≤ _; omega, fun j h1 h2 => ?_⟩
        have h2' : j < i + 3 := h2
        by_cases e : j = i
        · subst e; exact h0
        · by_cases e' : j = i + 1
          · subst e'; exact hk 1 hc'.1.2.2
          · obtain rfl : j = i + 2 := by omega
            exact hk 2 hc'.2.2
      · exact ⟨by show i + 1 ≤ _; omega, hone⟩
    · split
      · rename_i _ _ hc
        have hc' : ((((s[i]'hi).toNat / 8 = 30) ∧ (i + 1 < s.size ∧ (s.get! (i + 1)).toNat / 64 = 2)) ∧ (i + 2 < s.size ∧ (s.get! (i + 2)).toNat / 64 = 2)) ∧ (i + 3 < s.size ∧ (s.get! (i + 3)).toNat / 64 = 2) := by simpa using hc
        split
        · refine ⟨by show i + 4 ≤ _; omega, fun j h1 h2 => ?_⟩
          have h2' : j < i + 4 := h2
          by_cases e : j = i
          · subst e; exact h0
          · by_cases e' : j = i + 1
            · subst e'; exact hk 1 hc'.1.1.2.2
            · by_cases e2 : j = i + 2
              · subst e2; exact hk 2 hc'.1.2.2
              · obtain rfl : j = i + 3 := by omega
                exact hk 3 hc'.2.2
        · exact ⟨by show i + 1 ≤ _; omega, hone⟩
      · exact ⟨by show i + 1 ≤ _; omega, hone⟩
theorem decode_top (s : ByteArray) (pos : Nat) : (Utf8.decode s pos).1 ≤ 1114111 := by
  have hb : ∀ k, (s.get! (pos + k)).toNat < 256 := fun k => (s.get! (pos + k)).toNat_lt
  have h0 := hb 0; have h1 := hb 1; have h2 := hb 2; have h3 := hb 3
  simp only [Utf8.decode]
  repeat' split
  all_goals simp_all [Utf8.runeError, Utf8.valid]
  all_goals omega

/-! ### lists that rise -/
abbrev Nam := List UInt8
def Ris (l : List Nam) : Prop := l.Pairwise (· < ·)
theorem nam_lt_irrefl (a : Nam) : ¬ a < a := List.lt_irrefl a
theorem nam_lt_trans {a b c : Nam} (h : a < b) (k : b < c) : a < c := List.lt_trans h k
theorem nam_lt_asymm {a b : Nam} (h : a < b) : ¬ b < a := fun k => nam_lt_irrefl a (nam_lt_trans h k)
theorem nam_tri (a b : Nam) : a < b ∨ a = b ∨ b < a := by
  by_cases h : a < b
  · exact .inl h
  · by_cases k : b < a
    · exact .inr (.inr k)
    · exact .inr (.inl (List.le_antisymm (List.not_lt.1 k) (List.not_lt.1 h)))
theorem ris_unique : ∀ {l m : List Nam}, Ris l → Ris m → (∀ x, x ∈ l ↔ x ∈ m) → l = m
  | [], [], _, _, _ => rfl
  | [], b :: m, _, _, h => by have := (h b).2 (by simp); simp at this
  | a :: l, [], _, _, h => by have := (h a).1 (by simp); simp at this
  | a :: l, b :: m, hl, hm, h => by
    obtain ⟨ha, hl'⟩ := List.pairwise_cons.1 hl
    obtain ⟨hb, hm'⟩ := List.pairwise_cons.1 hm
    have e : a = b := by
      rcases List.mem_cons.1 ((h a).1 (by simp)) with e | e
      · exact e
      · rcases List.mem_cons.1 ((h b).2 (by simp)) with e' | e'
        · exact e'.symm
        · exact absurd (hb a e) (nam_lt_asymm (ha b e'))
    subst e
    congr 1
    refine ris_unique hl' hm' fun x => ⟨fun hx => ?_, fun hx => ?_⟩
    · rcases List.mem_cons.1 ((h x).1 (List.mem_cons_of_mem _ hx)) with e | e
      · subst e; exact absurd (ha x hx) (nam_lt_irrefl x)
      · exact e
    · rcases List.mem_cons.1 ((h x).2 (List.mem_cons_of_mem _ hx)) with e | e
      · subst e; exact absurd (hb x hx) (nam_lt_irrefl x)
      · exact e
theorem ris_at {l : List Nam} (h : Ris l) {i j : Nat} {x y : Nam} (hi : l[i]? = some x) (hj : l[j]? = some y) (hij : i < j) : x < y := by
  obtain ⟨h1, rfl⟩ := List.getElem?_eq_some_iff.1 hi
  obtain ⟨h2, rfl⟩ := List.getElem?_eq_some_iff.1 hj
  exact List.pairwise_iff_getElem.1 h i j h1 h2 hij
/-- of a list that rises weakly, those that are unlike the one ahead -/
theorem compact_ris {l : List Nam} (h : l.Pairwise (· ≤ ·)) : Ris (Lib.compact l) ∧ ∀ x, x ∈ Lib.compact l ↔ x ∈ l := by
  have key : ∀ m, m ≤ l.length → Ris (Lib.compactUpTo l.toArray m) ∧ (∀ x, x ∈ Lib.compactUpTo l.toArray m ↔ x ∈ l.take m) := by
    intro m
    induction m with
    | zero => intro _; exact ⟨by simp [Lib.compactUpTo, Ris], by simp [Lib.compactUpTo]⟩
    | succ m ih =>
      intro hm
      obtain ⟨i1, i2⟩ := ih (by omega)
      obtain ⟨x, hx⟩ : ∃ x, l[m]? = some x := ⟨l[m]'(by omega), List.getElem?_eq_getElem (by omega)⟩
      have ex : l.toArray[m]! = x := by
        obtain ⟨h1, h2⟩ := List.getElem?_eq_some_iff.1 hx
        simp [getElem!_pos, h1, h2]
      have et : l.take (m + 1) = l.take m ++ [x] := by rw [List.take_add_one, hx]; rfl
      have hle : ∀ y, y ∈ l.take m → y ≤ x := by
        intro y hy
        obtain ⟨j, hj⟩ := List.getElem?_of_mem hy
        obtain ⟨hj1, hj2⟩ := List.getElem?_eq_some_iff.1 hj
        have hjm : j < m := by simp at hj1; omega
        obtain ⟨h1, h2⟩ := List.getElem?_eq_some_iff.1 hx
        have := List.pairwise_iff_getElem.1 h j m (by omega) h1 hjm
        rw [h2] at this
        rw [← hj2]
        simpa using this
      rw [Lib.compactUpTo_succ, ex, et]
      by_cases hk : Lib.keeps l.toArray m = true
      · rw [hk, if_pos rfl]
        have hlt : ∀ y, y ∈ l.take m → y < x := by
          intro y hy
          rcases nam_tri y x with e | e | e
          · exact e
          · exfalso
            -- y = x: then the one ahead is x as well
            obtain ⟨j, hj⟩ := List.getElem?_of_mem hy
            obtain ⟨hj1, hj2⟩ := List.getElem?_eq_some_iff.1 hj
            have hjm : j < m := by simp at hj1; omega
            obtain ⟨h1, h2⟩ := List.getElem?_eq_some_iff.1 hx
            have hp : m ≠ 0 := by omega
            have hne : l.toArray[m]! ≠ l.toArray[m - 1]! := by
              have := of_decide_eq_true hk
              rcases this with h | h
              · exact absurd h hp
              · exact h
            have e1 : l.toArray[m - 1]! = l[m - 1]'(by omega) := by simp [getElem!_pos, show m - 1 < l.length by omega]
            rw [ex, e1] at hne
            have hyj : l[j]'(by omega) = y := by rw [← hj2]; simp
            have c1 : x ≤ l[m - 1]'(by omega) := by
              by_cases ej : j = m - 1
              · subst ej; rw [hyj, e]; exact List.le_refl _
              · have := List.pairwise_iff_getElem.1 h j (m - 1) (by omega) (by omega) (by omega)
                rw [hyj, e] at this
                exact this
            have c2 : l[m - 1]'(by omega) ≤ x := by
              have := List.pairwise_iff_getElem.1 h (m - 1) m (by omega) h1 (by omega)
              rw [h2] at this
              exact this
            exact hne (List.le_antisymm c1 c2)
          · exact absurd (hle y hy) (List.not_le.2 e)
        refine ⟨?_, ?_⟩
        · unfold Ris
          rw [List.pairwise_append]
          refine ⟨i1, by simp, ?_⟩
          intro a ha b hb
          simp at hb
          subst hb
          exact hlt a ((i2 a).1 ha)
        · intro y
          simp [i2 y]
      · have hk' : Lib.keeps l.toArray m = false := by simpa using hk
        rw [hk', if_neg (by simp)]
        refine ⟨by simpa using i1, fun y => ?_⟩
        rw [List.append_nil, i2 y, List.mem_append]
        refine ⟨.inl, ?_⟩
        rintro (h | h)
        · exact h
        · simp at h
          subst h
          have : ¬ (m = 0 ∨ l.toArray[m]! ≠ l.toArray[m - 1]!) := of_decide_eq_false hk'
          have hp : m ≠ 0 := fun e => this (.inl e)
          have he : l.toArray[m]! = l.toArray[m - 1]! := Classical.byContradiction fun e => this (.inr e)
          have e1 : l.toArray[m - 1]! = l[m - 1]'(by omega) := by simp [getElem!_pos, show m - 1 < l.length by omega]
          rw [ex, e1] at he
          rw [he]
          exact List.mem_of_getElem? (i := m - 1) (by rw [List.getElem?_take, if_pos (by omega), List.getElem?_eq_getElem])
  have := key l.length (Nat.le_refl _)
  rw [List.take_length] at this
  exact this
/-- what Sort makes of any names -/
def srt (l : List Nam) : List Nam := Lib.compact (l.mergeSort fun x y => decide (x ≤ y))
theorem srt_ok (l : List Nam) : Ris (srt l) ∧ ∀ x, x ∈ srt l ↔ x ∈ l := by
  have hs : (l.mergeSort fun x y => decide (x ≤ y)).Pairwise (· ≤ ·) := by
    have := List.pairwise_mergeSort (le := fun x y : Nam => decide (x ≤ y)) (fun a b c h k => decide_eq_true (List.le_trans (of_decide_eq_true h) (of_decide_eq_true k))) (fun a b => by
      rcases nam_tri a b with h | h | h
      · simp [List.le_of_lt h]
      · simp [h]
      · simp [List.le_of_lt h]) l
    exact this.imp fun h => of_decide_eq_true h
  obtain ⟨h1, h2⟩ := compact_ris hs
  exact ⟨h1, fun x => (h2 x).trans (List.mem_mergeSort)⟩
theorem srt_of {l m : List Nam} (h : Ris m) (hm : ∀ x, x ∈ m ↔ x ∈ l) : m = srt l :=
  ris_unique h (srt_ok l).1 fun x => (hm x).trans ((srt_ok l).2 x).symm
theorem srt_same {l : List Nam} (h : Ris l) : srt l = l := (srt_of h fun _ => Iff.rfl).symm
/-- those behind one -/
def behind (l : List Nam) (s : Nam) : List Nam := l.filter fun x => decide (s < x)
theorem behind_at {l : List Nam} (h : Ris l) {i : Nat} {x : Nam} (hi : l[i]? = some x) : behind l x = l.drop (i + 1) := by
  obtain ⟨h1, h2⟩ := List.getElem?_eq_some_iff.1 hi
  have e : l = l.take (i + 1) ++ l.drop (i + 1) := (List.take_append_drop _ _).symm
  have ht : (l.take (i + 1)).filter (fun y => decide (x < y)) = [] := by
    rw [List.filter_eq_nil_iff]
    intro y hy hlt
    obtain ⟨j, hj⟩ := List.getElem?_of_mem hy
    obtain ⟨hj1, hj2⟩ := List.getElem?_eq_some_iff.1 hj
    have hj3 : j < i + 1 := by simp at hj1; omega
    have hjl : l[j]? = some y := by rw [← hj, List.getElem?_take, if_pos hj3]
    by_cases ej : j = i
    · subst ej
      rw [hi] at hjl
      obtain rfl := Option.some.inj hjl
      exact nam_lt_irrefl _ (of_decide_eq_true hlt)
    · exact nam_lt_asymm (ris_at h hjl hi (by omega)) (of_decide_eq_true hlt)
  have hd : (l.drop (i + 1)).filter (fun y => decide (x < y)) = l.drop (i + 1) := by
    rw [List.filter_eq_self]
    intro y hy
    obtain ⟨j, hj⟩ := List.getElem?_of_mem hy
    rw [List.getElem?_drop] at hj
    exact decide_eq_true (ris_at h hi hj (by omega))
  unfold behind
  rw [e, List.filter_append, ht, hd]
  simp
end Go.Proofs.YtklplmldhhlgiaaDoor
