/- Package blob's laws, over plain values: areas that are opened over blocks in use; an area's parts, block by block. -/
import Derived.Test.YtfdabbpfphnbhaaDoorGBlP
namespace Go.Proofs.YtfdabbpfphnbhaaDoor
open Go.RowKit

theorem room_zero {n : Nat} {a : ASt} (h : NoRoom n a) : leftA n a = 0 :=
  List.countP_eq_zero.2 (fun k hk => by rw [h k (dats_mem.1 hk).1 (dats_mem.1 hk).2]; decide)
theorem next_of_left {n : Nat} {a : ASt} (h0 : 300 ≤ n) (hk : a.ok n) (h : 0 < leftA n a) : ∃ k, IsNext n a k := by
  rcases next_or h0 hk with h1 | h1
  · exact h1
  · have := room_zero h1; omega
theorem IsNext.free {n k : Nat} {a : ASt} (h : IsNext n a k) : a.free k = true := by obtain ⟨j, _, _, _, h3, _⟩ := h; exact h3
theorem free_not {a : ASt} {k : Nat} (h : a.free k = true) : a.use k = false ∧ a.held k = false := by
  unfold ASt.free at h
  simp at h
  exact h
/-! BlobOpens -/
def refs310 (l : List Int) : List RefS := l.map fun x => (x % 310, 5)
theorem opens_snoc {n : Nat} {p : List RefS} {r : RefS} : opensA n (p ++ [r]) = (opensA n p && (isDat n r.1 && !decide (r.1 ∈ p.map (·.1)))) := by
  unfold opensA
  rw [Bool.eq_iff_iff]
  simp only [List.all_append, List.map_append, List.map_cons, List.map_nil, Bool.and_eq_true, decide_eq_true_eq, List.all_cons, List.all_nil, Bool.and_true, Bool.not_eq_true', decide_eq_false_iff_not]
  rw [List.nodup_append]
  constructor
  · rintro ⟨⟨h1, h2⟩, h3, _, h4⟩
    exact ⟨⟨h1, h3⟩, h2, fun h => h4 _ h _ (by simp) rfl⟩
  · rintro ⟨⟨h1, h3⟩, h2, h4⟩
    exact ⟨⟨h1, h2⟩, h3, by simp, fun x hx y hy e => by simp at hy; subst hy; subst e; exact h4 hx⟩
theorem opens_nil (n : Nat) : opensA n [] = true := rfl
/-- the law's own array, and what it says of a row of places -/
def inA (p : List RefS) (j : Nat) : Bool := decide (((j : Nat) : Int) ∈ p.map (·.1))
theorem bad_next {p : List RefS} {k : Nat} (bad : Bool) (hb : bad = !opensA 300 p) :
    (bad || (decide (k < 150) || (decide (300 ≤ k) || (inA p (min k 299) && decide (k < 300))))) = !opensA 300 (p ++ [((k : Int), 5)]) := by
  rw [opens_snoc, hb]
  unfold isDat inA
  rw [datN_300]
  by_cases h1 : k < 150
  · have : decide (((150 : Nat) : Int) ≤ (k : Int)) = false := by simp; omega
    simp [h1]; omega
  · by_cases h2 : 300 ≤ k
    · simp [h1, h2]; omega
    · have e : min k 299 = k := by omega
      have e1 : decide (((150 : Nat) : Int) ≤ (k : Int)) = true := by simp; omega
      have e2 : decide ((k : Int) < ((300 : Nat) : Int)) = true := by simp; omega
      have e3 : decide (k < 300) = true := by simp; omega
      have e4 : decide (k < 150) = false := by simp; omega
      have e5 : decide (300 ≤ k) = false := by simp; omega
      rw [e, e1, e2, e3, e4, e5]
      cases opensA 300 p <;> simp
theorem left_open : ∀ {l : List RefS}, opensA 300 l = true → leftA 300 (openA' 300 l) + l.length = 150
  | [], _ => by
    have h2 : leftA 300 (openA' 300 []) = 150 := by rw [left_all (fun k _ _ => rfl), datN_300]
    rw [h2]; rfl
  | r :: l, h => by
    unfold opensA at h
    simp only [List.all_cons, List.map_cons, List.nodup_cons, Bool.and_eq_true, decide_eq_true_eq] at h
    obtain ⟨⟨h1, h2⟩, h3, h4⟩ := h
    have ih := left_open (l := l) (by unfold opensA; simp only [Bool.and_eq_true, decide_eq_true_eq]; exact ⟨h2, h4⟩)
    unfold isDat at h1
    rw [datN_300] at h1
    simp only [Bool.and_eq_true, decide_eq_true_eq] at h1
    have hk : ((r.1.toNat : Nat) : Int) = r.1 := by omega
    have hoff : leftA 300 (openA' 300 (r :: l)) + 1 = leftA 300 (openA' 300 l) :=
      countP_off (k := r.1.toNat) (dats_nodup 300) (dats_mem.2 ⟨by rw [datN_300]; omega, by omega⟩)
        (by rw [free_def, open_use', open_held, hk]; simpa using h3)
        (by rw [free_def, open_use', hk]; simp)
        (fun i hi => by
          have : ¬ (i : Int) = r.1 := by omega
          rw [free_def, free_def, open_use', open_use', open_held, open_held]
          simp [this])
    rw [List.length_cons]
    omega
theorem used_open {l : List RefS} (h : opensA 300 l = true) : (usedA 300 (openA' 300 l)).length = l.length := by
  have h1 := left_open h
  have h2 := List.length_eq_countP_add_countP (openA' 300 l).use (l := dats 300)
  rw [dats_len, datN_300] at h2
  have h3 : (dats 300).countP (fun a => decide ¬(openA' 300 l).use a = true) = leftA 300 (openA' 300 l) := List.countP_congr (fun i _ => by rw [free_def, open_held]; simp)
  rw [usedA_len]
  omega
/-! an area's parts, block by block, as the law's loop has them -/
/-- those in use ahead of the j-th -/
def usedTo (a : ASt) (j : Nat) : Nat := ((List.range j).map (150 + ·)).countP a.use
def leftTo (a : ASt) (j : Nat) : Nat := ((List.range j).map (150 + ·)).countP a.free
theorem dats_300 : dats 300 = (List.range 150).map (150 + ·) := by unfold dats; rw [datN_300]
theorem usedTo_all (a : ASt) : usedTo a 150 = (usedA 300 a).length := by rw [usedA_len, dats_300]; rfl
theorem leftTo_all (a : ASt) : leftTo a 150 = leftA 300 a := by unfold leftA; rw [dats_300]; rfl
theorem usedTo_succ (a : ASt) (j : Nat) : usedTo a (j + 1) = usedTo a j + (if a.use (150 + j) = true then 1 else 0) := by
  unfold usedTo
  rw [List.range_succ, List.map_append, List.countP_append]
  simp [List.countP_cons]
theorem leftTo_succ (a : ASt) (j : Nat) : leftTo a (j + 1) = leftTo a j + (if a.free (150 + j) = true then 1 else 0) := by
  unfold leftTo
  rw [List.range_succ, List.map_append, List.countP_append]
  simp [List.countP_cons]
theorem usedTo_le (a : ASt) (j : Nat) : usedTo a j ≤ j := by
  unfold usedTo
  have := List.countP_le_length (p := a.use) (l := (List.range j).map (150 + ·))
  simpa using this
theorem leftTo_le (a : ASt) (j : Nat) : leftTo a j ≤ j := by
  unfold leftTo
  have := List.countP_le_length (p := a.free) (l := (List.range j).map (150 + ·))
  simpa using this
/-- the one that is in use at the j-th place stands behind those ahead of it -/
theorem used_get {a : ASt} {j : Nat} (hj : j < 150) (h : a.use (150 + j) = true) : (usedA 300 a)[usedTo a j]? = some ((150 + j : Nat) : Int) := by
  unfold usedA
  rw [dats_300, List.getElem?_map]
  have e : (List.range 150).map (150 + ·) = (List.range j).map (150 + ·) ++ (150 + j) :: ((List.range (149 - j)).map (151 + j + ·)) := by
    apply List.ext_getElem?
    intro i
    by_cases h1 : i < j
    · rw [List.getElem?_append_left (by simpa using h1), List.getElem?_map, List.getElem?_map, List.getElem?_range (by omega), List.getElem?_range h1]
    · rw [List.getElem?_append_right (by simpa using h1)]
      simp only [List.length_map, List.length_range]
      by_cases h2 : i = j
      · subst h2
        rw [Nat.sub_self, List.getElem?_cons_zero, List.getElem?_map, List.getElem?_range hj]
        rfl
      · obtain ⟨t, ht⟩ : ∃ t, i - j = t + 1 := ⟨i - j - 1, by omega⟩
        rw [ht, List.getElem?_cons_succ, List.getElem?_map, List.getElem?_map]
        by_cases h3 : i < 150
        · rw [List.getElem?_range h3, List.getElem?_range (by omega)]
          simp
          omega
        · rw [List.getElem?_eq_none (by simp; omega), List.getElem?_eq_none (by simp; omega)]
          rfl
  rw [e, List.filter_append, List.filter_cons_of_pos h, List.getElem?_append_right (by unfold usedTo; rw [List.countP_eq_length_filter]; exact Nat.le_refl _)]
  unfold usedTo
  rw [List.countP_eq_length_filter, Nat.sub_self]
  rfl
theorem used_lt {a : ASt} {j : Nat} (hj : j < 150) (h : a.use (150 + j) = true) : usedTo a j < (usedA 300 a).length := (List.getElem?_eq_some_iff.1 (used_get hj h)).1
/-! each act leaves at most one fewer -/
theorem left_took {n k : Nat} {a : ASt} (hf : a.free k = true) (h1 : datN n ≤ k) (h2 : k < n) : leftA n (a.took k) + 1 = leftA n a :=
  countP_off (k := k) (dats_nodup n) (dats_mem.2 ⟨h1, h2⟩) hf (by rw [free_def, took_use, setN_same]; rfl) (fun i hi => by rw [free_def, free_def, took_use, took_held, setN_other _ _ hi])
theorem left_done {n : Nat} {a : ASt} : leftA n a ≤ leftA n a.done := by
  unfold leftA
  exact List.countP_mono_left (fun k _ h => by
    obtain ⟨h1, _⟩ := free_not h
    rw [free_def, done_use, done_held]
    simp [h1])
end Go.Proofs.YtfdabbpfphnbhaaDoor
