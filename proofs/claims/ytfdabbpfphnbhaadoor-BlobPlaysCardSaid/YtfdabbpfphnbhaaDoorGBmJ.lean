/- Package blob's own area: Open. -/
import Derived.Test.YtfdabbpfphnbhaaDoorGBmI
namespace Go.Proofs.YtfdabbpfphnbhaaDoor
open Go.RowKit

theorem Tryd.infoUse : (Tryd.prog.info? 79).map (fun i => (i.zero, i.size, i.bytes)) = some (some (.int .i8 0), 1, 1) := by kernel_rfl
theorem zerosU (n : Nat) : (madeCells #[Value.int .i8 0] n).toList = U8 (List.replicate n 0) := by
  have h := toList_madeCells_one (Value.int .i8 0) n
  rw [h]
  simp [U8]
/-- the uses while Open goes over the blocks -/
def freeL (n k : Nat) : List Int := (List.range n).map fun i => if i < k ∧ datN n ≤ i then 1 else 0
theorem freeL_len (n k : Nat) : (freeL n k).length = n := by simp [freeL]
theorem freeL_get {n i : Nat} (k : Nat) (h : i < n) : (freeL n k)[i]? = some (if i < k ∧ datN n ≤ i then 1 else 0) := by
  unfold freeL; rw [List.getElem?_map, List.getElem?_range h]; rfl
theorem freeL_zero (n : Nat) : freeL n 0 = List.replicate n 0 := by
  unfold freeL
  apply List.ext_getElem?
  intro i
  by_cases h : i < n
  · rw [List.getElem?_map, List.getElem?_range h, List.getElem?_replicate, if_pos h]; simp
  · rw [List.getElem?_eq_none_iff.2 (by simp; omega), List.getElem?_eq_none_iff.2 (by simp; omega)]
theorem freeL_yes {n k : Nat} (h : datN n ≤ k) : (freeL n k).set k 1 = freeL n (k + 1) := by
  apply List.ext_getElem?
  intro i
  rw [List.getElem?_set, freeL_len]
  by_cases hi : i < n
  · rw [freeL_get (k + 1) hi]
    by_cases e : k = i
    · subst e; rw [if_pos rfl, if_pos hi, if_pos ⟨by omega, h⟩]
    · rw [if_neg e, freeL_get k hi]
      by_cases hl : i < k ∧ datN n ≤ i
      · rw [if_pos hl, if_pos ⟨by omega, hl.2⟩]
      · rw [if_neg hl, if_neg (fun h => hl ⟨by omega, h.2⟩)]
  · rw [List.getElem?_eq_none_iff.2 (by rw [freeL_len]; omega), List.getElem?_eq_none_iff.2 (by rw [freeL_len]; omega)]
    split
    · split
      · omega
      · rfl
    · rfl
theorem freeL_no {n k : Nat} (h : ¬ datN n ≤ k) : freeL n (k + 1) = freeL n k := by
  unfold freeL
  apply List.map_congr_left
  intro i _
  by_cases hl : i < k ∧ datN n ≤ i
  · rw [if_pos hl, if_pos ⟨by omega, hl.2⟩]
  · rw [if_neg hl, if_neg (fun h' => by
      by_cases e : i = k
      · subst e; exact h h'.2
      · exact hl ⟨by omega, h'.2⟩)]
theorem freeL_all (n : Nat) : freeL n n = useL n (openA' n []) := by
  apply List.ext_getElem?
  intro i
  by_cases h : i < n
  · rw [freeL_get n h, useL_get _ h]
    unfold useV
    by_cases hd : i < datN n
    · rw [if_pos hd, if_neg (by omega)]
    · rw [if_neg hd, if_pos ⟨h, by omega⟩, if_neg (by rw [show (openA' n []).use i = false from by simp [openA']]; decide), if_neg (by rw [show (openA' n []).held i = false from rfl]; decide)]
  · rw [List.getElem?_eq_none_iff.2 (by rw [freeL_len]; omega), List.getElem?_eq_none_iff.2 (by rw [useL_len]; omega)]
theorem opens_pre {n : Nat} {p q : List RefS} (h : opensA n p = false) : opensA n (p ++ q) = false := by
  rw [← Bool.not_eq_true] at h ⊢
  intro h2
  apply h
  unfold opensA at h2 ⊢
  simp only [List.all_append, List.map_append, Bool.and_eq_true, decide_eq_true_eq] at h2 ⊢
  exact ⟨h2.1.1, (List.nodup_append.1 h2.2).1⟩
/-- what useOf says of the next ref -/
theorem openM_next {n j : Nat} {l : List RefS} {r : RefS} (hr : l[j]? = some r) (ho : opensA n (l.take j) = true) :
    (∃ k : Nat, r.1 = (k : Int) ∧ datN n ≤ k ∧ k < n ∧ (if 0 ≤ r.1 ∧ r.1 < (n : Int) then useV n (openA' n (l.take j)) r.1.toNat else 0) = 1 ∧ opensA n (l.take (j + 1)) = true ∧
      (∀ i, i ≠ k → useV n (openA' n (l.take (j + 1))) i = useV n (openA' n (l.take j)) i) ∧ useV n (openA' n (l.take (j + 1))) k = 2) ∨
    (∃ v : Int, (if 0 ≤ r.1 ∧ r.1 < (n : Int) then useV n (openA' n (l.take j)) r.1.toNat else 0) = v ∧ (v == 1) = false ∧ opensA n l = false) := by
  have ht : l.take (j + 1) = l.take j ++ [r] := by rw [List.take_add_one, hr]; rfl
  have hs := opens_snoc (n := n) (p := l.take j) (r := r)
  rw [ho, Bool.true_and, ← ht] at hs
  have hall : opensA n (l.take (j + 1)) = false → opensA n l = false := fun h => by
    have := opens_pre (q := l.drop (j + 1)) h
    rwa [List.take_append_drop] at this
  by_cases hd : isDat n r.1 = true
  · have hd' := hd
    unfold isDat at hd'
    simp at hd'
    obtain ⟨k, hk⟩ : ∃ k : Nat, r.1 = (k : Int) := ⟨r.1.toNat, by omega⟩
    have hk1 : datN n ≤ k := by omega
    have hk2 : k < n := by omega
    have hv : (if 0 ≤ r.1 ∧ r.1 < (n : Int) then useV n (openA' n (l.take j)) r.1.toNat else 0) = useV n (openA' n (l.take j)) k := by
      rw [if_pos ⟨by omega, by omega⟩, hk]; rfl
    have hu : ∀ i p, (openA' n p).use i = decide (((i : Nat) : Int) ∈ p.map (·.1)) := fun _ _ => rfl
    by_cases hm : r.1 ∈ (l.take j).map (·.1)
    · right
      refine ⟨_, rfl, ?_, hall ?_⟩
      · rw [hv]
        have : useV n (openA' n (l.take j)) k = 2 := by
          unfold useV
          rw [if_neg (by omega), if_pos (by rw [hu, decide_eq_true_iff, ← hk]; exact hm)]
        rw [this]; decide
      · rw [hs, decide_eq_true hm, Bool.not_true, Bool.and_false]
    · left
      refine ⟨k, hk, hk1, hk2, ?_, ?_, fun i hi => ?_, ?_⟩
      · rw [hv]
        unfold useV
        rw [if_neg (by omega), if_neg (by rw [hu, decide_eq_true_iff, ← hk]; exact hm), if_neg (by rw [show (openA' n (l.take j)).held k = false from rfl]; decide)]
      · rw [hs, hd, decide_eq_false hm]; rfl
      · unfold useV
        rw [hu, hu, ht]
        have : decide (((i : Nat) : Int) ∈ (l.take j ++ [r]).map (·.1)) = decide (((i : Nat) : Int) ∈ (l.take j).map (·.1)) := by
          rw [decide_eq_decide]
          simp only [List.map_append, List.mem_append, List.map_cons, List.map_nil, List.mem_singleton]
          constructor
          · rintro (h | h)
            · exact h
            · rw [hk] at h; omega
          · exact .inl
        rw [this]
        rfl
      · unfold useV
        rw [if_neg (by omega), if_pos (by rw [hu, decide_eq_true_iff, ht, ← hk]; simp)]
  · right
    have hd2 : isDat n r.1 = false := by simpa using hd
    refine ⟨_, rfl, ?_, hall (by rw [hs, hd2]; rfl)⟩
    split
    · rename_i hc
      obtain ⟨k, hk⟩ : ∃ k : Nat, r.1 = (k : Int) := ⟨r.1.toNat, by omega⟩
      rw [hk]
      show (useV n _ k == 1) = false
      unfold isDat at hd2
      simp at hd2
      rw [useV_aside.2 (by omega)]
      rfl
    · rfl
end Go.Proofs.YtfdabbpfphnbhaaDoor
