/- Package blob's answers, over plain values: what an area is, which block comes next, which is the least; what is kept of it. -/
import Derived.Test.YtfdabbpfphnbhaaDoorGPairSpec
import Derived.Test.YtfdabbpfphnbhaaDoorGGeoB
import Derived.Test.YtfdabbpfphnbhaaDoorGFull
import Derived.Test.YtfdabbpfphnbhaaDoorGCrcA
namespace Go.Proofs.YtfdabbpfphnbhaaDoor
open Go.RowKit

/-- an area: what is in use, what is held, which block was put last -/
structure ASt where
  use : Nat → Bool
  held : Nat → Bool
  last : Nat
def ASt.free (a : ASt) (k : Nat) : Bool := !a.use k && !a.held k
def setN (f : Nat → Bool) (k : Nat) (b : Bool) : Nat → Bool := fun i => if i = k then b else f i
theorem setN_same (f : Nat → Bool) (k : Nat) (b : Bool) : setN f k b k = b := if_pos rfl
theorem setN_other (f : Nat → Bool) {k i : Nat} (b : Bool) (h : i ≠ k) : setN f k b i = f i := if_neg h
def ASt.took (a : ASt) (k : Nat) : ASt := { a with use := setN a.use k true }
def ASt.put (a : ASt) (k : Nat) : ASt := { a with use := setN a.use k true, last := k }
def ASt.drop (a : ASt) (k : Nat) : ASt := { a with use := setN a.use k false, held := setN a.held k true }
def ASt.done (a : ASt) : ASt := { a with held := fun _ => false }
/-- the first block of the data -/
def datN (n : Nat) : Nat := 2 * halN n
/-- the j-th place behind the one that was put last, round and round -/
def candA (n : Nat) (a : ASt) (j : Nat) : Nat := datN n + (a.last - datN n + j) % (n - datN n)
/-- k is the place that the next Put takes -/
def IsNext (n : Nat) (a : ASt) (k : Nat) : Prop := ∃ j, 1 ≤ j ∧ j ≤ n - datN n ∧ k = candA n a j ∧ a.free k = true ∧ ∀ i, 1 ≤ i → i < j → a.free (candA n a i) = false
/-- there is no room -/
def NoRoom (n : Nat) (a : ASt) : Prop := ∀ k, datN n ≤ k → k < n → a.free k = false
/-- k is the least place that may be had -/
def IsLow (n : Nat) (a : ASt) (k : Nat) : Prop := datN n ≤ k ∧ k < n ∧ a.free k = true ∧ ∀ i, datN n ≤ i → i < k → a.free i = false
/-- an area as it may be -/
structure ASt.ok (n : Nat) (a : ASt) : Prop where
  use : ∀ k, a.use k = true → datN n ≤ k ∧ k < n
  held : ∀ k, a.held k = true → datN n ≤ k ∧ k < n
  apart : ∀ k, a.use k = true → a.held k = false
  last : datN n ≤ a.last ∧ a.last < n
/-- the places from the data's first one on -/
def dats (n : Nat) : List Nat := (List.range (n - datN n)).map (datN n + ·)
theorem dats_mem {n k : Nat} : k ∈ dats n ↔ datN n ≤ k ∧ k < n := by
  unfold dats
  simp only [List.mem_map, List.mem_range]
  constructor
  · rintro ⟨j, hj, rfl⟩; omega
  · rintro ⟨h1, h2⟩; exact ⟨k - datN n, by omega, by omega⟩
theorem dats_len (n : Nat) : (dats n).length = n - datN n := by simp [dats]
theorem dats_get {n j : Nat} (h : j < n - datN n) : (dats n)[j]? = some (datN n + j) := by
  unfold dats
  rw [List.getElem?_map, List.getElem?_range h]
  rfl
/-- those in use, rising -/
def usedA (n : Nat) (a : ASt) : List Int := ((dats n).filter a.use).map fun k : Nat => ((k : Nat) : Int)
/-- how many may be had -/
def leftA (n : Nat) (a : ASt) : Nat := (dats n).countP a.free
/-- what came in to Open: a block a ref, its sum beside it -/
abbrev RefS := Int × Nat
def isDat (n : Nat) (x : Int) : Bool := decide ((datN n : Int) ≤ x) && decide (x < (n : Int))
/-- may an area be opened over these? -/
def opensA (n : Nat) (l : List RefS) : Bool := (l.all fun r => isDat n r.1) && decide ((l.map (·.1)).Nodup)
/-- the area that is opened -/
def openA' (n : Nat) (l : List RefS) : ASt := ⟨fun k => decide (((k : Nat) : Int) ∈ l.map (·.1)), fun _ => false, n - 1⟩
theorem datN_lt {n : Nat} (h : 300 ≤ n) : datN n < n ∧ 150 ≤ datN n := by unfold datN halN; omega
theorem cand_in {n : Nat} {a : ASt} (h : 300 ≤ n) (j : Nat) : datN n ≤ candA n a j ∧ candA n a j < n := by
  have h1 := (datN_lt h).1
  have h2 := Nat.mod_lt (a.last - datN n + j) (show 0 < n - datN n by omega)
  unfold candA
  omega
theorem IsNext.in_ {n k : Nat} {a : ASt} (h0 : 300 ≤ n) (h : IsNext n a k) : datN n ≤ k ∧ k < n := by
  obtain ⟨j, _, _, rfl, _⟩ := h; exact cand_in h0 j
theorem IsNext.eq {n k k' : Nat} {a : ASt} (h : IsNext n a k) (h' : IsNext n a k') : k = k' := by
  obtain ⟨j, h1, _, rfl, h3, h4⟩ := h
  obtain ⟨j', h1', _, rfl, h3', h4'⟩ := h'
  rcases Nat.lt_trichotomy j j' with hl | rfl | hl
  · have := h4' j h1 hl; rw [h3] at this; cases this
  · rfl
  · have := h4 j' h1' hl; rw [h3'] at this; cases this
theorem IsLow.eq {n k k' : Nat} {a : ASt} (h : IsLow n a k) (h' : IsLow n a k') : k = k' := by
  rcases Nat.lt_trichotomy k k' with hl | rfl | hl
  · have := h'.2.2.2 k h.1 hl; rw [h.2.2.1] at this; cases this
  · rfl
  · have := h.2.2.2 k' h'.1 hl; rw [h'.2.2.1] at this; cases this
theorem cand_all {n k : Nat} {a : ASt} (h0 : 300 ≤ n) (hl : datN n ≤ a.last ∧ a.last < n) (h1 : datN n ≤ k) (h2 : k < n) : ∃ j, 1 ≤ j ∧ j ≤ n - datN n ∧ candA n a j = k := by
  have h3 := (datN_lt h0).1
  by_cases h : a.last < k
  · refine ⟨k - a.last, by omega, by omega, ?_⟩
    unfold candA
    rw [Nat.mod_eq_of_lt (by omega)]
    omega
  · refine ⟨k + (n - datN n) - a.last, by omega, by omega, ?_⟩
    unfold candA
    rw [show a.last - datN n + (k + (n - datN n) - a.last) = (k - datN n) + (n - datN n) by omega, Nat.add_mod_right, Nat.mod_eq_of_lt (by omega)]
    omega
theorem next_or {n : Nat} {a : ASt} (h0 : 300 ≤ n) (hk : a.ok n) : (∃ k, IsNext n a k) ∨ NoRoom n a := by
  by_cases h : ∃ j, 1 ≤ j ∧ j ≤ n - datN n ∧ a.free (candA n a j) = true
  · left
    have hf : ∃ j, 1 ≤ j ∧ j ≤ n - datN n ∧ a.free (candA n a j) = true ∧ ∀ i, 1 ≤ i → i < j → a.free (candA n a i) = false := by
      obtain ⟨j, hj1, hj2, hj3⟩ := h
      induction j using Nat.strongRecOn with
      | ind j ih =>
        by_cases hx : ∃ i, 1 ≤ i ∧ i < j ∧ a.free (candA n a i) = true
        · obtain ⟨i, h1, h2, h3⟩ := hx
          exact ih i h2 h1 (by omega) h3
        · exact ⟨j, hj1, hj2, hj3, fun i h1 h2 => by
            cases hb : a.free (candA n a i) with
            | false => rfl
            | true => exact absurd ⟨i, h1, h2, hb⟩ hx⟩
    obtain ⟨j, h1, h2, h3, h4⟩ := hf
    exact ⟨_, j, h1, h2, rfl, h3, h4⟩
  · right
    intro k h1 h2
    obtain ⟨j, hj1, hj2, rfl⟩ := cand_all h0 hk.last h1 h2
    cases hb : a.free (candA n a j) with
    | false => rfl
    | true => exact absurd ⟨j, hj1, hj2, hb⟩ h
theorem low_or (n : Nat) (a : ASt) : (∃ k, IsLow n a k) ∨ NoRoom n a := by
  by_cases h : ∃ k, datN n ≤ k ∧ k < n ∧ a.free k = true
  · left
    obtain ⟨k, h1, h2, h3⟩ := h
    induction k using Nat.strongRecOn with
    | ind k ih =>
      by_cases hx : ∃ i, datN n ≤ i ∧ i < k ∧ a.free i = true
      · obtain ⟨i, h4, h5, h6⟩ := hx
        exact ih i h5 h4 (by omega) h6
      · exact ⟨k, h1, h2, h3, fun i h4 h5 => by
          cases hb : a.free i with
          | false => rfl
          | true => exact absurd ⟨i, h4, h5, hb⟩ hx⟩
  · right
    intro k h1 h2
    cases hb : a.free k with
    | false => rfl
    | true => exact absurd ⟨k, h1, h2, hb⟩ h
theorem ASt.ok.took {n k : Nat} {a : ASt} (h : a.ok n) (hf : a.free k = true) (h1 : datN n ≤ k) (h2 : k < n) : (a.took k).ok n where
  use i hi := by
    by_cases e : i = k
    · subst e; exact ⟨h1, h2⟩
    · exact h.use i (by rw [← hi]; exact (setN_other _ _ e).symm)
  held := h.held
  apart i hi := by
    by_cases e : i = k
    · subst e
      unfold ASt.free at hf
      simp at hf
      exact hf.2
    · exact h.apart i (by rw [← hi]; exact (setN_other _ _ e).symm)
  last := h.last
theorem ASt.ok.put {n k : Nat} {a : ASt} (h : a.ok n) (hf : a.free k = true) (h1 : datN n ≤ k) (h2 : k < n) : (a.put k).ok n :=
  ⟨(h.took hf h1 h2).use, (h.took hf h1 h2).held, (h.took hf h1 h2).apart, ⟨h1, h2⟩⟩
theorem ASt.ok.drop {n k : Nat} {a : ASt} (h : a.ok n) (hu : a.use k = true) : (a.drop k).ok n where
  use i hi := by
    by_cases e : i = k
    · subst e; have : setN a.use i false i = true := hi; rw [setN_same] at this; cases this
    · exact h.use i (by rw [← hi]; exact (setN_other _ _ e).symm)
  held i hi := by
    by_cases e : i = k
    · subst e; exact h.use _ hu
    · exact h.held i (by rw [← hi]; exact (setN_other _ _ e).symm)
  apart i hi := by
    by_cases e : i = k
    · subst e; have : setN a.use i false i = true := hi; rw [setN_same] at this; cases this
    · exact (setN_other _ _ e).trans (h.apart i (by rw [← hi]; exact (setN_other _ _ e).symm))
  last := h.last
theorem ASt.ok.done {n : Nat} {a : ASt} (h : a.ok n) : a.done.ok n := ⟨h.use, fun k hk => (by cases hk), fun _ _ => rfl, h.last⟩
/-- an area of a new device -/
theorem ok_open {n : Nat} {l : List RefS} (h0 : 300 ≤ n) (h : opensA n l = true) : (openA' n l).ok n where
  use k hk := by
    unfold opensA at h
    simp only [Bool.and_eq_true, List.all_eq_true] at h
    have hk : ((k : Nat) : Int) ∈ l.map (·.1) := of_decide_eq_true hk
    obtain ⟨r, hr, e⟩ := List.mem_map.1 hk
    have := h.1 r hr
    unfold isDat at this
    simp at this
    omega
  held k hk := by cases hk
  apart _ _ := rfl
  last := by have := datN_lt h0; show datN n ≤ n - 1 ∧ n - 1 < n; omega
theorem usedA_len (n : Nat) (a : ASt) : (usedA n a).length = (dats n).countP a.use := by
  unfold usedA
  rw [List.length_map, List.countP_eq_length_filter]
/-- what is read of a block, by its sum -/
def getA (s : DSt) (n : Nat) (x : Int) (z : Nat) : Int × List Int :=
  if isDat n x = true then (if (s.read x).1 = 0 then (if crcOf (nats (s.read x).2) = z then (0, (s.read x).2) else (107, [])) else ((s.read x).1, [])) else (103, [])
end Go.Proofs.YtfdabbpfphnbhaaDoor
