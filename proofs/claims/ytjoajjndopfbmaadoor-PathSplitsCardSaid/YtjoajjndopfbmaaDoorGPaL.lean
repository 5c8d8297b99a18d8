/- Texts that are built part by part, and what Parse says of them (pure). -/
import Derived.Test.YtjoajjndopfbmaaDoorGPaF
import Derived.Test.YtjoajjndopfbmaaDoorGPaE
namespace Go.Proofs.YtjoajjndopfbmaaDoor
open Go.Lib

def part6 (k : Int) : Nam := if k = 0 then [97] else if k = 1 then [98, 98] else if k = 2 then [46, 46] else if k = 3 then [99, 46, 100] else if k = 4 then [46, 46, 46] else [120, 32, 121]
def part4 (k : Int) : Nam := if k = 0 then [97] else if k = 1 then [98, 98] else if k = 2 then [46, 46] else [99, 46, 100]
/-- a text that is built part by part -/
structure SB (s : Nam) (Q : List Nam) : Prop where
  nz : (0 : UInt8) ∉ s
  len : s.length ≤ 10 * Q.length
  pts : ptsOf s = Q
  last : s.getLast? ≠ some 47
  hd : Q ≠ [] → s.head? = some 47
  nil : Q = [] → s = []
  good : ∀ x ∈ Q, goodP x = true
  short : ∀ x ∈ Q, x.length ≤ 3
theorem SB.start : SB [] [] := ⟨by simp, Nat.le_refl _, rfl, by simp, fun h => absurd rfl h, fun _ => rfl, fun x h => (by cases h), fun x h => (by cases h)⟩
def byOk (t : Nam) : Prop := t = [] ∨ t = [47] ∨ t = [46, 47] ∨ t = [47, 46, 47, 46, 47, 47]
theorem by_pts {t P : Nam} (h : byOk t) (hP : goodP P = true) : ptsOf (t ++ P) = [P] := by
  have hp := ptsOf_good hP
  rcases h with rfl | rfl | rfl | rfl
  · exact hp
  · have := ptsOf_app [] P
    rw [hp] at this
    exact this
  · have := ptsOf_app [46] P
    rw [hp] at this
    exact this
  · have h0 := ptsOf_app [] P
    rw [hp] at h0
    have h1 := ptsOf_app [46] ([] ++ 47 :: P)
    rw [h0] at h1
    have h2 := ptsOf_app [46] ([46] ++ 47 :: ([] ++ 47 :: P))
    rw [h1] at h2
    have h3 := ptsOf_app [] ([46] ++ 47 :: ([46] ++ 47 :: ([] ++ 47 :: P)))
    rw [h2] at h3
    exact h3
theorem by_len {t : Nam} (h : byOk t) : t.length ≤ 6 := by rcases h with rfl | rfl | rfl | rfl <;> decide
theorem by_nz {t : Nam} (h : byOk t) : (0 : UInt8) ∉ t := by rcases h with rfl | rfl | rfl | rfl <;> decide
theorem good_ne {P : Nam} (h : goodP P = true) : P ≠ [] := by
  rintro rfl
  exact absurd h (by decide)
theorem good_last {P : Nam} (h : goodP P = true) : P.getLast? ≠ some 47 := by
  intro hl
  exact (goodP_free h 47 (List.mem_of_getLast? hl)).1 rfl
theorem last_app (a : Nam) {P : Nam} (h : P ≠ []) : (a ++ P).getLast? = P.getLast? := by
  rw [List.getLast?_append]
  rcases hp : P.getLast? with _ | x
  · exact absurd (List.getLast?_eq_none_iff.1 hp) h
  · rfl
theorem SB.next {s : Nam} {Q : List Nam} (h : SB s Q) {t P : Nam} (ht : byOk t) (hP : goodP P = true) (hl : P.length ≤ 3) : SB (s ++ 47 :: (t ++ P)) (Q ++ [P]) := by
  have ht6 := by_len ht
  refine ⟨?_, ?_, ?_, ?_, ?_, ?_, ?_, ?_⟩
  · rw [List.mem_append, List.mem_cons, List.mem_append]
    rintro (h1 | h1 | h1 | h1)
    · exact h.nz h1
    · cases h1
    · exact by_nz ht h1
    · exact (goodP_free hP 0 h1).2 rfl
  · have := h.len
    simp only [List.length_append, List.length_cons, List.length_nil]
    omega
  · rw [ptsOf_app, h.pts, by_pts ht hP]
  · have e : s ++ 47 :: (t ++ P) = (s ++ 47 :: t) ++ P := by simp
    rw [e, last_app _ (good_ne hP)]
    exact good_last hP
  · intro _
    by_cases hQ : Q = []
    · rw [h.nil hQ]; rfl
    · have := h.hd hQ
      rw [List.head?_append, this]; rfl
  · intro h0
    exact absurd h0 (by simp)
  · intro x hx
    rcases List.mem_append.1 hx with hx | hx
    · exact h.good x hx
    · obtain rfl := List.mem_singleton.1 hx; exact hP
  · intro x hx
    rcases List.mem_append.1 hx with hx | hx
    · exact h.short x hx
    · obtain rfl := List.mem_singleton.1 hx; exact hl
theorem SB.slash {s : Nam} {Q : List Nam} (h : SB s Q) (hq : Q.length ≤ 20) : prsC (s ++ [47]) = 0 ∧ prsP (s ++ [47]) = Q ∧ prsS (s ++ [47]) = decide (0 < Q.length) := by
  have hl := h.len
  have hpts : ptsOf (s ++ [47]) = Q := by
    rw [ptsOf_app, h.pts]
    have : ptsOf [] = [] := rfl
    rw [this, List.append_nil]
  have := prs_good (s := s ++ [47]) (l := Q) (by
    by_cases hQ : Q = []
    · rw [h.nil hQ]; rfl
    · rw [List.head?_append, h.hd hQ]; rfl) (by
    rw [List.mem_append]
    rintro (h1 | h1)
    · exact h.nz h1
    · revert h1; decide) (by rw [List.length_append]; simp; omega) hpts (longP_good h.good)
  refine ⟨this.1, this.2.1, ?_⟩
  rw [this.2.2, last_app _ (by simp)]
  simp
theorem SB.plain {s : Nam} {Q : List Nam} (h : SB s Q) (hq : Q.length ≤ 20) (hQ : Q ≠ []) : prsC s = 0 ∧ prsP s = Q ∧ prsS s = false := by
  have hl := h.len
  have := prs_good (s := s) (l := Q) (h.hd hQ) h.nz (by omega) h.pts (longP_good h.good)
  refine ⟨this.1, this.2.1, ?_⟩
  rw [this.2.2, show (s.getLast? == some 47) = false from beq_eq_false_iff_ne.2 h.last, Bool.and_false]
theorem SB.ofSlashed : ∀ (Q : List Nam), (∀ x ∈ Q, goodP x = true) → (∀ x ∈ Q, x.length ≤ 3) → SB (slashed Q) Q := by
  intro Q
  have : ∀ (R : List Nam), (∀ x ∈ R.reverse, goodP x = true) → (∀ x ∈ R.reverse, x.length ≤ 3) → SB (slashed R.reverse) R.reverse := by
    intro R
    induction R with
    | nil => intro _ _; exact SB.start
    | cons P R ih =>
      intro h1 h2
      rw [List.reverse_cons] at h1 h2 ⊢
      have h := (ih (fun x hx => h1 x (by simp at hx ⊢; exact .inl hx)) (fun x hx => h2 x (by simp at hx ⊢; exact .inl hx))).next (t := []) (.inl rfl) (h1 P (by simp)) (h2 P (by simp))
      have e : slashed (R.reverse ++ [P]) = slashed R.reverse ++ 47 :: ([] ++ P) := by simp [slashed]
      rw [e]
      exact h
  have := this Q.reverse
  rwa [List.reverse_reverse] at this
theorem txt_is (Q : List Nam) (b : Bool) : txt Q b = if Q = [] then (if b then [47, 47] else [47]) else slashed Q ++ (if b then [47] else []) := by
  rcases Q with _ | ⟨x, Q⟩
  · rcases b with _ | _ <;> rfl
  · rw [if_neg (by simp), slashed_join]
    rfl
theorem txt_prs {Q : List Nam} {b : Bool} (h1 : ∀ x ∈ Q, goodP x = true) (h2 : ∀ x ∈ Q, x.length ≤ 3) (hq : Q.length ≤ 20) (hb : b = true → Q ≠ []) : prsC (txt Q b) = 0 ∧ prsP (txt Q b) = Q ∧ prsS (txt Q b) = b := by
  have h := SB.ofSlashed Q h1 h2
  rw [txt_is]
  by_cases hQ : Q = []
  · rcases b with _ | _
    · subst hQ; decide
    · exact absurd hQ (hb rfl)
  · rw [if_neg hQ]
    rcases b with _ | _
    · rw [show (if false = true then [(47 : UInt8)] else []) = [] from rfl, List.append_nil]
      exact h.plain hq hQ
    · have := h.slash hq
      refine ⟨this.1, this.2.1, ?_⟩
      rw [show (if true = true then [(47 : UInt8)] else []) = [47] from rfl, this.2.2]
      exact decide_eq_true (List.length_pos_iff.2 hQ)
end Go.Proofs.YtjoajjndopfbmaaDoor
