/- Package rec's small calls, and what keys are: pure words, kinds, numbers, the check. -/
import Derived.Test.YtkihoibcgafooaaDoorGSee
namespace Go.Proofs.YtkihoibcgafooaaDoor
open Go.RowKit

/-- a Place by value -/
def pv (k n i : Int) (s : ByteArray) : Value := .agg #[.int .i64 k, .int .i64 n, .int .i64 i, .string s]
def kinB (k : Int) : Bool := decide (1 ≤ k ∧ k ≤ 4)
def numB (n : Int) : Bool := decide (0 ≤ n ∧ n ≤ 16777215)
/-- why a Place has no key: the error's number -/
def keyC (k n i : Int) (s : ByteArray) : Int :=
  if kinB k && numB n && numB i then (if (i ≠ 0 ∧ k ≠ 4) ∨ (s.size ≠ 0 ∧ k ≠ 3) then 103 else if 24 < s.size then 115 else 0) else 103
/-- a number's three bytes -/
def num3 (n : Int) : List Int := [n / 65536, n / 256 % 256, n % 256]
/-- a Place's key -/
def keyL (k n i : Int) (s : ByteArray) : List Int := k :: num3 n ++ (if k = 4 then num3 i else str s)

theorem i64_range {n : Int} (h0 : -9223372036854775808 ≤ n) (h1 : n ≤ 9223372036854775807) : IntKind.i64.wrap n = n := by rw [IntKind.wrap_i64]; omega
set_option maxHeartbeats 400000 in
theorem isKind_any (k : Int) (w : World) : Calls Tryd.prog 19 #[.int .i64 k] w fun e w' => e = .returned (.bool (kinB k)) ∧ w = w' := by
  have hc : (k < 1 ∧ kinB k = false) ∨ (1 ≤ k ∧ 4 < k ∧ kinB k = false) ∨ (1 ≤ k ∧ k ≤ 4 ∧ kinB k = true) := by
    unfold kinB
    by_cases h1 : k < 1
    · exact .inl ⟨h1, by simp; omega⟩
    · by_cases h2 : 4 < k
      · exact .inr (.inl ⟨by omega, h2, by simp; omega⟩)
      · exact .inr (.inr ⟨by omega, by omega, by simp; omega⟩)
  rcases hc with ⟨c1, c2⟩ | ⟨c1, c2, c3⟩ | ⟨c1, c2, c3⟩
  rotate_left
  · have g : decide (k ≤ 4) = false := by simp; omega
    rw [c3]; clear c3
    go_enter Tryd.func19, Tryd.ntmps19
    go_wp2
    go_ret
    exact ⟨rfl, rfl⟩
  · have g : decide (k ≤ 4) = true := by simp; omega
    rw [c3]; clear c3
    go_enter Tryd.func19, Tryd.ntmps19
    go_wp2
    go_ret
    exact ⟨rfl, rfl⟩
  · rw [c2]; clear c2
    go_enter Tryd.func19, Tryd.ntmps19
    go_wp2
    go_ret
    exact ⟨rfl, rfl⟩
set_option maxHeartbeats 400000 in
theorem isNum_any (k : Int) (w : World) : Calls Tryd.prog 26 #[.int .i64 k] w fun e w' => e = .returned (.bool (numB k)) ∧ w = w' := by
  have hc : (k < 0 ∧ numB k = false) ∨ (0 ≤ k ∧ 16777215 < k ∧ numB k = false) ∨ (0 ≤ k ∧ k ≤ 16777215 ∧ numB k = true) := by
    unfold numB
    by_cases h1 : k < 0
    · exact .inl ⟨h1, by simp; omega⟩
    · by_cases h2 : 16777215 < k
      · exact .inr (.inl ⟨by omega, h2, by simp; omega⟩)
      · exact .inr (.inr ⟨by omega, by omega, by simp; omega⟩)
  rcases hc with ⟨c1, c2⟩ | ⟨c1, c2, c3⟩ | ⟨c1, c2, c3⟩
  rotate_left
  · have g : decide (k ≤ 16777215) = false := by simp; omega
    rw [c3]; clear c3
    go_enter Tryd.func26, Tryd.ntmps26
    go_wp2
    go_ret
    exact ⟨rfl, rfl⟩
  · have g : decide (k ≤ 16777215) = true := by simp; omega
    rw [c3]; clear c3
    go_enter Tryd.func26, Tryd.ntmps26
    go_wp2
    go_ret
    exact ⟨rfl, rfl⟩
  · rw [c2]; clear c2
    go_enter Tryd.func26, Tryd.ntmps26
    go_wp2
    go_ret
    exact ⟨rfl, rfl⟩
/-- a text is empty, as the walk asks it -/
def emp (s : ByteArray) : Prop := s = ⟨#[]⟩
theorem emp_iff {s : ByteArray} : s.size = 0 ↔ s = ⟨#[]⟩ := by
  constructor
  · intro h
    obtain ⟨d⟩ := s
    have : d.size = 0 := h
    rw [Array.eq_empty_of_size_eq_zero this]
  · rintro rfl; rfl
/-- the seven ways of a check -/
theorem key_ways (k n i : Int) (s : ByteArray) :
    (kinB k = false ∧ keyC k n i s = 103) ∨ (kinB k = true ∧ numB n = false ∧ keyC k n i s = 103) ∨ (kinB k = true ∧ numB n = true ∧ numB i = false ∧ keyC k n i s = 103) ∨
    (kinB k = true ∧ numB n = true ∧ numB i = true ∧ i ≠ 0 ∧ k ≠ 4 ∧ keyC k n i s = 103) ∨
    (kinB k = true ∧ numB n = true ∧ numB i = true ∧ (i = 0 ∨ i ≠ 0 ∧ k = 4) ∧ s ≠ ⟨#[]⟩ ∧ k ≠ 3 ∧ keyC k n i s = 103) ∨
    (kinB k = true ∧ numB n = true ∧ numB i = true ∧ (i = 0 ∨ i ≠ 0 ∧ k = 4) ∧ (s = ⟨#[]⟩ ∨ s ≠ ⟨#[]⟩ ∧ k = 3) ∧ 24 < s.size ∧ keyC k n i s = 115) ∨
    (kinB k = true ∧ numB n = true ∧ numB i = true ∧ (i = 0 ∨ i ≠ 0 ∧ k = 4) ∧ (s = ⟨#[]⟩ ∨ s ≠ ⟨#[]⟩ ∧ k = 3) ∧ s.size ≤ 24 ∧ keyC k n i s = 0) := by
  have he := emp_iff (s := s)
  unfold keyC
  rcases hk : kinB k with _ | _
  · exact .inl ⟨rfl, by simp⟩
  refine .inr ?_
  rcases hn : numB n with _ | _
  · exact .inl ⟨rfl, rfl, by simp⟩
  refine .inr ?_
  rcases hi : numB i with _ | _
  · exact .inl ⟨rfl, rfl, rfl, by simp⟩
  refine .inr ?_
  by_cases h1 : i ≠ 0 ∧ k ≠ 4
  · exact .inl ⟨rfl, rfl, rfl, h1.1, h1.2, by rw [if_pos (by simp), if_pos (.inl h1)]⟩
  refine .inr ?_
  have h1' : i = 0 ∨ i ≠ 0 ∧ k = 4 := by omega
  by_cases h2 : s.size ≠ 0 ∧ k ≠ 3
  · exact .inl ⟨rfl, rfl, rfl, h1', fun e => h2.1 (he.2 e), h2.2, by rw [if_pos (by simp), if_pos (.inr h2)]⟩
  refine .inr ?_
  have h2' : s = ⟨#[]⟩ ∨ s ≠ ⟨#[]⟩ ∧ k = 3 := by
    by_cases h : s.size = 0
    · exact .inl (he.1 h)
    · exact .inr ⟨fun e => h (he.2 e), by omega⟩
  by_cases h3 : 24 < s.size
  · exact .inl ⟨rfl, rfl, rfl, h1', h2', h3, by rw [if_pos (by simp), if_neg (by omega), if_pos h3]⟩
  · exact .inr ⟨rfl, rfl, rfl, h1', h2', by omega, by rw [if_pos (by simp), if_neg (by omega), if_neg h3]⟩
end Go.Proofs.YtkihoibcgafooaaDoor
