/- Which bytes lie in which blocks: pieces, what is laid, a size's blocks; pure. -/
import Derived.Test.YtbgldblenlinjaaGNumber
import Derived.Test.YtbgldblenlinjaaGByt
namespace Go.Proofs.Ytbgldblenlinjaa
open Go.RowKit

def pI (a k : Nat) : Nat := a / 256 + k
def pF (a k : Nat) : Nat := a - 256 * (a / 256 + k)
def pT (a n k : Nat) : Nat := min (a + n - 256 * (a / 256 + k)) 256
def pN (a n : Nat) : Nat := if n = 0 then 0 else (a + n - 1) / 256 - a / 256 + 1
/-- how many bytes lie ahead of piece k -/
def pS (a n k : Nat) : Nat := min (256 * (a / 256 + k) - a) n
def pC (a n k : Nat) : List Value := [.int .i64 (pI a k : Nat), .int .i64 (pF a k : Nat), .int .i64 (pT a n k : Nat)]
def pcs (a n k : Nat) : List Value := (List.range k).flatMap (pC a n)
theorem pcs_next (a n k : Nat) : pcs a n (k + 1) = pcs a n k ++ pC a n k := by
  unfold pcs
  rw [List.range_succ, List.flatMap_append]
  simp
theorem pcs_len (a n k : Nat) : (pcs a n k).length = k * 3 := by
  induction k with
  | zero => rfl
  | succ k ih => rw [pcs_next, List.length_append, ih]; simp [pC]; omega
theorem pcs_get (a n : Nat) {j k : Nat} (h : j < k) : (pcs a n k)[j * 3]? = some (.int .i64 (pI a j : Nat)) ∧ (pcs a n k)[j * 3 + 1]? = some (.int .i64 (pF a j : Nat)) ∧ (pcs a n k)[j * 3 + 2]? = some (.int .i64 (pT a n j : Nat)) := by
  induction k with
  | zero => omega
  | succ k ih =>
    rw [pcs_next]
    have hl := pcs_len a n k
    by_cases e : j = k
    · subst e
      rw [List.getElem?_append_right (by omega), List.getElem?_append_right (by omega), List.getElem?_append_right (by omega), hl, show j * 3 - j * 3 = 0 by omega, show j * 3 + 1 - j * 3 = 1 by omega, show j * 3 + 2 - j * 3 = 2 by omega]
      exact ⟨rfl, rfl, rfl⟩
    · rw [List.getElem?_append_left (by omega), List.getElem?_append_left (by omega), List.getElem?_append_left (by omega)]
      exact ih (by omega)
theorem p_more {a n k : Nat} (h : k < pN a n) : pS a n k < n ∧ pF a k < pT a n k ∧ pT a n k ≤ 256 ∧ pS a n (k + 1) = pS a n k + (pT a n k - pF a k) ∧ 256 * pI a k + pF a k = a + pS a n k := by
  unfold pN at h; unfold pS pF pT pI
  split at h <;> omega
theorem p_end {a n k : Nat} (hk : k ≤ pN a n) (h : n ≤ pS a n k) : k = pN a n := by
  unfold pN at *; unfold pS at h
  split at hk <;> split <;> omega
theorem p_last (a n : Nat) : pS a n (pN a n) = n := by
  unfold pN; unfold pS
  split <;> omega
theorem p_first {a k : Nat} (h : 0 < k) : pF a k = 0 := by unfold pF; omega
theorem p_full {a n k : Nat} (h : k + 1 < pN a n) : pT a n k = 256 := by
  unfold pN at h; unfold pT
  split at h <;> omega
/-- m laid over l from f on -/
def layB (l m : List Int) (f : Nat) : List Int := l.take f ++ (m ++ l.drop (f + m.length))
theorem layB_len {l m : List Int} {f : Nat} (h : f + m.length ≤ l.length) : (layB l m f).length = l.length := by
  unfold layB
  rw [List.length_append, List.length_append, List.length_take, List.length_drop]
  omega
theorem layB_get {l m : List Int} {f : Nat} (h : f + m.length ≤ l.length) (j : Nat) : (layB l m f)[j]? = if f ≤ j ∧ j < f + m.length then m[j - f]? else l[j]? := by
  unfold layB
  have h1 : (l.take f).length = f := by rw [List.length_take]; omega
  by_cases a : j < f
  · rw [List.getElem?_append_left (by omega), List.getElem?_take, if_pos a, if_neg (by omega)]
  · rw [List.getElem?_append_right (by omega), h1]
    by_cases b : j < f + m.length
    · rw [List.getElem?_append_left (by omega), if_pos (by omega)]
    · rw [List.getElem?_append_right (by omega), List.getElem?_drop, if_neg (by omega)]
      congr 1
      omega
/-- 2,048 bytes x, the first q of b laid at p -/
def lays (p : Nat) (b : List Int) (x : Int) (q : Nat) : List Int := (List.range 2048).map fun i => if p ≤ i ∧ i < p + q then b.getD (i - p) 0 else x
theorem lays_len (p : Nat) (b : List Int) (x : Int) (q : Nat) : (lays p b x q).length = 2048 := by simp [lays]
theorem lays_get (p : Nat) (b : List Int) (x : Int) (q : Nat) {i : Nat} (h : i < 2048) : (lays p b x q)[i]? = some (if p ≤ i ∧ i < p + q then b.getD (i - p) 0 else x) := by
  unfold lays
  rw [List.getElem?_map, List.getElem?_range h]
  rfl
theorem lays_zero (p : Nat) (b : List Int) (x : Int) : lays p b x 0 = List.replicate 2048 x := by
  apply List.ext_getElem?
  intro i
  by_cases h : i < 2048
  · rw [lays_get p b x 0 h, if_neg (by omega), List.getElem?_replicate, if_pos h]
  · rw [List.getElem?_eq_none (by rw [lays_len]; omega), List.getElem?_eq_none (by rw [List.length_replicate]; omega)]
theorem lays_head {p q q' i : Nat} (b : List Int) (x : Int) (h : i ≤ p + q) (h' : q ≤ q') : (lays p b x q').take i = (lays p b x q).take i := by
  apply List.ext_getElem?
  intro j
  rw [List.getElem?_take, List.getElem?_take]
  by_cases a : j < i
  · rw [if_pos a, if_pos a]
    by_cases c : j < 2048
    · rw [lays_get p b x _ c, lays_get p b x _ c]
      by_cases d : p ≤ j
      · rw [if_pos (by omega), if_pos (by omega)]
      · rw [if_neg (by omega), if_neg (by omega)]
    · rw [List.getElem?_eq_none (by rw [lays_len]; omega), List.getElem?_eq_none (by rw [lays_len]; omega)]
  · rw [if_neg a, if_neg a]
theorem lays_tail {p q q' i : Nat} (b : List Int) (x : Int) (h : p + q' ≤ i) (h' : q ≤ q') : (lays p b x q').drop i = (lays p b x q).drop i := by
  apply List.ext_getElem?
  intro j
  rw [List.getElem?_drop, List.getElem?_drop]
  by_cases c : i + j < 2048
  · rw [lays_get p b x _ c, lays_get p b x _ c, if_neg (by omega), if_neg (by omega)]
  · rw [List.getElem?_eq_none (by rw [lays_len]; omega), List.getElem?_eq_none (by rw [lays_len]; omega)]
/-- one piece laid -/
theorem lays_mid {p q k i f j : Nat} (b : List Int) (x : Int) (hi : i ≤ 7) (h : 256 * i + f = p + q) (hk : f + k ≤ 256) (hb : q + k ≤ b.length) (hj : j < 256) :
    (layB (((lays p b x q).drop (256 * i)).take 256) ((b.drop q).take k) f)[j]? = (lays p b x (q + k))[256 * i + j]? := by
  have hm : ((b.drop q).take k).length = k := by rw [List.length_take, List.length_drop]; omega
  have hl : (((lays p b x q).drop (256 * i)).take 256).length = 256 := by rw [List.length_take, List.length_drop, lays_len]; omega
  rw [layB_get (by omega), hm, lays_get p b x _ (by omega)]
  by_cases a : f ≤ j ∧ j < f + k
  · rw [if_pos a, if_pos (by omega), List.getElem?_take, if_pos (by omega), List.getElem?_drop, List.getD_eq_getElem?_getD, show 256 * i + j - p = q + (j - f) by omega]
    rcases e : b[q + (j - f)]? with _ | y
    · rw [List.getElem?_eq_none_iff] at e; omega
    · rfl
  · rw [if_neg a, List.getElem?_take, if_pos hj, List.getElem?_drop, lays_get p b x _ (by omega)]
    by_cases c : p ≤ 256 * i + j ∧ 256 * i + j < p + q
    · rw [if_pos c, if_pos (by omega)]
    · rw [if_neg c, if_neg (by omega)]
/-- how many bytes of block i a file of that size has -/
def shr (i s : Nat) : Nat := min (s - 256 * i) 256
end Go.Proofs.Ytbgldblenlinjaa
