/- SameBytes says whether two lists of bytes are the same, and only reads. Conditions: both slices read. -/
import Derived.Test.YtfggfdmjmebgfaaDoorC
namespace Go.Proofs.YtfggfdmjmebgfaaDoor
open Go.RowKit

def sameB (l m : List Int) : Bool := decide (l = m)
theorem same_end {l m : List Int} {n k : Nat} (hl : l.length = n) (hm : m.length = n) (hk : ¬ k < n) (h : l.take k = m.take k) : sameB l m = true := by
  rw [List.take_of_length_le (by omega), List.take_of_length_le (by omega)] at h
  simp [sameB, h]
theorem same_not {l m : List Int} {k : Nat} {x y : Int} (hx : l[k]? = some x) (hy : m[k]? = some y) (hne : x ≠ y) : sameB l m = false := by
  simp only [sameB, decide_eq_false_iff_not]
  rintro rfl
  rw [hx] at hy
  exact hne (by injection hy)
theorem same_len {l m : List Int} (h : l.length ≠ m.length) : sameB l m = false := by
  simp only [sameB, decide_eq_false_iff_not]
  rintro rfl
  exact h rfl

/-- it answers v, and only draws -/
def Quiet (w : World) (v : Value) (e : Ending) (w' : World) : Prop := e = .returned v ∧ ∃ k, w' = w.drewN k

set_option maxRecDepth 100000 in
set_option maxHeartbeats 1000000 in
theorem same_any (A A' : Option Addr) (n c n' c' : Nat) (l m : List Int) (B B' : Nat) (w : World) (h : Sl w B A n c l) (h' : Sl w B' A' n' c' m) :
    Calls Tryd.prog 14 #[.slice A n c, .slice A' n' c'] w (Quiet w (.bool (sameB l m))) := by
  have HS := hid h
  have HS' := hid h'
  clear h h'
  have hmx : n ≤ 9223372036854775807 := by have := HS.out.cap; have := HS.out.max; unfold maxLen at this; omega
  by_cases hne : n = n'
  · subst hne
    go_enter Tryd.func14, Tryd.ntmps14
    go_wp2
    go_loopw [5] (fun i wr => ∃ k q : Nat, k ≤ n ∧ i = .int .i64 (k : Int) ∧ l.take k = m.take k ∧ wr = w.drewN q) (fun i _ => n - (intOf i).toNat)
    case atStart => exact ⟨0, 0, Nat.zero_le _, rfl, rfl, rfl⟩
    case round =>
      obtain ⟨k, q, hk, rfl, ht, rfl⟩ := hrel
      have HT := hid ht
      clear ht
      by_cases hlt : k < n
      · obtain ⟨ad, x, rfl, hbl, hx, hc⟩ := HS.out.get hlt
        obtain ⟨ad', y, rfl, hbl', hy, hc'⟩ := HS'.out.get hlt
        have HX := hid hx
        have HY := hid hy
        clear hx hy hbl hbl'
        by_cases hxy : x = y
        · have hb : (x == y) = true := by rw [beq_iff_eq]; exact hxy
          have HXY := hid hxy
          clear hxy
          go_wp2_with fail
          go_quiet (fail)
          go_wp2
          go_roundw
          case rel => exact ⟨k + 1, _, by omega, by go_num, by rw [take_next HX.out, take_next HY.out, HT.out, HXY.out], rfl⟩
          case measure => simp [intOf]; omega
        · have hb : (x == y) = false := by rw [beq_eq_false_iff_ne]; exact hxy
          have HR := hid (same_not HX.out HY.out hxy)
          clear hxy
          go_wp2_with fail
          go_quiet (fail)
          go_wp2
          go_ret
          rw [HR.out]
          exact ⟨rfl, _, rfl⟩
      · go_wp2
        go_ret
        rw [same_end HS.out.len HS'.out.len hlt HT.out]
        exact ⟨rfl, _, rfl⟩
  · have HR := hid (same_len (l := l) (m := m) (by rw [HS.out.len, HS'.out.len]; exact hne))
    have hb : ((n : Int) != (n' : Int)) = true := by rw [bne_iff_ne]; omega
    clear hne
    go_enter Tryd.func14, Tryd.ntmps14
    go_wp2
    go_ret
    rw [HR.out]
    exact ⟨rfl, 0, rfl⟩
end Go.Proofs.YtfggfdmjmebgfaaDoor
