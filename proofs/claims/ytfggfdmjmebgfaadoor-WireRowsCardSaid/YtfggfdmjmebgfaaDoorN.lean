/- Number brings any int below a bound that is above 0; a slice of int64s that came in reads as a list of them; numbers put one behind the other are their forms one behind the other. Conditions: as said in each. -/
import Derived.Test.YtfggfdmjmebgfaaDoorM
import Derived.Deep.RegionHeld3
namespace Go.Proofs.YtfggfdmjmebgfaaDoor
open Go.RowKit

/-- the slice '.slice A n c' reads as the int64s l, all below block B -/
structure Sn (w : World) (B : Nat) (A : Option Addr) (n c : Nat) (l : List Int) : Prop where
  len : l.length = n
  cap : n ≤ c
  max : c ≤ maxLen
  nil : A = none → c = 0
  at_ : ∀ ad, A = some ad → 0 < n → ad.block < B ∧ ∀ j x, l[j]? = some x → w.cell? (ad.add j) = some (.int .i64 x)
theorem Sn.get {w : World} {B n c : Nat} {A : Option Addr} {l : List Int} {k : Nat} (h : Sn w B A n c l) (hk : k < n) : ∃ ad x, A = some ad ∧ ad.block < B ∧ l[k]? = some x ∧ w.cell? (ad.add k) = some (.int .i64 x) := by
  rcases A with _ | ad
  · have := h.nil rfl; have := h.cap; omega
  · have hl := h.len
    obtain ⟨hb, hc⟩ := h.at_ ad rfl (by omega)
    have hx : l[k]? = some (l[k]'(by omega)) := List.getElem?_eq_getElem (by omega)
    exact ⟨ad, _, rfl, hb, hx, hc k _ hx⟩
theorem Sn.below {w w' : World} {B n c : Nat} {A : Option Addr} {l : List Int} (h : Sn w B A n c l) (hb : Below B w w') : Sn w' B A n c l :=
  ⟨h.len, h.cap, h.max, h.nil, fun ad ha hn => ⟨(h.at_ ad ha hn).1, fun j x hx => (hb.cell (by rw [add_block]; exact (h.at_ ad ha hn).1)).trans ((h.at_ ad ha hn).2 j x hx)⟩⟩

/-- each is an int64 -/
def Wide (l : List Int) : Prop := ∀ x, x ∈ l → -9223372036854775808 ≤ x ∧ x ≤ 9223372036854775807
theorem Wide.at_ {l : List Int} (h : Wide l) {k : Nat} {x : Int} (hx : l[k]? = some x) : -9223372036854775808 ≤ x ∧ x ≤ 9223372036854775807 := h x (List.mem_of_getElem? hx)

def encs (l : List Int) : List Int := (l.map enc).flatten
theorem encs_nil : encs [] = [] := rfl
theorem encs_next {l : List Int} {k : Nat} {x : Int} (h : l[k]? = some x) : encs (l.take (k + 1)) = encs (l.take k) ++ enc x := by
  rw [take_next h]; simp [encs]
theorem encs_cut {l : List Int} {k : Nat} {x : Int} (h : l[k]? = some x) : (encs l).drop (encs (l.take k)).length = enc x ++ encs (l.drop (k + 1)) := by
  have e : encs l = encs (l.take k) ++ (enc x ++ encs (l.drop (k + 1))) := by
    have h1 : l = l.take k ++ (x :: l.drop (k + 1)) := by rw [← drop_at h, List.take_append_drop]
    conv => lhs; rw [h1]
    simp [encs]
  rw [e]
  simp
theorem encs_len (l : List Int) : l.length ≤ (encs l).length ∧ (encs l).length ≤ 10 * l.length := by
  induction l with
  | nil => simp [encs]
  | cons x l ih =>
    have := enc_len x
    have e : encs (x :: l) = enc x ++ encs l := rfl
    rw [e, List.length_append, List.length_cons]
    omega
theorem encs_byt {l : List Int} (h : Wide l) : Byt (encs l) := by
  induction l with
  | nil => exact Byt.nil
  | cons x l ih =>
    have e : encs (x :: l) = enc x ++ encs l := rfl
    rw [e]
    have hx := h x List.mem_cons_self
    exact (enc_byt hx.1 hx.2).append (ih fun y hy => h y (List.mem_cons_of_mem _ hy))
theorem encs_step {l : List Int} {k : Nat} {x : Int} (h : l[k]? = some x) : (encs (l.take (k + 1))).length = (encs (l.take k)).length + (enc x).length := by
  rw [encs_next h, List.length_append]
theorem encs_le (l : List Int) (k : Nat) : (encs (l.take k)).length ≤ (encs l).length := by
  have e : encs l = encs (l.take k) ++ encs (l.drop k) := by
    have h1 : l = l.take k ++ l.drop k := (List.take_append_drop k l).symm
    have h2 : ∀ a b : List Int, encs (a ++ b) = encs a ++ encs b := fun a b => by simp [encs]
    rw [← h2, ← h1]
  rw [e, List.length_append]; omega
theorem encs_lt {l : List Int} {k : Nat} (h : k < l.length) : (encs (l.take k)).length < (encs l).length := by
  have hx : l[k]? = some (l[k]) := List.getElem?_eq_getElem h
  have h1 := encs_step hx
  have h2 := encs_le l (k + 1)
  have h3 := enc_len (l[k])
  omega

theorem emod_pos (n b : Int) (hb : 0 < b) (h : 0 ≤ n.tmod b) : n % b = n.tmod b := by
  have h1 := Int.mul_tdiv_add_tmod n b
  have h2 : n.tmod b < b := Int.tmod_lt_of_pos n hb
  have h3 : (n.tmod b + b * n.tdiv b) % b = n.tmod b % b := Int.add_mul_emod_self_left _ _ _
  rw [Int.emod_eq_of_lt h h2] at h3
  rw [← h3]
  congr 1
  omega
theorem emod_neg (n b : Int) (hb : 0 < b) (h : n.tmod b < 0) : n % b = n.tmod b + b := by
  have h1 := Int.mul_tdiv_add_tmod n b
  have h2 : -b < n.tmod b := Int.lt_tmod_of_pos n hb
  have h3 : (n.tmod b + b + b * (n.tdiv b - 1)) % b = (n.tmod b + b) % b := Int.add_mul_emod_self_left _ _ _
  rw [Int.emod_eq_of_lt (a := n.tmod b + b) (by omega) (by omega)] at h3
  rw [← h3]
  congr 1
  rw [Int.mul_sub, Int.mul_one]
  omega

set_option maxHeartbeats 400000 in
theorem number_any (n b : Int) (w : World) (hb : 0 < b) (hb1 : b ≤ 1000) :
    Calls Tryd.prog 25 #[.int .i64 n, .int .i64 b] w fun e w' => e = .returned (.int .i64 (n % b)) ∧ w = w' := by
  have h2 : -b < n.tmod b := Int.lt_tmod_of_pos n hb
  have h3 : n.tmod b < b := Int.tmod_lt_of_pos n hb
  rcases Int.lt_or_le (n.tmod b) 0 with h | h
  · have HE := hid (emod_neg n b hb h)
    have hz : ¬ b = 0 := by omega
    go_enter Tryd.func25, Tryd.ntmps25
    go_wp2
    go_ret
    rw [HE.out]
    exact ⟨rfl, rfl⟩
  · have HE := hid (emod_pos n b hb h)
    have hz : ¬ b = 0 := by omega
    go_enter Tryd.func25, Tryd.ntmps25
    go_wp2
    go_ret
    rw [HE.out]
    exact ⟨rfl, rfl⟩
end Go.Proofs.YtfggfdmjmebgfaaDoor
