/- Plain facts on bytes and bits, without any program. -/
import Derived.WalkKit
import Derived.Laws.BitsAllLaws
namespace Go.Proofs.Ytljgkkgeaojolaa
open Go.RowKit

def Byt (l : List Int) : Prop := ∀ x, x ∈ l → 0 ≤ x ∧ x ≤ 255
theorem Byt.at_ {l : List Int} (h : Byt l) {k : Nat} {x : Int} (hx : l[k]? = some x) : 0 ≤ x ∧ x ≤ 255 := h x (List.mem_of_getElem? hx)
theorem Byt.append {l m : List Int} (h : Byt l) (h' : Byt m) : Byt (l ++ m) := fun x hx => by
  rcases List.mem_append.1 hx with hx | hx
  · exact h x hx
  · exact h' x hx
theorem Byt.drop {l : List Int} (h : Byt l) (k : Nat) : Byt (l.drop k) := fun x hx => h x (List.mem_of_mem_drop hx)
theorem Byt.take {l : List Int} (h : Byt l) (k : Nat) : Byt (l.take k) := fun x hx => h x (List.mem_of_mem_take hx)
theorem Byt.nil : Byt [] := fun x hx => by cases hx
/- what the walk writes for Go's bits -/
theorem not_i64 (n : Int) (h0 : -9223372036854775808 ≤ n) (h1 : n ≤ 9223372036854775807) : bits .xor .i64 (-1) n = -1 - n := by
  show IntKind.i64.wrap ((BitVec.ofInt 64 (-1) ^^^ BitVec.ofInt 64 n).toNat : Int) = _
  have e : BitVec.ofInt 64 (-1) = BitVec.allOnes 64 := by decide
  rw [e, BitVec.allOnes_xor, BitVec.toNat_not, BitVec.toNat_ofInt, IntKind.wrap_i64]
  simp
  omega
theorem not_u64' (n : Int) (h0 : 0 ≤ n) (h1 : n ≤ 18446744073709551615) : bits .xor .u64 IntKind.u64.max n = 18446744073709551615 - n := by
  show IntKind.u64.wrap ((BitVec.ofInt 64 IntKind.u64.max ^^^ BitVec.ofInt 64 n).toNat : Int) = _
  have e : BitVec.ofInt 64 IntKind.u64.max = BitVec.allOnes 64 := by decide
  rw [e, BitVec.allOnes_xor, BitVec.toNat_not, BitVec.toNat_ofInt, IntKind.wrap_u64]
  simp
  omega
theorem of_u64 (a : Nat) (ha : a < 18446744073709551616) : (BitVec.ofInt 64 (a : Int)).toNat = a := by
  rw [BitVec.ofInt_natCast, BitVec.toNat_ofNat]; exact Nat.mod_eq_of_lt (by omega)
theorem and127 (a : Nat) (ha : a < 18446744073709551616) : bits .and .u64 (a : Int) 127 = ((a % 128 : Nat) : Int) := by
  show IntKind.u64.wrap ((BitVec.ofInt 64 (a : Int) &&& BitVec.ofInt 64 ((127 : Nat) : Int)).toNat : Int) = _
  rw [BitVec.toNat_and, of_u64 a ha, of_u64 127 (by omega), IntKind.wrap_u64, Nat.and_two_pow_sub_one_eq_mod a 7]
  omega
theorem or128 (a : Nat) (ha : a < 128) : bits .or .u64 (a : Int) 128 = ((a + 128 : Nat) : Int) := by
  show IntKind.u64.wrap ((BitVec.ofInt 64 (a : Int) ||| BitVec.ofInt 64 ((128 : Nat) : Int)).toNat : Int) = _
  rw [BitVec.toNat_or, of_u64 a (by omega), of_u64 128 (by omega), IntKind.wrap_u64]
  have : a ||| 128 = 128 + a := by
    rw [Nat.or_comm]
    exact (Nat.two_pow_add_eq_or_of_lt (i := 7) ha 1).symm
  rw [this]; omega
theorem or_up (u c k : Nat) (hu : u < 128 ^ k) (hc : u + c * 128 ^ k < 18446744073709551616) : bits .or .u64 (u : Int) ((c * 128 ^ k : Nat) : Int) = ((u + c * 128 ^ k : Nat) : Int) := by
  show IntKind.u64.wrap ((BitVec.ofInt 64 (u : Int) ||| BitVec.ofInt 64 ((c * 128 ^ k : Nat) : Int)).toNat : Int) = _
  rw [BitVec.toNat_or, of_u64 u (by omega), of_u64 _ (by omega), IntKind.wrap_u64]
  have e : (128 : Nat) ^ k = 2 ^ (7 * k) := by rw [Nat.pow_mul]
  have : u ||| c * 128 ^ k = c * 128 ^ k + u := by
    rw [Nat.or_comm, e, Nat.mul_comm c]
    exact (Nat.two_pow_add_eq_or_of_lt (by rw [← e]; exact hu) c).symm
  rw [this]; omega

/-- each is an int64 -/
def Wide (l : List Int) : Prop := ∀ x, x ∈ l → -9223372036854775808 ≤ x ∧ x ≤ 9223372036854775807
theorem Wide.at_ {l : List Int} (h : Wide l) {k : Nat} {x : Int} (hx : l[k]? = some x) : -9223372036854775808 ≤ x ∧ x ≤ 9223372036854775807 := h x (List.mem_of_getElem? hx)
theorem emod_pos (n b : Int) (hb : 0 < b) (h : 0 ≤ n.tmod b) : n % b = n.tmod b := by
  have h1 := Int.mul_tdiv_add_tmod n b
  have h2 : n.tmod b < b := Int.tmod_lt_of_pos n hb
  have h3 : (n.tmod b + b * n.tdiv b) % b = n.tmod b % b := Int.add_mul_emod_self_left _ _ _
  rw [Int.emod_eq_of_lt h h2] at h3
  rw [← h3]
  congr 1
  omega
theorem emod_neg (n b : Int) (hb : 0 < b) (h : n.tmod b < 0) : n % b = n.tmod b + b := by
  have h1 := Int.mul_tdiv_add_tmod n b
  have h2 : -b < n.tmod b := Int.lt_tmod_of_pos n hb
  have h3 : (n.tmod b + b + b * (n.tdiv b - 1)) % b = (n.tmod b + b) % b := Int.add_mul_emod_self_left _ _ _
  rw [Int.emod_eq_of_lt (a := n.tmod b + b) (by omega) (by omega)] at h3
  rw [← h3]
  congr 1
  rw [Int.mul_sub, Int.mul_one]
  omega

/-- a copy, byte by byte -/
theorem take_next {l : List Int} {k : Nat} {x : Int} (h : l[k]? = some x) : l.take (k + 1) = l.take k ++ [x] := by rw [List.take_add_one, h]; rfl

theorem drop_at {l : List Int} {k : Nat} {x : Int} (h : l[k]? = some x) : l.drop k = x :: l.drop (k + 1) := by
  obtain ⟨hk, rfl⟩ := List.getElem?_eq_some_iff.1 h
  exact List.drop_eq_getElem_cons hk

theorem or128_u8 (c : Nat) (h : c < 128) : bits .or .u8 (c : Int) 128 = ((c + 128 : Nat) : Int) := by
  have e : ∀ c : Fin 128, bits .or .u8 ((c.val : Nat) : Int) 128 = ((c.val + 128 : Nat) : Int) := by decide
  exact e ⟨c, h⟩
end Go.Proofs.Ytljgkkgeaojolaa
