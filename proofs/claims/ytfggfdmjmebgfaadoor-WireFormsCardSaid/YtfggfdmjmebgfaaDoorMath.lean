/- Plain facts on numbers as bytes, without any program: what 7 bits a byte lay, lowest first, is read back; no form begins another; a form cut off ends too early; a form with a 0 behind is none. -/
import Derived.WalkKit
import Derived.Laws.BitsAllLaws
namespace Go.Proofs.YtfggfdmjmebgfaaDoor
open Go.RowKit

/-- the number that is laid: 2n, or -2n - 1 of one below 0 -/
def zz (n : Int) : Nat := if n < 0 then (-2 * n - 1).toNat else (2 * n).toNat
def unzz (u : Nat) : Int := if u % 2 = 1 then -1 - ((u / 2 : Nat) : Int) else ((u / 2 : Nat) : Int)
theorem unzz_zz (n : Int) : unzz (zz n) = n := by unfold unzz zz; split <;> split <;> omega
theorem zz_neg {n : Int} (h : n < 0) : zz n = (-2 * n - 1).toNat := if_pos h
theorem zz_pos {n : Int} (h : 0 ≤ n) : zz n = (2 * n).toNat := if_neg (by omega)
theorem zz_lt {n : Int} (h0 : -9223372036854775808 ≤ n) (h1 : n ≤ 9223372036854775807) : zz n < 18446744073709551616 := by unfold zz; split <;> omega
theorem zz_inj {a b : Int} (h : zz a = zz b) : a = b := by rw [← unzz_zz a, h, unzz_zz]

/-- seven bits a byte, the lowest first; the fuel is how many bytes more there may be -/
def encF : Nat → Nat → List Int
  | 0, u => [(u : Int)]
  | f + 1, u => if u < 128 then [(u : Int)] else ((u % 128 + 128 : Nat) : Int) :: encF f (u / 128)
def enc (n : Int) : List Int := encF 9 (zz n)

theorem encF_lt {f u : Nat} (h : u < 128) : encF f u = [(u : Int)] := by cases f <;> simp [encF, h]
theorem encF_ge {f u : Nat} (h : 128 ≤ u) : encF (f + 1) u = ((u % 128 + 128 : Nat) : Int) :: encF f (u / 128) := by simp [encF, Nat.not_lt.2 h]
theorem encF_len (f u : Nat) : 1 ≤ (encF f u).length ∧ (encF f u).length ≤ f + 1 := by
  induction f generalizing u with
  | zero => simp [encF]
  | succ f ih =>
    unfold encF
    split
    · simp
    · have := ih (u / 128); simp; omega
theorem enc_len (n : Int) : 1 ≤ (enc n).length ∧ (enc n).length ≤ 10 := encF_len 9 _

def Byt (l : List Int) : Prop := ∀ x, x ∈ l → 0 ≤ x ∧ x ≤ 255
theorem Byt.at_ {l : List Int} (h : Byt l) {k : Nat} {x : Int} (hx : l[k]? = some x) : 0 ≤ x ∧ x ≤ 255 := h x (List.mem_of_getElem? hx)
theorem Byt.append {l m : List Int} (h : Byt l) (h' : Byt m) : Byt (l ++ m) := fun x hx => by
  rcases List.mem_append.1 hx with hx | hx
  · exact h x hx
  · exact h' x hx
theorem Byt.drop {l : List Int} (h : Byt l) (k : Nat) : Byt (l.drop k) := fun x hx => h x (List.mem_of_mem_drop hx)
theorem Byt.take {l : List Int} (h : Byt l) (k : Nat) : Byt (l.take k) := fun x hx => h x (List.mem_of_mem_take hx)
theorem Byt.nil : Byt [] := fun x hx => by cases hx
theorem encF_byt (f u : Nat) (h : u < 128 ^ f * 128) : Byt (encF f u) := by
  induction f generalizing u with
  | zero => intro x hx; simp [encF] at hx; omega
  | succ f ih =>
    unfold encF
    split
    · intro x hx; simp at hx; omega
    · intro x hx
      rcases List.mem_cons.1 hx with rfl | hx
      · omega
      · exact ih _ (by rw [Nat.pow_succ] at h; omega) x hx
theorem zz_fit {n : Int} (h0 : -9223372036854775808 ≤ n) (h1 : n ≤ 9223372036854775807) : zz n < 128 ^ 9 * 128 := by have := zz_lt h0 h1; omega
theorem enc_byt {n : Int} (h0 : -9223372036854775808 ≤ n) (h1 : n ≤ 9223372036854775807) : Byt (enc n) := encF_byt 9 _ (zz_fit h0 h1)

/-- a number read: 0 and the number, how many bytes; 1: no such form; 2: it ends too early -/
def scan : List Int → Nat → Nat → Nat × Nat × Nat
  | [], _, _ => (2, 0, 0)
  | c :: r, k, u => if (k = 9 ∧ 1 < c) ∨ (0 < k ∧ c = 0) then (1, 0, 0) else if c < 128 then (0, u + c.toNat % 128 * 128 ^ k, k + 1) else scan r (k + 1) (u + c.toNat % 128 * 128 ^ k)

theorem scan_enc (rest : List Int) (f k u v : Nat) (hk : k + f = 9) (hv : v * 128 ^ k < 18446744073709551616) (h0 : 0 < k → 0 < v) :
    scan (encF f v ++ rest) k u = (0, u + v * 128 ^ k, k + (encF f v).length) := by
  induction f generalizing k u v with
  | zero =>
    have e : k = 9 := by omega
    subst e
    have hv2 : v < 2 := by omega
    simp only [encF, List.singleton_append, scan]
    rw [if_neg (by have := h0 (by omega); omega), if_pos (by omega)]
    simp; omega
  | succ f ih =>
    by_cases h : v < 128
    · rw [encF_lt h]
      simp only [List.singleton_append, scan]
      rw [if_neg (by rintro (⟨h1, h2⟩ | ⟨h1, h2⟩); · omega
                     · have := h0 h1; omega), if_pos (by omega)]
      have : ((v : Int).toNat % 128) = v := by omega
      rw [this]; simp
    · rw [encF_ge (by omega)]
      simp only [List.cons_append, scan]
      rw [if_neg (by omega), if_neg (by omega)]
      have e : (((v % 128 + 128 : Nat) : Int).toNat % 128) = v % 128 := by omega
      rw [e, ih (k + 1) _ (v / 128) (by omega) (by
        rw [Nat.pow_succ]
        refine Nat.lt_of_le_of_lt ?_ hv
        have := Nat.div_mul_le_self v 128
        calc v / 128 * (128 ^ k * 128) = v / 128 * 128 * 128 ^ k := by rw [Nat.mul_comm (128 ^ k), Nat.mul_assoc]
          _ ≤ v * 128 ^ k := Nat.mul_le_mul_right _ this) (by intro _; omega)]
      refine Prod.ext rfl (Prod.ext ?_ ?_)
      · show u + v % 128 * 128 ^ k + v / 128 * 128 ^ (k + 1) = u + v * 128 ^ k
        rw [Nat.pow_succ, Nat.mul_comm (128 ^ k) 128, ← Nat.mul_assoc, Nat.add_assoc, ← Nat.add_mul]
        have : v % 128 + v / 128 * 128 = v := by omega
        rw [this]
      · show k + 1 + (encF f (v / 128)).length = k + (((v % 128 + 128 : Nat) : Int) :: encF f (v / 128)).length
        simp; omega

theorem scan_cut (f k u v j : Nat) (hk : k + f = 9) (hv : v * 128 ^ k < 18446744073709551616) (h0 : 0 < k → 0 < v) (hj : j < (encF f v).length) :
    scan ((encF f v).take j) k u = (2, 0, 0) := by
  induction f generalizing k u v j with
  | zero => simp [encF] at hj; subst hj; simp [scan]
  | succ f ih =>
    rcases j with _ | j
    · simp [scan]
    by_cases h : v < 128
    · rw [encF_lt h] at hj; simp at hj
    · rw [encF_ge (by omega)] at hj ⊢
      simp only [List.take_succ_cons, scan]
      rw [if_neg (by omega), if_neg (by omega)]
      exact ih (k + 1) _ (v / 128) j (by omega) (by
        rw [Nat.pow_succ]
        refine Nat.lt_of_le_of_lt ?_ hv
        have := Nat.div_mul_le_self v 128
        calc v / 128 * (128 ^ k * 128) = v / 128 * 128 * 128 ^ k := by rw [Nat.mul_comm (128 ^ k), Nat.mul_assoc]
          _ ≤ v * 128 ^ k := Nat.mul_le_mul_right _ this) (by intro _; omega) (by simpa using hj)

/-- the last byte made to go on, and a 0 behind -/
def bent : List Int → List Int
  | [] => []
  | [c] => [c % 128 + 128, 0]
  | c :: d :: r => c :: bent (d :: r)
theorem encF_ne (f u : Nat) : ∃ c r, encF f u = c :: r := by
  have := (encF_len f u).1
  match h : encF f u with
  | [] => rw [h] at this; simp at this
  | c :: r => exact ⟨c, r, rfl⟩
theorem scan_bent (f k u v : Nat) (hk : k + f = 9) (hv : v * 128 ^ k < 18446744073709551616) (h0 : 0 < k → 0 < v) :
    scan (bent (encF f v)) k u = (1, 0, 0) := by
  induction f generalizing k u v with
  | zero =>
    have e : k = 9 := by omega
    subst e
    have hv2 : v < 2 := by omega
    simp only [encF, bent, scan]
    rw [if_pos (by left; exact ⟨trivial, by omega⟩)]
  | succ f ih =>
    by_cases h : v < 128
    · rw [encF_lt h]
      simp only [bent, scan]
      by_cases h9 : (k = 9 ∧ (1 : Int) < (v : Int) % 128 + 128) ∨ (0 < k ∧ (v : Int) % 128 + 128 = 0)
      · rw [if_pos h9]
      · rw [if_neg h9, if_neg (by omega), if_pos (by right; exact ⟨by omega, trivial⟩)]
    · rw [encF_ge (by omega)]
      obtain ⟨c, r, hc⟩ := encF_ne f (v / 128)
      have ih' := ih (k + 1) (u + v % 128 * 128 ^ k) (v / 128) (by omega) (by
        rw [Nat.pow_succ]
        refine Nat.lt_of_le_of_lt ?_ hv
        have := Nat.div_mul_le_self v 128
        calc v / 128 * (128 ^ k * 128) = v / 128 * 128 * 128 ^ k := by rw [Nat.mul_comm (128 ^ k), Nat.mul_assoc]
          _ ≤ v * 128 ^ k := Nat.mul_le_mul_right _ this) (by intro _; omega)
      rw [hc] at ih' ⊢
      simp only [bent, scan]
      rw [if_neg (by omega), if_neg (by omega)]
      have e : (((v % 128 + 128 : Nat) : Int).toNat % 128) = v % 128 := by omega
      rw [e]
      exact ih'

theorem scan_num {n : Int} (h0 : -9223372036854775808 ≤ n) (h1 : n ≤ 9223372036854775807) (rest : List Int) :
    scan (enc n ++ rest) 0 0 = (0, zz n, (enc n).length) := by
  unfold enc
  rw [scan_enc rest 9 0 0 (zz n) rfl (by have := zz_lt h0 h1; omega) (by omega)]
  simp
theorem scan_num_cut {n : Int} (h0 : -9223372036854775808 ≤ n) (h1 : n ≤ 9223372036854775807) {j : Nat} (hj : j < (enc n).length) :
    scan ((enc n).take j) 0 0 = (2, 0, 0) := scan_cut 9 0 0 (zz n) j rfl (by have := zz_lt h0 h1; omega) (by omega) hj
theorem scan_num_bent {n : Int} (h0 : -9223372036854775808 ≤ n) (h1 : n ≤ 9223372036854775807) :
    scan (bent (enc n)) 0 0 = (1, 0, 0) := scan_bent 9 0 0 (zz n) rfl (by have := zz_lt h0 h1; omega) (by omega)
/-- forms of unlike numbers: neither begins the other -/
theorem enc_prefix {a b : Int} (ha0 : -9223372036854775808 ≤ a) (ha1 : a ≤ 9223372036854775807) (hb0 : -9223372036854775808 ≤ b) (hb1 : b ≤ 9223372036854775807)
    (h : enc a = (enc b).take (enc a).length) : a = b := by
  have h1 := scan_num ha0 ha1 ((enc b).drop (enc a).length)
  have h2 := scan_num hb0 hb1 []
  rw [List.append_nil] at h2
  have e : enc a ++ (enc b).drop (enc a).length = enc b := by
    have := List.take_append_drop (enc a).length (enc b)
    rw [← h] at this
    exact this
  rw [e, h2] at h1
  exact (zz_inj (congrArg (fun p => p.2.1) h1)).symm
/- what the walk writes for Go's bits -/
theorem not_i64 (n : Int) (h0 : -9223372036854775808 ≤ n) (h1 : n ≤ 9223372036854775807) : bits .xor .i64 (-1) n = -1 - n := by
  show IntKind.i64.wrap ((BitVec.ofInt 64 (-1) ^^^ BitVec.ofInt 64 n).toNat : Int) = _
  have e : BitVec.ofInt 64 (-1) = BitVec.allOnes 64 := by decide
  rw [e, BitVec.allOnes_xor, BitVec.toNat_not, BitVec.toNat_ofInt, IntKind.wrap_i64]
  simp
  omega
theorem not_u64' (n : Int) (h0 : 0 ≤ n) (h1 : n ≤ 18446744073709551615) : bits .xor .u64 IntKind.u64.max n = 18446744073709551615 - n := by
  show IntKind.u64.wrap ((BitVec.ofInt 64 IntKind.u64.max ^^^ BitVec.ofInt 64 n).toNat : Int) = _
  have e : BitVec.ofInt 64 IntKind.u64.max = BitVec.allOnes 64 := by decide
  rw [e, BitVec.allOnes_xor, BitVec.toNat_not, BitVec.toNat_ofInt, IntKind.wrap_u64]
  simp
  omega
theorem of_u64 (a : Nat) (ha : a < 18446744073709551616) : (BitVec.ofInt 64 (a : Int)).toNat = a := by
  rw [BitVec.ofInt_natCast, BitVec.toNat_ofNat]; exact Nat.mod_eq_of_lt (by omega)
theorem and127 (a : Nat) (ha : a < 18446744073709551616) : bits .and .u64 (a : Int) 127 = ((a % 128 : Nat) : Int) := by
  show IntKind.u64.wrap ((BitVec.ofInt 64 (a : Int) &&& BitVec.ofInt 64 ((127 : Nat) : Int)).toNat : Int) = _
  rw [BitVec.toNat_and, of_u64 a ha, of_u64 127 (by omega), IntKind.wrap_u64, Nat.and_two_pow_sub_one_eq_mod a 7]
  omega
theorem or128 (a : Nat) (ha : a < 128) : bits .or .u64 (a : Int) 128 = ((a + 128 : Nat) : Int) := by
  show IntKind.u64.wrap ((BitVec.ofInt 64 (a : Int) ||| BitVec.ofInt 64 ((128 : Nat) : Int)).toNat : Int) = _
  rw [BitVec.toNat_or, of_u64 a (by omega), of_u64 128 (by omega), IntKind.wrap_u64]
  have : a ||| 128 = 128 + a := by
    rw [Nat.or_comm]
    exact (Nat.two_pow_add_eq_or_of_lt (i := 7) ha 1).symm
  rw [this]; omega
theorem or_up (u c k : Nat) (hu : u < 128 ^ k) (hc : u + c * 128 ^ k < 18446744073709551616) : bits .or .u64 (u : Int) ((c * 128 ^ k : Nat) : Int) = ((u + c * 128 ^ k : Nat) : Int) := by
  show IntKind.u64.wrap ((BitVec.ofInt 64 (u : Int) ||| BitVec.ofInt 64 ((c * 128 ^ k : Nat) : Int)).toNat : Int) = _
  rw [BitVec.toNat_or, of_u64 u (by omega), of_u64 _ (by omega), IntKind.wrap_u64]
  have e : (128 : Nat) ^ k = 2 ^ (7 * k) := by rw [Nat.pow_mul]
  have : u ||| c * 128 ^ k = c * 128 ^ k + u := by
    rw [Nat.or_comm, e, Nat.mul_comm c]
    exact (Nat.two_pow_add_eq_or_of_lt (by rw [← e]; exact hu) c).symm
  rw [this]; omega
end Go.Proofs.YtfggfdmjmebgfaaDoor
