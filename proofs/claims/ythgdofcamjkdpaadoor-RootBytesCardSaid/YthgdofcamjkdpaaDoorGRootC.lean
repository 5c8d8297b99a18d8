/- Package root: firstNum. -/
import Derived.Test.YthgdofcamjkdpaaDoorGRootB
namespace Go.Proofs.YthgdofcamjkdpaaDoor
open Go.RowKit

theorem of_i64 (a : Nat) (ha : a < 9223372036854775808) : (BitVec.ofInt 64 (a : Int)).toNat = a := of_u64 a (by omega)
theorem or_upI (u c k : Nat) (hu : u < 256 ^ k) (hc : u + c * 256 ^ k < 9223372036854775808) : bits .or .i64 (u : Int) ((c * 256 ^ k : Nat) : Int) = ((u + c * 256 ^ k : Nat) : Int) := by
  show IntKind.i64.wrap ((BitVec.ofInt 64 (u : Int) ||| BitVec.ofInt 64 ((c * 256 ^ k : Nat) : Int)).toNat : Int) = _
  rw [BitVec.toNat_or, of_i64 u (by omega), of_i64 _ (by omega), IntKind.wrap_i64]
  have e : (256 : Nat) ^ k = 2 ^ (8 * k) := by rw [Nat.pow_mul]
  have : u ||| c * 256 ^ k = c * 256 ^ k + u := by
    rw [Nat.or_comm, e, Nat.mul_comm c]
    exact (Nat.two_pow_add_eq_or_of_lt (by rw [← e]; exact hu) c).symm
  rw [this]; omega
theorem pow_le6 {k : Nat} (h : k ≤ 5) : (256 : Nat) ^ k ≤ 1099511627776 := by
  have : (256 : Nat) ^ k ≤ 256 ^ 5 := Nat.pow_le_pow_right (by omega) h
  have e : (256 : Nat) ^ 5 = 1099511627776 := by decide
  omega
theorem numOf_next {l : List Int} {k : Nat} {x : Nat} (h : l[k]? = some (x : Int)) : numOf (l.take (k + 1)) = numOf (l.take k) + x * 256 ^ k := by
  have hk : k < l.length := (List.getElem?_eq_some_iff.1 h).1
  rw [take_next h, numOf_snoc, List.length_take, Nat.min_eq_left (by omega), Int.toNat_natCast, Nat.mul_comm]
set_option maxRecDepth 100000 in
set_option maxHeartbeats 2000000 in
theorem firstNum_any (B : Nat) (A : Option Addr) (n c size : Nat) (z : Int) (l : List Int) (w : World) (hz : z = (size : Int)) (h : Sl w B A n c l) (hy : Byt l) (hs : size ≤ 6) (hn : size ≤ n) :
    Calls Tryd.prog 40 #[.slice A n c, .int .i64 z] w fun e w' => (∃ A', e = .returned (.tuple #[.int .i64 ((numOf (l.take size) : Nat) : Int), .slice A' (n - size) (c - size)]) ∧ Sl w B A' (n - size) (c - size) (l.drop size)) ∧ ∃ q, w' = w.drewN q := by
  subst hz
  have HS := hid h
  have HY := hid hy
  have hcap := h.cap
  have hmx := h.max
  have hlen := h.len
  have HC := hid (h.cut (k := size) hn)
  clear h hy
  unfold maxLen at hmx
  go_enter Tryd.func40, Tryd.ntmps40
  go_wp2
  go_loopw [6, 13] (fun v i wr => ∃ k : Nat, k ≤ size ∧ i = .int .i64 (k : Int) ∧ v = .int .i64 ((numOf (l.take k) : Nat) : Int) ∧ wr = w) (fun _ i _ => size - (intOf i).toNat)
  case atStart => exact ⟨0, Nat.zero_le _, rfl, rfl, rfl⟩
  case round =>
    obtain ⟨k, hk, rfl, rfl, rfl⟩ := hrel
    by_cases hlt : k < size
    · obtain ⟨ad, x, rfl, hbl, hx, hcx⟩ := HS.out.get (k := k) (by omega)
      have hv := HY.out.at_ hx
      obtain ⟨xn, rfl⟩ : ∃ xn : Nat, x = (xn : Int) := ⟨x.toNat, by omega⟩
      have HNx := hid (numOf_next hx)
      have hN := numOf_lt (HY.out.take k)
      rw [List.length_take, Nat.min_eq_left (by omega)] at hN
      obtain ⟨u, hu⟩ : ∃ u, numOf (l.take k) = u := ⟨_, rfl⟩
      rw [hu] at HNx hN ⊢
      have hp := pow_le6 (k := k) (by omega)
      have hprod : xn * 256 ^ k ≤ 255 * 1099511627776 := Nat.mul_le_mul (by omega) hp
      have HOr := hid (or_upI u xn k hN (by omega))
      have hxi : (xn : Int) ≤ 255 := by omega
      have hk5 : (k : Int) ≤ 5 := by omega
      have hks : (k : Int) < size := by omega
      have hs6 : (size : Int) ≤ 6 := by omega
      have HR := hid (show bits .or .i64 (u : Int) (wrap64 ((xn : Int) * 2 ^ (8 * k))) = ((numOf (l.take (k + 1)) : Nat) : Int) by
        have e : ((xn : Int) * 2 ^ (8 * k)) = ((xn * 256 ^ k : Nat) : Int) := by
          rw [show (256 : Nat) ^ k = 2 ^ (8 * k) by rw [Nat.pow_mul]]
          simp
        have e2 : wrap64 ((xn * 256 ^ k : Nat) : Int) = ((xn * 256 ^ k : Nat) : Int) := by unfold wrap64; omega
        rw [e, e2, HOr.out, HNx.out])
      clear hN hp hprod hx hv hbl HC HOr
      go_wp2
      exact ⟨⟨k + 1, by omega, by go_num, by rw [HR.out], trivial⟩, by simp [intOf]; omega⟩
    · obtain rfl : k = size := by omega
      have hnlt : decide (k < k) = false := by simp
      have hkc : (k : Int) ≤ n := by omega
      have hnc : (n : Int) ≤ c := by omega
      have hc63 : (c : Int) ≤ 9223372036854775807 := by omega
      go_wp2_with fail
      go_quiet (fail)
      generalize (if c = k then A else A.map (fun x => x.add k)) = A' at *
      go_wp2
      go_ret2
      exact ⟨⟨A', rfl, HC.out⟩, _, rfl⟩
/- bytes.Equal -/
theorem strOfNums_inj {l m : List Int} (hl : Byt l) (hm : Byt m) (h : strOfNums l = strOfNums m) : l = m := by
  have e : ∀ l : List Int, Byt l → str (strOfNums l) = l := by
    intro l hl
    simp only [str, strOfNums]
    rw [List.map_map]
    conv => rhs; rw [← List.map_id l]
    apply List.map_congr_left
    intro x hx
    have := hl x hx
    simp
    omega
  rw [← e l hl, ← e m hm, h]
set_option maxRecDepth 100000 in
set_option maxHeartbeats 2000000 in
theorem bytesEqual_any (A A' : Option Addr) (n c n' c' : Nat) (l m : List Int) (B B' : Nat) (w : World) (h : Sl w B A n c l) (h' : Sl w B' A' n' c' m) (hl : Byt l) (hm : Byt m) :
    Calls Tryd.prog 25 #[.slice A n c, .slice A' n' c'] w (Quiet w (.bool (sameB l m))) := by
  have k1 := conv_any h
  have k2 := conv_any h'
  have HE := hid (show ((strOfNums l).toList == (strOfNums m).toList) = sameB l m by
    unfold sameB
    by_cases e : l = m
    · subst e; rw [beq_self_eq_true]; simp
    · have hne : (strOfNums l).toList ≠ (strOfNums m).toList := fun h => e (strOfNums_inj hl hm (by
        rw [ByteArray.toList_eq, ByteArray.toList_eq] at h
        exact Go.WideShapes.bytes_inj h))
      rw [beq_eq_false_iff_ne.2 hne]; simp [e])
  clear h h' hl hm
  generalize strOfNums l = s at *
  generalize strOfNums m = t at *
  generalize sameB l m = b at *
  go_enter Tryd.func25, Tryd.ntmps25
  go_wp2
  go_ret
  exact ⟨by rw [← HE.out]; rfl, 0, rfl⟩
end Go.Proofs.YthgdofcamjkdpaaDoor
