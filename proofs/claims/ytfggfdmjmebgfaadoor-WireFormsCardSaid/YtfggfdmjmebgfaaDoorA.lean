/- The zigzag number of any int64 is 2n, or -2n - 1 of one below 0, and back again: what the two functions of package wire answer. Conditions: the number is an int64, an uint64. -/
import Derived.Test.YtfggfdmjmebgfaaDoorChecked
import Derived.Test.YtfggfdmjmebgfaaDoorWords
import Derived.WalkSpells
import Derived.WalkLawsBesides
namespace Go.Proofs.YtfggfdmjmebgfaaDoor
open Go.RowKit
theorem Tryd.info5 : (Tryd.prog.info? 5).map (fun i => (i.zero, i.size, i.bytes)) = some (some (.int .u8 0), 1, 1) := by kernel_rfl

set_option maxHeartbeats 400000 in
theorem zigzag_any (n : Int) (w : World) (h0 : -9223372036854775808 ≤ n) (h1 : n ≤ 9223372036854775807) :
    Calls Tryd.prog 34 #[.int .i64 n] w fun e w' => e = .returned (.int .u64 (zz n : Nat)) ∧ w = w' := by
  by_cases h : n < 0
  · have hz : IntKind.u64.wrap (IntKind.u64.wrap (IntKind.u64.wrap (bits BinOp.xor IntKind.i64 (-1) n) * 2) + 1) = (zz n : Nat) := by
      rw [not_i64 n h0 h1, zz_neg h]
      simp only [IntKind.wrap_u64]
      omega
    have H := hid hz
    clear hz
    go_enter Tryd.func34, Tryd.ntmps34
    go_wp2
    go_ret
    refine ⟨?_, rfl⟩
    rw [← H.out]
    rfl
  · have hz : (n * 2 : Int) = (zz n : Nat) := by
      rw [zz_pos (by omega)]
      omega
    have H := hid hz
    clear hz
    go_enter Tryd.func34, Tryd.ntmps34
    go_wp2
    go_ret
    refine ⟨?_, rfl⟩
    rw [← H.out]
    rfl

set_option maxHeartbeats 400000 in
theorem unzigzag_any (u : Nat) (w : World) (h1 : u < 18446744073709551616) :
    Calls Tryd.prog 35 #[.int .u64 (u : Int)] w fun e w' => e = .returned (.int .i64 (unzz u)) ∧ w = w' := by
  by_cases h : u % 2 = 1
  · have hb : (((u : Int) % 2) == 1) = true := by rw [beq_iff_eq]; omega
    have hz : bits BinOp.xor IntKind.i64 (-1) ((u : Int) / 2) = unzz u := by
      rw [not_i64 _ (by omega) (by omega)]
      unfold unzz
      rw [if_pos h]
      omega
    have H := hid hz
    clear hz h
    go_enter Tryd.func35, Tryd.ntmps35
    go_wp2
    go_ret
    refine ⟨?_, rfl⟩
    rw [← H.out]
    rfl
  · have hb : (((u : Int) % 2) == 1) = false := by rw [beq_eq_false_iff_ne]; omega
    have hz : ((u : Int) / 2) = unzz u := by
      unfold unzz
      rw [if_neg h]
      omega
    have H := hid hz
    clear hz h
    go_enter Tryd.func35, Tryd.ntmps35
    go_wp2
    go_ret
    refine ⟨?_, rfl⟩
    rw [← H.out]
    rfl
end Go.Proofs.YtfggfdmjmebgfaaDoor
