/- The walk of CrcTable. -/
import Derived.Test.YtljgkkgeaojolaaGCrcC
import Derived.Test.YtljgkkgeaojolaaGRow
import Derived.BigQuiet
import Derived.IntWalk
import Derived.Deep.QuietTactic
namespace Go.Proofs.Ytljgkkgeaojolaa
open Go.RowKit

theorem bne_u32 {a b : Nat} (h : a ≠ b) : (((a : Nat) : Int) == ((b : Nat) : Int)) = false := by rw [beq_eq_false_iff_ne]; omega
theorem beq_u32 {a b : Nat} (h : a = b) : (((a : Nat) : Int) == ((b : Nat) : Int)) = true := by rw [beq_iff_eq]; omega

set_option maxRecDepth 100000 in
set_option maxHeartbeats 4000000 in
theorem crcTable_any (i j : Nat) (w : World) (hi : i < 256) (hj : j < 256) :
    Calls Try.prog 7 #[.int .u8 (i : Int), .int .u8 (j : Int)] w (Yes w) := by
  obtain ⟨x, hx, hxl⟩ : ∃ x, x = i ^^^ j ∧ x < 256 := ⟨_, rfl, Nat.xor_lt_two_pow (n := 8) hi hj⟩
  have HX := hid (show bits .xor .u8 (i : Int) (j : Int) = (x : Int) by rw [xor_u8 i j hi hj, hx])
  have HW := hid (show bits .xor .u32 ((tab i : Nat) : Int) ((tab j : Nat) : Int) = ((tab x : Nat) : Int) by rw [xor_u32 _ _ (tab_lt hi) (tab_lt hj), hx, tab_xor])
  clear hx
  go_enter Try.func7, Try.ntmps7
  go_wp2_with fail
  refine (first_any _).mono ?_
  rintro e w1 ⟨rfl, hb⟩
  have HB1 := hid hb
  clear hb
  go_wp2_with fail
  refine (table_any _).mono ?_
  rintro e w2 hm
  obtain ⟨A, m, c, rfl, hs, hb, hn, ho⟩ := hm.fresh
  obtain rfl : 256 = m := by have := hs.len; rw [words_len] at this; exact this
  obtain ⟨g, rfl, hg1, hg2, hg3⟩ := ho.slot (by omega)
  have c0 := ho.cell (words_at (show 0 < 256 by omega))
  have c1 := ho.cell (words_at (show 128 < 256 by omega))
  have ci := ho.cell (words_at hi)
  have cj := ho.cell (words_at hj)
  have cx := ho.cell (words_at hxl)
  rw [tab_zero] at c0
  rw [tab_128] at c1
  have HB2 := hid (show Below w.heap.size w w2 from HB1.out.trans (hb.mono HB1.out.size))
  clear hm hs hb hn ho hg1 hg2 hg3
  have hX := HX.out
  have hW := HW.out
  have wi : IntKind.i64.wrap (i : Int) = (i : Int) := IntWalk.i64_in _ (by omega)
  have wj : IntKind.i64.wrap (j : Int) = (j : Int) := IntWalk.i64_in _ (by omega)
  have wx : IntKind.i64.wrap (x : Int) = (x : Int) := IntWalk.i64_in _ (by omega)
  have li : (i : Int) < 256 := by omega
  have lj : (j : Int) < 256 := by omega
  have lx : (x : Int) < 256 := by omega
  by_cases h : i = j
  · have hb1 : ((i : Int) == (j : Int)) = true := beq_u32 h
    have hb2 := beq_u32 (congrArg tab h)
    clear h
    go_wp2
    go_quiet (fail)
    go_wp2
    go_ret
    exact ⟨rfl, below_drewN HB2.out _⟩
  · have hb1 : ((i : Int) == (j : Int)) = false := bne_u32 h
    have hb2 := bne_u32 (fun e => h (tab_inj hi hj e))
    clear h
    go_wp2
    go_quiet (fail)
    go_wp2
    go_ret
    exact ⟨rfl, below_drewN HB2.out _⟩
theorem crcTable_all (x y : Int) (w : World) (hx : (Lit.int .u8 x).wf = true) (hy : (Lit.int .u8 y).wf = true) : Calls Try.prog 7 #[.int .u8 x, .int .u8 y] w (Yes w) := by
  have h1 := bounds_u8 hx
  have h2 := bounds_u8 hy
  obtain ⟨i, rfl⟩ : ∃ i : Nat, x = (i : Int) := ⟨x.toNat, by omega⟩
  obtain ⟨j, rfl⟩ : ∃ j : Nat, y = (j : Int) := ⟨y.toNat, by omega⟩
  exact crcTable_any i j w (by omega) (by omega)
end Go.Proofs.Ytljgkkgeaojolaa
