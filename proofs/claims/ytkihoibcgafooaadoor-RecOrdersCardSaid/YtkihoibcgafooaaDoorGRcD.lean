/- A number out of its three bytes; how many bytes stand behind a key's head. -/
import Derived.Test.YtkihoibcgafooaaDoorGRcC
namespace Go.Proofs.YtkihoibcgafooaaDoor
open Go.RowKit

theorem of_i64 (a : Nat) (ha : a < 9223372036854775808) : (BitVec.ofInt 64 (a : Int)).toNat = a := by
  rw [BitVec.ofInt_natCast, BitVec.toNat_ofNat]; exact Nat.mod_eq_of_lt (by omega)
theorem or_i64 (x y : Nat) (i : Nat) (hx : x % 2 ^ i = 0) (hy : y < 2 ^ i) (h : x + y < 9223372036854775808) : bits .or .i64 (x : Int) (y : Int) = ((x + y : Nat) : Int) := by
  show IntKind.i64.wrap ((BitVec.ofInt 64 (x : Int) ||| BitVec.ofInt 64 (y : Int)).toNat : Int) = _
  rw [BitVec.toNat_or, of_i64 x (by omega), of_i64 y (by omega), IntKind.wrap_i64, nat_join i x y hx hy]
  omega
/-- the number whose bytes stand at j -/
def numAt (l : List Int) (j : Nat) : Int := l.getD j 0 * 65536 + l.getD (j + 1) 0 * 256 + l.getD (j + 2) 0
theorem or3 {x y z : Int} (hx : 0 ≤ x ∧ x ≤ 255) (hy : 0 ≤ y ∧ y ≤ 255) (hz : 0 ≤ z ∧ z ≤ 255) :
    bits .or .i64 (x * 65536) (y * 256) = x * 65536 + y * 256 ∧ bits .or .i64 (x * 65536 + y * 256) z = x * 65536 + y * 256 + z := by
  obtain ⟨a, rfl⟩ := Int.eq_ofNat_of_zero_le hx.1
  obtain ⟨b, rfl⟩ := Int.eq_ofNat_of_zero_le hy.1
  obtain ⟨c, rfl⟩ := Int.eq_ofNat_of_zero_le hz.1
  have h1 := or_i64 (a * 65536) (b * 256) 16 (by omega) (by omega) (by omega)
  have h2 := or_i64 (a * 65536 + b * 256) c 8 (by omega) (by omega) (by omega)
  constructor
  · simpa using h1
  · simpa using h2
theorem getD_of {l : List Int} {k : Nat} {x : Int} (h : l[k]? = some x) : l.getD k 0 = x := by simp [List.getD, h]
set_option maxRecDepth 100000 in
set_option maxHeartbeats 2000000 in
theorem firstNum_any (A : Option Addr) (n c : Nat) (l : List Int) (B : Nat) (w : World) (h : Sl w B A n c l) (hb : Byt l) (hn : 3 ≤ n) :
    Calls Tryd.prog 18 #[.slice A n c] w (Quiet w (.int .i64 (numAt l 0))) := by
  obtain ⟨ad, x, rfl, _, hx, hc0⟩ := h.get (show 0 < n by omega)
  obtain ⟨_, y, ha, _, hy, hc1⟩ := h.get (show 1 < n by omega)
  cases ha
  obtain ⟨_, z, ha, _, hz, hc2⟩ := h.get (show 2 < n by omega)
  cases ha
  have bx := hb.at_ hx
  have by' := hb.at_ hy
  have bz := hb.at_ hz
  obtain ⟨o1, o2⟩ := or3 bx by' bz
  have HR := hid (show numAt l 0 = x * 65536 + y * 256 + z from by unfold numAt; rw [getD_of hx, getD_of hy, getD_of hz])
  rw [HR.out]
  obtain ⟨bx0, bx1⟩ := bx
  obtain ⟨by0, by1⟩ := by'
  obtain ⟨bz0, bz1⟩ := bz
  clear hx hy hz h hb
  have n0 : 0 < n := by omega
  have hd0 : w.cell? ad = some (.int .u8 x) := by rw [Addr.add_zero'] at hc0; exact hc0
  have hd1 : w.cell? ⟨ad.block, ad.off + 1, none⟩ = some (.int .u8 y) := hc1
  have hd2 : w.cell? ⟨ad.block, ad.off + 2, none⟩ = some (.int .u8 z) := hc2
  have n1 : (1 : Int) < (n : Int) := by omega
  have n2 : (2 : Int) < (n : Int) := by omega
  have w1 : IntKind.i64.wrap x = x := by rw [IntKind.wrap_i64]; omega
  have w2 : IntKind.i64.wrap y = y := by rw [IntKind.wrap_i64]; omega
  have w3 : IntKind.i64.wrap z = z := by rw [IntKind.wrap_i64]; omega
  have w4 : IntKind.i64.wrap (x * 65536) = x * 65536 := by rw [IntKind.wrap_i64]; omega
  have w5 : IntKind.i64.wrap (y * 256) = y * 256 := by rw [IntKind.wrap_i64]; omega
  go_enter Tryd.func18, Tryd.ntmps18
  go_wp2_with fail
  go_quiet (fail)
  go_wp2
  go_ret
  exact ⟨rfl, _, rfl⟩
end Go.Proofs.YtkihoibcgafooaaDoor
