/- The sum by the table. -/
import Derived.Test.YtljgkkgeaojolaaGCrcB
import Derived.Test.YtljgkkgeaojolaaGCrcT
namespace Go.Proofs.Ytljgkkgeaojolaa
open Go.RowKit

theorem low_xor (z y : Nat) (hy : y < 256) : (z % 256) ^^^ y = (z ^^^ y) % 256 := by
  have h := Nat.xor_mod_two_pow (a := z) (b := y) (n := 8)
  rw [show (2 : Nat) ^ 8 = 256 from rfl] at h
  rw [h, Nat.mod_eq_of_lt hy]
set_option maxRecDepth 100000 in
set_option maxHeartbeats 1000000 in
theorem with_any (T A : Option Addr) (cT n c B B' : Nat) (l : List Int) (w : World) (ht : Sv w B' T 256 cT words) (h : Sl w B A n c l) (hb : Byt l) :
    Calls Try.prog 15 #[.slice T 256 cT, .slice A n c] w fun e w' => e = .returned (.int .u32 ((crcOf (nats l) : Nat) : Int)) ∧ w = w' := by
  have hmx : n ≤ 9223372036854775807 := by have := h.cap; have := h.max; unfold maxLen at this; omega
  have HS := hid h
  have HY := hid hb
  have HT := hid ht
  clear h hb ht
  go_enter Try.func15, Try.ntmps15
  go_wp2
  go_loop [5, 13] (fun v i => ∃ k z : Nat, k ≤ n ∧ i = .int .i64 (k : Int) ∧ z < 4294967296 ∧ v = .int .u32 (z : Int) ∧ runc z (nats (l.drop k)) = runc 4294967295 (nats l)) (fun _ i => n - (intOf i).toNat)
  case atStart => exact ⟨0, 4294967295, by omega, rfl, by omega, rfl, rfl⟩
  case round =>
    obtain ⟨k, z, hk, rfl, hz, rfl, he⟩ := hrel
    have HE := hid he
    have HZ := hid hz
    clear he hz
    by_cases hlt : k < n
    · obtain ⟨ad, x, rfl, hbl, hx, hc⟩ := HS.out.get hlt
      obtain ⟨y, rfl, hy⟩ := byt_nat HY.out hx
      have HN := hid (runc_at hx HE.out)
      have HL := hid (stp_lt HZ.out hy)
      obtain ⟨j, hj, hjl⟩ : ∃ j, j = (z ^^^ y) % 256 ∧ j < 256 := ⟨_, rfl, Nat.mod_lt _ (by omega)⟩
      have hX : bits .xor .u8 ((z : Int) % 256) (y : Int) = (j : Int) := by
        have := xor_u8 (z % 256) y (by omega) hy
        rw [low_xor z y hy, ← hj] at this
        simpa using this
      have HV := hid (show bits .xor .u32 ((z : Int) / 256) ((tab j : Nat) : Int) = ((stp z y : Nat) : Int) by
        have h1 := xor_u32 (z / 256) (tab j) (by have := HZ.out; omega) (tab_lt hjl)
        have h2 : z / 256 ^^^ tab j = stp z y := by rw [stp_tab hy, ← hj, Nat.xor_comm]
        rw [h2] at h1
        simpa using h1)
      obtain ⟨td, rfl, htb, htc⟩ := HT.out.get (words_at hjl)
      clear hx hbl hj htb
      go_wp2
      go_round
      case rel => exact ⟨k + 1, stp z y, by omega, by go_num, HL.out, by rw [HV.out], HN.out⟩
      case measure => simp [intOf]; omega
    · have HF := hid (show z = runc 4294967295 (nats l) by have := HE.out; rwa [List.drop_eq_nil_of_le (by have := HS.out.len; omega)] at this)
      have HT := hid (not_u32 z HZ.out)
      go_wp2
      go_ret
      exact ⟨ret_u32 (by rw [HT.out, HF.out]; rfl), rfl⟩
set_option maxHeartbeats 400000 in
theorem with_not (T A : Option Addr) (m cT n c : Nat) (w : World) (hm : m < 256) :
    Calls Try.prog 15 #[.slice T m cT, .slice A n c] w fun e w' => e = .returned (.int .u32 0) ∧ w = w' := by
  have hb : ((m : Int) != 256) = true := by rw [bne_iff_ne]; omega
  go_enter Try.func15, Try.ntmps15
  go_wp2
  go_ret
  exact ⟨rfl, rfl⟩
end Go.Proofs.Ytljgkkgeaojolaa
