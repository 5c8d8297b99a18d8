/- A step of the sum: package crc's and the document's. -/
import Derived.Test.YtfdabbpfphnbhaaDoorGBase
import Derived.Test.YtfdabbpfphnbhaaDoorGDevBase
namespace Go.Proofs.YtfdabbpfphnbhaaDoor
open Go.RowKit

theorem of_u32 (a : Nat) (ha : a < 4294967296) : (BitVec.ofInt 32 (a : Int)).toNat = a := by
  rw [BitVec.ofInt_natCast, BitVec.toNat_ofNat]; exact Nat.mod_eq_of_lt (by omega)
theorem xor_u32 (a b : Nat) (ha : a < 4294967296) (hb : b < 4294967296) : bits .xor .u32 (a : Int) (b : Int) = ((a ^^^ b : Nat) : Int) := by
  show IntKind.u32.wrap ((BitVec.ofInt 32 (a : Int) ^^^ BitVec.ofInt 32 (b : Int)).toNat : Int) = _
  have := Nat.xor_lt_two_pow (n := 32) ha hb
  rw [BitVec.toNat_xor, of_u32 a ha, of_u32 b hb, IntKind.wrap_u32]
  omega
theorem and1_u32 (a : Nat) (ha : a < 4294967296) : bits .and .u32 (a : Int) 1 = ((a % 2 : Nat) : Int) := by
  show IntKind.u32.wrap ((BitVec.ofInt 32 (a : Int) &&& BitVec.ofInt 32 ((1 : Nat) : Int)).toNat : Int) = _
  rw [BitVec.toNat_and, of_u32 a ha, of_u32 1 (by omega), IntKind.wrap_u32, Nat.and_two_pow_sub_one_eq_mod a 1]
  omega
theorem poly_u32 (a : Nat) (ha : a < 4294967296) : bits .xor .u32 (a : Int) 2197175160 = ((a ^^^ 2197175160 : Nat) : Int) := xor_u32 a 2197175160 ha (by omega)

theorem shs_next {k z e : Nat} (hk : k < 8) (h : shs (8 - k) z = e) : shs (8 - (k + 1)) (sh z) = e := by
  rw [show 8 - k = (8 - (k + 1)) + 1 by omega] at h
  exact h
set_option maxRecDepth 100000 in
set_option maxHeartbeats 1000000 in
theorem through_any (s c : Nat) (w : World) (hs : s < 4294967296) (hc : c < 256) :
    Calls Tryd.prog 48 #[.int .u32 (s : Int), .int .u8 (c : Int)] w fun e w' => e = .returned (.int .u32 ((stp s c : Nat) : Int)) ∧ w = w' := by
  have hx : s ^^^ c < 4294967296 := Nat.xor_lt_two_pow (n := 32) hs (by omega)
  have HX := hid (xor_u32 s c hs (by omega))
  have HB := hid hx

  clear hx hs
  go_enter Tryd.func48, Tryd.ntmps48
  go_wp2
  go_loop [0, 10] (fun v i => ∃ k z : Nat, k ≤ 8 ∧ i = .int .i64 (k : Int) ∧ z < 4294967296 ∧ v = .int .u32 (z : Int) ∧ shs (8 - k) z = stp s c) (fun _ i => 8 - (intOf i).toNat)
  case atStart => exact ⟨0, s ^^^ c, by omega, rfl, HB.out, by rw [HX.out], rfl⟩
  case round =>
    obtain ⟨k, z, hk, rfl, hz, rfl, he⟩ := hrel
    have HE := hid he
    clear he

    have HA := hid (and1_u32 z hz)
    have HP := hid (poly_u32 (z / 2) (by omega))
    have HZ := hid (sh_lt hz)
    clear hz
    by_cases hlt : k < 8
    · have HN := hid (shs_next hlt HE.out)
      have HD := hid (show ((z : Int) / 2) = ((z / 2 : Nat) : Int) by omega)
      rcases Nat.mod_two_eq_zero_or_one z with hp | hp
      · have ht : (bits .and .u32 (z : Int) 1 == 1) = false := by rw [HA.out, hp]; rfl
        have HS := hid (show sh z = z / 2 by unfold sh; rw [if_neg (by omega)])
        clear hp
        go_wp2
        go_round
        case rel => exact ⟨k + 1, sh z, by omega, by go_num, HZ.out, by rw [HS.out, HD.out], HN.out⟩
        case measure => simp [intOf]; omega
      · have ht : (bits .and .u32 (z : Int) 1 == 1) = true := by rw [HA.out, hp]; rfl
        have HS := hid (show sh z = z / 2 ^^^ 2197175160 by unfold sh; rw [if_pos hp])
        clear hp
        go_wp2
        go_round
        case rel => exact ⟨k + 1, sh z, by omega, by go_num, HZ.out, by rw [HS.out, HD.out, HP.out], HN.out⟩
        case measure => simp [intOf]; omega
    · have HF := hid (show z = stp s c by have := HE.out; rw [show 8 - k = 0 by omega] at this; exact this)
      go_wp2
      go_ret
      rw [HF.out]
      exact ⟨rfl, rfl⟩
set_option maxRecDepth 100000 in
set_option maxHeartbeats 1000000 in
theorem step_any (s c : Nat) (w : World) (hs : s < 4294967296) (hc : c < 256) :
    Calls Tryd.prog 33 #[.int .u32 (s : Int), .int .u8 (c : Int)] w fun e w' => e = .returned (.int .u32 ((stp s c : Nat) : Int)) ∧ w = w' := by
  have hx : s ^^^ c < 4294967296 := Nat.xor_lt_two_pow (n := 32) hs (by omega)
  have HX := hid (xor_u32 s c hs (by omega))
  have HB := hid hx

  clear hx hs
  go_enter Tryd.func33, Tryd.ntmps33
  go_wp2
  go_loop [0, 5] (fun v i => ∃ k z : Nat, k ≤ 8 ∧ i = .int .i64 (k : Int) ∧ z < 4294967296 ∧ v = .int .u32 (z : Int) ∧ shs (8 - k) z = stp s c) (fun _ i => 8 - (intOf i).toNat)
  case atStart => exact ⟨0, s ^^^ c, by omega, rfl, HB.out, by rw [HX.out], rfl⟩
  case round =>
    obtain ⟨k, z, hk, rfl, hz, rfl, he⟩ := hrel
    have HE := hid he
    clear he

    have HA := hid (and1_u32 z hz)
    have HP := hid (poly_u32 (z / 2) (by omega))
    have HZ := hid (sh_lt hz)
    clear hz
    by_cases hlt : k < 8
    · have HN := hid (shs_next hlt HE.out)
      have HD := hid (show ((z : Int) / 2) = ((z / 2 : Nat) : Int) by omega)
      rcases Nat.mod_two_eq_zero_or_one z with hp | hp
      · have ht : (bits .and .u32 (z : Int) 1 == 1) = false := by rw [HA.out, hp]; rfl
        have HS := hid (show sh z = z / 2 by unfold sh; rw [if_neg (by omega)])
        clear hp
        go_wp2
        go_round
        case rel => exact ⟨k + 1, sh z, by omega, by go_num, HZ.out, by rw [HS.out, HD.out], HN.out⟩
        case measure => simp [intOf]; omega
      · have ht : (bits .and .u32 (z : Int) 1 == 1) = true := by rw [HA.out, hp]; rfl
        have HS := hid (show sh z = z / 2 ^^^ 2197175160 by unfold sh; rw [if_pos hp])
        clear hp
        go_wp2
        go_round
        case rel => exact ⟨k + 1, sh z, by omega, by go_num, HZ.out, by rw [HS.out, HD.out, HP.out], HN.out⟩
        case measure => simp [intOf]; omega
    · have HF := hid (show z = stp s c by have := HE.out; rw [show 8 - k = 0 by omega] at this; exact this)
      go_wp2
      go_ret
      rw [HF.out]
      exact ⟨rfl, rfl⟩

/-- a byte of the list, as a natural number -/
theorem byt_nat {l : List Int} (h : Byt l) {k : Nat} {x : Int} (hx : l[k]? = some x) : ∃ c : Nat, x = (c : Int) ∧ c < 256 := ⟨x.toNat, by have := h.at_ hx; omega, by have := h.at_ hx; omega⟩
theorem runc_at {l : List Int} {k c z e : Nat} (hx : l[k]? = some (c : Int)) (he : runc z (nats (l.drop k)) = e) : runc (stp z c) (nats (l.drop (k + 1))) = e := by
  rw [drop_at hx] at he
  exact he
theorem not_u32 (a : Nat) (ha : a < 4294967296) : bits .xor .u32 IntKind.u32.max (a : Int) = ((a ^^^ 4294967295 : Nat) : Int) := by
  have e : IntKind.u32.max = ((4294967295 : Nat) : Int) := by decide
  rw [e, xor_u32 4294967295 a (by omega) ha, Nat.xor_comm]
theorem ret_u32 {a b : Int} (h : a = b) : Ending.returned (.int .u32 a) = .returned (.int .u32 b) := by rw [h]
theorem crc_lt {l : List Nat} (hl : Bts l) : crcOf l < 4294967296 := Nat.xor_lt_two_pow (n := 32) (runc_lt hl (by decide)) (by decide)

set_option maxRecDepth 100000 in
set_option maxHeartbeats 1000000 in
theorem sum_any (A : Option Addr) (n c B : Nat) (l : List Int) (w : World) (h : Sl w B A n c l) (hb : Byt l) :
    Calls Tryd.prog 39 #[.slice A n c] w fun e w' => e = .returned (.int .u32 ((crcOf (nats l) : Nat) : Int)) ∧ w = w' := by
  have hmx : n ≤ 9223372036854775807 := by have := h.cap; have := h.max; unfold maxLen at this; omega
  have HS := hid h
  have HY := hid hb
  clear h hb
  go_enter Tryd.func39, Tryd.ntmps39
  go_wp2
  go_loop [3, 8] (fun v i => ∃ k z : Nat, k ≤ n ∧ i = .int .i64 (k : Int) ∧ z < 4294967296 ∧ v = .int .u32 (z : Int) ∧ runc z (nats (l.drop k)) = runc 4294967295 (nats l)) (fun _ i => n - (intOf i).toNat)
  case atStart => exact ⟨0, 4294967295, by omega, rfl, by omega, rfl, rfl⟩
  case round =>
    obtain ⟨k, z, hk, rfl, hz, rfl, he⟩ := hrel
    have HE := hid he
    have HZ := hid hz
    clear he hz
    by_cases hlt : k < n
    · obtain ⟨ad, x, rfl, hbl, hx, hc⟩ := HS.out.get hlt
      obtain ⟨y, rfl, hy⟩ := byt_nat HY.out hx
      have HN := hid (runc_at hx HE.out)
      have HL := hid (stp_lt HZ.out hy)
      clear hx hbl
      go_wp2_with (go_at_call 48; refine (through_any z y _ HZ.out hy).mono ?_; rintro e w' ⟨rfl, rfl⟩)
      go_round
      case rel => exact ⟨k + 1, stp z y, by omega, by go_num, HL.out, rfl, HN.out⟩
      case measure => simp [intOf]; omega
    · have HF := hid (show z = runc 4294967295 (nats l) by have := HE.out; rwa [List.drop_eq_nil_of_le (by have := HS.out.len; omega)] at this)
      have HT := hid (not_u32 z HZ.out)
      go_wp2
      go_ret
      exact ⟨ret_u32 (by rw [HT.out, HF.out]; rfl), rfl⟩
set_option maxRecDepth 100000 in
set_option maxHeartbeats 1000000 in
theorem refSum_any (A : Option Addr) (n c B : Nat) (l : List Int) (w : World) (h : Sl w B A n c l) (hb : Byt l) :
    Calls Tryd.prog 13 #[.slice A n c] w fun e w' => e = .returned (.int .u32 ((crcOf (nats l) : Nat) : Int)) ∧ w = w' := by
  have hmx : n ≤ 9223372036854775807 := by have := h.cap; have := h.max; unfold maxLen at this; omega
  have HS := hid h
  have HY := hid hb
  clear h hb
  go_enter Tryd.func13, Tryd.ntmps13
  go_wp2
  go_loop [3, 4] (fun v i => ∃ k z : Nat, k ≤ n ∧ i = .int .i64 (k : Int) ∧ z < 4294967296 ∧ v = .int .u32 (z : Int) ∧ runc z (nats (l.drop k)) = runc 4294967295 (nats l)) (fun _ i => n - (intOf i).toNat)
  case atStart => exact ⟨0, 4294967295, by omega, rfl, by omega, rfl, rfl⟩
  case round =>
    obtain ⟨k, z, hk, rfl, hz, rfl, he⟩ := hrel
    have HE := hid he
    have HZ := hid hz
    clear he hz
    by_cases hlt : k < n
    · obtain ⟨ad, x, rfl, hbl, hx, hc⟩ := HS.out.get hlt
      obtain ⟨y, rfl, hy⟩ := byt_nat HY.out hx
      have HN := hid (runc_at hx HE.out)
      have HL := hid (stp_lt HZ.out hy)
      clear hx hbl
      go_wp2_with (go_at_call 33; refine (step_any z y _ HZ.out hy).mono ?_; rintro e w' ⟨rfl, rfl⟩)
      go_round
      case rel => exact ⟨k + 1, stp z y, by omega, by go_num, HL.out, rfl, HN.out⟩
      case measure => simp [intOf]; omega
    · have HF := hid (show z = runc 4294967295 (nats l) by have := HE.out; rwa [List.drop_eq_nil_of_le (by have := HS.out.len; omega)] at this)
      have HT := hid (not_u32 z HZ.out)
      go_wp2
      go_ret
      exact ⟨ret_u32 (by rw [HT.out, HF.out]; rfl), rfl⟩
end Go.Proofs.YtfdabbpfphnbhaaDoor
