/- The walk of PairHeals, for whatever keeps the calls. -/
import Derived.Test.YtomhmodgfldlpaaDoorGPairC
namespace Go.Proofs.YtomhmodgfldlpaaDoor
open Go.RowKit

theorem or1_u32 (a : Nat) (ha : a < 4294967296) : bits .or .u32 (a : Int) 1 = ((a ||| 1 : Nat) : Int) := by
  show IntKind.u32.wrap ((BitVec.ofInt 32 (a : Int) ||| BitVec.ofInt 32 1).toNat : Int) = _
  have h1 : (BitVec.ofInt 32 (1 : Int)).toNat = 1 := of_u32 1 (by omega)
  have := Nat.or_lt_two_pow (n := 32) (show a < 2 ^ 32 by omega) (show 1 < 2 ^ 32 by decide)
  rw [BitVec.toNat_or, of_u32 a ha, h1, IntKind.wrap_u32]
  omega
theorem or1_ne (a : Nat) : a ||| 1 ≠ 0 := by
  intro h
  have := Nat.right_le_or (n := a) (m := 1)
  omega
theorem or1_lt {a : Nat} (ha : a < 4294967296) : a ||| 1 < 4294967296 := Nat.or_lt_two_pow (n := 32) (show a < 2 ^ 32 by omega) (show 1 < 2 ^ 32 by decide)
/-- a geometry's second field -/
theorem geoHalf (a b : Int) (w : World) : (Instr.field 56 (.agg #[.int .i64 a, .int .i64 b]) 1).run Tryd.prog w = .ok (.int .i64 b) w := by kernel_rfl
section
variable {Real : World → Nat → DSt → (Nat → Prop) → Prop} {PR : World → Nat → Nat → Nat → Nat → (Nat → Prop) → Prop}
set_option maxRecDepth 100000 in
set_option maxHeartbeats 1000000 in
theorem pairHeals_long (D : DevOk Real) (P : PairOk Real PR) (S : Nat → Addr) (A : Option Addr) (len cap : Nat) (n at' again : Int) (z1 z2 : Nat) (fail : Bool) (w : World) (hS : Sent5 w S) (h : 256 < len) (hm : len ≤ 9223372036854775807) :
    Calls Tryd.prog 4 #[.slice A len cap, .int .i64 n, .int .i64 at', .int .i64 again, .int .u32 (z1 : Int), .int .u32 (z2 : Int), .bool fail] w (Yes w) := by
  have HS := hid hS
  have HD := hid D
  have HP := hid P
  have g1 : decide ((256 : Int) < (len : Int)) = true := by simp; omega
  clear hS D P
  go_enter Tryd.func4, Tryd.ntmps4
  go_wp2_with fail
  refine (firstP_any HD.out HP.out S _ HS.out).mono ?_
  rintro e w1 ⟨rfl, hb1⟩
  have HB1 := hid hb1
  clear hb1
  go_wp2
  go_ret
  exact ⟨rfl, HB1.out⟩
set_option maxRecDepth 100000 in
set_option maxHeartbeats 2000000 in
theorem pairHeals_any (D : DevOk Real) (P : PairOk Real PR) (S : Nat → Addr) (A : Option Addr) (len cap : Nat) (lb : List Int) (n at' again : Int) (z1 z2 : Nat) (fail : Bool) (w : World) (hS : Sent5 w S) (hlen : len ≤ 256) (hl : Sl w w.heap.size A len cap lb) (hy : Byt lb) (h1 : z1 < 4294967296) (h2 : z2 < 4294967296) :
    Calls Tryd.prog 4 #[.slice A len cap, .int .i64 n, .int .i64 at', .int .i64 again, .int .u32 (z1 : Int), .int .u32 (z2 : Int), .bool fail] w (Yes w) := by
  have HS := hid hS
  have HD := hid D
  have HP := hid P
  have HA := hid hl
  have HLen := hid hlen
  have g1 : decide ((256 : Int) < (len : Int)) = false := by simp; omega
  have o1 := or1_u32 z1 h1
  have o2 := or1_u32 z2 h2
  obtain ⟨y1, hy1⟩ : ∃ y, z1 ||| 1 = y := ⟨_, rfl⟩
  obtain ⟨y2, hy2⟩ : ∃ y, z2 ||| 1 = y := ⟨_, rfl⟩
  rw [hy1] at o1
  rw [hy2] at o2
  have HY1 := hid (show y1 ≠ 0 ∧ y1 < 4294967296 from hy1 ▸ ⟨or1_ne z1, or1_lt h1⟩)
  have HY2 := hid (show y2 ≠ 0 ∧ y2 < 4294967296 from hy2 ▸ ⟨or1_ne z2, or1_lt h2⟩)
  have hby : Byt (padB lb) := padB_byt hy
  have hn256 : (padB lb).length = 256 := padB_len (by rw [hl.len]; exact hlen)
  obtain ⟨l, hll⟩ : ∃ l, padB lb = l := ⟨_, rfl⟩
  have HL := hid hll
  rw [hll] at hby hn256
  have H7 := hid hby
  have N7 := hid hn256
  obtain ⟨z, hz⟩ : ∃ z, crcOf (nats l) = z := ⟨_, rfl⟩
  have HZ := hid hz
  have HZl := hid (show z < 4294967296 from hz ▸ crc_nats H7.out)
  have hi0 : 0 ≤ n % 80 := Int.emod_nonneg _ (by omega)
  have hi1 : n % 80 < 80 := Int.emod_lt_of_pos _ (by omega)
  obtain ⟨i, hi⟩ : ∃ i : Nat, n % 80 = (i : Int) := ⟨(n % 80).toNat, by omega⟩
  have HI := hid hi
  have hi8 : i < 80 := by omega
  have HI8 := hid hi8
  have hp0 : 0 ≤ at' % 253 := Int.emod_nonneg _ (by omega)
  have hp1 : at' % 253 < 253 := Int.emod_lt_of_pos _ (by omega)
  have hr0 : 0 ≤ again % 253 := Int.emod_nonneg _ (by omega)
  have hr1 : again % 253 < 253 := Int.emod_lt_of_pos _ (by omega)
  have HPr := hid (show 0 ≤ at' % 253 ∧ at' % 253 ≤ 252 ∧ 0 ≤ again % 253 ∧ again % 253 ≤ 252 from ⟨hp0, by omega, hr0, by omega⟩)
  have hh : halN 320 = 80 := by decide
  have hb79 : (i : Int) ≤ 79 := by omega
  clear hS D P hl hlen hy h1 h2 hy1 hy2 hby hn256 hll hz hi0 hi1 hi hp0 hp1 hr0 hr1 hi8
  rcases fail with _ | _
  all_goals
    go_enter Tryd.func4, Tryd.ntmps4
    go_wp2_with fail
    refine (firstP_any HD.out HP.out S _ HS.out).mono ?_
    rintro e w1 ⟨rfl, hb1⟩
    have HB1 := hid hb1
    have HS1 := hid (HS.out.on hb1)
    have HA1 := hid (HA.out.on hb1)
    clear hb1
    go_wp2_with fail
    refine (pk_opened HD.out HP.out 320 _ HS1.out (by omega) (by omega)).mono ?_
    rintro e w2 ⟨p, d, rfl, hk⟩
    have HK2 := hid hk
    clear hk
    go_wp2_with fail
    refine (number_any n 80 _ (by omega) (by omega)).mono ?_
    rw [HI.out]
    rintro e w3 ⟨rfl, rfl⟩
    go_wp2_with fail
    refine (pk_block HD.out HP.out HK2.out (HA1.out.on HK2.out.below) HLen.out).mono ?_
    rw [HL.out]
    rintro e w3 ⟨A3, c3, rfl, hk, _⟩
    have HK3 := hid hk
    clear hk
    go_wp2_with fail
    refine (pk_write HP.out (i := i) (by rw [hh]; exact HI8.out) H7.out (by omega) HK3.out).mono ?_
    rw [HZ.out, hh]
    rintro e w4 ⟨rfl, hk⟩
    have HK4 := hid (hk.box HD.out HP.out i z)
    clear hk
    have HT1 := hid ((At.new (n := 320) (i := i) (j := i + 80) (by have := HI8.out; omega) (by have := HI8.out; omega)).write (H := 80) (by omega) l)
    go_wp2_with fail
    generalize hw5 : (w4.alloc (.cells #[.int .i64 (i : Int), .int .u32 (z : Int)] 32)) = w5 at HK4 ⊢
    obtain ⟨g, hg⟩ : ∃ g, w4.heap.size = g := ⟨_, rfl⟩
    rw [hg] at HK4 ⊢
    clear hg hw5
    refine (pk_flush HD.out HP.out HK4.out (by omega)).mono ?_
    rintro e w6 ⟨rfl, hk⟩
    have HK6 := hid hk
    have HT2 := hid (HT1.out.fl)
    rw [flush_write] at HT2
    obtain ⟨s2, hs2⟩ : ∃ s2, fl (pWrite (DSt.new 320) 80 i l) = s2 := ⟨_, rfl⟩
    rw [hs2] at HK6 HT2
    clear hk hs2
    go_wp2_with fail
    first
      | (refine (number_any at' 253 _ (by omega) (by omega)).mono ?_
         rintro e w7 ⟨rfl, rfl⟩
         go_wp2_with fail
         have HSp := hid (show s2.spoil (i : Int) (at' % 253) y1 = (true, s2.turn (i : Int) (BSt.spoil (at' % 253) y1)) from spoil_yes HT2.out.a ⟨rfl, rfl⟩ HPr.out.1 HPr.out.2.1 HY1.out.1)
         refine (pk_spoil HD.out HP.out HK6.out (i : Int) (at' % 253) y1 HY1.out.2).mono ?_
         rw [HSp.out]
         rintro e w7 ⟨rfl, hk⟩
         have HK7 := hid (show ∃ s3 a3, Pk Real PR S w1 w7 d p s3 320 0 (0 + 2 + 1) [Kd.ref g (i : Int) (z : Int)] ∧ At s3 i (i + 80) a3 (cl l false) ∧ a3.right z = false from
           ⟨_, _, hk, HT2.out.turn1 (by omega) _, by rw [← HZ.out]; exact right_spoilt H7.out N7.out _ HPr.out.1 HPr.out.2.1 HY1.out.1 HY1.out.2⟩))
      | (have HSp := hid (show s2.fail (i : Int) = (true, s2.turn (i : Int) BSt.failed) from fail_yes HT2.out.a ⟨rfl, rfl⟩)
         refine (pk_fail HD.out HP.out HK6.out (i : Int)).mono ?_
         rw [HSp.out]
         rintro e w7 ⟨rfl, hk⟩
         have HK7 := hid (show ∃ s3 a3, Pk Real PR S w1 w7 d p s3 320 0 (0 + 2 + 1) [Kd.ref g (i : Int) (z : Int)] ∧ At s3 i (i + 80) a3 (cl l false) ∧ a3.right z = false from
           ⟨_, _, hk, HT2.out.turn1 (by omega) _, rfl⟩))
    obtain ⟨s3, a3, hk3, ht3, hr3⟩ := HK7.out
    clear HK7 hk
    have HK7 := hid hk3
    have HT3 := hid ht3
    obtain ⟨k0, k1⟩ := hk3.cells List.mem_cons_self
    have HI9 := hid (show i + 80 < 320 ∧ i < 320 from by have := HI8.out; omega)
    have HR := hid (pRead_two (z := z) HK7.out.up HI9.out.1 HT3.out hr3 (by rw [← HZ.out]; exact right_of (read_cl _ _)))
    rw [read_cl] at HR
    clear hk3 ht3 hr3
    go_wp2_with fail
    refine (pk_read HP.out HK7.out (i := i) (by rw [hh]; exact HI8.out) HZl.out (by omega) (by omega) N7.out (by rw [hh]; exact HR.out)).mono ?_
    rintro e w8 ⟨A8, c8, rfl, hk⟩
    have HK8 := hid hk
    have HT4 := hid (HT3.out.put1 (by omega) l)
    obtain ⟨s4, hs4⟩ : ∃ s, s3.put i l = s := ⟨_, rfl⟩
    rw [hs4] at HK8 HT4
    clear hk k0 k1 hs4
    go_wp2_with fail
    refine (pk_block HD.out HP.out HK8.out (HA1.out.on HK8.out.below) HLen.out).mono ?_
    rw [HL.out]
    rintro e w9 ⟨A9, c9, rfl, hk, _⟩
    have HK9 := hid hk
    clear hk
    go_wp2_with fail
    refine (pk_same HD.out HP.out HK9.out (List.mem_cons_of_mem _ List.mem_cons_self) List.mem_cons_self).mono ?_
    rw [same_self]
    rintro e w10 ⟨rfl, hk⟩
    have HK10 := hid (hk.less (ls := [Kd.ref g (i : Int) (z : Int)]) (fun K hK => by simp at hK; subst hK; simp))
    clear hk
    go_wp2_with fail
    refine (pk_flush HD.out HP.out HK10.out (by omega)).mono ?_
    rintro e w11 ⟨rfl, hk⟩
    have HK11 := hid hk
    have HT5 := hid HT4.out.fl
    rw [flush_write, flush_cl] at HT5
    obtain ⟨s5, hs5⟩ : ∃ s, fl s4 = s := ⟨_, rfl⟩
    rw [hs5] at HK11 HT5
    have HFa := hid (show s5.faulted (i : Int) = false from faulted_at HK11.out.up HI9.out.2 HT5.out.a)
    clear hk hs5
    go_wp2_with fail
    refine (pk_faulted HD.out HP.out HK11.out (i : Int)).mono ?_
    rw [HFa.out]
    rintro e w12 ⟨rfl, hk⟩
    have HK12 := hid hk
    clear hk
    go_wp2_with fail
    refine (number_any again 253 _ (by omega) (by omega)).mono ?_
    rintro e w13 ⟨rfl, rfl⟩
    go_wp2_with fail
    have HSp := hid (show s5.spoil ((i : Int) + 80) (again % 253) y2 = (true, s5.turn ((i + 80 : Nat) : Int) (BSt.spoil (again % 253) y2)) from by
      rw [show (i : Int) + 80 = ((i + 80 : Nat) : Int) by omega]
      exact spoil_yes HT5.out.c ⟨rfl, rfl⟩ HPr.out.2.2.1 HPr.out.2.2.2 HY2.out.1)
    refine (pk_spoil HD.out HP.out HK12.out ((i : Int) + 80) (again % 253) y2 HY2.out.2).mono ?_
    rw [HSp.out]
    rintro e w13 ⟨rfl, hk⟩
    have HK13 := hid hk
    have HT6 := hid (HT5.out.turn2 (by omega) (BSt.spoil (again % 253) y2))
    obtain ⟨s6, hs6⟩ : ∃ s, s5.turn ((i + 80 : Nat) : Int) (BSt.spoil (again % 253) y2) = s := ⟨_, rfl⟩
    rw [hs6] at HK13 HT6
    obtain ⟨k0, k1⟩ := hk.cells List.mem_cons_self
    have HR2 := hid (pRead_one (z := z) HK13.out.up HI9.out.2 HT6.out (by rw [← HZ.out]; exact right_of (read_cl _ _)))
    have HM2 := hid (pMend_two (z := z) HK13.out.up HI9.out.1 HT6.out (by rw [← HZ.out]; exact right_of (read_cl _ _)) (by rw [← HZ.out]; exact right_spoilt H7.out N7.out _ HPr.out.2.2.1 HPr.out.2.2.2 HY2.out.1 HY2.out.2))
    rw [read_cl] at HR2 HM2
    clear hk hs6
    go_wp2_with fail
    refine (pk_read HP.out HK13.out (i := i) (by rw [hh]; exact HI8.out) HZl.out (by omega) (by omega) N7.out (by rw [hh]; exact HR2.out)).mono ?_
    rintro e w14 ⟨A14, c14, rfl, hk⟩
    have HK14 := hid hk
    clear k0 k1
    obtain ⟨k0, k1⟩ := hk.cells (List.mem_cons_of_mem _ List.mem_cons_self)
    clear hk
    go_wp2_with fail
    refine (pk_mend (code := 0) (r := 1) (s' := s6.put (i + 80) l) HP.out HK14.out (i := i) (z := z) (by rw [hh]; exact HI8.out) HZl.out (by omega) (by omega) (by rw [hh]; exact HM2.out)).mono ?_
    rintro e w15 ⟨v, hv, rfl, hk⟩
    obtain rfl := hv.nil
    have HK15 := hid hk
    have HT7 := hid (HT6.out.put2 (by omega) l)
    obtain ⟨s7, hs7⟩ : ∃ s, s6.put (i + 80) l = s := ⟨_, rfl⟩
    rw [hs7] at HK15 HT7
    clear hk hv hs7 k0 k1
    go_wp2_with fail
    refine (pk_block HD.out HP.out HK15.out (HA1.out.on HK15.out.below) HLen.out).mono ?_
    rw [HL.out]
    rintro e w16 ⟨A16, c16, rfl, hk, _⟩
    have HK16 := hid hk
    clear hk
    go_wp2_with fail
    refine (pk_same HD.out HP.out HK16.out (List.mem_cons_of_mem _ List.mem_cons_self) List.mem_cons_self).mono ?_
    rw [same_self]
    rintro e w17 ⟨rfl, hk⟩
    have HK17 := hid (hk.less (ls := []) (fun K hK => by cases hK))
    clear hk
    go_wp2_with fail
    refine (pk_flush HD.out HP.out HK17.out (by omega)).mono ?_
    rintro e w18 ⟨rfl, hk⟩
    have HK18 := hid hk
    have HT8 := hid HT7.out.fl
    rw [flush_write, flush_cl] at HT8
    obtain ⟨s8, hs8⟩ : ∃ s, fl s7 = s := ⟨_, rfl⟩
    rw [hs8] at HK18 HT8
    have HFb := hid (show s8.faulted ((i : Int) + 80) = false from by
      rw [show (i : Int) + 80 = ((i + 80 : Nat) : Int) by omega]
      exact faulted_at HK18.out.up HI9.out.1 HT8.out.c)
    clear hk hs8
    go_wp2_with fail
    refine (pk_faulted HD.out HP.out HK18.out ((i : Int) + 80)).mono ?_
    rw [HFb.out]
    rintro e w19 ⟨rfl, hk⟩
    have HK19 := hid hk
    clear hk
    go_wp2_with fail
    refine (pk_mended HD.out HP.out HK19.out).mono ?_
    rintro e w20 ⟨rfl, hk⟩
    have HK20 := hid hk
    clear hk
    go_wp2_with fail
    refine (pk_geo HD.out HP.out HK20.out).mono ?_
    rw [hh]
    rintro e w21 ⟨he, hk⟩
    have he2 : e = .returned (.agg #[.int .i64 320, .int .i64 80]) := he
    clear he
    subst he2
    have hgf := geoHalf 320 80 w21
    have HB := hid (HB1.out.trans (hk.below.mono HB1.out.size))
    clear hk
    go_wp2
    go_ret
    exact ⟨rfl, HB.out⟩
end
end Go.Proofs.YtomhmodgfldlpaaDoor
