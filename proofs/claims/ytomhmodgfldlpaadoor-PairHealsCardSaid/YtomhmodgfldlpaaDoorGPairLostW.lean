/- The walk of PairLost, for whatever keeps the calls. -/
import Derived.Test.YtomhmodgfldlpaaDoorGPairHealsW
import Derived.Deep.QuietTactic
import Derived.BigQuiet
namespace Go.Proofs.YtomhmodgfldlpaaDoor
open Go.RowKit

theorem right_cl_no {l : List Int} {z y : Nat} (hz : crcOf (nats l) = z) (hne : y ≠ z) (e : Bool) : (cl l e).right y = false := by
  unfold BSt.right
  rw [read_cl, hz]
  simp [Ne.symm hne]
section
variable {Real : World → Nat → DSt → (Nat → Prop) → Prop} {PR : World → Nat → Nat → Nat → Nat → (Nat → Prop) → Prop}
set_option maxRecDepth 100000 in
set_option maxHeartbeats 1000000 in
theorem pairLost_long (D : DevOk Real) (P : PairOk Real PR) (S : Nat → Addr) (A : Option Addr) (len cap : Nat) (n : Int) (y : Nat) (what : Int) (w : World) (hS : Sent5 w S) (h : 256 < len) (hm : len ≤ 9223372036854775807) :
    Calls Tryd.prog 5 #[.slice A len cap, .int .i64 n, .int .u32 (y : Int), .int .i64 what] w (Yes w) := by
  have HS := hid hS
  have HD := hid D
  have HP := hid P
  have g1 : decide ((256 : Int) < (len : Int)) = true := by simp; omega
  clear hS D P
  go_enter Tryd.func5, Tryd.ntmps5
  go_wp2_with fail
  refine (firstP_any HD.out HP.out S _ HS.out).mono ?_
  rintro e w1 ⟨rfl, hb1⟩
  have HB1 := hid hb1
  clear hb1
  go_wp2
  go_ret
  exact ⟨rfl, HB1.out⟩
set_option maxRecDepth 100000 in
set_option maxHeartbeats 2000000 in
theorem pairLost_any (D : DevOk Real) (P : PairOk Real PR) (S : Nat → Addr) (A : Option Addr) (len cap : Nat) (lb : List Int) (n : Int) (y : Nat) (what : Int) (w : World) (hS : Sent w S) (hlen : len ≤ 256) (hl : Sl w w.heap.size A len cap lb) (hy : Byt lb) (h1 : y < 4294967296) :
    Calls Tryd.prog 5 #[.slice A len cap, .int .i64 n, .int .u32 (y : Int), .int .i64 what] w (Yes w) := by
  have HS := hid hS
  have HD := hid D
  have HP := hid P
  have HA := hid hl
  have HLen := hid hlen
  have HYl := hid h1
  have g1 : decide ((256 : Int) < (len : Int)) = false := by simp; omega
  have hby : Byt (padB lb) := padB_byt hy
  have hn256 : (padB lb).length = 256 := padB_len (by rw [hl.len]; exact hlen)
  obtain ⟨l, hll⟩ : ∃ l, padB lb = l := ⟨_, rfl⟩
  have HL := hid hll
  rw [hll] at hby hn256
  have H7 := hid hby
  have N7 := hid hn256
  obtain ⟨z, hz⟩ : ∃ z, crcOf (nats l) = z := ⟨_, rfl⟩
  have HZ := hid hz
  have HZl := hid (show z < 4294967296 from hz ▸ crc_nats H7.out)
  have hi0 : 0 ≤ n % 80 := Int.emod_nonneg _ (by omega)
  have hi1 : n % 80 < 80 := Int.emod_lt_of_pos _ (by omega)
  obtain ⟨i, hi⟩ : ∃ i : Nat, n % 80 = (i : Int) := ⟨(n % 80).toNat, by omega⟩
  have HI := hid hi
  have hi8 : i < 80 := by omega
  have HI8 := hid hi8
  have hh : halN 320 = 80 := by decide
  have hb79 : (i : Int) ≤ 79 := by omega
  have hys : (y = z ∧ ((y : Int) == (z : Int)) = true) ∨ (y ≠ z ∧ ((y : Int) == (z : Int)) = false) := by
    by_cases h : y = z
    · exact .inl ⟨h, by rw [beq_iff_eq]; omega⟩
    · exact .inr ⟨h, by rw [beq_eq_false_iff_ne]; omega⟩
  have hws : ((what.tmod 2 == 0) = true) ∨ ((what.tmod 2 == 0) = false) := by cases (what.tmod 2 == 0) <;> simp
  clear hS D P hl hlen hy h1 hby hn256 hll hz hi0 hi1 hi hi8
  rcases hys with ⟨hy1, y1⟩ | ⟨hy1, y1⟩
  all_goals
    have HYZ := hid hy1
    clear hy1
    go_enter Tryd.func5, Tryd.ntmps5
    go_wp2_with fail
    refine (firstP_any HD.out HP.out S _ HS.out.five).mono ?_
    rintro e w1 ⟨rfl, hb1⟩
    have HB1 := hid hb1
    have HS1 := hid (HS.out.on hb1)
    have HA1 := hid (HA.out.on hb1)
    clear hb1
    go_wp2_with fail
    refine (pk_opened HD.out HP.out 320 _ HS1.out.five (by omega) (by omega)).mono ?_
    rintro e w2 ⟨p, d, rfl, hk⟩
    have HK2 := hid hk
    clear hk
    go_wp2_with fail
    refine (number_any n 80 _ (by omega) (by omega)).mono ?_
    rw [HI.out]
    rintro e w3 ⟨rfl, rfl⟩
    go_wp2_with fail
    refine (pk_block HD.out HP.out HK2.out (HA1.out.on HK2.out.below) HLen.out).mono ?_
    rw [HL.out]
    rintro e w3 ⟨A3, c3, rfl, hk, _⟩
    have HK3 := hid hk
    clear hk
    go_wp2_with fail
    refine (pk_write HP.out (i := i) (by rw [hh]; exact HI8.out) H7.out (by omega) HK3.out).mono ?_
    rw [HZ.out, hh]
    rintro e w4 ⟨rfl, hk⟩
    have HK4 := hid (hk.box HD.out HP.out i z)
    clear hk
    have HT1 := hid ((At.new (n := 320) (i := i) (j := i + 80) (by have := HI8.out; omega) (by have := HI8.out; omega)).write (H := 80) (by omega) l)
    go_wp2_with fail
    generalize hw5 : (w4.alloc (.cells #[.int .i64 (i : Int), .int .u32 (z : Int)] 32)) = w5 at HK4 ⊢
    obtain ⟨g, hg⟩ : ∃ g, w4.heap.size = g := ⟨_, rfl⟩
    rw [hg] at HK4 ⊢
    clear hg hw5
    refine (pk_flush HD.out HP.out HK4.out (by omega)).mono ?_
    rintro e w6 ⟨rfl, hk⟩
    have HK6 := hid hk
    have HT2 := hid (HT1.out.fl)
    rw [flush_write] at HT2
    obtain ⟨s2, hs2⟩ : ∃ s2, fl (pWrite (DSt.new 320) 80 i l) = s2 := ⟨_, rfl⟩
    rw [hs2] at HK6 HT2
    clear hk hs2
    obtain ⟨k0, k1⟩ := HK6.out.cells List.mem_cons_self
    go_wp2_with fail
    have HKo := hid (HK6.out.box HD.out HP.out i y)
    have HI9 := hid (show i + 80 < 320 ∧ i < 320 from by have := HI8.out; omega)
    clear k0 k1
    first
      | (have HR0 := hid (show pRead s2 80 i y = (0, l, s2, 0) from by
           have := pRead_one (z := y) HK6.out.up HI9.out.2 HT2.out (by rw [HYZ.out, ← HZ.out]; exact right_of (read_cl _ _))
           rwa [read_cl] at this)
         refine (pk_read HP.out HKo.out (i := i) (z := y) (by rw [hh]; exact HI8.out) HYl.out (by omega) (by omega) N7.out (by rw [hh]; exact HR0.out)).mono ?_
         rintro e w7 ⟨A7, c7, rfl, hk⟩
         have HK7 := hid (hk.less (ls := [Kd.ref g (i : Int) (z : Int)]) (fun K hK => by simp at hK; subst hK; simp)))
      | (have HR0 := hid (show pRead s2 80 i y = (107, [], s2, 0) from
           pRead_no (z := y) HK6.out.up HI9.out.1 HT2.out (right_cl_no HZ.out HYZ.out _) (right_cl_no HZ.out HYZ.out _))
         refine (pk_readNo HP.out HKo.out (i := i) (z := y) (l := []) (by rw [hh]; exact HI8.out) HYl.out (by omega) (by omega) (by rw [hh]; exact HR0.out)).mono ?_
         rintro e w7 ⟨A7, k7, c7, v7, hv7, rfl, hk⟩
         obtain ⟨j7, rfl⟩ := hv7.is (by decide)
         have HK7 := hid (hk.less (ls := [Kd.ref g (i : Int) (z : Int)]) (fun K hK => by simp at hK; subst hK; simp))
         clear hv7)
    obtain ⟨k0, k1⟩ := HK7.out.cells List.mem_cons_self
    clear hk
    go_wp2_with fail
    go_quiet (fail)
    clear k0 k1
    go_wp2_with fail
    have HSf := hid (show s2.fail (i : Int) = (true, s2.turn (i : Int) BSt.failed) from fail_yes HT2.out.a ⟨rfl, rfl⟩)
    refine (pk_fail HD.out HP.out (by exact HK7.out.on HD.out HP.out ⟨rfl, rfl, rfl, Nat.le_refl _, fun _ _ => rfl⟩) (i : Int)).mono ?_
    rw [HSf.out]
    rintro e w8 ⟨rfl, hk⟩
    have HK8 := hid hk
    have HT3 := hid (HT2.out.turn1 (by omega) BSt.failed)
    obtain ⟨s3, hs3⟩ : ∃ s, s2.turn (i : Int) BSt.failed = s := ⟨_, rfl⟩
    rw [hs3] at HK8 HT3
    clear hk hs3
    rcases hws with w0 | w0
    all_goals
      go_wp2_with fail
      first
        | (have HSg := hid (show s3.fail ((i : Int) + 80) = (true, s3.turn ((i + 80 : Nat) : Int) BSt.failed) from by
             rw [show (i : Int) + 80 = ((i + 80 : Nat) : Int) by omega]
             exact fail_yes HT3.out.c ⟨rfl, rfl⟩)
           refine (pk_fail HD.out HP.out HK8.out ((i : Int) + 80)).mono ?_
           rw [HSg.out]
           rintro e w9 ⟨rfl, hk⟩
           have HK9 := hid (show ∃ s4 c4, Pk Real PR S w1 w9 d p s4 320 0 (0 + 2 + 1 + 1) [Kd.ref g (i : Int) (z : Int)] ∧ At s4 i (i + 80) (cl l false).failed c4 ∧ c4.right z = false from
             ⟨_, _, hk, HT3.out.turn2 (by omega) _, rfl⟩))
        | (have HSg := hid (show s3.spoil ((i : Int) + 80) 5 9 = (true, s3.turn ((i + 80 : Nat) : Int) (BSt.spoil 5 9)) from by
             rw [show (i : Int) + 80 = ((i + 80 : Nat) : Int) by omega]
             exact spoil_yes HT3.out.c ⟨rfl, rfl⟩ (by omega) (by omega) (by omega))
           refine (pk_spoil HD.out HP.out HK8.out ((i : Int) + 80) 5 9 (by omega)).mono ?_
           rw [HSg.out]
           rintro e w9 ⟨rfl, hk⟩
           have HK9 := hid (show ∃ s4 c4, Pk Real PR S w1 w9 d p s4 320 0 (0 + 2 + 1 + 1) [Kd.ref g (i : Int) (z : Int)] ∧ At s4 i (i + 80) (cl l false).failed c4 ∧ c4.right z = false from
             ⟨_, _, hk, HT3.out.turn2 (by omega) _, by rw [← HZ.out]; exact right_spoilt H7.out N7.out _ (by omega) (by omega) (by omega) (by omega)⟩))
      obtain ⟨s4, c4, hk4, ht4, hr4⟩ := HK9.out
      clear HK9 hk
      have HK9 := hid hk4
      have HT4 := hid ht4
      obtain ⟨k0, k1⟩ := hk4.cells List.mem_cons_self
      have HR := hid (pRead_no (z := z) HK9.out.up HI9.out.1 HT4.out (right_failed _ _ _) hr4)
      have HM := hid (pMend_no (z := z) HK9.out.up HI9.out.1 HT4.out (right_failed _ _ _) hr4)
      clear hk4 ht4 hr4
      go_wp2_with fail
      refine (pk_readNo HP.out HK9.out (i := i) (z := z) (l := []) (by rw [hh]; exact HI8.out) HZl.out (by omega) (by omega) (by rw [hh]; exact HR.out)).mono ?_
      rintro e w10 ⟨A10, k10, c10, v10, hv10, rfl, hk⟩
      have HV10 := hid hv10
      have HK10 := hid hk
      clear k0 k1
      obtain ⟨k0, k1⟩ := hk.cells List.mem_cons_self
      clear hk hv10
      go_wp2_with fail
      refine (pk_mend (code := 107) (r := 0) (s' := s4) HP.out HK10.out (i := i) (z := z) (by rw [hh]; exact HI8.out) HZl.out (by omega) (by omega) (by rw [hh]; exact HM.out)).mono ?_
      rintro e w11 ⟨v11, hv11, rfl, hk⟩
      have HV11 := hid hv11
      have HK11 := hid hk
      clear hk hv11 k0 k1
      go_wp2_with fail
      refine (pk_block HD.out HP.out HK11.out (HA1.out.on HK11.out.below) HLen.out).mono ?_
      rw [HL.out]
      rintro e w12 ⟨A12, c12, rfl, hk, _⟩
      have HK12 := hid hk
      clear hk
      go_wp2_with fail
      refine (pk_writeBad HP.out (i := 80) (by rw [hh]; omega) HK12.out).mono ?_
      rintro e w13 ⟨a13, z13, v13, hv13, rfl, hk⟩
      have HV13 := hid hv13
      have HK13 := hid (hk.on HD.out HP.out (show Below w13.heap.size w13 (w13.alloc (.cells #[.int .i64 a13, .int .u32 z13] 32)) from (Below.refl _ _).alloc (Nat.le_refl _) _))
      clear hk hv13
      go_wp2_with fail
      refine (pk_readBad HP.out HK13.out (i := -1) (z := 0) (by omega) (by omega)).mono ?_
      rintro e w14 ⟨A14, k14, c14, v14, hv14, rfl, hk⟩
      have HV14 := hid hv14
      have HK14 := hid hk
      clear hk hv14
      go_wp2_with fail
      refine (pk_sees HD.out HP.out HK14.out HS1.out HV10.out (c' := 107)).mono ?_
      rw [beq_self_eq_true]
      rintro e w15 ⟨rfl, hk⟩
      have HK15 := hid hk
      clear hk
      go_wp2_with fail
      refine (pk_sees HD.out HP.out HK15.out HS1.out HV11.out (c' := 107)).mono ?_
      rw [beq_self_eq_true]
      rintro e w16 ⟨rfl, hk⟩
      have HK16 := hid hk
      clear hk
      go_wp2_with fail
      refine (pk_sees HD.out HP.out HK16.out HS1.out HV13.out (c' := 103)).mono ?_
      rw [beq_self_eq_true]
      rintro e w17 ⟨rfl, hk⟩
      have HK17 := hid hk
      clear hk
      go_wp2_with fail
      refine (pk_sees HD.out HP.out HK17.out HS1.out HV14.out (c' := 103)).mono ?_
      rw [beq_self_eq_true]
      rintro e w18 ⟨rfl, hk⟩
      have HB := hid (HB1.out.trans (hk.below.mono HB1.out.size))
      clear hk
      go_wp2
      go_ret
      exact ⟨rfl, HB.out⟩
end
end Go.Proofs.YtomhmodgfldlpaaDoor
