/- The walk of CrcTells. -/
import Derived.Test.YtljgkkgeaojolaaGCrcC
import Derived.Test.YtljgkkgeaojolaaGRow
import Derived.Test.YtljgkkgeaojolaaGNumber
namespace Go.Proofs.Ytljgkkgeaojolaa
open Go.RowKit

set_option maxHeartbeats 400000 in
theorem crcTells_far (A : Option Addr) (n c : Nat) (at' b : Int) (w : World) (hn : 300 < n) :
    Calls Try.prog 4 #[.slice A n c, .int .i64 at', .int .u32 b] w (Yes w) := by
  have h2 : (300 : Int) < n := by omega
  go_enter Try.func4, Try.ntmps4
  go_wp2_with fail
  refine (first_any _).mono ?_
  rintro e w1 ⟨rfl, hb⟩
  have HB := hid hb
  clear hb
  go_wp2
  go_ret
  exact ⟨rfl, HB.out⟩
set_option maxHeartbeats 400000 in
theorem crcTells_none (A : Option Addr) (c : Nat) (at' b : Int) (w : World) :
    Calls Try.prog 4 #[.slice A 0 c, .int .i64 at', .int .u32 b] w (Yes w) := by
  go_enter Try.func4, Try.ntmps4
  go_wp2_with fail
  refine (first_any _).mono ?_
  rintro e w1 ⟨rfl, hb⟩
  have HB := hid hb
  clear hb
  go_wp2
  go_ret
  exact ⟨rfl, HB.out⟩

set_option maxRecDepth 100000 in
set_option maxHeartbeats 1000000 in
theorem crcTells_near (A : Option Addr) (n c b : Nat) (at' : Int) (l : List Int) (w : World) (h : Sl w w.heap.size A n c l) (hy : Byt l) (hn : n ≤ 300) (h0 : 0 < n) (hb : b < 4294967296) :
    Calls Try.prog 4 #[.slice A n c, .int .i64 at', .int .u32 (b : Int)] w (Yes w) := by
  have HS := hid h
  have HY := hid hy
  have HU := hid hb
  have hne : ((n : Int) == 0) = false := by rw [beq_eq_false_iff_ne]; omega
  clear h hy hb
  go_enter Try.func4, Try.ntmps4
  go_wp2_with fail
  refine (first_any _).mono ?_
  rintro e w1 ⟨rfl, hb⟩
  have HB1 := hid hb
  have HS1 := hid (HS.out.on hb)
  clear hb
  go_wp2_with fail
  refine (number_any at' n _ (by omega) (by omega)).mono ?_
  rintro e w' ⟨rfl, rfl⟩
  obtain ⟨q, hq⟩ : ∃ q : Nat, at' % (n : Int) = (q : Int) := ⟨(at' % (n : Int)).toNat, by have := Int.emod_nonneg at' (b := (n : Int)) (by omega); omega⟩
  have hql : (q : Int) < n := by rw [← hq]; exact Int.emod_lt_of_pos _ (by omega)
  rw [hq]
  clear hq
  go_wp2_with fail
  refine (turned_any A n c b q l _ HS1.out HY.out (by omega) (by omega) HU.out).mono ?_
  rintro e w2 hm
  obtain ⟨A2, c2, rfl, hs, hb, _, _⟩ := hm.get
  have HB2 := hid (HB1.out.trans (hb.mono HB1.out.size))
  have HS2 := hid (HS1.out.on hb)
  have HT2 := hid hs
  have HYT := hid (turned_byt HY.out (q : Int) b)
  clear hb hs hm
  go_wp2_with fail
  refine (turned_any A2 n c2 b q _ _ HT2.out HYT.out (by omega) (by omega) HU.out).mono ?_
  rw [turned_twice HY.out]
  rintro e w3 hm
  obtain ⟨A3, c3, rfl, hs, hb, _, _⟩ := hm.get
  have HB3 := hid (HB2.out.trans (hb.mono HB2.out.size))
  have HS3 := hid (HS2.out.on hb)
  have HT3 := hid (HT2.out.on hb)
  have HV3 := hid hs
  clear hb hs hm
  go_wp2_with fail
  refine (same_any _ _ _ _ _ _ _ _ _ _ _ HS3.out HT3.out).mono ?_
  rintro e w4 ⟨rfl, k4, rfl⟩
  have HB4 := hid (below_drewN HB3.out k4)
  have HS4 := hid (HS3.out.drewN k4)
  have HT4 := hid (HT3.out.drewN k4)
  have HV4 := hid (HV3.out.drewN k4)
  generalize w3.drewN k4 = w4 at *
  have hE : (((crcOf (nats (turned l (q : Int) b)) : Nat) : Int) == ((crcOf (nats l) : Nat) : Int)) = sameB l (turned l (q : Int) b) := by
    by_cases e : crcOf (nats (turned l (q : Int) b)) = crcOf (nats l)
    · rw [e, turned_tell HY.out _ _ e, same_self]; simp
    · have e1 : sameB l (turned l (q : Int) b) = false := by
        simp only [sameB, decide_eq_false_iff_not]
        intro h; exact e (by rw [← h])
      rw [e1, beq_eq_false_iff_ne]; omega
  obtain ⟨s1, e1⟩ : ∃ s, crcOf (nats (turned l (q : Int) b)) = s := ⟨_, rfl⟩
  obtain ⟨s2, e2⟩ : ∃ s, crcOf (nats l) = s := ⟨_, rfl⟩
  obtain ⟨t, e3⟩ : ∃ t, sameB l (turned l (q : Int) b) = t := ⟨_, rfl⟩
  rw [e1, e2, e3] at hE
  rw [e3]
  have E1 := hid e1
  have E2 := hid e2
  clear e1 e2 e3
  go_wp2_with fail
  refine (sum_any _ _ _ _ _ _ HT4.out HYT.out).mono ?_
  rw [E1.out]
  rintro e w' ⟨rfl, rfl⟩
  go_wp2_with fail
  refine (sum_any _ _ _ _ _ _ HS4.out HY.out).mono ?_
  rw [E2.out]
  rintro e w' ⟨rfl, rfl⟩
  go_wp2_with fail
  refine (same_any _ _ _ _ _ _ _ _ _ _ _ HV4.out HS4.out).mono ?_
  rintro e w5 ⟨rfl, k5, rfl⟩
  rw [same_self]
  have HB5 := hid (below_drewN HB4.out k5)
  go_wp2
  go_ret
  exact ⟨rfl, HB5.out⟩
theorem crcTells_all (A : Option Addr) (n c : Nat) (zs : List Int) (at' b : Int) (w : World) (hr : IsRow .u8 w A n c zs) (_ : (Lit.int .i64 at').wf = true) (hb : (Lit.int .u32 b).wf = true) :
    Calls Try.prog 4 #[.slice A n c, .int .i64 at', .int .u32 b] w (Yes w) := by
  have hS := sl_of_row hr
  have hY := byt_of_row hr
  have h2 := bounds_u32 hb
  rcases Nat.lt_or_ge 300 n with h | h
  · exact crcTells_far A n c at' b w h
  · obtain ⟨u, rfl⟩ : ∃ u : Nat, b = (u : Int) := ⟨b.toNat, by omega⟩
    rcases Nat.eq_zero_or_pos n with rfl | h0
    · exact crcTells_none A c at' _ w
    · exact crcTells_near A n c u at' _ w hS hY h h0 (by omega)
end Go.Proofs.Ytljgkkgeaojolaa
