/- The walk of CrcSums. -/
import Derived.Test.YtljgkkgeaojolaaGCrcC
import Derived.Test.YtljgkkgeaojolaaGRow
import Derived.BigQuiet
import Derived.Deep.QuietTactic
namespace Go.Proofs.Ytljgkkgeaojolaa
open Go.RowKit

set_option maxHeartbeats 400000 in
theorem crcSums_far (A : Option Addr) (n c : Nat) (at' b : Int) (w : World) (hn : 300 < n) :
    Calls Try.prog 3 #[.slice A n c, .int .i64 at', .int .u32 b] w (Yes w) := by
  have h2 : (300 : Int) < n := by omega
  go_enter Try.func3, Try.ntmps3
  go_wp2_with fail
  refine (first_any _).mono ?_
  rintro e w1 ⟨rfl, hb⟩
  have HB := hid hb
  clear hb
  go_wp2
  go_ret
  exact ⟨rfl, HB.out⟩

theorem step_zero (c : Nat) (w : World) (hc : c < 256) :
    Calls Try.prog 11 #[.int .u32 0, .int .u8 (c : Int)] w fun e w' => e = .returned (.int .u32 ((tab c : Nat) : Int)) ∧ w' = w := (step_any 0 c w (by omega) hc).mono fun _ _ ⟨h, h'⟩ => ⟨h, h'.symm⟩

set_option maxRecDepth 100000 in
set_option maxHeartbeats 1000000 in
theorem crcSums_near (A : Option Addr) (n c b : Nat) (at' : Int) (l : List Int) (w : World) (h : Sl w w.heap.size A n c l) (hy : Byt l) (hn : n ≤ 300) (ha : at' ≤ 9223372036854775807) (hb : b < 4294967296) :
    Calls Try.prog 3 #[.slice A n c, .int .i64 at', .int .u32 (b : Int)] w (Yes w) := by
  have HS := hid h
  have HY := hid hy
  have HA := hid ha
  have HU := hid hb
  clear h hy ha hb
  go_enter Try.func3, Try.ntmps3
  go_wp2_with fail
  refine (first_any _).mono ?_
  rintro e w1 ⟨rfl, hb⟩
  have HB1 := hid hb
  have HS1 := hid (HS.out.on hb)
  clear hb
  go_wp2_with fail
  refine (table_any _).mono ?_
  rintro e w2 hm
  obtain ⟨T, m, cT, rfl, hs, hb, _, ho⟩ := hm.fresh
  obtain rfl : 256 = m := by have := hs.len; rw [words_len] at this; exact this
  obtain ⟨g, rfl, _, _, _⟩ := ho.slot (by omega)
  have HB2 := hid (HB1.out.trans (hb.mono HB1.out.size))
  have HS2 := hid (HS1.out.on hb)
  have HT2 := hid hs
  have HO2 := hid ho
  clear hm hs hb ho
  go_wp2
  go_loopw [9] (fun i wr => ∃ k : Nat, k ≤ 256 ∧ i = .int .i64 (k : Int) ∧ Sl wr wr.heap.size A n c l ∧ OwnV 23 wr w1.heap.size (.slice (some ⟨g, 0, none⟩) 256 cT) words ∧ Below w.heap.size w wr) (fun i _ => 256 - (intOf i).toNat)
  case atStart => exact ⟨0, by omega, rfl, HS2.out, HO2.out, HB2.out⟩
  case round =>
    obtain ⟨k, hk, rfl, hs, ho, hb⟩ := hrel
    have HS3 := hid hs
    have HO3 := hid ho
    have HB3 := hid hb
    clear hs ho hb
    by_cases hlt : k < 256
    · have hc := HO3.out.cell (words_at hlt)
      have hki : (k : Int) < 256 := by omega
      have wk : IntKind.u8.wrap (k : Int) = (k : Int) := by rw [IntKind.wrap_u8]; omega
      go_wp2_with fail
      go_quiet ((go_at_call 11; exact Calls.quiet_of_same (step_zero _ _ hlt)))
      go_wp2
      go_roundw
      case rel => exact ⟨k + 1, by omega, by go_num, HS3.out.drewN _, HO3.out.on (below_drewN (Below.refl _ _) _), below_drewN HB3.out _⟩
      case measure => simp [intOf]; omega
    · have hs0 := HO3.out.form
      obtain ⟨T0, c0, hv, hsv, _⟩ := hs0
      injection hv with hv1 hv2 hv3
      subst hv1 hv3
      rw [words_len] at hsv
      have HT3 := hid hsv
      have hcT : (255 : Int) ≤ cT := by have := hsv.cap; omega
      clear hsv hv2
      go_wp2_with fail
      refine (turned_any A n c b at' l _ HS3.out HY.out (by omega) HA.out HU.out).mono ?_
      rintro e w4 hm
      obtain ⟨A4, c4, rfl, hs, hb, _, _⟩ := hm.get
      have HB4 := hid (HB3.out.trans (hb.mono HB3.out.size))
      have HS4 := hid (HS3.out.on hb)
      have HT4 := hid (HT3.out.on hb)
      have HX4 := hid hs
      clear hb hs hm
      obtain ⟨s, e1⟩ : ∃ s, crcOf (nats l) = s := ⟨_, rfl⟩
      have E1 := hid e1
      clear e1
      go_wp2_with fail
      refine (sum_any _ _ _ _ _ _ HS4.out HY.out).mono ?_
      rw [E1.out]
      rintro e w' ⟨rfl, rfl⟩
      go_wp2_with fail
      refine (refSum_any _ _ _ _ _ _ HS4.out HY.out).mono ?_
      rw [E1.out]
      rintro e w' ⟨rfl, rfl⟩
      go_wp2_with fail
      refine (with_any _ _ _ _ _ _ _ _ _ HT4.out HS4.out HY.out).mono ?_
      rw [E1.out]
      rintro e w' ⟨rfl, rfl⟩
      go_wp2_with fail
      refine (refSum_any _ _ _ _ _ _ HS4.out HY.out).mono ?_
      rw [E1.out]
      rintro e w' ⟨rfl, rfl⟩
      go_wp2_with fail
      refine (refTurned_any A n c b at' l _ HS4.out HY.out (by omega) HA.out).mono ?_
      rintro e w5 hm
      obtain ⟨A5, c5, rfl, hs, hb, _, _⟩ := hm.get
      have HB5 := hid (HB4.out.trans (hb.mono HB4.out.size))
      have HS5 := hid (HS4.out.on hb)
      have HX5 := hid (HX4.out.on hb)
      have HZ5 := hid hs
      clear hb hs hm
      go_wp2_with fail
      refine (same_any _ _ _ _ _ _ _ _ _ _ _ HX5.out HZ5.out).mono ?_
      rintro e w6 ⟨rfl, k6, rfl⟩
      rw [same_self]
      have HB6 := hid (below_drewN HB5.out k6)
      go_wp2_with fail
      refine (with_not _ _ 255 _ _ _ _ (by omega)).mono ?_
      rintro e w' ⟨rfl, rfl⟩
      go_wp2_with fail
      refine (with_not _ _ 0 _ _ _ _ (by omega)).mono ?_
      rintro e w' ⟨rfl, rfl⟩
      go_wp2
      go_ret
      exact ⟨rfl, HB6.out⟩
theorem crcSums_all (A : Option Addr) (n c : Nat) (zs : List Int) (at' b : Int) (w : World) (hr : IsRow .u8 w A n c zs) (ha : (Lit.int .i64 at').wf = true) (hb : (Lit.int .u32 b).wf = true) :
    Calls Try.prog 3 #[.slice A n c, .int .i64 at', .int .u32 b] w (Yes w) := by
  have hS := sl_of_row hr
  have hY := byt_of_row hr
  have h1 := bounds_i64 ha
  have h2 := bounds_u32 hb
  rcases Nat.lt_or_ge 300 n with h | h
  · exact crcSums_far A n c at' b w h
  · obtain ⟨u, rfl⟩ : ∃ u : Nat, b = (u : Int) := ⟨b.toNat, by omega⟩
    exact crcSums_near A n c u at' _ w hS hY h (by omega) (by omega)
end Go.Proofs.Ytljgkkgeaojolaa
