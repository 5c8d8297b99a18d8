/- The walk of GeoPairs. -/
import Derived.Test.YtndbanfkiaockaaDoorGGeoB
namespace Go.Proofs.YtndbanfkiaockaaDoor
open Go.RowKit

theorem Sn.lit (w : World) (l : List Int) (h : l.length ≤ 1000) : Sn (w.alloc (.cells (l.map (Value.int .i64)).toArray 3)) (w.alloc (.cells (l.map (Value.int .i64)).toArray 3)).heap.size (some ⟨w.heap.size, 0, none⟩) l.length l.length l := by
  refine ⟨rfl, Nat.le_refl _, by unfold maxLen; omega, (fun h => by cases h), fun ad ha hn => ?_⟩
  cases ha
  refine ⟨by simp, fun j x hx => ?_⟩
  have hb := Blk.new w 3 (l.map (Value.int .i64)).toArray
  have e : (⟨w.heap.size, 0, none⟩ : Addr).add j = ⟨w.heap.size, j, none⟩ := by
    unfold Addr.add; split
    · rename_i h0; subst h0; rfl
    · simp
  rw [e, hb.cell j]
  simp [hx]
theorem pair_three {H i : Int} (h : mirB H i = true) : pairB H [i, 7, prt H i] = true := by
  unfold pairB
  simp [h, amB]
theorem pair_two {H i : Int} (h : mirB H i = true) : pairB H [i, i] = false := by
  have := (prt_mir h).2.2.1
  unfold pairB
  simp [amB, this]
theorem wide_of {l : List Int} (h : ∀ x, x ∈ l → -9223372036854775808 ≤ x ∧ x ≤ 9223372036854775807) : Wide l := h

set_option maxRecDepth 100000 in
set_option maxHeartbeats 4000000 in
theorem geoPairs_any (S : Nat → Addr) (n i : Int) (w : World) (hS : SentL [2] w S) :
    Calls Tryd.prog 5 #[.int .i64 n, .int .i64 i] w (Yes w) := by
  have HS := hid hS
  clear hS
  have hca : (n < 300 ∨ 6000 < n) ∨ (300 ≤ n ∧ n ≤ 6000) := by omega
  rcases hca with ha | ⟨ha1, ha2⟩
  · have HA := hid ha
    clear ha
    go_enter Tryd.func5, Tryd.ntmps5
    go_wp2_with fail
    refine (first4_any _).mono ?_
    rintro e w1 ⟨rfl, hb1⟩
    have HB1 := hid hb1
    have HS1 := hid (HS.out.on hb1)
    clear hb1
    go_wp2_with fail
    refine (of_bad n _ _ HA.out (HS1.out 2 (by simp))).mono ?_
    rintro e w2 ⟨rfl, hb2⟩
    have HB2 := hid (HB1.out.trans (hb2.mono HB1.out.size))
    clear hb2
    go_wp2
    go_ret
    exact ⟨rfl, HB2.out.alloc HB2.out.size _⟩
  · have HA1 := hid ha1
    have HA2 := hid ha2
    have HG := hid (hal_gm ha1 ha2)
    have hh : 75 ≤ hal n ∧ hal n ≤ 512 ∧ 2 * hal n ≤ n := by unfold hal; omega
    obtain ⟨hh1, hh2, hh3⟩ := hh
    have hw := ways n (hal n) i (hal_gm ha1 ha2)
    obtain ⟨H, hH⟩ : ∃ H, hal n = H := ⟨_, rfl⟩
    have HH := hid hH
    rw [hH] at HG hh1 hh2 hh3 hw
    clear hH
    rcases hw with ⟨h1, t, p, m, d⟩ | ⟨h1, h2, t, p, m, d⟩ | ⟨h1, h2, t, p, m, d⟩ | ⟨h1, h2, t, p, m, d⟩ | ⟨h1, t, p, m, d⟩
    all_goals
      have HP := hid p
      have HM := hid m
      have HD := hid d
      first
        | have g1 : decide (0 ≤ i) = true := (by simp; omega)
        | have g1 : decide (0 ≤ i) = false := (by simp; omega)
      first
        | have g2 : decide (i < n) = true := (by simp; omega)
        | have g2 : decide (i < n) = false := (by simp; omega)
      clear t p m d
      go_enter Tryd.func5, Tryd.ntmps5
      go_wp2_with fail
      refine (first4_any _).mono ?_
      rintro e w1 ⟨rfl, hb1⟩
      have HB1 := hid hb1
      clear hb1
      go_wp2_with fail
      refine (of_ok n _ HA1.out HA2.out).mono ?_
      rintro e w2 ⟨rfl, hb2⟩
      rw [HH.out]
      have HB2 := hid (HB1.out.trans (hb2.mono HB1.out.size))
      clear hb2
      have HB3 := hid (show Below w.heap.size w (w2.alloc (Obj.cells #[.int .i64 n, .int .i64 H] 60)) from HB2.out.alloc HB2.out.size _)
      have HK3 := hid (Blk.new w2 60 #[.int .i64 n, .int .i64 H])
      go_wp2_with fail
      generalize (w2.alloc (Obj.cells #[.int .i64 n, .int .i64 H] 60)) = w3 at HB3 HK3 ⊢
      obtain ⟨g, hg⟩ : ∃ g, w2.heap.size = g := ⟨_, rfl⟩
      rw [hg] at HK3 ⊢
      clear hg
      refine (partner_any n H i _ HG.out).mono ?_
      rintro e w4 ⟨rfl, hb4⟩
      rw [HP.out, HM.out]
      have HB4 := hid (HB3.out.trans (hb4.mono HB3.out.size))
      have HK4 := hid (HK3.out.below hb4 HK3.out.lt)
      obtain ⟨k40, k41⟩ := gcells HK4.out
      clear hb4
      go_wp2_with fail
    · refine (data_any n H i _ HG.out).mono ?_
      rintro e w5 ⟨rfl, hb5⟩
      rw [HD.out]
      have HB5 := hid (HB4.out.trans (hb5.mono HB4.out.size))
      have HK5 := hid (HK4.out.below hb5 HK4.out.lt)
      obtain ⟨k50, k51⟩ := gcells HK5.out
      clear hb5 k40 k41
      go_wp2_with fail
      refine (mirrored_any n H i _ HG.out).mono ?_
      rintro e w6 ⟨rfl, hb6⟩
      rw [HM.out]
      have HB6 := hid (HB5.out.trans (hb6.mono HB5.out.size))
      clear hb6 k50 k51
      go_wp2
      go_ret
      exact ⟨rfl, HB6.out⟩
    · have hpr := prt_mir HM.out
      rw [HP.out] at hpr
      have HQQ := hid hpr.2.1
      have HMP := hid hpr.1
      have g3 : ((i + H) != i) = true := by rw [bne_iff_ne]; omega
      have g4 : decide (i + H < H) = false := by simp; omega
      have g5 : decide (i < H) = true := by simp; omega
      have HWi := hid (show Wide [i, 7, i + H] from fun x hx => by simp at hx; omega)
      have HWj := hid (show Wide [i, i] from fun x hx => by simp at hx; omega)
      have HT3 := hid (pair_three HM.out)
      have HT2 := hid (pair_two HM.out)
      clear hpr
      refine (partner_any n H (i + H) _ HG.out).mono ?_
      rintro e w5 ⟨rfl, hb5⟩
      rw [HQQ.out, HMP.out]
      have HB5 := hid (HB4.out.trans (hb5.mono HB4.out.size))
      have HK5 := hid (HK4.out.below hb5 HK4.out.lt)
      obtain ⟨k50, k51⟩ := gcells HK5.out
      clear hb5 k40 k41
      go_wp2_with fail
      refine (data_any n H i _ HG.out).mono ?_
      rintro e w6 ⟨rfl, hb6⟩
      rw [HD.out]
      have HB6 := hid (HB5.out.trans (hb6.mono HB5.out.size))
      have HK6 := hid (HK5.out.below hb6 HK5.out.lt)
      obtain ⟨k60, k61⟩ := gcells HK6.out
      clear hb6 k50 k51
      go_wp2_with fail
      have hb7 : Below w6.heap.size w6 (w6.alloc (.cells ([i, 7, i + H].map (Value.int .i64)).toArray 3)) := (Below.refl _ _).alloc (Nat.le_refl _) _
      refine (paired_any n H _ 3 3 [i, 7, i + H] _ HG.out (Sn.lit w6 [i, 7, i + H] (by simp)) HWi.out).mono ?_
      rw [← HP.out, HT3.out]
      rintro e w7 ⟨rfl, hb8⟩
      rw [HP.out] at hb8
      have hb9 := hb7.trans (hb8.mono hb7.size)
      have HB7 := hid (HB6.out.trans (hb9.mono HB6.out.size))
      have HK7 := hid (HK6.out.below hb9 HK6.out.lt)
      obtain ⟨k70, k71⟩ := gcells HK7.out
      clear hb7 hb8 hb9 k60 k61
      go_wp2_with fail
      have hb10 : Below w7.heap.size w7 (w7.alloc (.cells ([i, i].map (Value.int .i64)).toArray 3)) := (Below.refl _ _).alloc (Nat.le_refl _) _
      refine (paired_any n H _ 2 2 [i, i] _ HG.out (Sn.lit w7 [i, i] (by simp)) HWj.out).mono ?_
      rw [HT2.out]
      rintro e w8 ⟨rfl, hb11⟩
      have HB8 := hid (HB7.out.trans ((hb10.trans (hb11.mono hb10.size)).mono HB7.out.size))
      clear hb10 hb11
      go_wp2
      go_ret
      exact ⟨rfl, HB8.out⟩
    · have hpr := prt_mir HM.out
      rw [HP.out] at hpr
      have HQQ := hid hpr.2.1
      have HMP := hid hpr.1
      have g3 : ((i - H) != i) = true := by rw [bne_iff_ne]; omega
      have g4 : decide (i - H < H) = true := by simp; omega
      have g5 : decide (i < H) = false := by simp; omega
      have HWi := hid (show Wide [i, 7, i - H] from fun x hx => by simp at hx; omega)
      have HWj := hid (show Wide [i, i] from fun x hx => by simp at hx; omega)
      have HT3 := hid (pair_three HM.out)
      have HT2 := hid (pair_two HM.out)
      clear hpr
      refine (partner_any n H (i - H) _ HG.out).mono ?_
      rintro e w5 ⟨rfl, hb5⟩
      rw [HQQ.out, HMP.out]
      have HB5 := hid (HB4.out.trans (hb5.mono HB4.out.size))
      have HK5 := hid (HK4.out.below hb5 HK4.out.lt)
      obtain ⟨k50, k51⟩ := gcells HK5.out
      clear hb5 k40 k41
      go_wp2_with fail
      refine (data_any n H i _ HG.out).mono ?_
      rintro e w6 ⟨rfl, hb6⟩
      rw [HD.out]
      have HB6 := hid (HB5.out.trans (hb6.mono HB5.out.size))
      have HK6 := hid (HK5.out.below hb6 HK5.out.lt)
      obtain ⟨k60, k61⟩ := gcells HK6.out
      clear hb6 k50 k51
      go_wp2_with fail
      have hb7 : Below w6.heap.size w6 (w6.alloc (.cells ([i, 7, i - H].map (Value.int .i64)).toArray 3)) := (Below.refl _ _).alloc (Nat.le_refl _) _
      refine (paired_any n H _ 3 3 [i, 7, i - H] _ HG.out (Sn.lit w6 [i, 7, i - H] (by simp)) HWi.out).mono ?_
      rw [← HP.out, HT3.out]
      rintro e w7 ⟨rfl, hb8⟩
      rw [HP.out] at hb8
      have hb9 := hb7.trans (hb8.mono hb7.size)
      have HB7 := hid (HB6.out.trans (hb9.mono HB6.out.size))
      have HK7 := hid (HK6.out.below hb9 HK6.out.lt)
      obtain ⟨k70, k71⟩ := gcells HK7.out
      clear hb7 hb8 hb9 k60 k61
      go_wp2_with fail
      have hb10 : Below w7.heap.size w7 (w7.alloc (.cells ([i, i].map (Value.int .i64)).toArray 3)) := (Below.refl _ _).alloc (Nat.le_refl _) _
      refine (paired_any n H _ 2 2 [i, i] _ HG.out (Sn.lit w7 [i, i] (by simp)) HWj.out).mono ?_
      rw [HT2.out]
      rintro e w8 ⟨rfl, hb11⟩
      have HB8 := hid (HB7.out.trans ((hb10.trans (hb11.mono hb10.size)).mono HB7.out.size))
      clear hb10 hb11
      go_wp2
      go_ret
      exact ⟨rfl, HB8.out⟩
    · refine (data_any n H i _ HG.out).mono ?_
      rintro e w5 ⟨rfl, hb5⟩
      rw [HD.out]
      have HB5 := hid (HB4.out.trans (hb5.mono HB4.out.size))
      have HK5 := hid (HK4.out.below hb5 HK4.out.lt)
      obtain ⟨k50, k51⟩ := gcells HK5.out
      clear hb5 k40 k41
      go_wp2_with fail
      refine (mirrored_any n H i _ HG.out).mono ?_
      rintro e w6 ⟨rfl, hb6⟩
      rw [HM.out]
      have HB6 := hid (HB5.out.trans (hb6.mono HB5.out.size))
      clear hb6 k50 k51
      go_wp2
      go_ret
      exact ⟨rfl, HB6.out⟩
    · refine (data_any n H i _ HG.out).mono ?_
      rintro e w5 ⟨rfl, hb5⟩
      rw [HD.out]
      have HB5 := hid (HB4.out.trans (hb5.mono HB4.out.size))
      have HK5 := hid (HK4.out.below hb5 HK4.out.lt)
      obtain ⟨k50, k51⟩ := gcells HK5.out
      clear hb5 k40 k41
      go_wp2_with fail
      refine (mirrored_any n H i _ HG.out).mono ?_
      rintro e w6 ⟨rfl, hb6⟩
      rw [HM.out]
      have HB6 := hid (HB5.out.trans (hb6.mono HB5.out.size))
      clear hb6 k50 k51
      go_wp2
      go_ret
      exact ⟨rfl, HB6.out⟩
end Go.Proofs.YtndbanfkiaockaaDoor
