/- The walk of GeoBounds. -/
import Derived.Test.YtndbanfkiaockaaDoorGGeoQuotasW
import Derived.Test.YtndbanfkiaockaaDoorGNumber
namespace Go.Proofs.YtndbanfkiaockaaDoor
open Go.RowKit

theorem ev_range (S : Nat → Addr) : EV S 103 (.iface 143 (.pointer (some (S 2)))) := EV.err 2 (by decide)
theorem mir_neg (H : Int) : mirB H (-1) = false := by unfold mirB; simp
theorem dat_end (n H : Int) : datB n H n = false := by unfold datB; simp

set_option maxRecDepth 100000 in
set_option maxHeartbeats 8000000 in
theorem geoBounds_any (S : Nat → Addr) (n i : Int) (w : World) (hS : Sent w S) :
    Calls Tryd.prog 7 #[.int .i64 n, .int .i64 i] w (Yes w) := by
  have HS := hid hS
  clear hS
  have hca : (n < 300 ∨ 6000 < n) ∨ (300 ≤ n ∧ n ≤ 6000) := by omega
  rcases hca with ha | ⟨ha1, ha2⟩
  · have HA := hid ha
    have hc : decide (n < 300) = true ∨ (decide (n < 300) = false ∧ decide (6000 < n) = true) := by
      by_cases h1 : n < 300
      · exact .inl (by simpa using h1)
      · exact .inr ⟨by simpa using h1, by simp; omega⟩
    clear ha
    rcases hc with g1 | ⟨g1, g2⟩
    all_goals
      go_enter Tryd.func7, Tryd.ntmps7
      go_wp2_with fail
      refine (first4_any _).mono ?_
      rintro e w1 ⟨rfl, hb1⟩
      have HB1 := hid hb1
      have HS1 := hid (HS.out.on hb1)
      clear hb1
      go_wp2_with fail
      refine (of_bad n _ _ HA.out (HS1.out.at_ 2 (by decide))).mono ?_
      rintro e w2 ⟨rfl, hb2⟩
      have HB2 := hid (HB1.out.trans (hb2.mono HB1.out.size))
      have hb3 : Below w2.heap.size w2 (w2.alloc (Obj.cells #[.int .i64 0, .int .i64 0] 60)) := (Below.refl _ _).alloc (Nat.le_refl _) _
      have HB3 := hid (HB2.out.trans (hb3.mono HB2.out.size))
      have HS3 := hid ((HS1.out.on hb2).on hb3)
      clear hb2 hb3
      go_wp2_with fail
      refine (is_any S 103 103 _ _ HS3.out (ev_range S)).mono ?_
      rw [beq_self_eq_true]
      rintro e w4 ⟨rfl, hb4⟩
      have HB4 := hid (HB3.out.trans (hb4.mono HB3.out.size))
      clear hb4
      go_wp2
      go_ret
      exact ⟨rfl, HB4.out⟩
  · have HA1 := hid ha1
    have HA2 := hid ha2
    have HG := hid (hal_gm ha1 ha2)
    have FQ := hid (quo_facts ha1 ha2)
    have g1 : decide (n < 300) = false := by simp; omega
    have g2 : decide (6000 < n) = false := by simp; omega
    have hj0 : 0 ≤ i % n := Int.emod_nonneg _ (by omega)
    have hj1 : i % n < n := Int.emod_lt_of_pos _ (by omega)
    obtain ⟨j, hj⟩ : ∃ j, i % n = j := ⟨_, rfl⟩
    have HJ := hid hj
    rw [hj] at hj0 hj1
    have hw := ways n (hal n) j (hal_gm ha1 ha2)
    obtain ⟨H, hH⟩ : ∃ H, hal n = H := ⟨_, rfl⟩
    have HH := hid hH
    have hf := quo_facts ha1 ha2
    obtain ⟨q, hq⟩ : ∃ q, quo n (hal n) = q := ⟨_, rfl⟩
    have HQ := hid hq
    rw [hq, hH] at hf
    rw [hH] at HG hw HQ
    clear hj hH hq
    have hd : (mirB H j = true ∧ datB n H j = false ∧ j < 2 * H) ∨ (mirB H j = false ∧ datB n H j = true ∧ ¬ j < 2 * H) := by
      rcases hw with ⟨h1, t, p, m, d⟩ | ⟨h1, h2, t, p, m, d⟩ | ⟨h1, h2, t, p, m, d⟩ | ⟨h1, h2, t, p, m, d⟩ | ⟨h1, t, p, m, d⟩
      · omega
      · exact .inl ⟨m, d, by omega⟩
      · exact .inl ⟨m, d, by omega⟩
      · exact .inr ⟨m, d, by omega⟩
      · omega
    obtain ⟨f1, _, _, f4, f5, f6, f7⟩ := hf
    have p1 : decide (15 ≤ q) = true := by simp; omega
    have e1 : IntKind.i64.wrap (2 * H) = 2 * H := by rw [IntKind.wrap_i64]; omega
    have e2 : IntKind.i64.wrap (2 * H + (n - 2 * H)) = n := by rw [IntKind.wrap_i64]; omega
    have HME := hid (mir_neg H)
    have HDE := hid (dat_end n H)
    clear hw
    rcases hd with ⟨m, d, p2⟩ | ⟨m, d, p2⟩
    all_goals
      have HM := hid m
      have HD := hid d
      first
        | have p3 : decide (j < 2 * H) = true := (by simpa using p2)
        | have p3 : decide (j < 2 * H) = false := (by simpa using p2)
      clear m d
      go_enter Tryd.func7, Tryd.ntmps7
      go_wp2_with fail
      refine (first4_any _).mono ?_
      rintro e w1 ⟨rfl, hb1⟩
      have HB1 := hid hb1
      clear hb1
      go_wp2_with fail
      refine (of_ok n _ HA1.out HA2.out).mono ?_
      rintro e w2 ⟨rfl, hb2⟩
      rw [HH.out]
      have HB2 := hid (HB1.out.trans (hb2.mono HB1.out.size))
      clear hb2
      have HB3 := hid (show Below w.heap.size w (w2.alloc (Obj.cells #[.int .i64 n, .int .i64 H] 60)) from HB2.out.alloc HB2.out.size _)
      have HK3 := hid (Blk.new w2 60 #[.int .i64 n, .int .i64 H])
      go_wp2_with fail
      generalize (w2.alloc (Obj.cells #[.int .i64 n, .int .i64 H] 60)) = w3 at HB3 HK3 ⊢
      obtain ⟨g, hg⟩ : ∃ g, w2.heap.size = g := ⟨_, rfl⟩
      rw [hg] at HK3 ⊢
      clear hg
      refine (number_any i n _ (by omega) (by omega)).mono ?_
      rw [HJ.out]
      rintro e w4 ⟨rfl, rfl⟩
      go_wp2_with fail
      have hzd := gcells HK3.out.drew
      have HZ := hid (show ∀ wx, Below w3.heap.size w3 wx → wx.cell? ⟨g, 0, none⟩ = some (.int .i64 n) ∧ wx.cell? ⟨g, 1, none⟩ = some (.int .i64 H) from fun wx h => gcells (HK3.out.below h HK3.out.lt))
      have HY := hid (show Below w3.heap.size w3 w3.drew from ⟨rfl, rfl, rfl, Nat.le_refl _, fun _ _ => rfl⟩)
      go_region_held3 (fun w' => w'.cell? ⟨g, 0, none⟩ = some (.int .i64 n) ∧ w'.cell? ⟨g, 1, none⟩ = some (.int .i64 H)) (assumption)
        ((first
        | (go_at_call 48; have h := HY6.out; clear h; refine (quota_any n H _ HG.out).mono ?_; rw [HQ.out]; rintro e y7 ⟨rfl, hb⟩; have HY7 := hid (HY6.out.trans (hb.mono HY6.out.size)); have hz7 := HZ.out _ HY7.out; clear hb)
        | (go_at_call 45; have h := HY5.out; clear h; refine (mirrored_any n H (-1) _ HG.out).mono ?_; rw [HME.out]; rintro e y6 ⟨rfl, hb⟩; have HY6 := hid (HY5.out.trans (hb.mono HY5.out.size)); have hz6 := HZ.out _ HY6.out; clear hb)
        | (go_at_call 46; have h := HY4.out; clear h; refine (data_any n H n _ HG.out).mono ?_; rw [HDE.out]; rintro e y5 ⟨rfl, hb⟩; have HY5 := hid (HY4.out.trans (hb.mono HY4.out.size)); have hz5 := HZ.out _ HY5.out; clear hb)
        | (go_at_call 45; have h := HY3.out; clear h; refine (mirrored_any n H j _ HG.out).mono ?_; rw [HM.out]; rintro e y4 ⟨rfl, hb⟩; have HY4 := hid (HY3.out.trans (hb.mono HY3.out.size)); have hz4 := HZ.out _ HY4.out; clear hb)
        | (go_at_call 46; have h := HY2.out; clear h; refine (data_any n H j _ HG.out).mono ?_; rw [HD.out]; rintro e y3 ⟨rfl, hb⟩; have HY3 := hid (HY2.out.trans (hb.mono HY2.out.size)); have hz3 := HZ.out _ HY3.out; clear hb)
        | (go_at_call 45; have h := HY1.out; clear h; refine (mirrored_any n H j _ HG.out).mono ?_; rw [HM.out]; rintro e y2 ⟨rfl, hb⟩; have HY2 := hid (HY1.out.trans (hb.mono HY1.out.size)); have hz2 := HZ.out _ HY2.out; clear hb)
        | (go_at_call 47; refine (datas_any n H _ HG.out).mono ?_; rintro e y1 ⟨rfl, hb⟩; have HY1 := hid (HY.out.trans (hb.mono HY.out.size)); have hz1 := HZ.out _ HY1.out; clear hb)))
      go_wp2
      go_ret
      exact ⟨rfl, HB3.out.trans (HY7.out.mono HB3.out.size)⟩
end Go.Proofs.YtndbanfkiaockaaDoor
