/- The walk of GeoQuotas. -/
import Derived.Test.YtndbanfkiaockaaDoorGGeoB
namespace Go.Proofs.YtndbanfkiaockaaDoor
open Go.RowKit

theorem quo_facts {n : Int} (h1 : 300 ≤ n) (h2 : n ≤ 6000) : 15 ≤ quo n (hal n) ∧ 2 * quo n (hal n) + 16 ≤ n - 2 * hal n ∧ quo n (hal n) + 60 ≤ hal n ∧ quo n (hal n) ≤ 6000 ∧ 0 ≤ hal n ∧ hal n ≤ 512 ∧ 2 * hal n ≤ n := by
  unfold quo hal; omega
theorem quo_mono {a b : Int} (h1 : 300 ≤ a) (h : a ≤ b) : quo a (hal a) ≤ quo b (hal b) := by
  unfold quo hal; omega
theorem quo_zero : quo 0 0 = 0 := by decide

set_option maxRecDepth 100000 in
set_option maxHeartbeats 2000000 in
theorem geoQuotas_any (S : Nat → Addr) (a b : Int) (w : World) (hS : SentL [2] w S) :
    Calls Tryd.prog 6 #[.int .i64 a, .int .i64 b] w (Yes w) := by
  have HS := hid hS
  clear hS
  have hca : (a < 300 ∨ 6000 < a) ∨ (300 ≤ a ∧ a ≤ 6000) := by omega
  have hcb : (b < 300 ∨ 6000 < b) ∨ (300 ≤ b ∧ b ≤ 6000) := by omega
  rcases hca with ha | ⟨ha1, ha2⟩
  · have HA := hid ha
    clear ha
    have hbb : ∃ vb Hb, ∀ w1, SentL [2] w1 S → Calls Tryd.prog 40 #[.int .i64 b] w1 fun e w' => e = .returned (.tuple #[gv (if b < 300 ∨ 6000 < b then 0 else b) Hb, vb]) ∧ Below w1.heap.size w1 w' := by
      rcases hcb with h | ⟨h1, h2⟩
      · exact ⟨_, _, fun w1 hs => by rw [if_pos h]; exact of_bad b _ w1 h (hs 2 (by simp))⟩
      · exact ⟨_, _, fun w1 hs => by rw [if_neg (by omega)]; exact of_ok b w1 h1 h2⟩
    obtain ⟨vb, Hb, hbb⟩ := hbb
    obtain ⟨Bb, hBb⟩ : ∃ B, (if b < 300 ∨ 6000 < b then 0 else b) = B := ⟨_, rfl⟩
    rw [hBb] at hbb
    have HBb := hid hbb
    clear hbb hBb hcb
    go_enter Tryd.func6, Tryd.ntmps6
    go_wp2_with fail
    refine (first4_any _).mono ?_
    rintro e w1 ⟨rfl, hb1⟩
    have HB1 := hid hb1
    have HS1 := hid (HS.out.on hb1)
    clear hb1
    go_wp2_with fail
    refine (of_bad a _ _ HA.out (HS1.out 2 (by simp))).mono ?_
    rintro e w2 ⟨rfl, hb2⟩
    have HB2 := hid (HB1.out.trans (hb2.mono HB1.out.size))
    have HS2 := hid (HS1.out.on hb2)
    clear hb2
    go_wp2_with fail
    have hb3 : Below w2.heap.size w2 (w2.alloc (Obj.cells #[.int .i64 0, .int .i64 0] 60)) := (Below.refl _ _).alloc (Nat.le_refl _) _
    refine (HBb.out _ (HS2.out.on hb3)).mono ?_
    rintro e w3 ⟨rfl, hb4⟩
    have HB3 := hid (HB2.out.trans ((hb3.trans (hb4.mono hb3.size)).mono HB2.out.size))
    clear hb3 hb4
    go_wp2
    go_ret
    exact ⟨rfl, HB3.out.alloc HB3.out.size _⟩
  · have FA := hid (quo_facts ha1 ha2)
    have HA1 := hid ha1
    have HA2 := hid ha2
    have hmono : 300 ≤ a → a ≤ b → quo a (hal a) ≤ quo b (hal b) := fun h1 h2 => quo_mono h1 h2
    have HMo := hid hmono
    clear hmono
    go_enter Tryd.func6, Tryd.ntmps6
    go_wp2_with fail
    refine (first4_any _).mono ?_
    rintro e w1 ⟨rfl, hb1⟩
    have HB1 := hid hb1
    have HS1 := hid (HS.out.on hb1)
    clear hb1
    go_wp2_with fail
    refine (of_ok a _ HA1.out HA2.out).mono ?_
    rintro e w2 ⟨rfl, hb2⟩
    have HB2 := hid (HB1.out.trans (hb2.mono HB1.out.size))
    have HS2 := hid (HS1.out.on hb2)
    clear hb2
    go_wp2_with fail
    have hb3 : Below w2.heap.size w2 (w2.alloc (Obj.cells #[.int .i64 a, .int .i64 (hal a)] 60)) := (Below.refl _ _).alloc (Nat.le_refl _) _
    have hk3 := Blk.new w2 60 #[.int .i64 a, .int .i64 (hal a)]
    have HB3 := hid (HB2.out.trans (hb3.mono HB2.out.size))
    have HS3 := hid (HS2.out.on hb3)
    have HK3 := hid hk3
    clear hb3 hk3
    generalize (w2.alloc (Obj.cells #[.int .i64 a, .int .i64 (hal a)] 60)) = w3 at HB3 HS3 HK3 ⊢
    obtain ⟨g, hg⟩ : ∃ g, w2.heap.size = g := ⟨_, rfl⟩
    rw [hg] at HK3 ⊢
    clear hg
    rcases hcb with hb | ⟨hb1, hb2⟩
    · refine (of_bad b _ _ hb (HS3.out 2 (by simp))).mono ?_
      rintro e w4 ⟨rfl, hb4⟩
      have HB4 := hid (HB3.out.trans (hb4.mono HB3.out.size))
      clear hb4
      go_wp2
      go_ret
      exact ⟨rfl, HB4.out.alloc HB4.out.size _⟩
    · have FB := hid (quo_facts hb1 hb2)
      have HGa := hid (hal_gm HA1.out HA2.out)
      have HGb := hid (hal_gm hb1 hb2)
      refine (of_ok b _ hb1 hb2).mono ?_
      rintro e w4 ⟨rfl, hb4⟩
      have HB4 := hid (HB3.out.trans (hb4.mono HB3.out.size))
      have HK4 := hid (HK3.out.below hb4 HK3.out.lt)
      have HW5 := hid (show Below w.heap.size w (w4.alloc (Obj.cells #[.int .i64 b, .int .i64 (hal b)] 60)) from HB4.out.alloc HB4.out.size _)
      have HKa := hid (HK4.out.alloc (Obj.cells #[.int .i64 b, .int .i64 (hal b)] 60))
      obtain ⟨hk0, hk1⟩ := gcells HKa.out
      have HKb := hid (Blk.new w4 60 #[.int .i64 b, .int .i64 (hal b)])
      obtain ⟨qa, hqa⟩ : ∃ q, quo a (hal a) = q := ⟨_, rfl⟩
      obtain ⟨qb, hqb⟩ : ∃ q, quo b (hal b) = q := ⟨_, rfl⟩
      have HQa := hid hqa
      have HQb := hid hqb
      have f1 := FA.out
      have f2 := FB.out
      have f3 := HMo.out HA1.out
      rw [hqa] at f1 f3
      rw [hqb] at f2 f3
      have p1 : decide (qa < 0) = false := by simp; omega
      have p2 : (qa == 0) = false := by rw [beq_eq_false_iff_ne]; omega
      have p3 : decide (2 * qa + 16 ≤ a - 2 * hal a) = true := by simp; omega
      have p4 : decide (qa + 60 ≤ hal a) = true := by simp; omega
      have p5 : (decide (a ≤ b) = false) ∨ (decide (a ≤ b) = true ∧ decide (qb < qa) = false) := by
        by_cases h : a ≤ b
        · exact .inr ⟨by simpa using h, by have := f3 h; simp; omega⟩
        · exact .inl (by simpa using h)
      have q1 : 15 ≤ qa := f1.1
      have q2 : qa ≤ 6000 := f1.2.2.2.1
      clear hb4 hb1 hb2 hqa hqb f1 f2 f3
      obtain ⟨g', hg'⟩ : ∃ g, w4.heap.size = g := ⟨_, rfl⟩
      rw [hg'] at HKb
      have HG' := hid hg'
      rcases p5 with p5 | ⟨p5, p6⟩
      all_goals
        go_wp2_with fail
        generalize (w4.alloc (Obj.cells #[.int .i64 b, .int .i64 (hal b)] 60)) = w5 at HW5 HKa HKb ⊢
        refine (quota_any a (hal a) _ HGa.out).mono ?_
        rintro e w6 ⟨rfl, hb6⟩
        rw [HQa.out]
        have HW6 := hid (HW5.out.trans (hb6.mono HW5.out.size))
        have HKa6 := hid (HKa.out.below hb6 HKa.out.lt)
        have HKb6 := hid (HKb.out.below hb6 HKb.out.lt)
        obtain ⟨hk60, hk61⟩ := gcells HKb6.out
        clear hb6 hk0 hk1
        go_wp2_with fail
        refine (quota_any b (hal b) _ HGb.out).mono ?_
        rintro e w7 ⟨rfl, hb7⟩
        rw [HQb.out]
        have HW7 := hid (HW6.out.trans (hb7.mono HW6.out.size))
        have HKa7 := hid (HKa6.out.below hb7 HKa6.out.lt)
        clear hb7 hk60 hk61
        go_wp2_with fail
        refine (quota_any 0 0 _ gm0).mono ?_
        rintro e w8 ⟨rfl, hb8⟩
        rw [quo_zero]
        have HW8 := hid (HW7.out.trans (hb8.mono HW7.out.size))
        have HKa8 := hid (HKa7.out.below hb8 HKa7.out.lt)
        obtain ⟨hk80, hk81⟩ := gcells HKa8.out
        clear hb8
        go_wp2_with fail
        refine (datas_any a (hal a) _ HGa.out).mono ?_
        rintro e w9 ⟨rfl, hb9⟩
        have HW9 := hid (HW8.out.trans (hb9.mono HW8.out.size))
        have HKa9 := hid (HKa8.out.below hb9 HKa8.out.lt)
        obtain ⟨_, hk91⟩ := gcells HKa9.out
        clear hb9 hk80 hk81
        go_wp2
        go_ret
        exact ⟨rfl, HW9.out⟩
end Go.Proofs.YtndbanfkiaockaaDoor
