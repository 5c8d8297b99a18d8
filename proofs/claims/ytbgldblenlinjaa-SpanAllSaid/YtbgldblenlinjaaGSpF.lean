/- SpanAll, walked. -/
import Derived.Test.YtbgldblenlinjaaGSpE
namespace Go.Proofs.Ytbgldblenlinjaa
open Go.RowKit

set_option maxRecDepth 100000 in
set_option maxHeartbeats 2000000 in
theorem spanAll_any (x n0 : Int) (w : World) (h0 : -9223372036854775808 ≤ x) (h1 : x ≤ 9223372036854775807) :
    Calls Try.prog 3 #[.int .i64 x, .int .i64 n0] w (Yes w) := by
  obtain ⟨n, hn, hn3⟩ : ∃ n : Nat, n0 % 3000 = (n : Int) ∧ n < 3000 := ⟨(n0 % 3000).toNat, by omega, by omega⟩
  have HN := hid hn
  have HPl := hid (fun a => pN_le (a := a) (n := n) (by omega))
  clear hn
  rcases Int.lt_or_le x 0 with hx | hx
  · obtain ⟨a, ha, ha1⟩ : ∃ a : Nat, (-(x + 1)) % 100000 = (a : Int) ∧ a < 100000 := ⟨((-(x + 1)) % 100000).toNat, by omega, by omega⟩
    have HA := hid (show -(x + 1).tmod 100000 = (a : Int) by rw [← ha, ← Int.neg_tmod, Int.tmod_eq_emod_of_nonneg (by omega)])
    clear ha
    go_enter Try.func3, Try.ntmps3
    go_wp2_with fail
    refine (first_any w).mono ?_
    rintro e w1 ⟨rfl, hb⟩
    have HB1 := hid hb
    clear hb
    go_wp2_with fail
    refine (number_any n0 3000 _ (by omega) (by omega)).mono ?_
    rintro e w2 ⟨rfl, rfl⟩
    rw [HN.out]
    go_wp2_with fail
    rw [HA.out]
    refine (pieces_any a n _ (by omega) (by omega)).mono ?_
    rintro e w2 ho
    obtain ⟨A, c, rfl, hp, hb⟩ := ho.get
    have HB2 := hid (HB1.out.trans (hb.mono HB1.out.size))
    have HP2 := hid hp
    obtain ⟨N, hN⟩ : ∃ N, pN a n = N := ⟨_, rfl⟩
    have HNe := hid hN
    have hN1 : N ≤ 100000 := hN ▸ HPl.out a
    rw [hN]
    clear ho hp hb hN
    go_wp2
    go_loopw [6, 8] (fun pv iv wr => ∃ k : Nat, k ≤ N ∧ iv = .int .i64 (k : Int) ∧ pv = .int .i64 ((a + pS a n k : Nat) : Int) ∧ PSl wr A a n ∧ Below w.heap.size w wr) (fun _ iv _ => N - (intOf iv).toNat)
    case atStart =>
      refine ⟨0, Nat.zero_le _, rfl, congrArg (Value.int .i64) ?_, HP2.out, HB2.out⟩
      have := HA.out
      unfold pS
      omega
    case round =>
      obtain ⟨k, hk, rfl, rfl, hp, hb⟩ := hrel
      have HP := hid hp
      have HB := hid hb
      clear hp hb
      by_cases hlt : k < N
      · have hkn : k < pN a n := by rw [HNe.out]; exact hlt
        obtain ⟨g, rfl, hg, c0, c1, c2⟩ := HP.out.at_ hkn
        obtain ⟨m1, m2, m3, m4, m5⟩ := p_more hkn
        have HF := hid (show 0 < k → pF a k = 0 from p_first)
        have HU := hid (show k + 1 < N → pT a n k = 256 from fun h => p_full (by rw [HNe.out]; exact h))
        have HM := hid m4
        have m6 : pI a k ≤ 1000000 := by omega
        have m7 : (pI a k : Int) * 256 + (pF a k : Int) = ((a + pS a n k : Nat) : Int) := by omega
        have m8 : a + pS a n k ≤ 1000000 := by omega
        clear m4 m5
        obtain ⟨F, hF⟩ : ∃ F, pF a k = F := ⟨_, rfl⟩
        obtain ⟨T, hT⟩ : ∃ T, pT a n k = T := ⟨_, rfl⟩
        obtain ⟨P, hP⟩ : ∃ P, a + pS a n k = P := ⟨_, rfl⟩
        have HR := hid (show a + pS a n (k + 1) = P + (T - F) from by have := HM.out; omega)
        rw [hF] at c1 m2 m7 HF
        rw [hT] at c2 m2 m3 HU
        rw [hP] at m7 m8 ⊢
        clear HM hF hT hP m1
        have hw1 : (¬ 0 < k) ∨ (0 < k ∧ F = 0) := (Decidable.em (0 < k)).symm.imp id fun h => ⟨h, HF.out h⟩
        have hw2 : (k + 1 < N ∧ T = 256) ∨ ¬ k + 1 < N := (Nat.lt_or_ge (k + 1) N).imp (fun h => ⟨h, HU.out h⟩) (by omega)
        clear HF HU
        rcases hw1 with hk0 | ⟨hk0, rfl⟩ <;> rcases hw2 with ⟨hk1, rfl⟩ | hk1
        all_goals
          go_wp2
          go_roundw
          case rel => exact ⟨k + 1, by omega, by go_num, congrArg (Value.int .i64) (by have := HR.out; omega), HP.out.on ((Below.refl _ _).alloc (Nat.le_refl _) _), HB.out.alloc HB.out.size _⟩
          case measure => simp [intOf]; omega
      · obtain rfl : k = N := by omega
        have hend := p_last a n
        have hz0 : (k = 0) = (n = 0) := by
          have h := HNe.out
          apply propext
          unfold pN at h
          split at h <;> omega
        have hz : ((k : Int) == 0) = ((n : Int) == 0) := by
          rw [Bool.eq_iff_iff, beq_iff_eq, beq_iff_eq]
          have : k = 0 ↔ n = 0 := by rw [hz0]
          omega
        rw [HNe.out] at hend
        clear hz0
        go_wp2_with fail
        refine (pieces_neg n _).mono ?_
        rintro e w3 ⟨rfl, rfl⟩
        go_wp2
        go_ret
        exact ⟨rfl, HB.out⟩
  · obtain ⟨a, ha, ha1⟩ : ∃ a : Nat, x % 100000 = (a : Int) ∧ a < 100000 := ⟨(x % 100000).toNat, by omega, by omega⟩
    have HA := hid ha
    clear ha
    go_enter Try.func3, Try.ntmps3
    go_wp2_with fail
    refine (first_any w).mono ?_
    rintro e w1 ⟨rfl, hb⟩
    have HB1 := hid hb
    clear hb
    go_wp2_with fail
    refine (number_any n0 3000 _ (by omega) (by omega)).mono ?_
    rintro e w2 ⟨rfl, rfl⟩
    rw [HN.out]
    go_wp2_with fail
    rw [HA.out]
    refine (pieces_any a n _ (by omega) (by omega)).mono ?_
    rintro e w2 ho
    obtain ⟨A, c, rfl, hp, hb⟩ := ho.get
    have HB2 := hid (HB1.out.trans (hb.mono HB1.out.size))
    have HP2 := hid hp
    obtain ⟨N, hN⟩ : ∃ N, pN a n = N := ⟨_, rfl⟩
    have HNe := hid hN
    have hN1 : N ≤ 100000 := hN ▸ HPl.out a
    rw [hN]
    clear ho hp hb hN
    go_wp2
    go_loopw [6, 8] (fun pv iv wr => ∃ k : Nat, k ≤ N ∧ iv = .int .i64 (k : Int) ∧ pv = .int .i64 ((a + pS a n k : Nat) : Int) ∧ PSl wr A a n ∧ Below w.heap.size w wr) (fun _ iv _ => N - (intOf iv).toNat)
    case atStart =>
      refine ⟨0, Nat.zero_le _, rfl, congrArg (Value.int .i64) ?_, HP2.out, HB2.out⟩
      have := HA.out
      unfold pS
      omega
    case round =>
      obtain ⟨k, hk, rfl, rfl, hp, hb⟩ := hrel
      have HP := hid hp
      have HB := hid hb
      clear hp hb
      by_cases hlt : k < N
      · have hkn : k < pN a n := by rw [HNe.out]; exact hlt
        obtain ⟨g, rfl, hg, c0, c1, c2⟩ := HP.out.at_ hkn
        obtain ⟨m1, m2, m3, m4, m5⟩ := p_more hkn
        have HF := hid (show 0 < k → pF a k = 0 from p_first)
        have HU := hid (show k + 1 < N → pT a n k = 256 from fun h => p_full (by rw [HNe.out]; exact h))
        have HM := hid m4
        have m6 : pI a k ≤ 1000000 := by omega
        have m7 : (pI a k : Int) * 256 + (pF a k : Int) = ((a + pS a n k : Nat) : Int) := by omega
        have m8 : a + pS a n k ≤ 1000000 := by omega
        clear m4 m5
        obtain ⟨F, hF⟩ : ∃ F, pF a k = F := ⟨_, rfl⟩
        obtain ⟨T, hT⟩ : ∃ T, pT a n k = T := ⟨_, rfl⟩
        obtain ⟨P, hP⟩ : ∃ P, a + pS a n k = P := ⟨_, rfl⟩
        have HR := hid (show a + pS a n (k + 1) = P + (T - F) from by have := HM.out; omega)
        rw [hF] at c1 m2 m7 HF
        rw [hT] at c2 m2 m3 HU
        rw [hP] at m7 m8 ⊢
        clear HM hF hT hP m1
        have hw1 : (¬ 0 < k) ∨ (0 < k ∧ F = 0) := (Decidable.em (0 < k)).symm.imp id fun h => ⟨h, HF.out h⟩
        have hw2 : (k + 1 < N ∧ T = 256) ∨ ¬ k + 1 < N := (Nat.lt_or_ge (k + 1) N).imp (fun h => ⟨h, HU.out h⟩) (by omega)
        clear HF HU
        rcases hw1 with hk0 | ⟨hk0, rfl⟩ <;> rcases hw2 with ⟨hk1, rfl⟩ | hk1
        all_goals
          go_wp2
          go_roundw
          case rel => exact ⟨k + 1, by omega, by go_num, congrArg (Value.int .i64) (by have := HR.out; omega), HP.out.on ((Below.refl _ _).alloc (Nat.le_refl _) _), HB.out.alloc HB.out.size _⟩
          case measure => simp [intOf]; omega
      · obtain rfl : k = N := by omega
        have hend := p_last a n
        have hz0 : (k = 0) = (n = 0) := by
          have h := HNe.out
          apply propext
          unfold pN at h
          split at h <;> omega
        have hz : ((k : Int) == 0) = ((n : Int) == 0) := by
          rw [Bool.eq_iff_iff, beq_iff_eq, beq_iff_eq]
          have : k = 0 ↔ n = 0 := by rw [hz0]
          omega
        rw [HNe.out] at hend
        clear hz0
        go_wp2_with fail
        refine (pieces_neg n _).mono ?_
        rintro e w3 ⟨rfl, rfl⟩
        go_wp2
        go_ret
        exact ⟨rfl, HB.out⟩
end Go.Proofs.Ytbgldblenlinjaa
