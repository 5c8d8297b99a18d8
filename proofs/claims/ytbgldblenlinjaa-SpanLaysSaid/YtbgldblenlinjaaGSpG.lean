/- SpanSizes, walked. -/
import Derived.Test.YtbgldblenlinjaaGSpE
import Derived.Test.YtbgldblenlinjaaGSpD
namespace Go.Proofs.Ytbgldblenlinjaa
open Go.RowKit

theorem whole1 (N s : Nat) (w : World) (h0 : 0 < N) (h1 : 256 * N < s + 256) (h2 : s ≤ 256 * N) (hs : s ≤ 1000000) :
    Calls Try.prog 14 #[.agg #[.int .i64 ((N : Int) - 1), .int .i64 0, .int .i64 ((s : Int) - ((N : Int) - 1) * 256)], .int .i64 (s : Int)] w fun e w' => e = .returned (.bool true) ∧ Below w.heap.size w w' := by
  have h := whole_any (N - 1) 0 (s - 256 * (N - 1)) s w (by omega) hs (by omega)
  rw [show ((N - 1 : Nat) : Int) = (N : Int) - 1 by omega, show ((s - 256 * (N - 1) : Nat) : Int) = (s : Int) - ((N : Int) - 1) * 256 by omega] at h
  have e : decide (0 = 0 ∧ shr (N - 1) s ≤ s - 256 * (N - 1)) = true := by simp; unfold shr; omega
  rw [e] at h
  exact h
theorem whole2 (N s : Nat) (w : World) (h0 : 0 < N) (h1 : 256 * N < s + 256) (h2 : s ≤ 256 * N) (hs : s ≤ 1000000) :
    Calls Try.prog 14 #[.agg #[.int .i64 ((N : Int) - 1), .int .i64 0, .int .i64 ((s : Int) - ((N : Int) - 1) * 256 - 1)], .int .i64 (s : Int)] w fun e w' => e = .returned (.bool false) ∧ Below w.heap.size w w' := by
  have h := whole_any (N - 1) 0 (s - 256 * (N - 1) - 1) s w (by omega) hs (by omega)
  rw [show ((N - 1 : Nat) : Int) = (N : Int) - 1 by omega, show ((s - 256 * (N - 1) - 1 : Nat) : Int) = (s : Int) - ((N : Int) - 1) * 256 - 1 by omega] at h
  have e : decide (0 = 0 ∧ shr (N - 1) s ≤ s - 256 * (N - 1) - 1) = false := by simp; unfold shr; omega
  rw [e] at h
  exact h
theorem whole3 (N s : Nat) (w : World) (h0 : 0 < N) (h1 : 256 * N < s + 256) (hs : s ≤ 1000000) :
    Calls Try.prog 14 #[.agg #[.int .i64 ((N : Int) - 1), .int .i64 1, .int .i64 256], .int .i64 (s : Int)] w fun e w' => e = .returned (.bool false) ∧ Below w.heap.size w w' := by
  have h := whole_any (N - 1) 1 256 s w (by omega) hs (by omega)
  rw [show ((N - 1 : Nat) : Int) = (N : Int) - 1 by omega] at h
  exact h
set_option maxRecDepth 100000 in
set_option maxHeartbeats 8000000 in
theorem spanSizes_any (x y : Int) (A : Option Addr) (n c : Nat) (l : List Int) (w : World) (h : Sl w w.heap.size A n c l) :
    Calls Try.prog 5 #[.int .i64 x, .int .i64 y, .slice A n c] w (Yes w) := by
  have hmx : n ≤ 9223372036854775807 := by have := h.cap; have := h.max; unfold maxLen at this; omega
  have HS0 := hid h
  clear h
  go_enter Try.func5, Try.ntmps5
  go_wp2_with fail
  refine (first_any w).mono ?_
  rintro e w1 ⟨rfl, hb⟩
  have HB1 := hid hb
  have HS1 := hid (HS0.out.on hb)
  clear hb HS0
  by_cases h600 : 600 < n
  · go_wp2
    go_ret
    exact ⟨rfl, HB1.out⟩
  have hn6 : n ≤ 600 := by omega
  clear h600 hmx
  obtain ⟨s, hs, hs1⟩ : ∃ s : Nat, x % 20000 = (s : Int) ∧ s < 20000 := ⟨(x % 20000).toNat, by omega, by omega⟩
  obtain ⟨a, ha, ha1⟩ : ∃ a : Nat, y % 20000 = (a : Int) ∧ a < 20000 := ⟨(y % 20000).toNat, by omega, by omega⟩
  have HX := hid hs
  have HY := hid ha
  clear hs ha
  go_wp2_with fail
  refine (number_any x 20000 _ (by omega) (by omega)).mono ?_
  rintro e w2 ⟨rfl, rfl⟩
  rw [HX.out]
  go_wp2_with fail
  refine (number_any y 20000 _ (by omega) (by omega)).mono ?_
  rintro e w2 ⟨rfl, rfl⟩
  rw [HY.out]
  go_wp2_with fail
  refine (blocks_any s _ (by omega)).mono ?_
  rintro e w2 ⟨rfl, rfl⟩
  obtain ⟨N, hN⟩ : ∃ N, (s + 255) / 256 = N := ⟨_, rfl⟩
  have hN1 : 256 * N < s + 256 := by omega
  have hN2 : s ≤ 256 * N := by omega
  rw [hN]
  clear hN
  go_wp2_with fail
  refine (cut_any A n c l a s _ (by omega) (by omega) (by omega) HS1.out).mono ?_
  rintro e w2 hm
  obtain ⟨A2, c2, rfl, ho, hsl, hb⟩ := hm.out
  have HB2 := hid (HB1.out.trans (hb.mono HB1.out.size))
  have HC := hid hsl
  have HS2 := hid (HS1.out.on hb)
  have hlen : (l.take (s - a)).length = min (s - a) n := by rw [List.length_take, HS1.out.len]
  have HT := hid (show ∀ C, C = min (s - a) n → Sl w2 w2.heap.size A C c (l.take (s - a)) ∧ C ≤ n ∧ n ≤ c from fun C hC => by
    have e : l.take (s - a) = l.take C := by
      rcases Nat.le_total (s - a) n with h | h
      · rw [hC, Nat.min_eq_left h]
      · rw [hC, Nat.min_eq_right h, List.take_of_length_le (by rw [HS1.out.len]; exact h), List.take_of_length_le (by rw [HS1.out.len]; exact Nat.le_refl _)]
    rw [e]
    exact ⟨HS2.out.head (by omega), by omega, HS1.out.cap⟩)
  obtain ⟨C, hC⟩ : ∃ C, (l.take (s - a)).length = C := ⟨_, rfl⟩
  have HTC := hid (HT.out C (by omega))
  obtain ⟨_, hCn, hnc⟩ := HT.out C (by omega)
  have hC2 : C = min (s - a) n := by omega
  have hmax := HS1.out.max
  rw [hC] at HC ⊢
  clear hm ho hsl hb hlen HT hC
  have hways : (s ≤ a ∧ C = 0) ∨ (a < s ∧ n ≤ s - a ∧ C = n) ∨ (a < s ∧ s - a < n ∧ C = s - a) := by omega
  clear hC2
  rcases Nat.eq_zero_or_pos N with hN | hN
  · have hs0 : s = 0 := by omega
    have hC0 : C = 0 := by omega
    subst hN hs0 hC0
    clear hways
    go_wp2_with fail
    all_goals
      refine (same_any A2 A 0 c2 0 c _ _ _ _ w2 HC.out HTC.out.1).mono ?_
      rintro e w3 ⟨rfl, q, rfl⟩
      rw [same_self]
      go_wp2_with fail
      refine (blocks_neg _).mono ?_
      rintro e w4 ⟨rfl, rfl⟩
      go_wp2
      go_ret
      exact ⟨rfl, below_drewN HB2.out q⟩
  · have hN0 : ¬ (N : Int) = 0 := by omega
    rcases hways with ⟨h1, h2⟩ | ⟨h1, h2, h3⟩ | ⟨h1, h2, h3⟩
    · subst h2
      go_wp2_with fail
      all_goals
        refine (same_any A2 A 0 c2 0 c _ _ _ _ w2 HC.out HTC.out.1).mono ?_
        rintro e w3 ⟨rfl, q, rfl⟩
        rw [same_self]
        go_wp2_with fail
        refine (whole1 N s _ (by omega) (by omega) (by omega) (by omega)).mono ?_
        rintro e w4 ⟨rfl, hb⟩
        have HB4 := hid ((below_drewN HB2.out q).trans (hb.mono HB2.out.size))
        clear hb
        go_wp2_with fail
        refine (whole2 N s _ (by omega) (by omega) (by omega) (by omega)).mono ?_
        rintro e w5 ⟨rfl, hb⟩
        have HB5 := hid (HB4.out.trans (hb.mono HB4.out.size))
        clear hb
        go_wp2_with fail
        refine (whole3 N s _ (by omega) (by omega) (by omega)).mono ?_
        rintro e w6 ⟨rfl, hb⟩
        have HB6 := hid (HB5.out.trans (hb.mono HB5.out.size))
        clear hb
        go_wp2
        go_ret
        exact ⟨rfl, HB6.out⟩
    · subst h3
      go_wp2_with fail
      all_goals
        refine (same_any A2 A C c2 C c _ _ _ _ w2 HC.out HTC.out.1).mono ?_
        rintro e w3 ⟨rfl, q, rfl⟩
        rw [same_self]
        go_wp2_with fail
        refine (whole1 N s _ (by omega) (by omega) (by omega) (by omega)).mono ?_
        rintro e w4 ⟨rfl, hb⟩
        have HB4 := hid ((below_drewN HB2.out q).trans (hb.mono HB2.out.size))
        clear hb
        go_wp2_with fail
        refine (whole2 N s _ (by omega) (by omega) (by omega) (by omega)).mono ?_
        rintro e w5 ⟨rfl, hb⟩
        have HB5 := hid (HB4.out.trans (hb.mono HB4.out.size))
        clear hb
        go_wp2_with fail
        refine (whole3 N s _ (by omega) (by omega) (by omega)).mono ?_
        rintro e w6 ⟨rfl, hb⟩
        have HB6 := hid (HB5.out.trans (hb.mono HB5.out.size))
        clear hb
        go_wp2
        go_ret
        exact ⟨rfl, HB6.out⟩
    · subst h3
      go_wp2_with fail
      all_goals
        refine (same_any A2 A (s - a) c2 (s - a) c _ _ _ _ w2 HC.out HTC.out.1).mono ?_
        rintro e w3 ⟨rfl, q, rfl⟩
        rw [same_self]
        go_wp2_with fail
        refine (whole1 N s _ (by omega) (by omega) (by omega) (by omega)).mono ?_
        rintro e w4 ⟨rfl, hb⟩
        have HB4 := hid ((below_drewN HB2.out q).trans (hb.mono HB2.out.size))
        clear hb
        go_wp2_with fail
        refine (whole2 N s _ (by omega) (by omega) (by omega) (by omega)).mono ?_
        rintro e w5 ⟨rfl, hb⟩
        have HB5 := hid (HB4.out.trans (hb.mono HB4.out.size))
        clear hb
        go_wp2_with fail
        refine (whole3 N s _ (by omega) (by omega) (by omega)).mono ?_
        rintro e w6 ⟨rfl, hb⟩
        have HB6 := hid (HB5.out.trans (hb.mono HB5.out.size))
        clear hb
        go_wp2
        go_ret
        exact ⟨rfl, HB6.out⟩
end Go.Proofs.Ytbgldblenlinjaa
