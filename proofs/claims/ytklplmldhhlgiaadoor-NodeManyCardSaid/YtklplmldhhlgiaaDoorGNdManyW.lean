/- NodeMany, walked, over whatever keeps what package node has to keep. -/
import Derived.Test.YtklplmldhhlgiaaDoorGNdD
namespace Go.Proofs.YtklplmldhhlgiaaDoor
open Go.RowKit Go.Sort

set_option linter.unusedSimpArgs false in
set_option maxRecDepth 100000 in
set_option maxHeartbeats 8000000 in
theorem nodeMany_any {TR : World → Nat → Tab → (Nat → Prop) → Prop} (O : TabOk TR) (S : Nat → Addr) (x : Int) (w : World) (hS : Sent w S) :
    Calls Tryd.prog 4 #[.int .i64 x] w (Yes w) := by
  have HS := hid hS
  clear hS
  obtain ⟨n, hn, hn1⟩ : ∃ n : Nat, x % 600 = (n : Int) ∧ n < 600 := ⟨(x % 600).toNat, by omega, by omega⟩
  have HX := hid hn
  clear hn
  go_enter Tryd.func4, Tryd.ntmps4
  go_wp2_with fail
  refine (first15_any O S w HS.out).mono ?_
  rintro e w1 ⟨rfl, hb⟩
  have HB1 := hid hb
  clear hb
  go_wp2_with fail
  refine (number_any x 600 _ (by omega) (by omega)).mono ?_
  rw [HX.out]
  rintro e w2 ⟨rfl, rfl⟩
  have HT0 := hid (tk_zero O (ks := []) HB1.out (fun K h => by cases h))
  obtain ⟨g, hg⟩ : ∃ g, w1.heap.size = g := ⟨_, rfl⟩
  rw [hg] at HT0
  go_wp2
  clear hg
  go_loopw [5] (fun iv wr => ∃ i : Nat, i ≤ n ∧ iv = .int .i64 ((i : Int) + 1) ∧ Hid (Tk TR w wr g ⟨mkL (min i 512), ((min i 512 : Nat) : Int)⟩ [])) (fun iv _ => n + 1 - (intOf iv).toNat)
  case atStart => exact ⟨0, Nat.zero_le _, rfl, HT0⟩
  case round =>
    obtain ⟨i, hi, rfl, HT⟩ := hrel
    clear HT0
    by_cases hlt : i < n
    · have hin : (i : Int) + 1 ≤ (n : Int) := by omega
      have hiw : IntKind.i64.wrap ((i : Int) + 1 + 1) = (i : Int) + 1 + 1 := by rw [IntKind.wrap_i64]; omega
      go_wp2_with fail
      refine (tk_new O S 1 HS.out HT.out).mono ?_
      by_cases h5 : i < 512
      · have hm : min i 512 = i := by omega
        have hm2 : min (i + 1) 512 = i + 1 := by omega
        obtain ⟨a0, a1⟩ := newT_is (k := 1) (HT.out.is O) (by decide) (by rw [hm]; show (mkL i).length < 512; rw [mkL_len]; exact h5) (by rw [hm]; show (i : Int) < _; omega)
        rw [a0, a1, if_pos rfl]
        rintro e w3 ⟨⟨v, rfl, hv⟩, hd⟩
        obtain rfl := hv.nil
        have R1 := hid (show Tk TR w w3 g ⟨mkL (min (i + 1) 512), ((min (i + 1) 512 : Nat) : Int)⟩ [] from by
          rw [hm2, mkL_succ]
          rw [hm] at hd
          exact hd)
        have hlast : (⟨mkL (min i 512), ((min i 512 : Nat) : Int)⟩ : Tab).last = (i : Int) := by rw [hm]
        rw [hlast]
        have h6 : (i : Int) + 1 ≤ 512 := by omega
        clear hv hd a0 a1 hm hm2 hlast HT
        go_wp2
        go_roundw
        case rel => exact ⟨i + 1, by omega, by go_num, R1⟩
        case measure => simp [intOf]; omega
      · have hm : min i 512 = 512 := by omega
        have hm2 : min (i + 1) 512 = 512 := by omega
        obtain ⟨a0, a1⟩ := newT_full (T := ⟨mkL (min i 512), ((min i 512 : Nat) : Int)⟩) (k := 1) (by decide) (by show 512 ≤ (mkL _).length; rw [mkL_len]; omega)
        rw [a0, a1, if_neg (by decide)]
        rintro e w3 ⟨⟨v, rfl, hv⟩, hd⟩
        have HV := hid hv
        obtain ⟨j, hj, hj2, rfl⟩ := hv.one (by decide)
        have R1 := hid (show Tk TR w w3 g ⟨mkL (min (i + 1) 512), ((min (i + 1) 512 : Nat) : Int)⟩ [] from by
          rw [hm2]
          rw [hm] at hd
          exact hd)
        have h6 : ¬ (i : Int) + 1 ≤ 512 := by omega
        clear hv hd a0 a1 hm hm2 hj hj2 HT
        go_wp2_with fail
        refine (is_any S _ _ _ _ (HS.out.on R1.out.below) HV.out).mono ?_
        rintro e w4 ⟨rfl, hb⟩
        have R2 := hid (R1.out.on (O.stays _ _) hb)
        clear hb R1
        go_wp2
        go_roundw
        case rel => exact ⟨i + 1, by omega, by go_num, R2⟩
        case measure => simp [intOf]; omega
    · obtain rfl : i = n := by omega
      by_cases hi0 : i = 0
      · subst hi0
        go_wp2_with fail
        refine (tk_len O HT.out).mono ?_
        rintro e w3 ⟨rfl, hd, _⟩
        have HB := hid hd.below
        clear hd
        go_wp2
        go_ret
        exact ⟨rfl, HB.out⟩
      · obtain ⟨q, hq⟩ : ∃ q, min i 512 = q := ⟨_, rfl⟩
        rw [hq] at HT
        have hq1 : 1 ≤ q := by omega
        have hq2 : q ≤ 512 := by omega
        have hi1 : ¬ (i : Int) = 0 := by omega
        obtain ⟨m1, m2, m3, m4, m5⟩ := many1 hq1
        clear hi0
        go_wp2_with fail
        refine (tk_get O 1 HT.out ⟨by decide, by decide⟩).mono ?_
        rw [show (⟨mkL q, (q : Int)⟩ : Tab).L = mkL q from rfl, m2, m1]
        rintro e w3 ⟨⟨y, rfl, hy⟩, hb, hd⟩
        obtain rfl := hy _ m3
        rw [show newN 1 1 = ⟨1, 1, 0, 0, [], 0⟩ from rfl]
        have HD4 := hid (hd.on (O.stays _ _) ((Below.refl _ _).alloc (Nat.le_refl _) (.cells #[.int .i64 1, .int .i64 1, .int .i64 3, .int .i64 0, encStr [], .int .i64 0] 30)))
        clear hb hd hy m1 m2 m3 HT
        go_wp2_with fail
        refine (tk_put O S nd1 HS.out HD4.out ⟨by decide, by decide, by decide, by decide, by decide, by decide, by decide, by decide, by decide, by decide, by decide⟩).mono ?_
        rw [m4, m5]
        rintro e w4 ⟨⟨v, rfl, hv⟩, hd⟩
        obtain rfl := hv.nil
        have HD5 := hid hd
        clear hv hd m4 m5 HD4
        obtain ⟨n1, n2⟩ := many2 hq1 hq2
        have HQ := hid (show (mkL q).length = q from mkL_len q)
        go_wp2_with fail
        refine (tk_put O S nd2 HS.out HD5.out ⟨by decide, by decide, by decide, by decide, by decide, by decide, by decide, by decide, by decide, by decide, by decide⟩).mono ?_
        by_cases h5 : i < 512
        · obtain rfl : q = i := by omega
          obtain ⟨p1, p2⟩ := n1 h5
          rw [p1, p2]
          rintro e w5 ⟨⟨v, rfl, hv⟩, hd⟩
          obtain rfl := hv.nil
          have HD6 := hid hd
          have h6 : (q : Int) < 512 := by omega
          obtain ⟨d1, d2⟩ := many3 ((mkL q).drop 1 ++ [nd2]) 2000
          clear hv hd p1 p2 n1 n2 HD5 hq
          go_wp2_with fail
          refine (tk_del O 1 HD6.out ⟨by decide, by decide⟩).mono ?_
          rw [show (⟨nd1 :: ((mkL q).drop 1 ++ [nd2]), 2000⟩ : Tab).L = nd1 :: ((mkL q).drop 1 ++ [nd2]) from rfl, d1, d2]
          rintro e w6 ⟨rfl, hd⟩
          have HD7 := hid hd
          clear hd d1 d2 HD6
          obtain ⟨a0, a1⟩ := newT_is (k := 1) (HD7.out.is O) (by decide) (by show ((mkL q).drop 1 ++ [nd2]).length < 512; rw [List.length_append, List.length_drop, HQ.out]; simp; omega) (by show (2000 : Int) < _; decide)
          go_wp2_with fail
          refine (tk_new O S 1 HS.out HD7.out).mono ?_
          rw [a0, a1, if_pos rfl]
          rintro e w7 ⟨⟨v, rfl, hv⟩, hd⟩
          obtain rfl := hv.nil
          have HB := hid hd.below
          clear hv hd a0 a1 HD7
          have hmin : min (q : Int) 512 = (q : Int) := by omega
          have hqw : IntKind.i64.wrap ((q : Int) + 1) = (q : Int) + 1 := by rw [IntKind.wrap_i64]; omega
          go_wp2
          go_ret
          exact ⟨rfl, HB.out⟩
        · obtain rfl : q = 512 := by omega
          obtain ⟨p1, p2⟩ := n2 rfl
          rw [p1, p2]
          rintro e w5 ⟨⟨v, rfl, hv⟩, hd⟩
          obtain ⟨j, hj, hj2, rfl⟩ := hv.one (by decide)
          have HD6 := hid hd
          have h6 : ¬ (i : Int) < 512 := by omega
          obtain ⟨d1, d2⟩ := many3 ((mkL 512).drop 1) ((512 : Nat) : Int)
          clear hv hd p1 p2 n1 n2 HD5 hq hj hj2
          go_wp2_with fail
          refine (tk_del O 1 HD6.out ⟨by decide, by decide⟩).mono ?_
          rw [show (⟨nd1 :: (mkL 512).drop 1, ((512 : Nat) : Int)⟩ : Tab).L = nd1 :: (mkL 512).drop 1 from rfl, d1, d2]
          rintro e w6 ⟨rfl, hd⟩
          have HD7 := hid hd
          clear hd d1 d2 HD6
          obtain ⟨a0, a1⟩ := newT_is (k := 1) (HD7.out.is O) (by decide) (by show ((mkL 512).drop 1).length < 512; rw [List.length_drop, HQ.out]; decide) (by show ((512 : Nat) : Int) < _; decide)
          go_wp2_with fail
          refine (tk_new O S 1 HS.out HD7.out).mono ?_
          rw [a0, a1, if_pos rfl]
          rintro e w7 ⟨⟨v, rfl, hv⟩, hd⟩
          obtain rfl := hv.nil
          have HB := hid hd.below
          clear hv hd a0 a1 HD7
          rcases Nat.lt_or_ge 512 i with h8 | h8
          · have h9 : ¬ (i : Int) ≤ 512 := by omega
            go_wp2
            go_ret
            exact ⟨rfl, HB.out⟩
          · obtain rfl : i = 512 := by omega
            go_wp2
            go_ret
            exact ⟨rfl, HB.out⟩
end Go.Proofs.YtklplmldhhlgiaaDoor
