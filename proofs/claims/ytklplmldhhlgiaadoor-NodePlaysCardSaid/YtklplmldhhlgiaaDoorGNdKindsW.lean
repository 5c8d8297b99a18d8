/- NodeKinds, walked, over whatever keeps what package node has to keep. -/
import Derived.Test.YtklplmldhhlgiaaDoorGNdD
namespace Go.Proofs.YtklplmldhhlgiaaDoor
open Go.RowKit Go.Sort

theorem putL_last {L : List Nd} {x e : Nd} (h : ∀ y, y ∈ L → y.id < e.id) (hx : x.id = e.id) : putL (L ++ [x]) e = L ++ [e] := by
  have hl : lowN (L ++ [x]) e.id = L.length := lowN_at (by simp) (fun i y hi hy => by
    rw [List.getElem?_append_left hi] at hy
    exact h y (List.mem_of_getElem? hy)) (fun y hy => by
    rw [List.getElem?_append_right (Nat.le_refl _), Nat.sub_self] at hy
    simp at hy
    subst hy
    omega)
  have ha : isAtN (L ++ [x]) L.length e.id = true := by
    rw [isAtN_get (x := x) (by rw [List.getElem?_append_right (Nat.le_refl _), Nat.sub_self]; rfl)]
    simpa using hx
  unfold putL
  rw [hl, ha, if_pos rfl, List.take_left' rfl, List.drop_eq_nil_of_le (by simp)]
theorem putT_last {L : List Nd} {x e : Nd} {l : Int} (h : ∀ y, y ∈ L → y.id < e.id) (hx : x.id = e.id) (hl : l = e.id) : (fitsN e = true → putE ⟨L ++ [x], l⟩ e = 0 ∧ putT ⟨L ++ [x], l⟩ e = ⟨L ++ [e], l⟩) ∧ (fitsN e = false → putE ⟨L ++ [x], l⟩ e = 103 ∧ putT ⟨L ++ [x], l⟩ e = ⟨L ++ [x], l⟩) := by
  refine ⟨fun hf => ?_, fun hf => ?_⟩
  · have hi : isInN (L ++ [x]) e.id = true := by
      rw [← hx]
      exact (fndN_end (e := x) (fun y hy e2 => by have := h y hy; omega)).2.1
    have h0 : putE ⟨L ++ [x], l⟩ e = 0 := by
      unfold putE
      rw [if_pos hf, if_neg (by rintro ⟨h1, _⟩; rw [show (⟨L ++ [x], l⟩ : Tab).L = L ++ [x] from rfl, hi] at h1; cases h1)]
    refine ⟨h0, ?_⟩
    unfold putT
    rw [if_pos h0, show (⟨L ++ [x], l⟩ : Tab).L = L ++ [x] from rfl, putL_last h hx]
    congr 1
    show max l e.id = l
    omega
  · have h0 : putE ⟨L ++ [x], l⟩ e = 103 := by
      unfold putE
      rw [if_neg (by rw [hf]; decide)]
    refine ⟨h0, ?_⟩
    unfold putT
    rw [if_neg (by rw [h0]; decide)]
set_option linter.unusedSimpArgs false in
set_option maxRecDepth 100000 in
set_option maxHeartbeats 40000000 in
theorem nodeKinds_any {TR : World → Nat → Tab → (Nat → Prop) → Prop} (O : TabOk TR) (S : Nat → Addr) (z kd : Int) (s : Nam) (w : World) (hS : Sent w S) (hs : s.length ≤ maxLen) :
    Calls Tryd.prog 5 #[.int .i64 z, .int .i64 kd, encStr s] w (Yes w) := by
  have HS := hid hS
  unfold maxLen at hs
  clear hS
  obtain ⟨n, hn, hn1⟩ : ∃ n : Nat, z % 20 = (n : Int) ∧ n < 20 := ⟨(z % 20).toNat, by omega, by omega⟩
  have HX := hid hn
  have hsz : (⟨s.toArray⟩ : ByteArray).size = s.length := by show s.toArray.size = _; simp
  clear hn
  go_enter Tryd.func5, Tryd.ntmps5
  go_wp2_with fail
  refine (first15_any O S w HS.out).mono ?_
  rintro e w1 ⟨rfl, hb⟩
  have HB1 := hid hb
  clear hb
  by_cases h100 : 100 < s.length
  · go_wp2
    go_ret
    exact ⟨rfl, HB1.out⟩
  have hs1 : s.length ≤ 100 := by omega
  clear h100 hs
  go_wp2_with fail
  refine (number_any z 20 _ (by omega) (by omega)).mono ?_
  rw [HX.out]
  rintro e w2 ⟨rfl, rfl⟩
  have HT0 := hid (tk_zero O (ks := []) HB1.out (fun K h => by cases h))
  obtain ⟨g, hg⟩ : ∃ g, w1.heap.size = g := ⟨_, rfl⟩
  rw [hg] at HT0
  go_wp2
  clear hg
  go_loopw [9] (fun iv wr => ∃ (i : Nat) (T : Tab), i ≤ n ∧ iv = .int .i64 (i : Int) ∧ Hid (T.L.length = i ∧ T.last = (i : Int)) ∧ Hid (Tk TR w wr g T [])) (fun iv _ => n - (intOf iv).toNat)
  case atStart => exact ⟨0, ⟨[], 0⟩, Nat.zero_le _, rfl, hid ⟨rfl, rfl⟩, HT0⟩
  case round =>
    obtain ⟨i, T, hi, rfl, HTi, HT⟩ := hrel
    clear HT0
    by_cases hlt : i < n
    · have hin : (i : Int) < (n : Int) := by omega
      obtain ⟨r, hr, hr1⟩ : ∃ r : Nat, (i : Int) % 3 = (r : Int) ∧ r < 3 := ⟨i % 3, by omega, by omega⟩
      have hr2 : (i : Int).tmod 3 = (r : Int) := by rw [Int.tmod_eq_emod_of_nonneg (by omega)]; exact hr
      have hrw : IntKind.i64.wrap ((r : Int) + 1) = (r : Int) + 1 := by rw [IntKind.wrap_i64]; omega
      have hiw : IntKind.i64.wrap ((i : Int) + 1) = (i : Int) + 1 := by rw [IntKind.wrap_i64]; omega
      obtain ⟨a0, a1⟩ := newT_is (k := (r : Int) + 1) (HT.out.is O) (by unfold okK; simp; omega) (by rw [HTi.out.1]; omega) (by rw [HTi.out.2]; omega)
      go_wp2_with fail
      refine (tk_new O S ((r : Int) + 1) HS.out HT.out).mono ?_
      rw [a0, a1, if_pos rfl]
      rintro e w3 ⟨⟨v, rfl, hv⟩, hd⟩
      obtain rfl := hv.nil
      have R1 := hid hd
      have R2 := hid (show (T.L ++ [newN (T.last + 1) ((r : Int) + 1)]).length = i + 1 ∧ T.last + 1 = ((i + 1 : Nat) : Int) from ⟨by rw [List.length_append, HTi.out.1]; rfl, by rw [HTi.out.2]; rfl⟩)
      clear hv hd a0 a1 HT
      go_wp2
      go_roundw
      case rel => exact ⟨i + 1, _, by omega, by go_num, R2, R1⟩
      case measure => simp [intOf]; omega
    · obtain rfl : i = n := by omega
      clear hlt hi
      rcases hk : okK kd with _ | _
      · obtain ⟨a0, a1⟩ := newT_no (T := T) hk
        have hkw : kd < 1 ∨ (¬ kd < 1 ∧ 3 < kd) := by unfold okK at hk; simp at hk; omega
        go_wp2_with fail
        refine (tk_new O S kd HS.out HT.out).mono ?_
        rw [a0, a1, if_neg (by decide)]
        rintro e w3 ⟨⟨v, rfl, hv⟩, hd⟩
        have HV := hid hv
        have HD3 := hid hd
        have HK := hid hk
        clear hv hd a0 a1 hk HT
        rcases hkw with h1 | ⟨h1, h2⟩
        all_goals
          go_wp2_with fail
          refine (is_any S _ _ _ _ (HS.out.on HD3.out.below) HV.out).mono ?_
          rintro e w4 ⟨rfl, hb⟩
          have HD4 := hid (HD3.out.on (O.stays _ _) hb)
          clear hb
          go_wp2_with fail
          refine (tk_len O HD4.out).mono ?_
          rintro e w5 ⟨rfl, hd, _⟩
          have HB := hid hd.below
          have HL := hid HTi.out.1
          rw [HTi.out.1]
          clear hd
          go_wp2
          go_ret
          exact ⟨rfl, HB.out⟩
      · obtain ⟨a0, a1⟩ := newT_is (T := T) (k := kd) (HT.out.is O) hk (by rw [HTi.out.1]; omega) (by rw [HTi.out.2]; omega)
        have HId := hid (show ∀ y, y ∈ T.L → y.id < (i : Int) + 1 from fun y hy => by have := ((HT.out.is O).fit y hy).2; rw [HTi.out.2] at this; omega)
        rw [HTi.out.2] at a1
        have hkw : kd = 1 ∨ kd = 2 ∨ kd = 3 := by unfold okK at hk; simp at hk; omega
        have hiw : IntKind.i64.wrap ((i : Int) + 1) = (i : Int) + 1 := by rw [IntKind.wrap_i64]; omega
        clear hk
        rcases hkw with rfl | rfl | rfl
        · go_wp2_with fail
          refine (tk_new O S 1 HS.out HT.out).mono ?_
          rw [a0, a1, if_pos rfl, HTi.out.2]
          rintro e w3 ⟨⟨v, rfl, hv⟩, hd⟩
          obtain rfl := hv.nil
          rw [show newN ((i : Int) + 1) 1 = ⟨(i : Int) + 1, 1, 0, 0, [], 0⟩ from rfl] at hd
          have HD3 := hid hd
          clear hv hd a0 a1 HT
          obtain ⟨f1, f2, f3⟩ := fndN_end (L := T.L) (e := ⟨(i : Int) + 1, 1, 0, 0, [], 0⟩) (fun y hy e2 => by have := HId.out y hy; rw [e2] at this; exact absurd this (Int.lt_irrefl _))
          go_wp2_with fail
          refine (tk_get O ((i : Int) + 1) HD3.out ⟨by omega, by omega⟩).mono ?_
          rw [show (⟨T.L ++ [⟨(i : Int) + 1, 1, 0, 0, [], 0⟩], (i : Int) + 1⟩ : Tab).L = T.L ++ [⟨(i : Int) + 1, 1, 0, 0, [], 0⟩] from rfl, show isInN (T.L ++ [⟨(i : Int) + 1, 1, 0, 0, [], 0⟩]) ((i : Int) + 1) = true from f2, show fndN (T.L ++ [⟨(i : Int) + 1, 1, 0, 0, [], 0⟩]) ((i : Int) + 1) = T.L.length from f1]
          rintro e w4 ⟨⟨y, rfl, hy⟩, hb, hd⟩
          obtain rfl := hy _ f3
          have HD4 := hid hd
          clear hb hd hy f1 f2 f3
          rcases s with _ | ⟨a, tg⟩
          · have HD5 := hid (HD4.out.on (O.stays _ _) ((Below.refl _ _).alloc (Nat.le_refl _) (.cells #[.int .i64 ((i : Int) + 1), .int .i64 1, .int .i64 0, .int .i64 0, encStr [], .int .i64 0] 30)))
            obtain ⟨p1, p2⟩ := (putT_last (L := T.L) (x := ⟨(i : Int) + 1, 1, 0, 0, [], 0⟩) (e := ⟨(i : Int) + 1, 1, 0, 0, [], 0⟩) (l := (i : Int) + 1) HId.out rfl rfl).1 (by unfold fitsN; simp; try omega)
            go_wp2_with fail
            refine (tk_put O S ⟨(i : Int) + 1, 1, 0, 0, [], 0⟩ HS.out HD5.out ⟨by show _ ≤ (i : Int) + 1; omega, by show (i : Int) + 1 ≤ _; omega, by show _ ≤ (1 : Int); decide, by show (1 : Int) ≤ _; decide, by show _ ≤ (0 : Int); decide, by show (0 : Int) ≤ _; decide, by show _ ≤ (0 : Int); decide, by show (0 : Int) ≤ _; decide, by show ([] : Nam).length ≤ _; simp at hs1 ⊢; try omega, by show _ ≤ (0 : Int); decide, by show (0 : Int) ≤ _; decide⟩).mono ?_
            rw [p1, p2]
            rintro e w5 ⟨⟨v, rfl, hv⟩, hd⟩
            obtain rfl := hv.nil
            have HD6 := hid hd
            clear hv hd p1 p2 HD4 HD5
            obtain ⟨f1, f2, f3⟩ := fndN_end (L := T.L) (e := ⟨(i : Int) + 1, 1, 0, 0, [], 0⟩) (fun y hy e2 => by have := HId.out y hy; rw [e2] at this; exact absurd this (Int.lt_irrefl _))
            go_wp2_with fail
            refine (tk_get O ((i : Int) + 1) HD6.out ⟨by omega, by omega⟩).mono ?_
            rw [show (⟨T.L ++ [⟨(i : Int) + 1, 1, 0, 0, [], 0⟩], (i : Int) + 1⟩ : Tab).L = T.L ++ [⟨(i : Int) + 1, 1, 0, 0, [], 0⟩] from rfl, show isInN (T.L ++ [⟨(i : Int) + 1, 1, 0, 0, [], 0⟩]) ((i : Int) + 1) = true from f2, show fndN (T.L ++ [⟨(i : Int) + 1, 1, 0, 0, [], 0⟩]) ((i : Int) + 1) = T.L.length from f1]
            rintro e w6 ⟨⟨y, rfl, hy⟩, hb, hd⟩
            obtain rfl := hy _ f3
            have HB := hid hd.below
            clear hb hd hy f1 f2 f3 HD6
            go_wp2
            go_ret
            exact ⟨rfl, HB.out.alloc HB.out.size _⟩
          · have HD5 := hid (HD4.out.on (O.stays _ _) ((Below.refl _ _).alloc (Nat.le_refl _) (.cells #[.int .i64 ((i : Int) + 1), .int .i64 1, .int .i64 0, .int .i64 0, encStr (a :: tg), .int .i64 0] 30)))
            obtain ⟨p1, p2⟩ := (putT_last (L := T.L) (x := ⟨(i : Int) + 1, 1, 0, 0, [], 0⟩) (e := ⟨(i : Int) + 1, 1, 0, 0, (a :: tg), 0⟩) (l := (i : Int) + 1) HId.out rfl rfl).2 (by unfold fitsN; simp; try omega)
            go_wp2_with fail
            refine (tk_put O S ⟨(i : Int) + 1, 1, 0, 0, (a :: tg), 0⟩ HS.out HD5.out ⟨by show _ ≤ (i : Int) + 1; omega, by show (i : Int) + 1 ≤ _; omega, by show _ ≤ (1 : Int); decide, by show (1 : Int) ≤ _; decide, by show _ ≤ (0 : Int); decide, by show (0 : Int) ≤ _; decide, by show _ ≤ (0 : Int); decide, by show (0 : Int) ≤ _; decide, by show ((a :: tg) : Nam).length ≤ _; simp at hs1 ⊢; try omega, by show _ ≤ (0 : Int); decide, by show (0 : Int) ≤ _; decide⟩).mono ?_
            rw [p1, p2]
            rintro e w5 ⟨⟨v, rfl, hv⟩, hd⟩
            obtain ⟨j, hj, hj2, rfl⟩ := hv.one (by decide)
            clear hj hj2
            have HD6 := hid hd
            clear hv hd p1 p2 HD4 HD5
            obtain ⟨f1, f2, f3⟩ := fndN_end (L := T.L) (e := ⟨(i : Int) + 1, 1, 0, 0, [], 0⟩) (fun y hy e2 => by have := HId.out y hy; rw [e2] at this; exact absurd this (Int.lt_irrefl _))
            go_wp2_with fail
            refine (tk_get O ((i : Int) + 1) HD6.out ⟨by omega, by omega⟩).mono ?_
            rw [show (⟨T.L ++ [⟨(i : Int) + 1, 1, 0, 0, [], 0⟩], (i : Int) + 1⟩ : Tab).L = T.L ++ [⟨(i : Int) + 1, 1, 0, 0, [], 0⟩] from rfl, show isInN (T.L ++ [⟨(i : Int) + 1, 1, 0, 0, [], 0⟩]) ((i : Int) + 1) = true from f2, show fndN (T.L ++ [⟨(i : Int) + 1, 1, 0, 0, [], 0⟩]) ((i : Int) + 1) = T.L.length from f1]
            rintro e w6 ⟨⟨y, rfl, hy⟩, hb, hd⟩
            obtain rfl := hy _ f3
            have HB := hid hd.below
            clear hb hd hy f1 f2 f3 HD6
            go_wp2
            go_ret
            exact ⟨rfl, HB.out.alloc HB.out.size _⟩
        · go_wp2_with fail
          refine (tk_new O S 2 HS.out HT.out).mono ?_
          rw [a0, a1, if_pos rfl, HTi.out.2]
          rintro e w3 ⟨⟨v, rfl, hv⟩, hd⟩
          obtain rfl := hv.nil
          rw [show newN ((i : Int) + 1) 2 = ⟨(i : Int) + 1, 2, 0, 0, [], 1⟩ from rfl] at hd
          have HD3 := hid hd
          clear hv hd a0 a1 HT
          obtain ⟨f1, f2, f3⟩ := fndN_end (L := T.L) (e := ⟨(i : Int) + 1, 2, 0, 0, [], 1⟩) (fun y hy e2 => by have := HId.out y hy; rw [e2] at this; exact absurd this (Int.lt_irrefl _))
          go_wp2_with fail
          refine (tk_get O ((i : Int) + 1) HD3.out ⟨by omega, by omega⟩).mono ?_
          rw [show (⟨T.L ++ [⟨(i : Int) + 1, 2, 0, 0, [], 1⟩], (i : Int) + 1⟩ : Tab).L = T.L ++ [⟨(i : Int) + 1, 2, 0, 0, [], 1⟩] from rfl, show isInN (T.L ++ [⟨(i : Int) + 1, 2, 0, 0, [], 1⟩]) ((i : Int) + 1) = true from f2, show fndN (T.L ++ [⟨(i : Int) + 1, 2, 0, 0, [], 1⟩]) ((i : Int) + 1) = T.L.length from f1]
          rintro e w4 ⟨⟨y, rfl, hy⟩, hb, hd⟩
          obtain rfl := hy _ f3
          have HD4 := hid hd
          clear hb hd hy f1 f2 f3
          rcases s with _ | ⟨a, tg⟩
          · have HD5 := hid (HD4.out.on (O.stays _ _) ((Below.refl _ _).alloc (Nat.le_refl _) (.cells #[.int .i64 ((i : Int) + 1), .int .i64 2, .int .i64 0, .int .i64 0, encStr [], .int .i64 1] 30)))
            obtain ⟨p1, p2⟩ := (putT_last (L := T.L) (x := ⟨(i : Int) + 1, 2, 0, 0, [], 1⟩) (e := ⟨(i : Int) + 1, 2, 0, 0, [], 1⟩) (l := (i : Int) + 1) HId.out rfl rfl).1 (by unfold fitsN; simp; try omega)
            go_wp2_with fail
            refine (tk_put O S ⟨(i : Int) + 1, 2, 0, 0, [], 1⟩ HS.out HD5.out ⟨by show _ ≤ (i : Int) + 1; omega, by show (i : Int) + 1 ≤ _; omega, by show _ ≤ (2 : Int); decide, by show (2 : Int) ≤ _; decide, by show _ ≤ (0 : Int); decide, by show (0 : Int) ≤ _; decide, by show _ ≤ (0 : Int); decide, by show (0 : Int) ≤ _; decide, by show ([] : Nam).length ≤ _; simp at hs1 ⊢; try omega, by show _ ≤ (1 : Int); decide, by show (1 : Int) ≤ _; decide⟩).mono ?_
            rw [p1, p2]
            rintro e w5 ⟨⟨v, rfl, hv⟩, hd⟩
            obtain rfl := hv.nil
            have HD6 := hid hd
            clear hv hd p1 p2 HD4 HD5
            obtain ⟨f1, f2, f3⟩ := fndN_end (L := T.L) (e := ⟨(i : Int) + 1, 2, 0, 0, [], 1⟩) (fun y hy e2 => by have := HId.out y hy; rw [e2] at this; exact absurd this (Int.lt_irrefl _))
            go_wp2_with fail
            refine (tk_get O ((i : Int) + 1) HD6.out ⟨by omega, by omega⟩).mono ?_
            rw [show (⟨T.L ++ [⟨(i : Int) + 1, 2, 0, 0, [], 1⟩], (i : Int) + 1⟩ : Tab).L = T.L ++ [⟨(i : Int) + 1, 2, 0, 0, [], 1⟩] from rfl, show isInN (T.L ++ [⟨(i : Int) + 1, 2, 0, 0, [], 1⟩]) ((i : Int) + 1) = true from f2, show fndN (T.L ++ [⟨(i : Int) + 1, 2, 0, 0, [], 1⟩]) ((i : Int) + 1) = T.L.length from f1]
            rintro e w6 ⟨⟨y, rfl, hy⟩, hb, hd⟩
            obtain rfl := hy _ f3
            have HB := hid hd.below
            clear hb hd hy f1 f2 f3 HD6
            go_wp2
            go_ret
            exact ⟨rfl, HB.out.alloc HB.out.size _⟩
          · have HD5 := hid (HD4.out.on (O.stays _ _) ((Below.refl _ _).alloc (Nat.le_refl _) (.cells #[.int .i64 ((i : Int) + 1), .int .i64 2, .int .i64 0, .int .i64 0, encStr (a :: tg), .int .i64 1] 30)))
            obtain ⟨p1, p2⟩ := (putT_last (L := T.L) (x := ⟨(i : Int) + 1, 2, 0, 0, [], 1⟩) (e := ⟨(i : Int) + 1, 2, 0, 0, (a :: tg), 1⟩) (l := (i : Int) + 1) HId.out rfl rfl).2 (by unfold fitsN; simp; try omega)
            go_wp2_with fail
            refine (tk_put O S ⟨(i : Int) + 1, 2, 0, 0, (a :: tg), 1⟩ HS.out HD5.out ⟨by show _ ≤ (i : Int) + 1; omega, by show (i : Int) + 1 ≤ _; omega, by show _ ≤ (2 : Int); decide, by show (2 : Int) ≤ _; decide, by show _ ≤ (0 : Int); decide, by show (0 : Int) ≤ _; decide, by show _ ≤ (0 : Int); decide, by show (0 : Int) ≤ _; decide, by show ((a :: tg) : Nam).length ≤ _; simp at hs1 ⊢; try omega, by show _ ≤ (1 : Int); decide, by show (1 : Int) ≤ _; decide⟩).mono ?_
            rw [p1, p2]
            rintro e w5 ⟨⟨v, rfl, hv⟩, hd⟩
            obtain ⟨j, hj, hj2, rfl⟩ := hv.one (by decide)
            clear hj hj2
            have HD6 := hid hd
            clear hv hd p1 p2 HD4 HD5
            obtain ⟨f1, f2, f3⟩ := fndN_end (L := T.L) (e := ⟨(i : Int) + 1, 2, 0, 0, [], 1⟩) (fun y hy e2 => by have := HId.out y hy; rw [e2] at this; exact absurd this (Int.lt_irrefl _))
            go_wp2_with fail
            refine (tk_get O ((i : Int) + 1) HD6.out ⟨by omega, by omega⟩).mono ?_
            rw [show (⟨T.L ++ [⟨(i : Int) + 1, 2, 0, 0, [], 1⟩], (i : Int) + 1⟩ : Tab).L = T.L ++ [⟨(i : Int) + 1, 2, 0, 0, [], 1⟩] from rfl, show isInN (T.L ++ [⟨(i : Int) + 1, 2, 0, 0, [], 1⟩]) ((i : Int) + 1) = true from f2, show fndN (T.L ++ [⟨(i : Int) + 1, 2, 0, 0, [], 1⟩]) ((i : Int) + 1) = T.L.length from f1]
            rintro e w6 ⟨⟨y, rfl, hy⟩, hb, hd⟩
            obtain rfl := hy _ f3
            have HB := hid hd.below
            clear hb hd hy f1 f2 f3 HD6
            go_wp2
            go_ret
            exact ⟨rfl, HB.out.alloc HB.out.size _⟩
        · go_wp2_with fail
          refine (tk_new O S 3 HS.out HT.out).mono ?_
          rw [a0, a1, if_pos rfl, HTi.out.2]
          rintro e w3 ⟨⟨v, rfl, hv⟩, hd⟩
          obtain rfl := hv.nil
          rw [show newN ((i : Int) + 1) 3 = ⟨(i : Int) + 1, 3, 0, 0, [47], 0⟩ from rfl] at hd
          have HD3 := hid hd
          clear hv hd a0 a1 HT
          obtain ⟨f1, f2, f3⟩ := fndN_end (L := T.L) (e := ⟨(i : Int) + 1, 3, 0, 0, [47], 0⟩) (fun y hy e2 => by have := HId.out y hy; rw [e2] at this; exact absurd this (Int.lt_irrefl _))
          go_wp2_with fail
          refine (tk_get O ((i : Int) + 1) HD3.out ⟨by omega, by omega⟩).mono ?_
          rw [show (⟨T.L ++ [⟨(i : Int) + 1, 3, 0, 0, [47], 0⟩], (i : Int) + 1⟩ : Tab).L = T.L ++ [⟨(i : Int) + 1, 3, 0, 0, [47], 0⟩] from rfl, show isInN (T.L ++ [⟨(i : Int) + 1, 3, 0, 0, [47], 0⟩]) ((i : Int) + 1) = true from f2, show fndN (T.L ++ [⟨(i : Int) + 1, 3, 0, 0, [47], 0⟩]) ((i : Int) + 1) = T.L.length from f1]
          rintro e w4 ⟨⟨y, rfl, hy⟩, hb, hd⟩
          obtain rfl := hy _ f3
          have HD4 := hid hd
          clear hb hd hy f1 f2 f3
          rcases s with _ | ⟨a, tg⟩
          · have HD5 := hid (HD4.out.on (O.stays _ _) ((Below.refl _ _).alloc (Nat.le_refl _) (.cells #[.int .i64 ((i : Int) + 1), .int .i64 3, .int .i64 0, .int .i64 0, encStr [], .int .i64 0] 30)))
            obtain ⟨p1, p2⟩ := (putT_last (L := T.L) (x := ⟨(i : Int) + 1, 3, 0, 0, [47], 0⟩) (e := ⟨(i : Int) + 1, 3, 0, 0, [], 0⟩) (l := (i : Int) + 1) HId.out rfl rfl).2 (by unfold fitsN; simp; try omega)
            go_wp2_with fail
            refine (tk_put O S ⟨(i : Int) + 1, 3, 0, 0, [], 0⟩ HS.out HD5.out ⟨by show _ ≤ (i : Int) + 1; omega, by show (i : Int) + 1 ≤ _; omega, by show _ ≤ (3 : Int); decide, by show (3 : Int) ≤ _; decide, by show _ ≤ (0 : Int); decide, by show (0 : Int) ≤ _; decide, by show _ ≤ (0 : Int); decide, by show (0 : Int) ≤ _; decide, by show ([] : Nam).length ≤ _; simp at hs1 ⊢; try omega, by show _ ≤ (0 : Int); decide, by show (0 : Int) ≤ _; decide⟩).mono ?_
            rw [p1, p2]
            rintro e w5 ⟨⟨v, rfl, hv⟩, hd⟩
            obtain ⟨j, hj, hj2, rfl⟩ := hv.one (by decide)
            clear hj hj2
            have HD6 := hid hd
            clear hv hd p1 p2 HD4 HD5
            obtain ⟨f1, f2, f3⟩ := fndN_end (L := T.L) (e := ⟨(i : Int) + 1, 3, 0, 0, [47], 0⟩) (fun y hy e2 => by have := HId.out y hy; rw [e2] at this; exact absurd this (Int.lt_irrefl _))
            go_wp2_with fail
            refine (tk_get O ((i : Int) + 1) HD6.out ⟨by omega, by omega⟩).mono ?_
            rw [show (⟨T.L ++ [⟨(i : Int) + 1, 3, 0, 0, [47], 0⟩], (i : Int) + 1⟩ : Tab).L = T.L ++ [⟨(i : Int) + 1, 3, 0, 0, [47], 0⟩] from rfl, show isInN (T.L ++ [⟨(i : Int) + 1, 3, 0, 0, [47], 0⟩]) ((i : Int) + 1) = true from f2, show fndN (T.L ++ [⟨(i : Int) + 1, 3, 0, 0, [47], 0⟩]) ((i : Int) + 1) = T.L.length from f1]
            rintro e w6 ⟨⟨y, rfl, hy⟩, hb, hd⟩
            obtain rfl := hy _ f3
            have HB := hid hd.below
            clear hb hd hy f1 f2 f3 HD6
            go_wp2
            go_ret
            exact ⟨rfl, HB.out.alloc HB.out.size _⟩
          · by_cases hm : (tg.length : Int) + 1 ≤ 88
            · have HD5 := hid (HD4.out.on (O.stays _ _) ((Below.refl _ _).alloc (Nat.le_refl _) (.cells #[.int .i64 ((i : Int) + 1), .int .i64 3, .int .i64 0, .int .i64 0, encStr (a :: tg), .int .i64 0] 30)))
              obtain ⟨p1, p2⟩ := (putT_last (L := T.L) (x := ⟨(i : Int) + 1, 3, 0, 0, [47], 0⟩) (e := ⟨(i : Int) + 1, 3, 0, 0, (a :: tg), 0⟩) (l := (i : Int) + 1) HId.out rfl rfl).1 (by unfold fitsN; simp; try omega)
              go_wp2_with fail
              refine (tk_put O S ⟨(i : Int) + 1, 3, 0, 0, (a :: tg), 0⟩ HS.out HD5.out ⟨by show _ ≤ (i : Int) + 1; omega, by show (i : Int) + 1 ≤ _; omega, by show _ ≤ (3 : Int); decide, by show (3 : Int) ≤ _; decide, by show _ ≤ (0 : Int); decide, by show (0 : Int) ≤ _; decide, by show _ ≤ (0 : Int); decide, by show (0 : Int) ≤ _; decide, by show ((a :: tg) : Nam).length ≤ _; simp at hs1 ⊢; try omega, by show _ ≤ (0 : Int); decide, by show (0 : Int) ≤ _; decide⟩).mono ?_
              rw [p1, p2]
              rintro e w5 ⟨⟨v, rfl, hv⟩, hd⟩
              obtain rfl := hv.nil
              have HD6 := hid hd
              clear hv hd p1 p2 HD4 HD5
              obtain ⟨f1, f2, f3⟩ := fndN_end (L := T.L) (e := ⟨(i : Int) + 1, 3, 0, 0, (a :: tg), 0⟩) (fun y hy e2 => by have := HId.out y hy; rw [e2] at this; exact absurd this (Int.lt_irrefl _))
              go_wp2_with fail
              refine (tk_get O ((i : Int) + 1) HD6.out ⟨by omega, by omega⟩).mono ?_
              rw [show (⟨T.L ++ [⟨(i : Int) + 1, 3, 0, 0, (a :: tg), 0⟩], (i : Int) + 1⟩ : Tab).L = T.L ++ [⟨(i : Int) + 1, 3, 0, 0, (a :: tg), 0⟩] from rfl, show isInN (T.L ++ [⟨(i : Int) + 1, 3, 0, 0, (a :: tg), 0⟩]) ((i : Int) + 1) = true from f2, show fndN (T.L ++ [⟨(i : Int) + 1, 3, 0, 0, (a :: tg), 0⟩]) ((i : Int) + 1) = T.L.length from f1]
              rintro e w6 ⟨⟨y, rfl, hy⟩, hb, hd⟩
              obtain rfl := hy _ f3
              have HB := hid hd.below
              clear hb hd hy f1 f2 f3 HD6
              go_wp2
              go_ret
              exact ⟨rfl, HB.out.alloc HB.out.size _⟩
            · have HD5 := hid (HD4.out.on (O.stays _ _) ((Below.refl _ _).alloc (Nat.le_refl _) (.cells #[.int .i64 ((i : Int) + 1), .int .i64 3, .int .i64 0, .int .i64 0, encStr (a :: tg), .int .i64 0] 30)))
              obtain ⟨p1, p2⟩ := (putT_last (L := T.L) (x := ⟨(i : Int) + 1, 3, 0, 0, [47], 0⟩) (e := ⟨(i : Int) + 1, 3, 0, 0, (a :: tg), 0⟩) (l := (i : Int) + 1) HId.out rfl rfl).2 (by unfold fitsN; simp; try omega)
              go_wp2_with fail
              refine (tk_put O S ⟨(i : Int) + 1, 3, 0, 0, (a :: tg), 0⟩ HS.out HD5.out ⟨by show _ ≤ (i : Int) + 1; omega, by show (i : Int) + 1 ≤ _; omega, by show _ ≤ (3 : Int); decide, by show (3 : Int) ≤ _; decide, by show _ ≤ (0 : Int); decide, by show (0 : Int) ≤ _; decide, by show _ ≤ (0 : Int); decide, by show (0 : Int) ≤ _; decide, by show ((a :: tg) : Nam).length ≤ _; simp at hs1 ⊢; try omega, by show _ ≤ (0 : Int); decide, by show (0 : Int) ≤ _; decide⟩).mono ?_
              rw [p1, p2]
              rintro e w5 ⟨⟨v, rfl, hv⟩, hd⟩
              obtain ⟨j, hj, hj2, rfl⟩ := hv.one (by decide)
              clear hj hj2
              have HD6 := hid hd
              clear hv hd p1 p2 HD4 HD5
              obtain ⟨f1, f2, f3⟩ := fndN_end (L := T.L) (e := ⟨(i : Int) + 1, 3, 0, 0, [47], 0⟩) (fun y hy e2 => by have := HId.out y hy; rw [e2] at this; exact absurd this (Int.lt_irrefl _))
              go_wp2_with fail
              refine (tk_get O ((i : Int) + 1) HD6.out ⟨by omega, by omega⟩).mono ?_
              rw [show (⟨T.L ++ [⟨(i : Int) + 1, 3, 0, 0, [47], 0⟩], (i : Int) + 1⟩ : Tab).L = T.L ++ [⟨(i : Int) + 1, 3, 0, 0, [47], 0⟩] from rfl, show isInN (T.L ++ [⟨(i : Int) + 1, 3, 0, 0, [47], 0⟩]) ((i : Int) + 1) = true from f2, show fndN (T.L ++ [⟨(i : Int) + 1, 3, 0, 0, [47], 0⟩]) ((i : Int) + 1) = T.L.length from f1]
              rintro e w6 ⟨⟨y, rfl, hy⟩, hb, hd⟩
              obtain rfl := hy _ f3
              have HB := hid hd.below
              clear hb hd hy f1 f2 f3 HD6
              go_wp2
              go_ret
              exact ⟨rfl, HB.out.alloc HB.out.size _⟩
end Go.Proofs.YtklplmldhhlgiaaDoor
