/- Put together out of 2 texts. The walk of KeepOrder. -/
import Derived.BigQuiet
import Derived.Test.YtaonhbmimaiiiaaGreatDoorGNac
import Derived.Test.YtaonhbmimaiiiaaGreatDoorGKal
import Derived.Test.YtaonhbmimaiiiaaGreatDoorGKam
import Derived.Test.YtaonhbmimaiiiaaGreatDoorGKbc
namespace Go.Proofs.YtaonhbmimaiiiaaGreatDoor
open Go.RowKit

/-- between two rounds -/
def KoAt (w0 : World) (kb st i : Nat) (wr : World) : Prop := ∃ F l, KIn st i l ∧ Kp wr w0.heap.size kb F l ∧ Below w0.heap.size w0 wr
theorem stp_le {s : Nat} (h : Stp s) : 1 ≤ s ∧ s ≤ 13 := by
  rcases h with rfl | rfl | rfl | rfl | rfl <;> omega
theorem steps_at {w : World} {g k : Nat} (h : Blk w g 3 #[.int .i64 1, .int .i64 3, .int .i64 7, .int .i64 11, .int .i64 13]) (hk : k < 5) : ∃ st : Nat, Stp st ∧ w.cell? ⟨g, k, none⟩ = some (.int .i64 (st : Int)) := by
  rcases k with _ | _ | _ | _ | _ | k
  · exact ⟨1, .inl rfl, by rw [Blk.cell h]; rfl⟩
  · exact ⟨3, .inr (.inl rfl), by rw [Blk.cell h]; rfl⟩
  · exact ⟨7, .inr (.inr (.inl rfl)), by rw [Blk.cell h]; rfl⟩
  · exact ⟨11, .inr (.inr (.inr (.inl rfl))), by rw [Blk.cell h]; rfl⟩
  · exact ⟨13, .inr (.inr (.inr (.inr rfl))), by rw [Blk.cell h]; rfl⟩
  · omega
section
variable {Real : World → Nat → DSt → (Nat → Prop) → Prop} {PR : World → Nat → Nat → Nat → Nat → (Nat → Prop) → Prop} {S : Nat → Addr}
set_option maxRecDepth 100000 in
set_option maxHeartbeats 16000000 in
theorem keepOrder_any (D : DevOk Real) (O : PairOk Real PR) (N0 S0 : Int) (w : World) (hS : Sent7 w S) : Calls Tryz.prog 10 #[.int .i64 N0, .int .i64 S0] w (Yes w) := by
  have HFi := hid (first8_any D O w hS)
  have HOp := hid (fun (w' : World) (hb : Below w.heap.size w w') => opened8_any D O 1500 w' (hS.on hb) (by omega) (by omega))
  clear D O hS
  obtain ⟨n, hn, hn1, hn40⟩ : ∃ n : Nat, N0 % 40 + 1 = (n : Int) ∧ 1 ≤ n ∧ n ≤ 40 := ⟨(N0 % 40 + 1).toNat, by omega, by omega, by omega⟩
  obtain ⟨k5, hk5, hk5l⟩ : ∃ k : Nat, S0 % 5 = (k : Int) ∧ k < 5 := ⟨(S0 % 5).toNat, by omega, by omega⟩
  have HN := hid hn
  have HK5 := hid hk5
  have hN40 : (0 : Int) ≤ N0 % 40 := by omega
  have hN41 : N0 % 40 < 40 := by omega
  clear hn hk5
  go_enter Tryz.func10, Tryz.ntmps10
  go_wp2_with fail
  refine HFi.out.mono ?_
  rintro e w1 ⟨rfl, hb1⟩
  have HB1 := hid hb1
  clear hb1
  go_wp2_with fail
  refine (number_any N0 40 _ (by omega) (by omega)).mono ?_
  rintro e w2 ⟨rfl, rfl⟩
  have hq := HN.out
  obtain ⟨gs, hgs⟩ : ∃ gs, w1.heap.size = gs := ⟨_, rfl⟩
  obtain ⟨W2, hW2⟩ : ∃ W, w1.alloc (.cells #[.int .i64 1, .int .i64 3, .int .i64 7, .int .i64 11, .int .i64 13] 3) = W := ⟨_, rfl⟩
  have z1 : Below w1.heap.size w1 W2 := by rw [← hW2]; exact (Below.refl _ _).alloc (Nat.le_refl _) _
  have z2 : Blk W2 gs 3 #[.int .i64 1, .int .i64 3, .int .i64 7, .int .i64 11, .int .i64 13] := by rw [← hW2, ← hgs]; exact Blk.new w1 _ _
  obtain ⟨st, hst, hcs⟩ := steps_at z2 hk5l
  have HSt := hid hst
  have HB2 := hid (HB1.out.trans (z1.mono HB1.out.size))
  have hk6 : (k5 : Int) < 5 := by omega
  have HOp2 := hid (HOp.out W2 HB2.out)
  clear z1 z2 hst
  go_wp2_with fail
  refine (number_any S0 5 _ (by omega) (by omega)).mono ?_
  rw [HK5.out]
  rintro e w3 ⟨rfl, rfl⟩
  go_wp2_with fail
  refine HOp2.out.mono ?_
  rintro e w4 ⟨kb, g, d, T, rfl, hkp, hsh, hnT⟩
  have HK4 := hid (show KoAt w kb st 0 w4 from ⟨fun k => k = kb, [], kin_new st, { hkp with
    box := by
      obtain ⟨a, v, b, h1, h2, h3⟩ := hkp.box
      refine ⟨a, v, b, h1, ?_, h3⟩
      rcases h2.2 with ⟨rfl, _⟩ | ⟨g', cap, cu, rfl, hg, rest⟩
      · exact krow_nil _ _
      · exact ⟨h2.1, .inr ⟨g', cap, cu, rfl, by have := HB2.out.size; omega, rest⟩⟩
    lo := fun k hk => by have h1 := hkp.lo k hk; have := HB2.out.size; omega }, HB2.out.trans (hsh.below.mono HB2.out.size)⟩)
  clear hkp hsh hnT hcs hk6 hgs hW2 hN40 hN41 hq
  have hn40' : (n : Int) ≤ 40 := by omega
  go_wp2
  go_loopw [8] (fun iv wr => ∃ i : Nat, iv = .int .i64 (i : Int) ∧ i ≤ n ∧ KoAt w kb st i wr) (fun iv _ => n - (intOf iv).toNat)
  case atStart => exact ⟨0, rfl, Nat.zero_le _, HK4.out⟩
  case round =>
    obtain ⟨i, rfl, hin, hko⟩ := hrel
    by_cases hlt : i < n
    · obtain ⟨F, l, hki, hkp, hbw⟩ := hko
      have HKi := hid hki
      have HKp := hid hkp
      have HBw := hid hbw
      clear hki hkp hbw
      have hst2 := stp_le HSt.out
      obtain ⟨p, hp⟩ : ∃ p, i * st = p := ⟨_, rfl⟩
      have hp2 : (i : Int) * (st : Int) = (p : Int) := by rw [← hp]; simp
      have hp3 : p ≤ 520 := by rw [← hp]; exact Nat.mul_le_mul (by omega : i ≤ 40) hst2.2
      obtain ⟨j, hj⟩ : ∃ j, p % 41 = j := ⟨_, rfl⟩
      have hj2 : (p : Int) % 41 = (j : Int) := by omega
      have HJ := hid (show i * st % 41 = j from by rw [hp]; exact hj)
      have hj41 : j < 41 := by omega
      have HJ41 := hid hj41
      obtain ⟨a, ha⟩ : ∃ a, j / 6 = a := ⟨_, rfl⟩
      obtain ⟨b, hb⟩ : ∃ b, j % 6 = b := ⟨_, rfl⟩
      have ha2 : (j : Int) / 6 = (a : Int) := by omega
      have hb2 : (j : Int) % 6 = (b : Int) := by omega
      have ha7 : a ≤ 6 := by omega
      have hb7 : b < 6 := by omega
      have HKb := hid (show Go.Proofs.YtaonhbmimaiiiaaGreatDoor.kb j = if b = 0 then [((a : Nat) : Int)] else [((a : Nat) : Int), ((b : Nat) : Int)] from by unfold Go.Proofs.YtaonhbmimaiiiaaGreatDoor.kb; rw [ha, hb])
      have hst3 : (st : Int) ≤ 13 := by omega
      have hp4 : (p : Int) ≤ 520 := by omega
      have hj4 : (j : Int) ≤ 40 := by omega
      have ha4 : (a : Int) ≤ 6 := by omega
      have hb4 : (b : Int) < 6 := by omega
      have hi4 : (i : Int) < 40 := by omega
      have HLt := hid hlt
      have hin2 : (i : Int) < (n : Int) := by omega
      clear hp hp3 hj ha hb hj41 ha7 hb7 hst2 hin hlt
      go_upto_region 14 with fail
      rw [hj2]
      obtain ⟨kk, hkk⟩ : ∃ kk, wr.heap.size = kk := ⟨_, rfl⟩
      obtain ⟨W5, hW5⟩ : ∃ W, wr.alloc (.cells #[.int .u8 (a : Int), .int .u8 (b : Int)] 5) = W := ⟨_, rfl⟩
      have z1 : Below wr.heap.size wr W5 := by rw [← hW5]; exact (Below.refl _ _).alloc (Nat.le_refl _) _
      have z2 : Blk W5 kk 5 #[.int .u8 (a : Int), .int .u8 (b : Int)] := by rw [← hW5, ← hkk]; exact Blk.new wr _ _
      have HKp5 := hid (HKp.out.on z1)
      have HBw5 := hid (HBw.out.trans (z1.mono HBw.out.size))
      have HkF := hid (show ¬ F kk from fun h => by have := HKp.out.lt kk h; omega)
      have HZ2 := hid z2
      rw [hkk, hW5]
      clear z1 z2 hkk hW5
      by_cases hb0 : b = 0
      focus
        have g1 : ((b : Int) == 0) = true := by rw [beq_iff_eq]; omega
        have HSk := hid (show Sl W5 W5.heap.size (some ⟨kk, 0, none⟩) 1 2 (Go.Proofs.YtaonhbmimaiiiaaGreatDoor.kb j) from by
          rw [HKb.out, if_pos hb0]
          refine ⟨rfl, by omega, by unfold maxLen; omega, (fun h => by cases h), fun ad ha _ => ?_⟩
          cases ha
          refine ⟨HZ2.out.lt, fun q y hy => ?_⟩
          rw [add0, Blk.cell HZ2.out]
          rcases q with _ | q
          · simp at hy; subst hy; rfl
          · simp at hy)
        clear hb0
        go_upto_region 16 with fail
      rotate_left
      focus
        have g1 : ((b : Int) == 0) = false := by rw [beq_eq_false_iff_ne]; omega
        have HSk := hid (show Sl W5 W5.heap.size (some ⟨kk, 0, none⟩) 2 2 (Go.Proofs.YtaonhbmimaiiiaaGreatDoor.kb j) from by
          rw [HKb.out, if_neg hb0]
          refine ⟨rfl, by omega, by unfold maxLen; omega, (fun h => by cases h), fun ad ha _ => ?_⟩
          cases ha
          refine ⟨HZ2.out.lt, fun q y hy => ?_⟩
          rw [add0, Blk.cell HZ2.out]
          rcases q with _ | _ | q
          · simp at hy; subst hy; rfl
          · simp at hy; subst hy; rfl
          · simp at hy)
        clear hb0
        go_upto_region 16 with fail
      all_goals
        obtain ⟨W6, hW6⟩ : ∃ W, W5.alloc (.cells #[.int .u8 (i : Int)] 5) = W := ⟨_, rfl⟩
        have z1 : Below W5.heap.size W5 W6 := by rw [← hW6]; exact (Below.refl _ _).alloc (Nat.le_refl _) _
        have z2 : Sl W6 W6.heap.size (some ⟨W5.heap.size, 0, none⟩) 1 1 [(i : Int)] := by rw [← hW6]; exact sl_one W5 _
        have HKp6 := hid (HKp5.out.on z1)
        have HBw6 := hid (HBw5.out.trans (z1.mono HBw5.out.size))
        have HSk6 := hid (HSk.out.on z1)
        have HP1 := hid (put_any w.heap.size kb F l _ _ _ _ _ _ (Go.Proofs.YtaonhbmimaiiiaaGreatDoor.kb j) [(i : Int)] W6 HKp6.out HSk6.out z2 (kb_byt HJ41.out) (byt1 (by omega) (by omega)) (by omega) (by omega) (by omega) (by have := HKi.out.len; omega))
        clear z1 z2
        go_wp2_with fail
        refine HP1.out.mono ?_
        rintro e w7 ⟨p0, hlow, rfl, F7, hkp, ho⟩
        have HPu := hid (HKi.out.put HSt.out (by omega) (by rw [HJ.out]; exact hlow) (strOfNums [(i : Int)]))
        rw [HJ.out] at HPu
        have HKp7 := hid (show Kp w7 w.heap.size kb F7 (putR l p0 (kbs j, strOfNums [(i : Int)])) from hkp)
        have HBw7 := hid (HBw6.out.trans (ho.below HBw6.out.size (fun q hq => HKp6.out.lo q hq)))
        have HSk7 := hid (HSk6.out.only ho (fun ad ha _ hF => by cases ha; exact HkF.out hF))
        clear hlow hkp ho
        obtain ⟨W8, hW8⟩ : ∃ W, w7.alloc (.cells #[.int .u8 (j : Int)] 5) = W := ⟨_, rfl⟩
        have z1 : Below w7.heap.size w7 W8 := by rw [← hW8]; exact (Below.refl _ _).alloc (Nat.le_refl _) _
        have z2 : Sl W8 W8.heap.size (some ⟨w7.heap.size, 0, none⟩) 1 1 [(j : Int)] := by rw [← hW8]; exact sl_one w7 _
        have HKp8 := hid (HKp7.out.on z1)
        have HBw8 := hid (HBw7.out.trans (z1.mono HBw7.out.size))
        have HP2 := hid (put_any w.heap.size kb F7 _ _ _ _ _ _ _ (Go.Proofs.YtaonhbmimaiiiaaGreatDoor.kb j) [(j : Int)] W8 HKp8.out (HSk7.out.on z1) z2 (kb_byt HJ41.out) (byt1 (by omega) (by omega)) (by omega) (by omega) (by omega) (by have := HPu.out.2.len; omega))
        clear z1 z2
        go_wp2_with fail
        refine HP2.out.mono ?_
        rintro e w9 ⟨p1, hlow, rfl, F9, hkp, ho⟩
        have HPv := hid (HPu.out.2.put (q := p1) (by rw [HJ.out]; exact hlow) (strOfNums [(j : Int)]))
        rw [HJ.out] at HPv
        have HKo := hid (show KoAt w kb st (i + 1) w9 from ⟨F9, _, HPv.out.2, hkp, HBw8.out.trans (ho.below HBw8.out.size (fun q hq => HKp8.out.lo q hq))⟩)
        clear hlow hkp ho
        go_wp2
        go_roundw
        case rel => exact ⟨i + 1, by go_num, HLt.out, HKo.out⟩
        case measure => simp [intOf]; omega
    · have hin3 : i = n := by omega
      subst hin3
      obtain ⟨F, l, hki, hkp, hbw⟩ := hko
      have HKi := hid hki
      have HKp := hid hkp
      have HBw := hid hbw
      clear hki hkp hbw hlt hin
      have hii : decide (i < i) = false := by simp
      have HSc := hid (scan_any w.heap.size kb F l none none 0 0 0 0 0 i [] [] wr HKp.out (sl_nil wr) (sl_nil wr) (low_nil HKi.out.pos) (Or.inl ⟨rfl, HKi.out.len.symm⟩) (Nat.zero_le _))
      go_wp2_with fail
      refine HSc.out.mono ?_
      rintro e wa ⟨v, rfl, hp, hb⟩
      have hpl : PrsAt wa v l := by
        rw [List.drop_zero, Nat.sub_zero, List.take_of_length_le (by rw [HKi.out.len]; exact Nat.le_refl _)] at hp
        exact hp
      obtain ⟨A, m, c, rfl, hlm, hmc, hcm, _⟩ := hpl.form
      obtain rfl : m = i := by rw [← hlm]; exact HKi.out.len
      have HPl := hid hpl
      have HKpa := hid (HKp.out.on hb)
      have HBa := hid (HBw.out.trans (hb.mono HBw.out.size))
      clear hp hb hpl hlm hcm hii
      go_wp2
      go_loopw [12] (fun qv wx => ∃ q : Nat, qv = .int .i64 (q : Int) ∧ 1 ≤ q ∧ q ≤ m ∧ PrsAt wx (.slice A m c) l ∧ Below wa.heap.size wa wx) (fun qv _ => m - (intOf qv).toNat)
      case atStart => exact ⟨1, rfl, Nat.le_refl _, hn1, HPl.out, Below.refl _ _⟩
      case round =>
        obtain ⟨q, rfl, hq1, hqm, hpx, hbx⟩ := hrel
        have HPx := hid hpx
        have HBx := hid hbx
        clear hpx hbx
        by_cases hlt : q < m
        · obtain ⟨q1, hqq⟩ : ∃ q1, q - 1 = q1 := ⟨_, rfl⟩
          obtain ⟨_, _, _, he, _, _, _, hat⟩ := HPx.out.form
          cases he
          have hll := HKi.out.len
          obtain ⟨x, hx⟩ : ∃ x, l[q1]? = some x := ⟨_, List.getElem?_eq_getElem (by omega)⟩
          obtain ⟨y, hy⟩ : ∃ y, l[q]? = some y := ⟨_, List.getElem?_eq_getElem (by omega)⟩
          obtain ⟨g8, a1, k1, a2, k2, rfl, _, e0, _, s1, _⟩ := hat q1 x hx
          obtain ⟨g9, a3, k3, a4, k4, hge, _, e2, _, s3, _⟩ := hat q y hy
          obtain rfl : g8 = g9 := by injection hge with hge; injection hge
          obtain ⟨cut, hcut⟩ := part_of (HKi.out.ris.lt (by omega : q1 < q) hx hy)
          have HAh := hid (fun (W : World) (hb : Below wr.heap.size wr W) => ahead_any _ _ _ _ _ _ cut _ _ W (s1.on hb).sl (s3.on hb).sl hcut)
          obtain ⟨z1, hz1⟩ : ∃ z, x.1.size = z := ⟨_, rfl⟩
          obtain ⟨z2, hz2⟩ : ∃ z, y.1.size = z := ⟨_, rfl⟩
          rw [hz1] at e0
          rw [hz2] at e2
          rw [hz1, hz2] at HAh
          have g1 : (q : Int) < (m : Int) := by omega
          have g2 : (q1 : Int) < (m : Int) := by omega
          have g3 : IntKind.i64.wrap ((q : Int) - 1) = (q1 : Int) := by rw [IntKind.wrap_i64]; omega
          have g4 : (0 : Int) ≤ (q1 : Int) := by omega
          have g5 : (q : Int) - 1 = (q1 : Int) := by omega
          have HLt := hid hlt
          clear hat hx hy s1 s3 hcut hqq hz1 hz2 hll hge hlt
          go_wp2
          go_quiet ((go_at_call 46; exact Calls.quiet_of (HAh.out _ (below_drewN (Below.refl _ _) _))))
          go_wp2
          go_roundw
          case rel => exact ⟨q + 1, by go_num, by omega, HLt.out, HPx.out.on (below_drewN (Below.refl _ _) _), HBx.out.trans (below_drewN (Below.refl _ _) _)⟩
          case measure => simp [intOf]; omega
        · have hqm3 : q = m := by omega
          subst hqm3
          obtain ⟨hf, hhf⟩ : ∃ hf, q / 2 = hf := ⟨_, rfl⟩
          have hh2 : (q : Int) / 2 = (hf : Int) := by omega
          obtain ⟨_, _, _, he, _, _, _, hat⟩ := HPx.out.form
          cases he
          have hll := HKi.out.len
          obtain ⟨x, hx⟩ : ∃ x, l[hf]? = some x := ⟨_, List.getElem?_eq_getElem (by omega)⟩
          obtain ⟨g8, a1, k1, a2, k2, rfl, _, e0, _, s1, _⟩ := hat hf x hx
          have HKpx := hid (HKpa.out.on HBx.out)
          have HBwx := hid (HBa.out.trans (HBx.out.mono HBa.out.size))
          have HS1 := hid s1
          have hlow : Low l (strOfNums (str x.1)) hf := by rw [str_of]; exact low_at HKi.out.ris hx
          have HLow := hid hlow
          have hxs := HKi.out.pos x (List.mem_of_getElem? hx)
          have HSa := hid (scan_any w.heap.size kb F l none (some ⟨a1, 0, none⟩) 0 0 x.1.size k1 0 hf [] (str x.1) wr HKpx.out (sl_nil wr) s1.sl (low_nil HKi.out.pos) (Or.inr ⟨hxs, hlow⟩) (Nat.zero_le _))
          have HSb := hid (fun (wb : World) (hb : Below wr.heap.size wr wb) => scan_any w.heap.size kb F l (some ⟨a1, 0, none⟩) none x.1.size k1 0 0 hf q (str x.1) [] wb (HKpx.out.on hb) (s1.on hb).sl (sl_nil wb) hlow (Or.inl ⟨rfl, hll.symm⟩) (by omega))
          have HLa := hid (show ((l.drop 0).take (hf - 0)).length = hf from by rw [List.length_take, List.drop_zero]; omega)
          have HLb := hid (show ((l.drop hf).take (q - hf)).length = q - hf from by rw [List.length_take, List.length_drop]; omega)
          obtain ⟨z1, hz1⟩ : ∃ z, x.1.size = z := ⟨_, rfl⟩
          rw [hz1] at e0 HSa HSb
          obtain ⟨r, hr⟩ : ∃ r, q - hf = r := ⟨_, rfl⟩
          have g1 : (hf : Int) < (q : Int) := by omega
          have g2 : (q : Int) - (hf : Int) = (r : Int) := by omega
          have g3 : IntKind.i64.wrap ((q : Int) - (hf : Int)) = (r : Int) := by rw [IntKind.wrap_i64]; omega
          have g4 : decide (q < q) = false := by simp
          rw [hr] at HLb
          clear hat hx s1 hlow hxs hz1 hhf hlt hqm hq1
          go_wp2_with fail
          refine HSa.out.mono ?_
          rintro e wb ⟨va, rfl, hpa, hba⟩
          obtain ⟨Aa, na, ca, rfl, hna, _, _, _⟩ := hpa.form
          obtain rfl : na = hf := by rw [← hna]; exact HLa.out
          have e1 : wb.cell? ⟨g8, na * 2, none⟩ = some (.slice (some ⟨a1, 0, none⟩) z1 k1) := (hba.cell (by assumption)).trans e0
          have HSb2 := hid (HSb.out wb hba)
          have HKpb := hid (HKpx.out.on hba)
          have HBb := hid (HBwx.out.trans (hba.mono HBwx.out.size))
          have hll2 := HKi.out.len
          clear hpa hba hna
          go_wp2_with fail
          refine HSb2.out.mono ?_
          rintro e wc ⟨vb, rfl, hpb, hbb⟩
          obtain ⟨Ab, nb, cb, rfl, hnb, _, _, _⟩ := hpb.form
          obtain rfl : nb = r := by rw [← hnb, hr]; exact HLb.out
          have HKpc := hid (HKpb.out.on hbb)
          have HBc := hid (HBb.out.trans (hbb.mono HBb.out.size))
          clear hpb hbb hnb
          go_wp2_with fail
          refine (kpLen_any w.heap.size kb F l wc HKpc.out).mono ?_
          rw [hll2]
          rintro e wd ⟨rfl, hbd⟩
          have HBd := hid (HBc.out.trans (hbd.mono HBc.out.size))
          clear hbd
          have g5 : (q == q) = true := by simp
          have g6 : (na == na) = true := by simp
          have g7 : (nb == nb) = true := by simp
          go_wp2
          go_ret
          exact ⟨rfl, HBd.out⟩
end
end Go.Proofs.YtaonhbmimaiiiaaGreatDoor
namespace Go.Proofs.YtaonhbmimaiiiaaGreatDoor
open Go.ChangeShapes Go.WideShapes Go.ChangeAt Go.RowKit

theorem keepOrder_all (n s : Int) (w : World) (_ : (Lit.int .i64 n).wf = true) (_ : (Lit.int .i64 s).wf = true) (hL : laidMetH Tryz.prog laid8 w) :
    Calls Tryz.prog 10 #[.int .i64 n, .int .i64 s] w (Yes w) := by
  obtain ⟨S, hS⟩ := sent8_of_laid hL
  exact keepOrder_any dvOk (prOk dvOk) n s w (fun i hi => hS i (by
    simp only [List.mem_cons, List.not_mem_nil, or_false] at hi ⊢
    omega))
end Go.Proofs.YtaonhbmimaiiiaaGreatDoor
