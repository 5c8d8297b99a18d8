/- WireRows answers true: where the list or the text are longer than it asks, and where they are not. Conditions: the list reads as int64s; the errors lie in their variables, each a pointer of its own. -/
import Derived.Test.YtfggfdmjmebgfaaDoorV
namespace Go.Proofs.YtfggfdmjmebgfaaDoor
open Go.RowKit

set_option maxRecDepth 100000 in
set_option maxHeartbeats 2000000 in
theorem wireRows_far (A : Option Addr) (n c : Nat) (x : Int) (s : ByteArray) (w : World) (hn : n ≤ 9223372036854775807) (hs : s.size ≤ 9223372036854775807) (hfar : 20 < n ∨ 60 < s.size) :
    Calls Tryd.prog 6 #[.slice A n c, .string s, .int .i64 x] w (Yes w) := by
  rcases Nat.lt_or_ge 20 n with h | h
  all_goals
    first
      | have d0 : decide ((20 : Int) < n) = true := by simp; omega
      | (have d0 : decide ((20 : Int) < n) = false := by simp; omega
         have d1 : decide ((60 : Int) < s.size) = true := by simp; omega)
    clear hfar
    go_enter Tryd.func6, Tryd.ntmps6
    go_wp2_with fail
    refine (first_any w).mono ?_
    rintro e w1 ⟨rfl, hb⟩
    have HB := hid hb
    clear hb
    go_wp2
    go_ret
    exact ⟨rfl, HB.out⟩

/-- behind k numbers: the bytes, and where each ends -/
def Rows1 (w : World) (l : List Int) (k : Nat) (v u : Value) (wr : World) : Prop :=
  (∃ A m c, v = .slice A m c ∧ Sl wr wr.heap.size A m c (encs (l.take k))) ∧ OwnN wr w.heap.size u (endl l k) ∧ Below w.heap.size w wr

/-- ahead of the j-th reading: the reader stands at p -/
def Rows2 (w : World) (l : List Int) (s : ByteArray) (n K m g : Nat) (A : Option Addr) (c j p : Nat) (wr : World) : Prop :=
  j ≤ n + 1 ∧ p ≤ K ∧ (j ≤ n → p = pos l j) ∧ (j = n + 1 → p = m) ∧ Rdr wr g A K c ((row l s).take K) (p : Int) .nilIface ∧ Below w.heap.size w wr

set_option maxRecDepth 100000 in
set_option maxHeartbeats 8000000 in
theorem wireRows_near (A : Option Addr) (n c : Nat) (x : Int) (s : ByteArray) (l : List Int) (S : Nat → Addr) (w : World) (h : Sn w w.heap.size A n c l) (hw : Wide l) (hE : Sent w S)
    (hn : n ≤ 20) (hs : s.size ≤ 60) : Calls Tryd.prog 6 #[.slice A n c, .string s, .int .i64 x] w (Yes w) := by
  obtain ⟨i0, hi, hz0, hz1, hz2⟩ := info_parts Tryd.info3
  have d0 : decide ((20 : Int) < n) = false := by simp; omega
  have d1 : decide ((60 : Int) < s.size) = false := by simp; omega
  have HX := hid hE
  have HS := hid h
  have HW := hid hw
  clear h hE hw
  go_enter Tryd.func6, Tryd.ntmps6
  go_wp2_with fail
  refine (first_any w).mono ?_
  rintro e w1 ⟨rfl, hb⟩
  have HB1 := hid hb
  clear hb
  go_wp2_with fail
  go_loopw [8, 9, 10] (fun v u i wr => ∃ k : Nat, k ≤ n ∧ i = .int .i64 (k : Int) ∧ Rows1 w l k v u wr) (fun _ _ i _ => n - (intOf i).toNat)
  case atStart => exact ⟨0, Nat.zero_le _, rfl, ⟨none, 0, 0, rfl, Sl.empty _ _⟩, World.ownsRow_nil _ _ _ _, HB1.out⟩
  case round =>
    obtain ⟨k, hk, rfl, ⟨A1, m, c1, rfl, hs1⟩, ho, hb⟩ := hrel
    have HS1 := hid hs1
    have HO := hid ho
    have HB := hid hb
    clear hs1 ho hb
    have HM := hid (show m ≤ 200 by have := HS1.out.len; have := encs_le l k; have := encs_len l; have := HS.out.len; omega)
    by_cases hlt : k < n
    · obtain ⟨ad, y, rfl, hbl, hy, hc⟩ := (HS.out.below HB.out).get hlt
      have HY := hid hy
      clear hy hbl
      go_wp2_with fail
      refine (put_any A1 m c1 y _ _ HS1.out (by have := HM.out; omega) (HW.out.at_ HY.out).1 (HW.out.at_ HY.out).2).mono ?_
      rintro e w2 hm
      obtain ⟨A2, m2, c2, rfl, hs2, hb, hnew⟩ := hm.fresh
      have HS2 := hid hs2
      have HB2 := hid (HB.out.trans (hb.mono HB.out.size))
      have HO2 := hid (HO.out.on hb)
      have HNew := hid (show ∀ g ad, u9.ownBlock = some g → A2 = some ad → g < ad.block from fun g ad hg ha => Nat.lt_of_lt_of_le (HO.out.lt g hg).2 (hnew ad ha))
      have hm2 := hid (show m2 = pos l (k + 1) by rw [pos_next HY.out]; have := hs2.len; rw [List.length_append] at this; exact this.symm)
      have HEn := hid (show encs (l.take k) ++ enc y = encs (l.take (k + 1)) from (encs_next HY.out).symm)
      clear hm hs2 hb hnew
      go_wp2_with (at_builtin; refine wpList_append_own _ rfl _ _ 44 rfl w.heap.size 3 i0 (.int .i64 0) 1 8 Tryd.underlying44 hi hz0 hz1 hz2 rfl (by decide) _ _ _ rfl (World.ownsRow.alloc HO2.out _) ⟨w2.heap.size, 0, none⟩ 1 1 [.int .i64 (m2 : Int)] rfl rfl ?c1 ?c2 ?c3 ?c4 ?c5 ?_)
      case c1 => exact cell_one_new _ _ _
      case c2 => intro u hu; simp at hu; subst hu; rfl
      case c3 => rw [endl_len]; unfold maxLen; omega
      case c4 => rw [endl_len]; omega
      case c5 => have := HB2.out.size; simp; omega
      intro v' w3 hown' hgrow _
      have hb3 := HB2.out.size
      have R := hid (show Rows1 w l (k + 1) (.slice A2 m2 c2) v' w3 from ⟨⟨A2, m2, c2, rfl, by
        have h1 := HS2.out.alloc (Nat.le_refl _) (.cells #[.int .i64 (m2 : Int)] 3)
        have h2 := (h1.far hgrow HNew.out).more (B' := w3.heap.size) (by have := hgrow.size; simp at this; omega)
        rwa [HEn.out] at h2⟩, by
          unfold OwnN
          rw [endl_next, List.map_append, List.length_append, ← hm2.out]
          exact hown', (HB2.out.alloc HB2.out.size _).grown hgrow (by simp; omega) (fun g hg => (HO2.out.lt g hg).1)⟩)
      clear hown' hgrow hb3
      go_wp2
      go_roundw
      case rel => exact ⟨k + 1, by omega, by go_num, R.out⟩
      case measure => simp [intOf]; omega
    · obtain rfl : n = k := by omega
      have hall := hid (show encs (l.take n) = encs l by rw [List.take_of_length_le (by have := HS.out.len; omega)])
      go_wp2_with fail
      refine (putText_any A1 m c1 s _ _ HS1.out (by have := HM.out; omega) (by omega)).mono ?_
      rw [hall.out]
      rintro e w2 hm
      obtain ⟨A2, m2, c2, rfl, hs2, hb, hnew⟩ := hm.fresh
      have HS2 := hid (show Sl w2 w2.heap.size A2 m2 c2 (row l s) by unfold row; rw [← List.append_assoc]; exact hs2)
      have HB2 := hid (HB.out.trans (hb.mono HB.out.size))
      have HO2 := hid (HO.out.on hb)
      have HNew := hid (show ∀ g ad, u9.ownBlock = some g → A2 = some ad → g < ad.block from fun g ad hg ha => Nat.lt_of_lt_of_le (HO.out.lt g hg).2 (hnew ad ha))
      have HM2 := hid (show m2 = (encs l).length + ((enc s.size).length + s.size) ∧ m2 ≤ 300 by
        have h1 := row_len l s
        have h2 := HS2.out.len
        have h3 := encs_len l
        have h4 := HS.out.len
        have h5 := enc_len (s.size : Int)
        omega)
      have hm300 : m2 ≤ 300 := HM2.out.2
      clear hm hs2 hb hnew
      go_wp2_with (at_builtin; refine wpList_append_own _ rfl _ _ 44 rfl w.heap.size 3 i0 (.int .i64 0) 1 8 Tryd.underlying44 hi hz0 hz1 hz2 rfl (by decide) _ _ _ rfl (World.ownsRow.alloc HO2.out _) ⟨w2.heap.size, 0, none⟩ 1 1 [.int .i64 (m2 : Int)] rfl rfl ?e1 ?e2 ?e3 ?e4 ?e5 ?_)
      case e1 => exact cell_one_new _ _ _
      case e2 => intro u hu; simp at hu; subst hu; rfl
      case e3 => rw [endl_len]; unfold maxLen; omega
      case e4 => rw [endl_len]; omega
      case e5 => have := HB2.out.size; simp; omega
      intro v3 w3 hown' hgrow _
      have hb3 := HB2.out.size
      have HS3 := hid (show Sl w3 w3.heap.size A2 m2 c2 (row l s) from by
        have h1 := HS2.out.alloc (Nat.le_refl _) (.cells #[.int .i64 (m2 : Int)] 3)
        exact (h1.far hgrow HNew.out).more (by have := hgrow.size; simp at this; omega))
      have ho3 : OwnN w3 w.heap.size v3 (endl l n ++ [(m2 : Int)]) := by
        unfold OwnN
        rw [List.map_append, List.length_append]
        exact hown'
      have HB3 := hid (show Below w.heap.size w w3 from (HB2.out.alloc HB2.out.size _).grown hgrow (by simp; omega) (fun g hg => (HO2.out.lt g hg).1))
      obtain ⟨A3, c3, rfl, hn3⟩ := ho3.form
      rw [List.length_append, endl_len] at hn3 ⊢
      have HE3 := hid (show Sn w3 w3.heap.size A3 (n + 1) c3 (endl l n ++ [(m2 : Int)]) from hn3)
      clear hown' hgrow hb3 ho3 hn3
      go_wp2_with fail
      refine (number_any x ((m2 : Int) + 1) _ (by omega) (by omega)).mono ?_
      rintro e w4 ⟨rfl, rfl⟩
      obtain ⟨K, hK, hKn⟩ : ∃ K : Nat, x % ((m2 : Int) + 1) = (K : Int) ∧ K ≤ m2 := ⟨(x % ((m2 : Int) + 1)).toNat, by have := Int.emod_nonneg x (b := (m2 : Int) + 1) (by omega); omega, by have := Int.emod_lt_of_pos x (b := (m2 : Int) + 1) (by omega); omega⟩
      rw [hK]
      clear hK
      have hKc : (K : Int) ≤ c2 := by have := HS3.out.cap; omega
      have HH3 := hid (HS3.out.head hKn)
      go_wp2_with fail
      refine (newReader_any A2 K c2 _ _ HH3.out (by omega)).mono ?_
      rintro e w5 ⟨g, A5, c5, rfl, hg, hr, hb, _⟩
      have HG := hid (show w.heap.size ≤ g from Nat.le_trans HB3.out.size hg)
      have HG3 := hid (show w3.heap.size ≤ g from hg)
      have HT := hid (show Rows2 w l s n K m2 g A5 c5 0 0 w5 from ⟨Nat.zero_le _, Nat.zero_le _, fun _ => rfl, fun h => by omega, hr, HB3.out.trans (hb.mono HB3.out.size)⟩)
      have HE5 := hid (show Below w3.heap.size w3 w5 from hb)
      have hm1 := hid (show m2 = pos l n + (enc s.size).length + s.size by rw [pos_all HS.out.len]; have := HM2.out; omega)
      have hrl := hid (show (row l s).length = m2 from HS3.out.len)
      have HBy := hid (show Byt ((row l s).take K) from (row_byt HW.out (by omega)).take K)
      clear hg hr hb
      go_wp2_with fail
      go_loopw [13, 14] (fun a i wr => ∃ j p : Nat, a = .int .i64 (p : Int) ∧ i = .int .i64 (j : Int) ∧ Rows2 w l s n K m2 g A5 c5 j p wr ∧ w3.grownBy wr (some g)) (fun _ i _ => n + 1 - (intOf i).toNat)
      case atStart => exact ⟨0, 0, rfl, rfl, HT.out, only_below HE5.out _⟩
      case round =>
        clear HT
        obtain ⟨j, p, rfl, rfl, ⟨hj, hpK, hp1, hp2, hr, hb⟩, hg3⟩ := hrel
        have HR := hid hr
        have HBr := hid hb
        have HG3r := hid hg3
        have HXr := hid (HX.out.on hb)
        have Hp1 := hid hp1
        have Hp2 := hid hp2
        clear hr hb hp1 hp2 hg3
        rcases Nat.lt_or_ge n j with hjn | hjn
        · have hpm := hid (Hp2.out (by omega))
          have hpK2 := hid (show K - p = 0 by have := hpm.out; omega)
          go_wp2_with fail
          refine (err_any HR.out).mono ?_
          rintro e w6 ⟨rfl, rfl⟩
          go_wp2_with fail
          refine (left_any HR.out hpK (by omega)).mono ?_
          rw [hpK2.out]
          rintro e w6 ⟨rfl, k6, rfl⟩
          go_wp2
          go_ret
          exact ⟨rfl, below_drewN HBr.out _⟩
        · have hpp := hid (Hp1.out hjn)
          have hE := HE3.out.get (show j < n + 1 by omega)
          obtain ⟨ade, q, rfl, hble, hq, hce⟩ := hE
          have hce' : wr.cell? (ade.add j) = some (.int .i64 q) := (HG3r.out.cell hce (by rw [add_block]; have := HG3.out; simp; omega))
          have HQ := hid hq
          have HQe := hid hble
          clear hq hce hble
          rcases Nat.lt_or_ge j n with hjl | hjl
          · obtain ⟨ad, y, rfl, hbl, hy, hc⟩ := (HS.out.below HBr.out).get hjl
            obtain ⟨r, hr1, rfl⟩ : ∃ r : Nat, r = pos l (j + 1) ∧ q = (r : Int) := ⟨_, rfl, by
              have h1 := HQ.out
              rw [List.getElem?_append_left (by rw [endl_len]; exact hjl), endl_get hjl] at h1
              injection h1 with h1
              exact h1.symm⟩
            have Hr1 := hid hr1
            have HY := hid hy
            have HBL := hid hbl
            have hyy : (y != y) = false := by simp
            clear hr1 hy hbl
            rcases Nat.lt_or_ge K r with hKr | hKr
            · have d2 : decide (r ≤ K) = false := by simp; omega
              have HV := hid (show scan (((row l s).take K).drop p) 0 0 = (2, 0, 0) by rw [hpp.out]; exact row_num_no HW.out HY.out (by rw [← hpp.out]; exact hpK) (by rw [← Hr1.out]; exact hKr))
              go_wp2_with fail
              refine (num_ends (p := p) (-9223372036854775808) 9223372036854775807 HR.out HXr.out.errs HBy.out (by omega) hpK HV.out).mono ?_
              rintro e w6 ⟨rfl, hh, hh1, hh2, hr, hg⟩
              have HR6 := hid hr
              have HK6 := hid hh2
              have HB6 := hid (HBr.out.trans (below_only hg HG.out HBr.out.size))
              have hpp0 : ((p : Int) == (p : Int)) = true := by simp
              clear hr hg hh1 hh2
              go_wp2_with fail
              refine (at_any HR6.out).mono ?_
              rintro e w7 ⟨rfl, rfl⟩
              go_wp2_with fail
              refine (err_any HR6.out).mono ?_
              rintro e w7 ⟨rfl, rfl⟩
              go_wp2_with fail
              refine (placed_any 101 (p : Int) _ (by decide)).mono ?_
              rintro e w7 ⟨rfl, hb7⟩
              have HB7 := hid (HB6.out.trans (hb7.mono HB6.out.size))
              have HK7 := hid (HK6.out.below hb7 HK6.out.lt)
              clear hb7
              go_wp2_with fail
              refine (see_any S 0 hh (p : Int) 101 _ (HX.out.on HB7.out) (by decide) HK7.out (by decide)).mono ?_
              rintro e w8 ⟨rfl, hb8⟩
              have HB8 := hid (HB7.out.trans (hb8.mono HB7.out.size))
              clear hb8
              go_wp2
              go_ret
              exact ⟨rfl, HB8.out⟩
            · have d2 : decide (r ≤ K) = true := by simp; omega
              have HV := hid (show scan (((row l s).take K).drop p) 0 0 = (0, zz y, (enc y).length) by rw [hpp.out]; exact row_num_yes HW.out HY.out (by rw [← Hr1.out]; exact hKr))
              have HP := hid (show p + (enc y).length = r by rw [Hr1.out, hpp.out]; exact (pos_next HY.out).symm)
              go_wp2_with fail
              refine (num_ok (p := p) (s := (enc y).length) (-9223372036854775808) 9223372036854775807 HR.out HXr.out.errs HBy.out (by omega) HV.out (by have := HP.out; omega) (by rw [unzz_zz]; exact (HW.out.at_ HY.out).1) (by rw [unzz_zz]; exact (HW.out.at_ HY.out).2)).mono ?_
              rw [unzz_zz, HP.out]
              rintro e w6 ⟨rfl, hr, hg⟩
              have HR6 := hid hr
              have HB6 := hid (HBr.out.trans (below_only hg HG.out HBr.out.size))
              have HG6 := hid (only_trans HG3r.out hg)
              have hce6 : w6.cell? (ade.add j) = some (.int .i64 (r : Int)) := hg.cell hce' (by have := World.block_lt_of_cell? _ _ hce'; have := HQe.out; have := HG3.out; rw [add_block]; simp; omega)
              have hc6 : w6.cell? (ad.add j) = some (.int .i64 y) := hg.cell hc (by rw [add_block]; have := HBL.out; have := HG.out; simp; omega)
              have RR := hid (show Rows2 w l s n K m2 g A5 c5 (j + 1) r w6 from ⟨by omega, hKr, fun _ => Hr1.out, fun h => by omega, HR6.out, HB6.out⟩)
              clear hr hg
              go_wp2
              go_roundw
              case rel => exact ⟨j + 1, r, rfl, by go_num, RR.out, HG6.out⟩
              case measure => simp [intOf]; omega
          · obtain rfl : j = n := by omega
            obtain rfl : q = (m2 : Int) := by
              have h1 := HQ.out
              rw [List.getElem?_append_right (by rw [endl_len]; exact Nat.le_refl _), endl_len, Nat.sub_self] at h1
              simpa using h1.symm
            have hs100 := hid (show s.size ≤ 100 by omega)
            rcases Nat.lt_or_ge K m2 with hKm | hKm
            · have d2 : decide (m2 ≤ K) = false := by simp; omega
              have HT : ∃ hh0, True := ⟨0, trivial⟩
              clear HT
              rcases Nat.lt_or_ge K (p + (enc s.size).length) with hKe | hKe
              all_goals
                go_wp2_with fail
                first
                  | refine (text_ends (p := p) 60 HR.out HXr.out.errs HBy.out (by omega) hpK (by rw [hpp.out]; exact row_size_no HS.out.len hs100.out (by rw [← hpp.out]; exact hpK) (by rw [← hpp.out]; exact hKe))).mono ?_
                  | refine (text_short (p := p) (q := p + (enc s.size).length) (m := s.size) 60 HR.out HXr.out.errs (by have := HG.out; have := World.block_lt_of_cell? _ _ HX.out.g2; simp at this; omega) HBy.out (by omega) (by rw [Nat.add_sub_cancel_left, hpp.out]; exact row_size_yes HS.out.len hs100.out (by rw [← hpp.out]; exact hKe)) (by omega) hKe (unzz_zz _) (by omega) (by have := hm1.out; have := hpp.out; omega)).mono ?_
                rintro e w6 ⟨rfl, hh, hh1, hh2, hr, hg⟩
                have HR6 := hid hr
                have HK6 := hid hh2
                have HB6 := hid (HBr.out.trans (below_only hg HG.out HBr.out.size))
                have hpp0 : ((p : Int) == (p : Int)) = true := by simp
                clear hr hg hh1 hh2
                go_wp2_with fail
                refine (at_any HR6.out).mono ?_
                rintro e w7 ⟨rfl, rfl⟩
                go_wp2_with fail
                refine (err_any HR6.out).mono ?_
                rintro e w7 ⟨rfl, rfl⟩
                go_wp2_with fail
                refine (placed_any 101 (p : Int) _ (by decide)).mono ?_
                rintro e w7 ⟨rfl, hb7⟩
                have HB7 := hid (HB6.out.trans (hb7.mono HB6.out.size))
                have HK7 := hid (HK6.out.below hb7 HK6.out.lt)
                clear hb7
                go_wp2_with fail
                refine (see_any S 0 hh (p : Int) 101 _ (HX.out.on HB7.out) (by decide) HK7.out (by decide)).mono ?_
                rintro e w8 ⟨rfl, hb8⟩
                have HB8 := hid (HB7.out.trans (hb8.mono HB7.out.size))
                clear hb8
                go_wp2
                go_ret
                exact ⟨rfl, HB8.out⟩
            · have d2 : decide (m2 ≤ K) = true := by simp; omega
              have hKe := hid (show K = m2 by omega)
              have hms := hid (show p + (enc s.size).length + s.size = m2 by rw [hpp.out]; exact hm1.out.symm)
              have HV := hid (show scan (((row l s).take K).drop p) 0 0 = (0, zz s.size, p + (enc s.size).length - p) by rw [Nat.add_sub_cancel_left, hpp.out]; exact row_size_yes HS.out.len hs100.out (by have := hms.out; rw [hpp.out] at this; omega))
              have HSt := hid (show strOfNums ((((row l s).take K).drop (p + (enc s.size).length)).take s.size) = s by rw [hpp.out]; exact row_str HS.out.len (by rw [hrl.out]; exact hKm))
              go_wp2_with fail
              refine (text_ok (p := p) (q := p + (enc s.size).length) (m := s.size) 60 HR.out HXr.out.errs HBy.out (by omega) HV.out (by omega) (unzz_zz _) (by omega) (by have := hms.out; omega)).mono ?_
              rw [HSt.out, hms.out]
              rintro e w6 ⟨rfl, hr, hg⟩
              have HR6 := hid hr
              have HB6 := hid (HBr.out.trans (below_only hg HG.out HBr.out.size))
              have HG6 := hid (only_trans HG3r.out hg)
              have hce6 : w6.cell? (ade.add j) = some (.int .i64 (m2 : Int)) := hg.cell hce' (by have := World.block_lt_of_cell? _ _ hce'; have := HQe.out; have := HG3.out; rw [add_block]; simp; omega)
              have RR := hid (show Rows2 w l s j K m2 g A5 c5 (j + 1) m2 w6 from ⟨by omega, hKm, fun h => by omega, fun _ => rfl, HR6.out, HB6.out⟩)
              clear hr hg
              go_wp2
              go_roundw
              case rel => exact ⟨j + 1, m2, rfl, by go_num, RR.out, HG6.out⟩
              case measure => simp [intOf]
end Go.Proofs.YtfggfdmjmebgfaaDoor
