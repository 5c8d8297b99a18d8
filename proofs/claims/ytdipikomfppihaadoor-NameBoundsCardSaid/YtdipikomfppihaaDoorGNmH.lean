/- NameSays, walked. -/
import Derived.Test.YtdipikomfppihaaDoorGNmG
namespace Go.Proofs.YtdipikomfppihaaDoor
open Go.RowKit Go.Shelf Go.Sort

theorem srt_len (l : List Nam) : (srt l).length ≤ l.length := by
  have := Lib.compact_length_le (l.mergeSort fun x y => decide (x ≤ y))
  rw [List.length_mergeSort] at this
  exact this
theorem sz_of (s : Nam) : (⟨s.toArray⟩ : ByteArray).size = s.length := by show s.toArray.size = _; simp
set_option maxHeartbeats 2000000 in
set_option maxRecDepth 100000 in
theorem nameSays_any (S : Nat → Addr) (s : Nam) (A : Option Addr) (n c : Nat) (l : List Nam) (w : World) (hS : Sent w S) (h : St w w.heap.size A n c l) (hm : s.length ≤ maxLen) :
    Calls Tryd.prog 3 #[encStr s, .slice A n c] w fun e w' => e = .returned (.bool true) ∧ Below w.heap.size w w' := by
  have HS := hid h
  have HE := hid hS
  have hmx : n ≤ 9223372036854775807 := by have := h.cap; have := h.max; unfold maxLen at this; omega
  have hml : s.length ≤ 9223372036854775807 := by unfold maxLen at hm; omega
  have hsz := sz_of s
  clear h hS hm
  go_enter Tryd.func3, Tryd.ntmps3
  go_wp2_with fail
  refine (first11_any S w HE.out).mono ?_
  rintro e w1 ⟨rfl, hb⟩
  have HB1 := hid hb
  have HE1 := hid (HE.out.on hb)
  have HS1 := hid (Sv.on HS.out hb)
  clear hb HS HE
  by_cases h80 : 80 < s.length
  · go_wp2
    go_ret
    exact ⟨rfl, HB1.out⟩
  by_cases h40 : 40 < n
  · go_wp2
    go_ret
    exact ⟨rfl, HB1.out⟩
  have hs80 : s.length ≤ 80 := by omega
  have hn40 : n ≤ 40 := by omega
  clear h80 h40 hmx hml
  go_wp2
  go_loopg [6] n (fun g i wr => ∃ k : Nat, k ≤ n ∧ n - k ≤ g ∧ i = .int .i64 (k : Int) ∧ Hid (wr = w1))
  case atStart => exact ⟨0, Nat.zero_le _, Nat.le_refl _, rfl, rfl⟩
  case round =>
    obtain ⟨k, hk, hg, rfl, HW⟩ := hrel
    by_cases hlt : k < n
    · obtain ⟨ad, x, rfl, hbl, hx, hc⟩ := St.at HS1.out hlt
      have hc' : wr.cell? (ad.add k) = some (encStr x) := by rw [HW.out]; exact hc
      have hxl := sz_of x
      clear hc hbl hx
      by_cases h60 : 60 < x.length
      · go_wp2
        go_ret
        exact ⟨rfl, by rw [HW.out]; exact HB1.out⟩
      · go_wp2
        go_roundg (n - (k + 1))
        case measure => omega
        case rel => exact ⟨k + 1, by omega, Nat.le_refl _, by go_num, HW⟩
    · obtain rfl : wr = w1 := HW.out
      go_wp2_with fail
      refine (refSort_any A n c _ l wr HS1.out (Nat.le_refl _) (by omega)).mono ?_
      rintro e w2 hmv
      obtain ⟨A2, m, c2, rfl, hst2, hb2, _, _⟩ := hmv.fresh
      have HST2 := hid hst2
      have hm : (srt l).length = m := by have := St.size hst2; exact this
      have hml : m ≤ n := by rw [← hm, ← St.size HS1.out]; exact srt_len l
      have HM := hid hm
      have HB2 := hid (HB1.out.trans (hb2.mono HB1.out.size))
      have HS2 := hid (Sv.on HS1.out hb2)
      have HE2 := hid (HE1.out.on hb2)
      clear hmv hst2 hb2 hm HB1 HS1 HE1 HW
      go_wp2
      go_loopw [8, 9] (fun v i wx => ∃ k : Nat, k ≤ m ∧ i = .int .i64 (k : Int) ∧ Hid (Ot wx w2.heap.size v (behind ((srt l).take k) s)) ∧ Hid (Below w2.heap.size w2 wx)) (fun _ i _ => m - (intOf i).toNat)
      case atStart => exact ⟨0, Nat.zero_le _, rfl, OwnV.nil _ _ _, Below.refl _ _⟩
      case round =>
        rename World => w4
        obtain ⟨k, hk, rfl, HO4, HB4⟩ := hrel
        by_cases hlt : k < m
        · obtain ⟨ad, x, rfl, hbl, hx, hc⟩ := St.at (Sv.below HST2.out HB4.out) hlt
          have HX := hid hx
          have hnx := behind_next (s := s) hx
          clear hx hbl
          by_cases hsx : s < x
          · rw [if_pos hsx] at hnx
            have HN := hid hnx
            have t1 : Op.bytesLess x s = false := by rw [bl_lt]; exact decide_eq_false (nam_lt_asymm hsx)
            have t2 : (x == s) = false := beq_eq_false_iff_ne.2 fun e => nam_lt_irrefl s (by rw [e] at hsx; exact hsx)
            clear hnx hsx
            go_wp2_with (at_builtin; refine wpList_append_tx rfl _ _ rfl w2.heap.size (w4.heap.size + 1) _ (behind ((srt l).take k) s) [x] rfl (World.ownsRow.alloc HO4.out _) (some ⟨w4.heap.size, 0, none⟩) 1 1 rfl (st_one w4 x) ?c1 ?c2 ?_)
            case c1 => have := behind_len ((srt l).take k) s; rw [List.length_take] at this; omega
            case c2 => have := HB4.out.size; simp; omega
            intro v' w5 hown' hb5
            have R1 := hid (show Ot w5 w2.heap.size v' (behind ((srt l).take (k + 1)) s) by rw [HN.out]; exact hown')
            have R2 := hid (show Below w2.heap.size w2 w5 from (HB4.out.alloc HB4.out.size _).trans hb5)
            clear hown' hb5
            go_wp2
            go_roundw
            case rel => exact ⟨k + 1, by omega, by go_num, R1, R2⟩
            case measure => simp [intOf]; omega
          · rw [if_neg hsx, List.append_nil] at hnx
            have HR := hid (show Ot w4 w2.heap.size u8 (behind ((srt l).take (k + 1)) s) by rw [hnx]; exact HO4.out)
            clear hnx
            by_cases e : x = s
            · have t2 : (x == s) = true := beq_iff_eq.2 e
              clear hsx e
              go_wp2
              go_roundw
              case rel => exact ⟨k + 1, by omega, by go_num, HR, HB4⟩
              case measure => simp [intOf]; omega
            · have t2 : (x == s) = false := beq_eq_false_iff_ne.2 e
              have t1 : Op.bytesLess x s = true := by
                rw [bl_lt]
                rcases nam_tri s x with h | h | h
                · exact absurd h hsx
                · exact absurd h.symm e
                · exact decide_eq_true h
              clear hsx e
              go_wp2
              go_roundw
              case rel => exact ⟨k + 1, by omega, by go_num, HR, HB4⟩
              case measure => simp [intOf]; omega
        · have hO : Ot w4 w2.heap.size u8 (behind (srt l) s) := by have := HO4.out; rwa [List.take_of_length_le (by have := HM.out; omega)] at this
          obtain ⟨A5, c5, hv5, hst5, _⟩ := Ot.is hO
          subst hv5
          have HST5 := hid hst5
          have HB5 := hid (HB2.out.trans (HB4.out.mono HB2.out.size))
          have HT := hid (Sv.on HST2.out HB4.out)
          have HS5 := hid (Sv.on HS2.out HB4.out)
          have HE5 := hid (HE2.out.on HB4.out)
          clear hO hst5 HO4 HB4 HB2 HST2 HS2 HE2
          go_wp2_with fail
          refine (valid_any S _ w4 HE5.out).mono ?_
          rintro e w6 ⟨⟨ve, rfl, hev⟩, hb⟩
          have HEV := hid hev
          have HB6 := hid (HB5.out.trans (hb.mono HB5.out.size))
          have HST6 := hid (Sv.on HST5.out hb)
          have HT6 := hid (Sv.on HT.out hb)
          have HS6 := hid (Sv.on HS5.out hb)
          have HE6 := hid (HE5.out.on hb)
          clear hb hev HB5 HST5 HT HS5 HE5
          go_wp2_with fail
          refine (refName_any _ w6).mono ?_
          rintro e w7 ⟨rfl, hb⟩
          have HB7 := hid (HB6.out.trans (hb.mono HB6.out.size))
          have HST7 := hid (Sv.on HST6.out hb)
          have HT7 := hid (Sv.on HT6.out hb)
          have HS7 := hid (Sv.on HS6.out hb)
          have HE7 := hid (HE6.out.on hb)
          clear hb HB6 HST6 HT6 HS6 HE6
          go_wp2_with fail
          refine (is_any S _ _ ve w7 HE7.out HEV.out).mono ?_
          rw [beq_self_eq_true]
          rintro e w8 ⟨rfl, hb⟩
          have HB8 := hid (HB7.out.trans (hb.mono HB7.out.size))
          have HST8 := hid (Sv.on HST7.out hb)
          have HT8 := hid (Sv.on HT7.out hb)
          have HS8 := hid (Sv.on HS7.out hb)
          clear hb HB7 HST7 HT7 HS7 HE7
          go_wp2_with fail
          refine (special_any _ w8).mono ?_
          rintro e w9 ⟨rfl, hw⟩
          rw [hw]
          clear hw
          go_wp2_with fail
          refine (refSpecial_any _ w8).mono ?_
          rintro e w10 ⟨rfl, hw⟩
          rw [hw]
          clear hw
          have hsp : (spec ⟨s.toArray⟩ == spec ⟨s.toArray⟩) = true := beq_self_eq_true _
          go_wp2_with fail
          refine (sort_any A n c _ l w8 HS8.out (Nat.le_refl _) (by omega)).mono ?_
          rintro e w11 hmv
          obtain ⟨A11, m11, c11, rfl, hst11, hb, _, _⟩ := hmv.fresh
          have HST11 := hid hst11
          have HB11 := hid (HB8.out.trans (hb.mono HB8.out.size))
          have HST12 := hid (Sv.on HST8.out hb)
          have HT11 := hid (Sv.on HT8.out hb)
          clear hb hst11 hmv HB8 HST8 HT8 HS8
          go_wp2_with fail
          refine (sameTexts_any A11 A2 m11 c11 m c2 (srt l) (srt l) _ _ w11 HST11.out HT11.out).mono ?_
          rintro e w12 ⟨rfl, q, hw⟩
          have ht : decide (srt l = srt l) = true := decide_eq_true rfl
          rw [ht]
          have HB12 := hid (show Below w.heap.size w w12 from by rw [hw]; exact below_drewN HB11.out q)
          have HST13 := hid (show St w12 w12.heap.size A5 (behind (srt l) s).length c5 (behind (srt l) s) from by rw [hw]; exact Sv.drewN HST12.out q)
          have HT12 := hid (show St w12 w12.heap.size A2 m c2 (srt l) from by rw [hw]; exact Sv.drewN HT11.out q)
          clear hw HB11 HST11 HST12 HT11 ht
          go_wp2_with fail
          refine (after_any A2 m c2 _ (srt l) s w12 HT12.out (Nat.le_refl _) (by omega)).mono ?_
          rintro e w13 hmv
          obtain ⟨A13, m13, c13, rfl, hst13, hb, _, _⟩ := hmv.fresh
          have HST14 := hid hst13
          have HB13 := hid (HB12.out.trans (hb.mono HB12.out.size))
          have HST15 := hid (Sv.on HST13.out hb)
          clear hb hst13 hmv HB12 HST13 HT12
          go_wp2_with fail
          refine (sameTexts_any A13 A5 m13 c13 _ c5 (behind (srt l) s) (behind (srt l) s) _ _ w13 HST14.out HST15.out).mono ?_
          rintro e w14 ⟨rfl, q2, hw⟩
          have ht : decide (behind (srt l) s = behind (srt l) s) = true := decide_eq_true rfl
          rw [ht]
          have HB14 := hid (show Below w.heap.size w w14 from by rw [hw]; exact below_drewN HB13.out q2)
          clear hw HB13 ht
          go_wp2
          go_ret
          exact ⟨rfl, HB14.out⟩
end Go.Proofs.YtdipikomfppihaaDoor
