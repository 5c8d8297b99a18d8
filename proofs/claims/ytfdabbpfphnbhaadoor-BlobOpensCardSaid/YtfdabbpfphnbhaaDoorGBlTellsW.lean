/- The walk of BlobTells, for whatever keeps the calls. -/
import Derived.Test.YtfdabbpfphnbhaaDoorGBlT
namespace Go.Proofs.YtfdabbpfphnbhaaDoor
open Go.RowKit

section
variable {Real : World → Nat → DSt → (Nat → Prop) → Prop} {AR : World → Nat → Nat → Nat → ASt → (Nat → Prop) → Prop}
set_option maxRecDepth 100000 in
set_option maxHeartbeats 8000000 in
theorem blobTells_any (D : DevOk Real) (O : AreaOk Real AR) (S : Nat → Addr) (n at' where' : Int) (y : Nat) (fb : Bool) (w : World) (hS : Sent w S) (hy : y < 4294967296) :
    Calls Tryd.prog 5 #[.int .i64 n, .int .i64 at', .int .i64 where', .int .u32 (y : Int), .bool fb] w (Yes w) := by
  have HS := hid hS
  have HD := hid D
  have HO := hid O
  have hi0 : 0 ≤ n % 20 := Int.emod_nonneg _ (by omega)
  have hi1 : n % 20 < 20 := Int.emod_lt_of_pos _ (by omega)
  obtain ⟨j, hj⟩ : ∃ j : Nat, n % 20 = (j : Int) := ⟨(n % 20).toNat, by omega⟩
  have HJ := hid hj
  have hj9 : (j : Int) ≤ 19 := by omega
  obtain ⟨m, hm⟩ : ∃ m : Nat, m = j + 1 := ⟨_, rfl⟩
  have hmI : (j : Int) + 1 = (m : Int) := by omega
  have hm0 : (1 : Int) ≤ (m : Int) := by omega
  have hm9 : (m : Int) ≤ 20 := by omega
  have HM := hid (show 1 ≤ m ∧ m ≤ 20 from by omega)
  have ha0 : 0 ≤ at' % (m : Int) := Int.emod_nonneg _ (by omega)
  have ha1 : at' % (m : Int) < (m : Int) := Int.emod_lt_of_pos _ (by omega)
  obtain ⟨a, ha⟩ : ∃ a : Nat, at' % (m : Int) = (a : Int) := ⟨(at' % (m : Int)).toNat, by omega⟩
  have HA := hid ha
  have ham : (a : Int) < (m : Int) := by omega
  have HAm := hid (show a < m from by omega)
  have hp0 : 0 ≤ where' % 253 := Int.emod_nonneg _ (by omega)
  have hp1 : where' % 253 < 253 := Int.emod_lt_of_pos _ (by omega)
  obtain ⟨p, hp⟩ : ∃ p : Int, where' % 253 = p := ⟨_, rfl⟩
  have HP := hid hp
  have HP9 := hid (show 0 ≤ p ∧ p ≤ 252 from by omega)
  obtain ⟨y1, hy1, hy2, hy3⟩ := or1_B y hy
  have HY1 := hid (And.intro hy1 hy2)
  clear hS D O hi0 hi1 hj hm ha0 ha1 ha hp0 hp1 hp hy hy1 hy2
  go_enter Tryd.func5, Tryd.ntmps5
  go_wp2_with fail
  refine (first9_any HD.out HO.out _ HS.out).mono ?_
  rintro e w1 ⟨rfl, hb1⟩
  have HB1 := hid hb1
  have HS1 := hid (HS.out.on hb1)
  clear hb1
  go_wp2_with fail
  refine (number_any n 20 _ (by omega) (by omega)).mono ?_
  rw [HJ.out]
  rintro e w2 ⟨rfl, rfl⟩
  go_wp2_with fail
  refine (number_any at' m _ (by omega) (by omega)).mono ?_
  rw [HA.out]
  rintro e w2 ⟨rfl, rfl⟩
  go_wp2_with fail
  refine (opened9_any HD.out HO.out 300 _ HS1.out (by omega) (by omega)).mono ?_
  rw [puts_first]
  rintro e w3 ⟨g, d, rfl, hk⟩
  have HK3 := hid (hk.refs0 w1.heap.size)
  clear hk
  obtain ⟨i0, hi, hz0, hz1, hz2⟩ := info_parts Tryd.infoRefB
  go_wp2
  go_loopw [14, 15] (fun rv iv wr => ∃ (k q : Nat) (s : DSt), k ≤ m ∧ iv = .int .i64 (k : Int) ∧ q ≤ k ∧ (∀ j, j < k → Putted s j) ∧ Bk Real AR S w1 wr d g s 300 (putsA k) q [Lie.refs w1.heap.size rv (tellR k)]) (fun _ iv _ => m - (intOf iv).toNat)
  case atStart => exact ⟨0, 0, _, Nat.zero_le _, rfl, Nat.le_refl _, fun j h => absurd h (Nat.not_lt_zero _), HK3.out⟩
  case round =>
    obtain ⟨k, q, s, hk, rfl, hq, hpt, hkr⟩ := hrel
    have HKr := hid hkr
    have HQ := hid hq
    have HPt := hid hpt
    clear hkr hq hpt
    by_cases hlt : k < m
    · have hkm : (k : Int) < (m : Int) := by omega
      have hw8 : IntKind.u8.wrap (k : Int) = (k : Int) := by rw [IntKind.wrap_u8]; omega
      have HYk := hid (mark_byt (show k < 256 by omega))
      have HMb := hid (mark_byt' (show k < 256 by omega))
      have HKl := hid (HKr.out.lit HD.out HO.out [(k : Int), 9] (by simp))
      obtain ⟨zk, hzk⟩ : ∃ zk, crcOf (nats (mark k)) = zk := ⟨_, rfl⟩
      have HZk := hid hzk
      clear hzk
      go_wp2_with fail
      refine (bk_put HO.out (m := 2) (c := 2) (l := [(k : Int), 9]) HKl.out (by have := HQ.out; omega) (by omega) HYk.out).mono ?_
      rw [show padB [(k : Int), 9] = mark k from rfl, HZk.out]
      rintro e w8 (⟨p', hn, rfl, hkp⟩ | ⟨hn, _⟩)
      · have hpe := hn.eq (puts_next (show k < 150 by omega))
        subst hpe
        rw [puts_put (show k < 150 by omega)] at hkp
        have HPn := hid (show ∀ j, j < k + 1 → Putted (s.put (150 + k) (mark k)) j from fun j hj => by
          by_cases e : j = k
          · subst e; exact putted_put HKr.out.up (by omega)
          · exact putted_other (HPt.out j (by omega)) (by omega))
        have HK8 := hid (hkp.box HD.out HO.out 36 #[.int .i64 ((150 + k : Nat) : Int), .int .u32 (zk : Int)])
        have HTs := hid (tellR_succ k)
        rw [HZk.out] at HTs
        obtain ⟨p', hp'⟩ : ∃ p', 150 + k = p' := ⟨_, rfl⟩
        obtain ⟨s8, hs8⟩ : ∃ x, s.put (150 + k) (mark k) = x := ⟨_, rfl⟩
        rw [hs8] at HK8 HPn
        rw [hp'] at HK8 HTs ⊢
        clear hkp hn hp' hs8
        go_upto_region 14 with fail
        generalize hw9 : (w8.alloc (.cells #[.int .i64 (p' : Int), .int .u32 (zk : Int)] 36)) = w9 at HK8 ⊢
        obtain ⟨rb, hrb⟩ : ∃ rb, w8.heap.size = rb := ⟨_, rfl⟩
        rw [hrb] at HK8 ⊢
        clear hrb hw9
        have k0 := (HK8.out.blk List.mem_cons_self).cell 0
        have k1 := (HK8.out.blk List.mem_cons_self).cell 1
        simp at k0 k1
        have HK9 := hid (((HK8.out.less (ls := [Lie.refs w1.heap.size u14 (tellR k)]) (fun K hK => by simp at hK; subst hK; simp)).on HD.out HO.out ((Below.refl _ _).alloc (Nat.le_refl _) (.cells #[.int .i64 (p' : Int), .int .u32 (zk : Int)] 36))))
        have HOf := hid (show (w9.alloc (.cells #[.int .i64 (p' : Int), .int .u32 (zk : Int)] 36)).ownsRow w1.heap.size 36 2 u14 k (refC (tellR k)) from by
          have := HK9.out.refs List.mem_cons_self
          unfold OwnB at this
          rwa [tellR_len] at this)
        have HBs := hid (HK9.out.below.size)
        go_wp2_with (at_builtin; refine wpList_append_lies _ rfl _ _ 28 rfl w1.heap.size 36 i0 (.agg #[.int .i64 0, .int .u32 0]) 2 16 Tryd.underlying28 hi hz0 hz1 hz2 rfl (by decide) u14 k (refC (tellR k)) rfl HOf.out ⟨w9.heap.size, 0, none⟩ 1 1 [.int .i64 (p' : Int), .int .u32 (zk : Int)] rfl rfl newsB (oneB _ _) (by omega) (by unfold maxLen; omega) (by omega) HBs.out _ rfl ?_)
        intro gg cap w10 hown hgrow hat hlt9
        have HK10 := hid (HK9.out.app HD.out HO.out (x := ((p' : Int), zk)) (tellR_len k) (fun K hK => by cases hK) (Nat.le_refl _) hown hgrow (by simpa using hat))
        rw [← HTs.out] at HK10
        clear hown hgrow hat hlt9 k0 k1
        go_wp2
        go_roundw
        case rel => exact ⟨k + 1, q + 1, s8, by omega, by go_num, by have := HQ.out; omega, HPn.out, HK10.out⟩
        case measure => simp [intOf]; omega
      · exact (room_no hn puts_free (by rw [datN_300]; omega) (by omega)).elim
    · have hkm : decide (k < m) = false := by simpa using hlt
      obtain rfl : k = m := by omega
      go_wp2_with fail
      refine (bk_flush HD.out HO.out HKr.out (by have := HQ.out; omega)).mono ?_
      rintro e w8 ⟨rfl, hkp⟩
      have HK8 := hid hkp
      have HLd := hid (show ∀ j, j < k → LaidB (fl s) j from fun j hj => laid_flush (HPt.out j hj))
      obtain ⟨s8, hs8⟩ : ∃ x, fl s = x := ⟨_, rfl⟩
      rw [hs8] at HK8 HLd
      clear hkp hs8
      obtain ⟨A, c, rfl, hrf, _⟩ := (HK8.out.refs List.mem_cons_self).form
      rw [tellR_len] at hrf HK8 ⊢
      have HRf := hid hrf
      obtain ⟨ad, x, rfl, _, hx, c0, c1⟩ := hrf.get HAm.out
      rw [tellR_get HAm.out] at hx
      injection hx with hx
      subst hx
      simp only at c0 c1
      obtain ⟨pa, hpa⟩ : ∃ pa, 150 + a = pa := ⟨_, rfl⟩
      rw [hpa] at c0
      have HPa := hid hpa
      clear hrf hpa
      have HTf := hid (told_fail HK8.out.up HM.out.2 HAm.out HLd.out)
      have HTp := hid (told_spoil HK8.out.up HM.out.2 HAm.out HLd.out HP9.out.1 HP9.out.2 HY1.out.2 HY1.out.1)
      rw [HPa.out] at HTf HTp
      have HC := hid (show ∀ w', Below w8.heap.size w8 w' → w'.cell? (ad.add (a * 2)) = some (.int .i64 (pa : Int)) from fun w' hb => by
        obtain ⟨h1, h2⟩ := HRf.out.at_ ad rfl (by omega)
        exact (hb.cell (by rw [add_block]; exact h1)).trans c0)
      cases fb
      · have kd := HC.out w8.drew ((Below.refl _ _).drew)
        have HK8d := hid (HK8.out.on HD.out HO.out ((Below.refl _ _).drew))
        clear c0 c1
        go_wp2_with fail
        go_region_held3 (fun w' => w'.cell? (ad.add (a * 2)) = some (.int .i64 (pa : Int))) (first | exact kd | exact k9) (first | (go_at_call 10; refine (number_any where' 253 _ (by omega) (by omega)).mono ?_; rw [HP.out]; rintro e w9 ⟨rfl, rfl⟩) | (go_at_call 19; refine (bk_spoil HD.out HO.out HK8d.out (pa : Int) p y1 HY1.out.1).mono ?_; rintro e w9 ⟨rfl, hkp⟩; have HK9 := hid hkp; clear hkp; have k9 : w9.cell? (ad.add (a * 2)) = some (.int .i64 (pa : Int)) := (by rw [← HPa.out]; exact (HK9.out.cellR List.mem_cons_self (tellR_get HAm.out)).1)))
        have HTd := hid HTp.out
        obtain ⟨s9, hs9⟩ : ∃ x, (s8.spoil (pa : Int) p y1).2 = x := ⟨_, rfl⟩
        rw [hs9] at HK9 HTd
        clear hs9 k9 kd HK8d
        go_wp2
        go_loopw [18] (fun iv wx => ∃ i : Nat, i ≤ k ∧ iv = .int .i64 (i : Int) ∧ Bk Real AR S w1 wx d g s9 300 (putsA k) (q + 1) [Lie.refs w1.heap.size (.slice (some ad) k c) (tellR k)]) (fun iv _ => k - (intOf iv).toNat)
        case atStart => exact ⟨0, Nat.zero_le _, rfl, HK9.out⟩
        case round =>
          obtain ⟨i, hik, rfl, hki⟩ := hrel
          have HKi := hid hki
          clear hki
          by_cases hil : i < k
          · have hiI : (i : Int) < (k : Int) := by omega
            have HIl := hid hil
            obtain ⟨c0, c1⟩ := HKi.out.cellR List.mem_cons_self (tellR_get hil)
            obtain ⟨zi, hzi⟩ : ∃ zi, crcOf (nats (mark i)) = zi := ⟨_, rfl⟩
            have HGi := hid (HTd.out i hil)
            have HZi := hid (show zi < 4294967296 from hzi ▸ crc_lt (nats_bts (mark_byt' (by omega))))
            simp only at c0 c1
            rw [hzi] at c1 HGi
            obtain ⟨pi, hpi⟩ : ∃ pi, 150 + i = pi := ⟨_, rfl⟩
            rw [hpi] at c0 HGi
            have HPi := hid (show pi ≤ 6000 from by omega)
            have hw8 : IntKind.u8.wrap (i : Int) = (i : Int) := by rw [IntKind.wrap_u8]; omega
            have HCi := hid (show ∀ w', Below wr.heap.size wr w' → w'.cell? (ad.add (i * 2)) = some (.int .i64 (pi : Int)) ∧ w'.cell? ⟨(ad.add (i * 2)).block, (ad.add (i * 2)).off + 1, none⟩ = some (.int .u32 (zi : Int)) from fun w' hb => ⟨(hb.cell (World.block_lt_of_cell? wr _ c0)).trans c0, (hb.cell (World.block_lt_of_cell? wr _ c1)).trans c1⟩)
            clear hzi hpi
            go_wp2_with fail
            refine (bk_get HD.out HO.out (k := pi) (z := zi) HKi.out HPi.out HZi.out).mono ?_
            by_cases hia : i = a
            · have hiaI : ((i : Int) == (a : Int)) = true := by rw [beq_iff_eq]; omega
              rw [HGi.out, if_pos hia]
              have HIa := hid hia
              clear hia
              rintro e w10 ⟨hkg, hb, A4, m4, c4, v4, rfl, hv, _⟩
              have HK10 := hid hkg
              have HV := hid hv
              have HB10 := hid hb
              clear hkg hb hv c0 c1
              go_wp2_with fail
              refine (bk_is HD.out HO.out HK10.out 107 HV.out).mono ?_
              rintro e w11 ⟨rfl, hkg, hb⟩
              have HK11 := hid hkg
              obtain ⟨c0, c1⟩ := HCi.out w11 (HB10.out.trans (hb.mono HB10.out.size))
              have e7 : ((107 : Int) == 107) = true := rfl
              rw [e7]
              clear hkg hb
              go_wp2_with fail
              refine (bk_good HD.out HO.out (k := pi) (z := zi) HK11.out HPi.out HZi.out).mono ?_
              rw [HGi.out, if_pos HIa.out]
              rintro e w12 ⟨rfl, hkg, _⟩
              have HK12 := hid hkg
              have e8 : (((107, []) : Int × List Int).1 == 0) = false := rfl
              rw [e8]
              clear hkg c0 c1
              go_wp2
              go_roundw
              case rel => exact ⟨i + 1, by omega, by go_num, HK12.out⟩
              case measure => simp [intOf]; omega
            · have hiaI : ((i : Int) == (a : Int)) = false := by rw [beq_eq_false_iff_ne]; omega
              rw [HGi.out, if_neg hia]
              rintro e w10 ⟨hkg, hb, A4, m4, c4, v4, rfl, hv, hl4⟩
              obtain rfl := hv.nil
              have HK10 := hid hkg
              have HL4 := hid (hl4 rfl)
              have HB10 := hid hb
              have HK10l := hid (hkg.lit HD.out HO.out [(i : Int), 9] (by simp))
              clear hkg hb hv hl4 c0 c1
              go_wp2_with fail
              refine (bk_full HD.out HO.out (k := 2) (c := 2) (l := [(i : Int), 9]) HK10l.out (HK10l.out.bytes List.mem_cons_self) (by omega)).mono ?_
              rw [show padB [(i : Int), 9] = mark i from rfl]
              rintro e w11 ⟨A6, c6, rfl, hkg, hb⟩
              have HK11 := hid hkg
              have hba : Below w10.heap.size w10 (w10.alloc (.cells (I [(i : Int), 9]).toArray 5)) := (Below.refl _ _).alloc (Nat.le_refl _) _
              have HL11 := hid ((HL4.out.on hba).on hb)
              have HB11 := hid (HB10.out.trans ((hba.trans (hb.mono hba.size)).mono HB10.out.size))
              clear hkg hb hba
              go_wp2_with fail
              refine (bk_same HD.out HO.out HK11.out HL11.out (HK11.out.bytes List.mem_cons_self)).mono ?_
              rw [same_self]
              rintro e w12 ⟨rfl, hkg, hb⟩
              have HK12 := hid (hkg.less (ls := [Lie.refs w1.heap.size (.slice (some ad) k c) (tellR k)]) (fun K hK => by simp at hK; subst hK; simp))
              obtain ⟨c0, c1⟩ := HCi.out w12 (HB11.out.trans (hb.mono HB11.out.size))
              clear hkg hb
              go_wp2_with fail
              refine (bk_good HD.out HO.out (k := pi) (z := zi) HK12.out HPi.out HZi.out).mono ?_
              rw [HGi.out, if_neg hia]
              rintro e w13 ⟨rfl, hkg, _⟩
              have HK13 := hid hkg
              have e8 : (((0, mark i) : Int × List Int).1 == 0) = true := rfl
              rw [e8]
              clear hkg c0 c1
              go_wp2
              go_roundw
              case rel => exact ⟨i + 1, by omega, by go_num, HK13.out⟩
              case measure => simp [intOf]; omega
          · have hiI : decide (i < k) = false := by simpa using hil
            have HB := hid HKi.out.below
            go_wp2
            go_ret
            exact ⟨rfl, HB1.out.trans (HB.out.mono HB1.out.size)⟩
      · go_wp2_with fail
        refine (bk_fail HD.out HO.out HK8.out (pa : Int)).mono ?_
        rintro e w9 ⟨rfl, hkp⟩
        have HK9 := hid hkp
        have HTd := hid HTf.out
        obtain ⟨s9, hs9⟩ : ∃ x, (s8.fail (pa : Int)).2 = x := ⟨_, rfl⟩
        rw [hs9] at HK9 HTd
        clear hkp c0 c1 hs9
        go_wp2
        go_loopw [18] (fun iv wx => ∃ i : Nat, i ≤ k ∧ iv = .int .i64 (i : Int) ∧ Bk Real AR S w1 wx d g s9 300 (putsA k) (q + 1) [Lie.refs w1.heap.size (.slice (some ad) k c) (tellR k)]) (fun iv _ => k - (intOf iv).toNat)
        case atStart => exact ⟨0, Nat.zero_le _, rfl, HK9.out⟩
        case round =>
          obtain ⟨i, hik, rfl, hki⟩ := hrel
          have HKi := hid hki
          clear hki
          by_cases hil : i < k
          · have hiI : (i : Int) < (k : Int) := by omega
            have HIl := hid hil
            obtain ⟨c0, c1⟩ := HKi.out.cellR List.mem_cons_self (tellR_get hil)
            obtain ⟨zi, hzi⟩ : ∃ zi, crcOf (nats (mark i)) = zi := ⟨_, rfl⟩
            have HGi := hid (HTd.out i hil)
            have HZi := hid (show zi < 4294967296 from hzi ▸ crc_lt (nats_bts (mark_byt' (by omega))))
            simp only at c0 c1
            rw [hzi] at c1 HGi
            obtain ⟨pi, hpi⟩ : ∃ pi, 150 + i = pi := ⟨_, rfl⟩
            rw [hpi] at c0 HGi
            have HPi := hid (show pi ≤ 6000 from by omega)
            have hw8 : IntKind.u8.wrap (i : Int) = (i : Int) := by rw [IntKind.wrap_u8]; omega
            have HCi := hid (show ∀ w', Below wr.heap.size wr w' → w'.cell? (ad.add (i * 2)) = some (.int .i64 (pi : Int)) ∧ w'.cell? ⟨(ad.add (i * 2)).block, (ad.add (i * 2)).off + 1, none⟩ = some (.int .u32 (zi : Int)) from fun w' hb => ⟨(hb.cell (World.block_lt_of_cell? wr _ c0)).trans c0, (hb.cell (World.block_lt_of_cell? wr _ c1)).trans c1⟩)
            clear hzi hpi
            go_wp2_with fail
            refine (bk_get HD.out HO.out (k := pi) (z := zi) HKi.out HPi.out HZi.out).mono ?_
            by_cases hia : i = a
            · have hiaI : ((i : Int) == (a : Int)) = true := by rw [beq_iff_eq]; omega
              rw [HGi.out, if_pos hia]
              have HIa := hid hia
              clear hia
              rintro e w10 ⟨hkg, hb, A4, m4, c4, v4, rfl, hv, _⟩
              have HK10 := hid hkg
              have HV := hid hv
              have HB10 := hid hb
              clear hkg hb hv c0 c1
              go_wp2_with fail
              refine (bk_is HD.out HO.out HK10.out 107 HV.out).mono ?_
              rintro e w11 ⟨rfl, hkg, hb⟩
              have HK11 := hid hkg
              obtain ⟨c0, c1⟩ := HCi.out w11 (HB10.out.trans (hb.mono HB10.out.size))
              have e7 : ((107 : Int) == 107) = true := rfl
              rw [e7]
              clear hkg hb
              go_wp2_with fail
              refine (bk_good HD.out HO.out (k := pi) (z := zi) HK11.out HPi.out HZi.out).mono ?_
              rw [HGi.out, if_pos HIa.out]
              rintro e w12 ⟨rfl, hkg, _⟩
              have HK12 := hid hkg
              have e8 : (((107, []) : Int × List Int).1 == 0) = false := rfl
              rw [e8]
              clear hkg c0 c1
              go_wp2
              go_roundw
              case rel => exact ⟨i + 1, by omega, by go_num, HK12.out⟩
              case measure => simp [intOf]; omega
            · have hiaI : ((i : Int) == (a : Int)) = false := by rw [beq_eq_false_iff_ne]; omega
              rw [HGi.out, if_neg hia]
              rintro e w10 ⟨hkg, hb, A4, m4, c4, v4, rfl, hv, hl4⟩
              obtain rfl := hv.nil
              have HK10 := hid hkg
              have HL4 := hid (hl4 rfl)
              have HB10 := hid hb
              have HK10l := hid (hkg.lit HD.out HO.out [(i : Int), 9] (by simp))
              clear hkg hb hv hl4 c0 c1
              go_wp2_with fail
              refine (bk_full HD.out HO.out (k := 2) (c := 2) (l := [(i : Int), 9]) HK10l.out (HK10l.out.bytes List.mem_cons_self) (by omega)).mono ?_
              rw [show padB [(i : Int), 9] = mark i from rfl]
              rintro e w11 ⟨A6, c6, rfl, hkg, hb⟩
              have HK11 := hid hkg
              have hba : Below w10.heap.size w10 (w10.alloc (.cells (I [(i : Int), 9]).toArray 5)) := (Below.refl _ _).alloc (Nat.le_refl _) _
              have HL11 := hid ((HL4.out.on hba).on hb)
              have HB11 := hid (HB10.out.trans ((hba.trans (hb.mono hba.size)).mono HB10.out.size))
              clear hkg hb hba
              go_wp2_with fail
              refine (bk_same HD.out HO.out HK11.out HL11.out (HK11.out.bytes List.mem_cons_self)).mono ?_
              rw [same_self]
              rintro e w12 ⟨rfl, hkg, hb⟩
              have HK12 := hid (hkg.less (ls := [Lie.refs w1.heap.size (.slice (some ad) k c) (tellR k)]) (fun K hK => by simp at hK; subst hK; simp))
              obtain ⟨c0, c1⟩ := HCi.out w12 (HB11.out.trans (hb.mono HB11.out.size))
              clear hkg hb
              go_wp2_with fail
              refine (bk_good HD.out HO.out (k := pi) (z := zi) HK12.out HPi.out HZi.out).mono ?_
              rw [HGi.out, if_neg hia]
              rintro e w13 ⟨rfl, hkg, _⟩
              have HK13 := hid hkg
              have e8 : (((0, mark i) : Int × List Int).1 == 0) = true := rfl
              rw [e8]
              clear hkg c0 c1
              go_wp2
              go_roundw
              case rel => exact ⟨i + 1, by omega, by go_num, HK13.out⟩
              case measure => simp [intOf]; omega
          · have hiI : decide (i < k) = false := by simpa using hil
            have HB := hid HKi.out.below
            go_wp2
            go_ret
            exact ⟨rfl, HB1.out.trans (HB.out.mono HB1.out.size)⟩
end
end Go.Proofs.YtfdabbpfphnbhaaDoor
