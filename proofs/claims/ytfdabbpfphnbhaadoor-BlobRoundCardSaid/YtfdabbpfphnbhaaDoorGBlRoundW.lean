/- The walk of BlobRound, for whatever keeps the calls. -/
import Derived.Test.YtfdabbpfphnbhaaDoorGBlB
namespace Go.Proofs.YtfdabbpfphnbhaaDoor
open Go.RowKit

section
variable {Real : World → Nat → DSt → (Nat → Prop) → Prop} {AR : World → Nat → Nat → Nat → ASt → (Nat → Prop) → Prop}
set_option maxRecDepth 100000 in
set_option maxHeartbeats 8000000 in
theorem blobRound_any (D : DevOk Real) (O : AreaOk Real AR) (S : Nat → Addr) (n gap : Int) (w : World) (hS : Sent w S) :
    Calls Tryd.prog 7 #[.int .i64 n, .int .i64 gap] w (Yes w) := by
  have HS := hid hS
  have HD := hid D
  have HO := hid O
  have hi0 : 0 ≤ n % 400 := Int.emod_nonneg _ (by omega)
  have hi1 : n % 400 < 400 := Int.emod_lt_of_pos _ (by omega)
  obtain ⟨m, hm⟩ : ∃ m : Nat, n % 400 = (m : Int) := ⟨(n % 400).toNat, by omega⟩
  have HM := hid hm
  have hm9 : (m : Int) ≤ 399 := by omega
  have HM9 := hid (show m ≤ 399 from by omega)
  have hj0 : 0 ≤ gap % 100 := Int.emod_nonneg _ (by omega)
  have hj1 : gap % 100 < 100 := Int.emod_lt_of_pos _ (by omega)
  obtain ⟨j, hj⟩ : ∃ j : Nat, gap % 100 = (j : Int) := ⟨(gap % 100).toNat, by omega⟩
  have HJ := hid hj
  have hj9 : (j : Int) ≤ 99 := by omega
  obtain ⟨gp, hgp⟩ : ∃ gp : Nat, gp = j + 2 := ⟨_, rfl⟩
  have hgI : (j : Int) + 2 = (gp : Int) := by omega
  have hg0 : (2 : Int) ≤ (gp : Int) := by omega
  have hg9 : (gp : Int) ≤ 101 := by omega
  have HG := hid (show 2 ≤ gp ∧ gp ≤ 101 from by omega)
  have hy1 : Byt [1] := fun x hx => by simp at hx; omega
  have HY1 := hid hy1
  clear hS D O hi0 hi1 hm hj0 hj1 hj hgp hy1
  go_enter Tryd.func7, Tryd.ntmps7
  go_wp2_with fail
  refine (first9_any HD.out HO.out _ HS.out).mono ?_
  rintro e w1 ⟨rfl, hb1⟩
  have HB1 := hid hb1
  have HS1 := hid (HS.out.on hb1)
  clear hb1
  go_wp2_with fail
  refine (number_any n 400 _ (by omega) (by omega)).mono ?_
  rw [HM.out]
  rintro e w2 ⟨rfl, rfl⟩
  go_wp2_with fail
  refine (number_any gap 100 _ (by omega) (by omega)).mono ?_
  rw [HJ.out]
  rintro e w2 ⟨rfl, rfl⟩
  go_wp2_with fail
  refine (opened9_any HD.out HO.out 300 _ HS1.out (by omega) (by omega)).mono ?_
  rintro e w3 ⟨g, d, rfl, hk⟩
  have HK3 := hid hk
  clear hk
  go_wp2
  go_loopw [8, 9] (fun lv iv wr => ∃ (k q : Nat) (s : DSt) (a : ASt) (la : Nat), k ≤ m ∧ iv = .int .i64 (k : Int) ∧ lv = .int .i64 (la : Int) ∧ (0 < k → la = 150 + (k - 1) % 150) ∧ q ≤ k ∧ RoundA k gp a ∧ Bk Real AR S w1 wr d g s 300 a q []) (fun _ iv _ => m - (intOf iv).toNat)
  case atStart => exact ⟨0, 0, _, _, 0, Nat.zero_le _, rfl, rfl, fun h => absurd h (by omega), Nat.le_refl _, round_first gp, HK3.out⟩
  case round =>
    obtain ⟨k, q, s, a, la, hk, rfl, rfl, hla, hq, hra, hkr⟩ := hrel
    have HKr := hid hkr
    have HQ := hid hq
    have HLa := hid hla
    have HRa := hid hra
    clear hkr hq hla hra
    by_cases hlt : k < m
    · have hkm : (k : Int) < (m : Int) := by omega
      obtain ⟨b, hbk⟩ : ∃ b : Nat, b = k % 256 := ⟨_, rfl⟩
      have hw8 : IntKind.u8.wrap (k : Int) = (b : Int) := by rw [IntKind.wrap_u8]; omega
      have hyk : Byt [(b : Int)] := fun x hx => by simp at hx; omega
      have HYk := hid hyk
      have HKl := hid (HKr.out.lit HD.out HO.out [(b : Int)] (by simp))
      obtain ⟨lk, hlk⟩ : ∃ lk, padB [(b : Int)] = lk := ⟨_, rfl⟩
      have HLk := hid (show lk.length = 256 ∧ Byt lk from hlk ▸ ⟨padB_len (by simp), padB_byt hyk⟩)
      have HPk := hid hlk
      obtain ⟨zk, hzk⟩ : ∃ zk, crcOf (nats lk) = zk := ⟨_, rfl⟩
      have HZk := hid hzk
      have HZl := hid (show zk < 4294967296 from hzk ▸ crc_lt (nats_bts HLk.out.2))
      obtain ⟨hfr, hnx⟩ := round_next HRa.out HG.out.1 HG.out.2
      have hrd := round_drop HRa.out
      have hus : (a.put (150 + k % 150)).use (150 + k % 150) = true := round_use
      have hp9 : 150 ≤ 150 + k % 150 ∧ 150 + k % 150 < 300 := by omega
      obtain ⟨p, hp⟩ : ∃ p, 150 + k % 150 = p := ⟨_, rfl⟩
      have hpI : (150 : Int) + (k : Int) % 150 = (p : Int) := by omega
      have HLa2 := hid (show 0 < k + 1 → p = 150 + (k + 1 - 1) % 150 from fun _ => by rw [← hp]; rfl)
      rw [hp] at hfr hnx hrd hus hp9
      have HFr := hid hfr
      have HNx := hid hnx
      have HRd := hid hrd
      have HUs := hid hus
      have HP9 := hid hp9
      clear hyk hlk hbk hzk hfr hnx hrd hus hp hp9
      go_wp2_with fail
      refine (bk_put HO.out (m := 1) (c := 1) (l := [(b : Int)]) HKl.out (by have := HQ.out; have := HM9.out; omega) (by omega) HYk.out).mono ?_
      rw [HPk.out, HZk.out]
      rintro e w8 (⟨p', hn, rfl, hkp⟩ | ⟨hn, _⟩)
      · obtain rfl := hn.eq HNx.out
        have HGt := hid (get_of (z := zk) HP9.out.1 HP9.out.2 (put_read (k := p') HKr.out.up HP9.out.2 HLk.out.1 HLk.out.2) HZk.out)
        have HK8 := hid (hkp.box HD.out HO.out 36 #[.int .i64 (p' : Int), .int .u32 (zk : Int)])
        clear hkp hn
        go_upto_region 14 with fail
        generalize hw9 : (w8.alloc (.cells #[.int .i64 (p' : Int), .int .u32 (zk : Int)] 36)) = w9 at HK8 ⊢
        obtain ⟨rb, hrb⟩ : ∃ rb, w8.heap.size = rb := ⟨_, rfl⟩
        obtain ⟨s8, hs8⟩ : ∃ x, s.put p' lk = x := ⟨_, rfl⟩
        rw [hrb, hs8] at HK8
        rw [hs8] at HGt
        rw [hrb]
        clear hrb hw9 hs8
        have k0 := (HK8.out.blk List.mem_cons_self).cell 0
        have k1 := (HK8.out.blk List.mem_cons_self).cell 1
        simp at k0 k1
        go_wp2_with fail
        refine (bk_get HD.out HO.out (k := p') (z := zk) HK8.out (by have := HP9.out.2; omega) HZl.out).mono ?_
        rw [HGt.out]
        rintro e w10 ⟨hkg, hb, A4, m4, c4, v4, rfl, hv, hl4⟩
        obtain rfl := hv.nil
        have HK10 := hid hkg
        have HL4 := hid (hl4 rfl)
        have HK11 := hid (hkg.lit HD.out HO.out [(b : Int)] (by simp))
        clear k0 k1 hkg hl4 hb hv
        go_wp2_with fail
        refine (bk_full HD.out HO.out (k := 1) (c := 1) (l := [(b : Int)]) HK11.out (HK11.out.bytes List.mem_cons_self) (by omega)).mono ?_
        rw [HPk.out]
        rintro e w12 ⟨A6, c6, rfl, hkg, hb⟩
        have HK12 := hid hkg
        have HL12 := hid ((HL4.out.on ((Below.refl _ _).alloc (Nat.le_refl _) _)).on hb)
        clear hkg hb
        go_wp2_with fail
        refine (bk_same HD.out HO.out HK12.out HL12.out (HK12.out.bytes List.mem_cons_self)).mono ?_
        rw [same_self]
        rintro e w13 ⟨rfl, hkg, hb⟩
        have HK13 := hid hkg
        clear hkg hb
        have k0 := (HK13.out.blk (g1 := rb) (t := 36) (cs := #[.int .i64 (p' : Int), .int .u32 (zk : Int)]) (by simp)).cell 0
        have k1 := (HK13.out.blk (g1 := rb) (t := 36) (cs := #[.int .i64 (p' : Int), .int .u32 (zk : Int)]) (by simp)).cell 1
        simp at k0 k1
        go_wp2_with fail
        refine (bk_drop HO.out (k := p') (z := zk) HK13.out (by have := HP9.out.2; omega) HZl.out).mono ?_
        rw [HUs.out, if_pos rfl]
        rintro e w14 ⟨rfl, hkg⟩
        have HK14 := hid (hkg.less (ls := []) (fun K hK => by cases hK))
        clear hkg k0 k1
        obtain ⟨r, hr⟩ : ∃ r, k % gp = r := ⟨_, rfl⟩
        have hrI : (k : Int) % (gp : Int) = (r : Int) := by rw [← hr]; exact (Int.natCast_emod k gp).symm
        have hrT : Int.tmod (k : Int) (gp : Int) = (r : Int) := by rw [Int.tmod_eq_emod_of_nonneg (by omega)]; exact hrI
        have hgz : ((gp : Int) == 0) = false := by rw [beq_eq_false_iff_ne]; omega
        have HR := hid hr
        clear hr
        by_cases hrg : r = gp - 1
        · have hrb : ((r : Int) == (gp : Int) - 1) = true := by rw [beq_iff_eq]; have := HG.out.1; omega
          clear hrg
          go_wp2_with fail
          refine (bk_done HO.out HK14.out).mono ?_
          rintro e w15 ⟨rfl, hkg⟩
          have HK15 := hid hkg
          clear hkg
          go_wp2
          go_roundw
          case rel => exact ⟨k + 1, q + 1, _, _, p', by omega, by go_num, rfl, HLa2.out, by have := HQ.out; omega, round_done HRd.out, HK15.out⟩
          case measure => simp [intOf]; omega
        · have hrb : ((r : Int) == (gp : Int) - 1) = false := by rw [beq_eq_false_iff_ne]; have := HG.out.1; omega
          have HNr := hid (show k % gp ≠ gp - 1 from HR.out ▸ hrg)
          clear hrg
          go_wp2_with fail
          refine (bk_left HD.out HO.out HK14.out).mono ?_
          rintro e w15 ⟨rfl, hkg, hb⟩
          have HK15 := hid hkg
          clear hkg hb
          obtain ⟨lf, hlf⟩ : ∃ lf, leftA 300 ((a.put p').drop p') = lf := ⟨_, rfl⟩
          rw [hlf]
          clear hlf
          by_cases hl2 : lf < 2
          · have hl2I : decide ((lf : Int) < 2) = true := by simp; omega
            clear hl2
            go_wp2_with fail
            refine (bk_done HO.out HK15.out).mono ?_
            rintro e w16 ⟨rfl, hkg⟩
            have HK16 := hid hkg
            clear hkg
            go_wp2
            go_roundw
            case rel => exact ⟨k + 1, q + 1, _, _, p', by omega, by go_num, rfl, HLa2.out, by have := HQ.out; omega, round_done HRd.out, HK16.out⟩
            case measure => simp [intOf]; omega
          · have hl2I : decide ((lf : Int) < 2) = false := by simp; omega
            clear hl2
            go_wp2
            go_roundw
            case rel => exact ⟨k + 1, q + 1, _, _, p', by omega, by go_num, rfl, HLa2.out, by have := HQ.out; omega, round_on HRd.out HG.out.1 HNr.out, HK15.out⟩
            case measure => simp [intOf]; omega
      · exact (room_no hn HFr.out (by rw [datN_300]; exact HP9.out.1) HP9.out.2).elim
    · have hkm : decide (k < m) = false := by simpa using hlt
      obtain rfl : k = m := by omega
      have HKl := hid (HKr.out.lit HD.out HO.out [1] (by simp))
      go_wp2_with fail
      refine (bk_low HO.out (m := 1) (c := 1) (l := [1]) (x := 150) HKl.out (by have := HQ.out; have := HM9.out; omega) (by omega) HY1.out (by omega) (by omega)).mono ?_
      rintro e w8 (⟨p, hn, hx, _⟩ | ⟨_, ⟨zz, rfl⟩, hkp⟩)
      · exact absurd hx (by have := round_low hn; omega)
      · have HK8 := hid (hkp.box HD.out HO.out 36 #[.int .i64 0, .int .u32 zz])
        clear hkp
        go_upto_region 23 with fail
        generalize hw9 : (w8.alloc (.cells #[.int .i64 0, .int .u32 zz] 36)) = w9 at HK8 ⊢
        obtain ⟨rb, hrb⟩ : ∃ rb, w8.heap.size = rb := ⟨_, rfl⟩
        rw [hrb] at HK8 ⊢
        clear hrb hw9
        have k0 := (HK8.out.blk List.mem_cons_self).cell 0
        simp at k0
        have HUd := hid (round_used HRa.out)
        have hways : (((k : Int) == 0) = true ∧ k = 0) ∨ (((k : Int) == 0) = false ∧ 0 < k) := by
          by_cases h : k = 0
          · exact .inl ⟨by rw [beq_iff_eq]; omega, h⟩
          · exact .inr ⟨by rw [beq_eq_false_iff_ne]; omega, by omega⟩
        rcases hways with ⟨hz, _⟩ | ⟨hz, h0⟩
        · go_wp2_with fail
          refine (bk_used HD.out HO.out HK8.out).mono ?_
          rw [HUd.out]
          rintro e w10 ⟨hkp, hb, A9, m9, c9, rfl, hsn⟩
          obtain rfl : m9 = 0 := hsn.len.symm
          have HK10 := hid hkp
          clear hkp hb hsn
          go_wp2_with fail
          refine (bk_is HD.out HO.out HK10.out 0 EV.fine).mono ?_
          rintro e w11 ⟨rfl, hkp, _⟩
          have HB := hid hkp.below
          clear hkp
          go_wp2
          go_ret
          exact ⟨rfl, HB1.out.trans (HB.out.mono HB1.out.size)⟩
        · have hla := HLa.out h0
          have ht : (150 : Int) + ((k : Int) - 1) % 150 = (la : Int) := by omega
          have hk1 : (1 : Int) ≤ (k : Int) := by omega
          clear hla h0
          go_wp2_with fail
          refine (bk_used HD.out HO.out HK8.out).mono ?_
          rw [HUd.out]
          rintro e w10 ⟨hkp, hb, A9, m9, c9, rfl, hsn⟩
          obtain rfl : m9 = 0 := hsn.len.symm
          have HK10 := hid hkp
          clear hkp hb hsn
          go_wp2_with fail
          refine (bk_is HD.out HO.out HK10.out 0 EV.fine).mono ?_
          rintro e w11 ⟨rfl, hkp, _⟩
          have HB := hid hkp.below
          clear hkp
          go_wp2
          go_ret
          exact ⟨rfl, HB1.out.trans (HB.out.mono HB1.out.size)⟩
end
end Go.Proofs.YtfdabbpfphnbhaaDoor
