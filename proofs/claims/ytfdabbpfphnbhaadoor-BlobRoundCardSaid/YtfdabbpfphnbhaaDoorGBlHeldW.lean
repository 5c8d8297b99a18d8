/- The walk of BlobHeld, for whatever keeps the calls. -/
import Derived.Test.YtfdabbpfphnbhaaDoorGBlB
namespace Go.Proofs.YtfdabbpfphnbhaaDoor
open Go.RowKit

section
variable {Real : World → Nat → DSt → (Nat → Prop) → Prop} {AR : World → Nat → Nat → Nat → ASt → (Nat → Prop) → Prop}
set_option maxRecDepth 100000 in
set_option maxHeartbeats 1000000 in
theorem blobHeld_long (D : DevOk Real) (O : AreaOk Real AR) (S : Nat → Addr) (A : Option Addr) (len cap : Nat) (n : Int) (w : World) (hS : Sent w S) (h : 256 < len) (hm : len ≤ 9223372036854775807) :
    Calls Tryd.prog 4 #[.slice A len cap, .int .i64 n] w (Yes w) := by
  have HS := hid hS
  have HD := hid D
  have HO := hid O
  have g1 : decide ((256 : Int) < (len : Int)) = true := by simp; omega
  clear hS D O
  go_enter Tryd.func4, Tryd.ntmps4
  go_wp2_with fail
  refine (first9_any HD.out HO.out _ HS.out).mono ?_
  rintro e w1 ⟨rfl, hb1⟩
  have HB1 := hid hb1
  clear hb1
  go_wp2
  go_ret
  exact ⟨rfl, HB1.out⟩
set_option maxRecDepth 100000 in
set_option maxHeartbeats 8000000 in
theorem blobHeld_any (D : DevOk Real) (O : AreaOk Real AR) (S : Nat → Addr) (A : Option Addr) (len cap : Nat) (lb : List Int) (n : Int) (w : World) (hS : Sent w S) (hlen : len ≤ 256) (hl : Sl w w.heap.size A len cap lb) (hy : Byt lb) :
    Calls Tryd.prog 4 #[.slice A len cap, .int .i64 n] w (Yes w) := by
  have HS := hid hS
  have HD := hid D
  have HO := hid O
  have HA := hid hl
  have HY := hid hy
  have HLen := hid hlen
  have g1 : decide ((256 : Int) < (len : Int)) = false := by simp; omega
  obtain ⟨l, hll⟩ : ∃ l, padB lb = l := ⟨_, rfl⟩
  have HL := hid hll
  have HYl := hid (show Byt l from hll ▸ padB_byt hy)
  have H256 := hid (show l.length = 256 from hll ▸ padB_len (by rw [hl.len]; exact hlen))
  obtain ⟨z, hz⟩ : ∃ z, crcOf (nats l) = z := ⟨_, rfl⟩
  have HZ := hid hz
  have HZl := hid (show z < 4294967296 from hz ▸ crc_lt (nats_bts HYl.out))
  have hi0 : 0 ≤ n % 149 := Int.emod_nonneg _ (by omega)
  have hi1 : n % 149 < 149 := Int.emod_lt_of_pos _ (by omega)
  obtain ⟨i, hi⟩ : ∃ i : Nat, n % 149 = (i : Int) := ⟨(n % 149).toNat, by omega⟩
  have HI := hid hi
  have hi8 : (i : Int) ≤ 148 := by omega
  obtain ⟨m, hm⟩ : ∃ m : Nat, m = i + 1 := ⟨_, rfl⟩
  have hmI : (i : Int) + 1 = (m : Int) := by omega
  have hm9 : (m : Int) ≤ 149 := by omega
  have HM := hid (show 1 ≤ m ∧ m ≤ 149 from by omega)
  clear hS D O hl hlen hy hll hz hi0 hi1 hi hm
  go_enter Tryd.func4, Tryd.ntmps4
  go_wp2_with fail
  refine (first9_any HD.out HO.out _ HS.out).mono ?_
  rintro e w1 ⟨rfl, hb1⟩
  have HB1 := hid hb1
  have HS1 := hid (HS.out.on hb1)
  have HA1 := hid (HA.out.on hb1)
  clear hb1
  go_wp2_with fail
  refine (number_any n 149 _ (by omega) (by omega)).mono ?_
  rw [HI.out]
  rintro e w2 ⟨rfl, rfl⟩
  go_wp2_with fail
  refine (opened9_any HD.out HO.out 300 _ HS1.out (by omega) (by omega)).mono ?_
  rintro e w3 ⟨g, d, rfl, hk⟩
  have HK3 := hid (hk.arg HA1.out)
  clear hk
  go_wp2_with fail
  refine (bk_put HO.out HK3.out (by omega) HLen.out HY.out).mono ?_
  rw [HL.out, HZ.out]
  rintro e w4 (⟨k, hn, rfl, hk⟩ | ⟨hn, _⟩)
  rotate_left
  · exact (room_no hn (k := 150) rfl (by rw [datN_300]; omega) (by omega)).elim
  obtain rfl := hn.eq open_next
  have HR4 := hid (put_read (k := 150) HK3.out.up (by omega) H256.out HYl.out)
  have HK4 := hid (hk.box HD.out HO.out 36 #[.int .i64 150, .int .u32 (z : Int)])
  clear hk hn
  go_upto_region 11 with fail
  generalize hw5 : (w4.alloc (.cells #[.int .i64 150, .int .u32 (z : Int)] 36)) = w5 at HK4 ⊢
  obtain ⟨rb, hrb⟩ : ∃ rb, w4.heap.size = rb := ⟨_, rfl⟩
  obtain ⟨s4, hs4⟩ : ∃ s, (DSt.new 300).put 150 l = s := ⟨_, rfl⟩
  rw [hrb, hs4] at HK4
  rw [hs4] at HR4
  rw [hrb]
  clear hrb hw5 hs4
  have k0 := (HK4.out.blk List.mem_cons_self).cell 0
  have k1 := (HK4.out.blk List.mem_cons_self).cell 1
  simp at k0 k1
  go_wp2_with fail
  refine (bk_drop HO.out (k := 150) (z := z) HK4.out (by omega) HZl.out).mono ?_
  rw [open_use, if_pos rfl, held_first]
  rintro e w6 ⟨rfl, hk⟩
  have HK6 := hid hk
  clear hk k0 k1
  have k0 := (HK6.out.blk List.mem_cons_self).cell 0
  have k1 := (HK6.out.blk List.mem_cons_self).cell 1
  simp at k0 k1
  go_wp2_with fail
  refine (bk_drop HO.out (k := 150) (z := z) HK6.out (by omega) HZl.out).mono ?_
  rw [held_use, if_neg (by decide)]
  rintro e w7 ⟨rfl, hk⟩
  have HK7 := hid hk
  clear hk k0 k1
  go_wp2
  go_loopw [10] (fun iv wr => ∃ (k q : Nat) (s : DSt), k ≤ m ∧ iv = .int .i64 (k : Int) ∧ q ≤ k + 1 ∧ Bk Real AR S w1 wr d g s 300 (heldA k) q [Lie.blk rb 36 #[.int .i64 150, .int .u32 (z : Int)], Lie.byt A len cap lb] ∧ s.read ((150 : Nat) : Int) = (0, l)) (fun iv _ => m - (intOf iv).toNat)
  case atStart => exact ⟨0, 1, s4, Nat.zero_le _, rfl, by omega, HK7.out, HR4.out⟩
  case round =>
    obtain ⟨k, q, s, hk, rfl, hq, hkr, hrd⟩ := hrel
    have HKr := hid hkr
    have HRd := hid hrd
    have HQ := hid hq
    clear hkr hrd hq
    by_cases hlt : k < m
    · have hkm : (k : Int) < (m : Int) := by omega
      have hk9 : k < 149 := by have := HM.out; omega
      have hw8 : IntKind.u8.wrap (k : Int) = (k : Int) := by rw [IntKind.wrap_u8]; omega
      have hyk : Byt [(k : Int)] := fun x hx => by simp at hx; omega
      have HYk := hid hyk
      have HK9 := hid hk9
      have HKl := hid (HKr.out.lit HD.out HO.out [(k : Int)] (by simp))
      obtain ⟨lk, hlk⟩ : ∃ lk, padB [(k : Int)] = lk := ⟨_, rfl⟩
      have HLk := hid (show lk.length = 256 ∧ Byt lk from hlk ▸ ⟨padB_len (by simp), padB_byt hyk⟩)
      have HPk := hid hlk
      clear hyk hlk
      go_wp2_with fail
      refine (bk_put HO.out (m := 1) (c := 1) (l := [(k : Int)]) HKl.out (by have := HQ.out; omega) (by omega) HYk.out).mono ?_
      rw [HPk.out]
      rintro e w8 (⟨p, hn, rfl, hkp⟩ | ⟨hn, _⟩)
      · have hp := hn.eq (held_next hk9)
        subst hp
        rw [held_put] at hkp
        have HR8 := hid ((put_readO (k := 151 + k) (i := 150) HKr.out.up (by omega) (by omega) (by omega) HLk.out.1 HLk.out.2).trans HRd.out)
        obtain ⟨p, hp⟩ : ∃ p, 151 + k = p := ⟨_, rfl⟩
        obtain ⟨zk, hzk⟩ : ∃ zk, crcOf (nats lk) = zk := ⟨_, rfl⟩
        have HK8 := hid (hkp.box HD.out HO.out 36 #[.int .i64 ((151 + k : Nat) : Int), .int .u32 (crcOf (nats lk) : Int)])
        rw [hp, hzk] at HK8 ⊢
        rw [hp] at HR8
        have hpn : ((p : Int) == 150) = false := by rw [beq_eq_false_iff_ne]; omega
        clear hkp hn hp hzk
        go_upto_region 17 with fail
        generalize hw9 : (w8.alloc (.cells #[.int .i64 (p : Int), .int .u32 (zk : Int)] 36)) = w9 at HK8 ⊢
        obtain ⟨sb, hsb⟩ : ∃ sb, w8.heap.size = sb := ⟨_, rfl⟩
        rw [hsb] at HK8 ⊢
        clear hsb hw9
        have k0 := (HK8.out.blk List.mem_cons_self).cell 0
        have r0 := (HK8.out.blk (g1 := rb) (t := 36) (cs := #[.int .i64 150, .int .u32 (z : Int)]) (by simp)).cell 0
        simp at k0 r0
        have HKn := hid (HK8.out.less (ls := [Lie.blk rb 36 #[.int .i64 150, .int .u32 (z : Int)], Lie.byt A len cap lb]) (fun K hK => by simp at hK; rcases hK with rfl | rfl <;> simp))
        go_wp2
        go_roundw
        case rel => exact ⟨k + 1, q + 1, _, by omega, by go_num, by have := HQ.out; omega, HKn.out, HR8.out⟩
        case measure => simp [intOf]; omega
      · exact (room_no hn (held_free hk9) (by rw [datN_300]; omega) (by omega)).elim
    · have hkm : decide (k < m) = false := by simpa using hlt
      obtain rfl : k = m := by omega
      have k0 := (HKr.out.blk List.mem_cons_self).cell 0
      have k1 := (HKr.out.blk List.mem_cons_self).cell 1
      simp at k0 k1
      have HG := hid (get_of (z := z) (by omega) (by omega) HRd.out HZ.out)
      go_wp2_with fail
      refine (bk_get HD.out HO.out (k := 150) (z := z) HKr.out (by omega) HZl.out).mono ?_
      rw [HG.out]
      rintro e w10 ⟨hkg, hb, A4, m4, c4, v4, rfl, hv, hl4⟩
      obtain rfl := hv.nil
      have HK10 := hid hkg
      have HL4 := hid (hl4 rfl)
      clear k0 k1 hkg hl4 hb hv
      go_wp2_with fail
      refine (bk_full HD.out HO.out HK10.out (HK10.out.bytes (A := A) (k := len) (c := cap) (l := lb) (by simp)) HLen.out).mono ?_
      rw [HL.out]
      rintro e w11 ⟨A6, c6, rfl, hkg, hb⟩
      have HK11 := hid hkg
      have HL11 := hid (HL4.out.on hb)
      clear hkg hb
      go_wp2_with fail
      refine (bk_same HD.out HO.out HK11.out HL11.out (HK11.out.bytes List.mem_cons_self)).mono ?_
      rw [same_self]
      rintro e w12 ⟨rfl, hkg, hb⟩
      have HK12 := hid hkg
      clear hkg hb
      go_wp2_with fail
      refine (bk_left HD.out HO.out HK12.out).mono ?_
      rw [held_left HM.out.2]
      rintro e w13 ⟨rfl, hkg, hb⟩
      have HK13 := hid (hkg.less (ls := [Lie.blk rb 36 #[.int .i64 150, .int .u32 (z : Int)], Lie.byt A len cap lb]) (fun K hK => by simp at hK; rcases hK with rfl | rfl <;> simp))
      clear hkg hb
      obtain ⟨lf, hlf⟩ : ∃ lf, 149 - k = lf := ⟨_, rfl⟩
      have hlfI : (149 : Int) - (k : Int) = (lf : Int) := by have := HM.out.2; omega
      rw [hlf]
      clear hlf
      go_wp2
      go_loopw [15] (fun iv wx => ∃ (j q : Nat) (s : DSt), k ≤ j ∧ j ≤ 149 ∧ iv = .int .i64 (j : Int) ∧ q ≤ j + 2 ∧ Bk Real AR S w1 wx d g s 300 (heldA j) q [Lie.blk rb 36 #[.int .i64 150, .int .u32 (z : Int)], Lie.byt A len cap lb]) (fun iv _ => 149 - (intOf iv).toNat)
      case atStart => exact ⟨k, q, s, Nat.le_refl _, HM.out.2, rfl, by have := HQ.out; omega, HK13.out⟩
      case round =>
        obtain ⟨j, qj, sj, hj0, hj1, rfl, hqj, hkj⟩ := hrel
        have HKj := hid hkj
        have HQj := hid hqj
        clear hkj hqj
        by_cases hjt : j < 149
        · have hjI : (j : Int) < 149 := by omega
          go_wp2_with fail
          refine (bk_put HO.out (A := none) (m := 0) (c := 0) (l := []) HKj.out.nob (by have := HQj.out; omega) (by omega) Byt.nil).mono ?_
          rintro e w14 (⟨p, hn, rfl, hkp⟩ | ⟨hn, _⟩)
          · have hp := hn.eq (held_next hjt)
            subst hp
            rw [held_put] at hkp
            have HKn := hid (hkp.less (ls := [Lie.blk rb 36 #[.int .i64 150, .int .u32 (z : Int)], Lie.byt A len cap lb]) (fun K hK => by simp at hK; rcases hK with rfl | rfl <;> simp))
            clear hkp hn
            go_wp2
            go_roundw
            case rel => exact ⟨j + 1, qj + 1, _, by omega, by omega, by go_num, by have := HQj.out; omega, HKn.out⟩
            case measure => simp [intOf]; omega
          · exact (room_no hn (held_free hjt) (by rw [datN_300]; omega) (by omega)).elim
        · obtain rfl : j = 149 := by omega
          go_wp2_with fail
          refine (bk_put HO.out (A := none) (m := 0) (c := 0) (l := []) HKj.out.nob (by have := HQj.out; omega) (by omega) Byt.nil).mono ?_
          rintro e w14 (⟨p, hn, _⟩ | ⟨_, ⟨x, zz, v, hv, rfl⟩, hkp⟩)
          · exact (room_no held_full hn.free (hn.in_ (by omega)).1 (hn.in_ (by omega)).2).elim
          · have HV := hid hv
            have HK14 := hid (hkp.box HD.out HO.out 36 #[.int .i64 x, .int .u32 zz])
            clear hkp hv
            go_upto_region 27 with fail
            generalize hw15 : (w14.alloc (.cells #[.int .i64 x, .int .u32 zz] 36)) = w15 at HK14 ⊢
            obtain ⟨fb, hfb⟩ : ∃ fb, w14.heap.size = fb := ⟨_, rfl⟩
            rw [hfb] at HK14 ⊢
            clear hfb hw15
            go_wp2_with fail
            refine (bk_done HO.out HK14.out).mono ?_
            rintro e w16 ⟨rfl, hkp⟩
            have HK16 := hid (hkp.less (ls := [Lie.byt A len cap lb, Lie.blk rb 36 #[.int .i64 150, .int .u32 (z : Int)]]) (fun K hK => by simp at hK; rcases hK with rfl | rfl <;> simp))
            clear hkp
            go_wp2_with fail
            refine (bk_put HO.out HK16.out (by have := HQj.out; omega) HLen.out HY.out).mono ?_
            rw [HL.out, HZ.out]
            rintro e w17 (⟨p, hn, rfl, hkp⟩ | ⟨hn, _⟩)
            · obtain rfl := hn.eq done_next
              have HK17 := hid (hkp.box HD.out HO.out 36 #[.int .i64 150, .int .u32 (z : Int)])
              clear hkp hn
              go_upto_region 29 with fail
              generalize hw18 : (w17.alloc (.cells #[.int .i64 150, .int .u32 (z : Int)] 36)) = w18 at HK17 ⊢
              obtain ⟨yb, hyb⟩ : ∃ yb, w17.heap.size = yb := ⟨_, rfl⟩
              rw [hyb] at HK17 ⊢
              clear hyb hw18
              go_wp2_with fail
              refine (bk_is HD.out HO.out HK17.out 105 HV.out).mono ?_
              rintro e w19 ⟨rfl, hkp, hb⟩
              have HK19 := hid hkp
              clear hkp hb
              have k0 := (HK19.out.blk List.mem_cons_self).cell 0
              have r0 := (HK19.out.blk (g1 := rb) (t := 36) (cs := #[.int .i64 150, .int .u32 (z : Int)]) (by simp)).cell 0
              simp at k0 r0
              have e5 : ((105 : Int) == 105) = true := rfl
              rw [e5]
              go_wp2_with fail
              refine (bk_left HD.out HO.out HK19.out).mono ?_
              rw [done_left]
              rintro e w20 ⟨rfl, hkp, hb⟩
              have HB := hid hkp.below
              clear hkp hb k0 r0
              go_wp2
              go_ret
              exact ⟨rfl, HB1.out.trans (HB.out.mono HB1.out.size)⟩
            · exact (room_no hn (k := 150) rfl (by rw [datN_300]; omega) (by omega)).elim
end
end Go.Proofs.YtfdabbpfphnbhaaDoor
