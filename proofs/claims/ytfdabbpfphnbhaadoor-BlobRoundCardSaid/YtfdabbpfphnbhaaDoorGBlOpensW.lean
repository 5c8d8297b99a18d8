/- The walk of BlobOpens, for whatever keeps the calls. -/
import Derived.Test.YtfdabbpfphnbhaaDoorGBlO
namespace Go.Proofs.YtfdabbpfphnbhaaDoor
open Go.RowKit

section
variable {Real : World → Nat → DSt → (Nat → Prop) → Prop} {AR : World → Nat → Nat → Nat → ASt → (Nat → Prop) → Prop}
set_option maxRecDepth 100000 in
set_option maxHeartbeats 1000000 in
theorem blobOpens_long (D : DevOk Real) (O : AreaOk Real AR) (S : Nat → Addr) (A : Option Addr) (len cap : Nat) (w : World) (hS : Sent w S) (h : 30 < len) (hm : len ≤ 9223372036854775807) :
    Calls Tryd.prog 6 #[.slice A len cap] w (Yes w) := by
  have HS := hid hS
  have HD := hid D
  have HO := hid O
  have g1 : decide ((30 : Int) < (len : Int)) = true := by simp; omega
  clear hS D O
  go_enter Tryd.func6, Tryd.ntmps6
  go_wp2_with fail
  refine (first9_any HD.out HO.out _ HS.out).mono ?_
  rintro e w1 ⟨rfl, hb1⟩
  have HB1 := hid hb1
  clear hb1
  go_wp2
  go_ret
  exact ⟨rfl, HB1.out⟩
set_option maxRecDepth 100000 in
set_option maxHeartbeats 8000000 in
theorem blobOpens_any (D : DevOk Real) (O : AreaOk Real AR) (S : Nat → Addr) (A : Option Addr) (len cap : Nat) (l : List Int) (w : World) (hS : Sent w S) (hlen : len ≤ 30) (hl : Sn w w.heap.size A len cap l) :
    Calls Tryd.prog 6 #[.slice A len cap] w (Yes w) := by
  have HS := hid hS
  have HD := hid D
  have HO := hid O
  have HL := hid hl
  have HLn := hid (show l.length = len ∧ len ≤ 30 from ⟨hl.len, hlen⟩)
  have g1 : decide ((30 : Int) < (len : Int)) = false := by simp; omega
  have g2 : (len : Int) ≤ 30 := by omega
  clear hS D O hl hlen
  obtain ⟨i0, hi, hz0, hz1, hz2⟩ := info_parts Tryd.infoRefB
  go_enter Tryd.func6, Tryd.ntmps6
  go_wp2_with fail
  refine (first9_any HD.out HO.out _ HS.out).mono ?_
  rintro e w1 ⟨rfl, hb1⟩
  have HB1 := hid hb1
  have HS1 := hid (HS.out.on hb1)
  have HL1 := hid ((HL.out.below hb1).more hb1.size)
  clear hb1
  go_upto_region 9 with fail
  rw [show Tryd.zeroCells29 = arr 300 (inA []) from by kernel_rfl]
  obtain ⟨w2, hw2⟩ : ∃ W, w1.alloc (.cells (arr 300 (inA [])) 29) = W := ⟨_, rfl⟩
  obtain ⟨eb, heb⟩ : ∃ eb, w1.heap.size = eb := ⟨_, rfl⟩
  have HB2 := hid (show Below eb w1 w2 from by rw [← hw2, ← heb]; exact (Below.refl _ _).alloc (Nat.le_refl _) _)
  have HE2 := hid (show Blk w2 eb 29 (arr 300 (inA [])) from by rw [← hw2, ← heb]; exact Blk.new w1 _ _)
  have HEb := hid heb
  rw [hw2, heb]
  clear hw2 heb
  go_wp2
  go_loopw [4, 6, 7] (fun rv bv iv wr => ∃ k : Nat, k ≤ len ∧ iv = .int .i64 (k : Int) ∧ bv = .bool (!opensA 300 (refs310 (l.take k))) ∧ Blk wr eb 29 (arr 300 (inA (refs310 (l.take k)))) ∧ OwnB wr (eb + 1) rv (refs310 (l.take k)) ∧ Below eb w1 wr) (fun _ _ iv _ => len - (intOf iv).toNat)
  case atStart => exact ⟨0, Nat.zero_le _, rfl, by rw [List.take_zero]; rfl, by rw [List.take_zero]; exact HE2.out, OwnB.nil _ _, HB2.out⟩
  case round =>
    obtain ⟨k, hk, rfl, rfl, hbl, how, hb⟩ := hrel
    have HBl := hid hbl
    have HOw := hid how
    have HB := hid hb
    clear hbl how hb
    by_cases hlt : k < len
    · have hkl : (k : Int) < (len : Int) := by omega
      obtain ⟨ad, x, rfl, _, hx, cx⟩ := ((HL1.out.below (HEb.out ▸ HB.out)).get hlt)
      have hrt := refs_take hx
      have hx0 : 0 ≤ x % 310 := Int.emod_nonneg _ (by omega)
      have hx1 : x % 310 < 310 := Int.emod_lt_of_pos _ (by omega)
      obtain ⟨kk, hkk⟩ : ∃ kk : Nat, x % 310 = (kk : Int) := ⟨(x % 310).toNat, by omega⟩
      rw [hkk] at hrt
      have HKk := hid hkk
      have HRt := hid hrt
      have hk310 : (kk : Int) < 310 := by omega
      obtain ⟨p, hp⟩ : ∃ p, refs310 (l.take k) = p := ⟨_, rfl⟩
      have hpl : p.length = k := by rw [← hp, refs_len, List.length_take, HLn.out.1]; omega
      rw [hp] at HBl HOw HRt ⊢
      have hbn := bad_next (p := p) (k := kk) (!opensA 300 p) rfl
      rw [← HRt.out] at hbn
      have HOf := hid (show (wr.alloc (.cells #[.int .i64 (kk : Int), .int .u32 5] 36)).ownsRow (eb + 1) 36 2 u4 k (refC p) from by
        have := HOw.out
        unfold OwnB at this
        rw [hpl] at this
        exact this.alloc _)
      have HBs := hid (show eb + 1 ≤ (wr.alloc (.cells #[.int .i64 (kk : Int), .int .u32 5] 36)).heap.size from by have := HBl.out.lt; simp; omega)
      have HPl := hid hpl
      obtain ⟨bb, hbb⟩ : ∃ bb, (!opensA 300 p) = bb := ⟨_, rfl⟩
      obtain ⟨bn, hbn2⟩ : ∃ bn, (!opensA 300 (refs310 (l.take (k + 1)))) = bn := ⟨_, rfl⟩
      rw [hbb, hbn2] at hbn
      rw [hbb]
      have HBn := hid hbn
      have HBn2 := hid hbn2
      have hk30 : (k : Int) < 30 := by omega
      clear hx hrt hx0 hx1 hkk hp hpl hbb hbn2
      go_wp2_with fail
      refine (number_any x 310 _ (by omega) (by omega)).mono ?_
      rw [HKk.out]
      rintro e w3 ⟨rfl, rfl⟩
      go_wp2_with (at_builtin; refine wpList_append_lies _ rfl _ _ 28 rfl (eb + 1) 36 i0 (.agg #[.int .i64 0, .int .u32 0]) 2 16 Tryd.underlying28 hi hz0 hz1 hz2 rfl (by decide) u4 k (refC p) rfl HOf.out ⟨wr.heap.size, 0, none⟩ 1 1 [.int .i64 (kk : Int), .int .u32 5] rfl rfl newsB (oneB _ _) (by omega) (by unfold maxLen; omega) (by omega) HBs.out _ rfl ?_)
      intro gg cap4 w4 hown hgrow hat _
      have hvb : ∀ q, u4.ownBlock = some q → eb + 1 ≤ q := fun q hq => (World.ownsRow.lt HOf.out q hq).1
      have HE4 := hid (show Blk w4 eb 29 (arr 300 (inA p)) from (HBl.out.alloc _).grown hgrow (fun e => by have := hvb eb e.symm; omega))
      have HB4 := hid (show Below eb w1 w4 from (HB.out.alloc (by have := HBl.out.lt; omega) _).grown hgrow (by have := HBl.out.lt; simp; omega) (fun q hq => by have := hvb q hq; omega))
      have HO4 := hid (show OwnB w4 (eb + 1) (.slice (some ⟨gg, 0, none⟩) (k + 1) cap4) (refs310 (l.take (k + 1))) from by
        rw [HRt.out]
        unfold OwnB
        rw [List.length_append, HPl.out, refC_app]
        exact hown)
      have hge : eb + 1 ≤ gg ∧ gg < w4.heap.size := World.ownsRow.lt hown gg rfl
      have HGg := hid hge
      clear hown hgrow hat hvb hge
      by_cases h3 : kk < 300
      · have h3I : (kk : Int) < 300 := by omega
        have h3a : decide ((300 : Int) ≤ (kk : Int)) = false := by simp; omega
        have h3b : (kk : Int) ≤ 299 := by omega
        have HNa := hid (show Blk (w4.setCell ⟨eb, kk, none⟩ (.bool true)) eb 29 (arr 300 (inA (refs310 (l.take (k + 1))))) ∧ OwnB (w4.setCell ⟨eb, kk, none⟩ (.bool true)) (eb + 1) (.slice (some ⟨gg, 0, none⟩) (k + 1) cap4) (refs310 (l.take (k + 1))) ∧ Below eb w1 (w4.setCell ⟨eb, kk, none⟩ (.bool true)) from ⟨by
            have := arr_put (k := kk) HE4.out true
            rwa [← inA_next 5, ← HRt.out] at this, ownsRow_setCell_below HO4.out (a := ⟨eb, kk, none⟩) (by show eb < eb + 1; omega) _, HB4.out.setCell (by exact Nat.le_refl _) _⟩)
        have ce := arr_cell HE4.out h3
        have fe := HE4.out.free kk
        have hmin : min kk 299 = kk := by omega
        have hminI : min (kk : Int) 299 = (kk : Int) := by omega
        rw [hmin] at HBn
        have e3 : decide (kk < 300) = true := by simp; omega
        have e4 : decide (300 ≤ kk) = false := by simp; omega
        have hbn := HBn.out
        rw [e3, e4, Bool.and_true, Bool.false_or] at hbn
        obtain ⟨cc, hcc⟩ : ∃ cc, inA p kk = cc := ⟨_, rfl⟩
        rw [hcc] at ce hbn
        clear e3 e4 hmin hcc
        cases bb
        · by_cases h1 : kk < 150
          · have h1I : decide ((kk : Int) < 150) = true := by simp; omega
            have HBt := hid (show bn = true by rw [← hbn]; simp [h1])
            clear h1 h3 hbn
            go_wp2
            go_roundw
            case rel => exact ⟨k + 1, by omega, by go_num, by rw [HBn2.out, HBt.out], HNa.out.1, HNa.out.2.1, HNa.out.2.2⟩
            case measure => simp [intOf]; omega
          · have h1I : decide ((kk : Int) < 150) = false := by simp; omega
            have HBt := hid (show bn = cc by rw [← hbn]; simp [h1])
            clear h1 h3 hbn
            cases cc
            all_goals
              go_wp2
              go_roundw
              case rel => exact ⟨k + 1, by omega, by go_num, by rw [HBn2.out, HBt.out], HNa.out.1, HNa.out.2.1, HNa.out.2.2⟩
              case measure => simp [intOf]; omega
        · have HBt := hid (show bn = true by rw [← hbn]; rfl)
          clear h3 hbn
          go_wp2
          go_roundw
          case rel => exact ⟨k + 1, by omega, by go_num, by rw [HBn2.out, HBt.out], HNa.out.1, HNa.out.2.1, HNa.out.2.2⟩
          case measure => simp [intOf]; omega
      · have h3I : (300 : Int) ≤ (kk : Int) := by omega
        have h3a : decide ((kk : Int) < 300) = false := by simp; omega
        have h1I : decide ((kk : Int) < 150) = false := by simp; omega
        have HNa := hid (show Blk w4 eb 29 (arr 300 (inA (refs310 (l.take (k + 1))))) ∧ OwnB w4 (eb + 1) (.slice (some ⟨gg, 0, none⟩) (k + 1) cap4) (refs310 (l.take (k + 1))) ∧ Below eb w1 w4 from ⟨by
            have := HE4.out
            rw [HRt.out, arr_same (inA_off 5 (by omega))]
            exact this, HO4.out, HB4.out⟩)
        have e4 : decide (300 ≤ kk) = true := by simp; omega
        have hbn := HBn.out
        rw [e4] at hbn
        have HBt := hid (show bn = true by rw [← hbn]; simp)
        clear h3 hbn e4
        cases bb
        all_goals
          go_wp2
          go_roundw
          case rel => exact ⟨k + 1, by omega, by go_num, by rw [HBn2.out, HBt.out], HNa.out.1, HNa.out.2.1, HNa.out.2.2⟩
          case measure => simp [intOf]; omega
    · have hkl : decide (k < len) = false := by simpa using hlt
      obtain rfl : k = len := by omega
      have htk : l.take k = l := List.take_of_length_le (by rw [HLn.out.1]; exact Nat.le_refl _)
      rw [htk] at HBl HOw ⊢
      obtain ⟨p, hp⟩ : ∃ p, refs310 l = p := ⟨_, rfl⟩
      have hpl : p.length = k := by rw [← hp, refs_len, HLn.out.1]
      have HPw := hid (show ∀ r, r ∈ p → -9223372036854775808 ≤ r.1 ∧ r.1 ≤ 9223372036854775807 from fun r hr => by
        rw [← hp] at hr
        unfold refs310 at hr
        obtain ⟨x, _, rfl⟩ := List.mem_map.1 hr
        have := Int.emod_nonneg x (show (310 : Int) ≠ 0 by omega)
        have := Int.emod_lt_of_pos x (show (0 : Int) < 310 by omega)
        simp only
        omega)
      rw [hp] at HBl HOw ⊢
      obtain ⟨A2, c2, rfl, hrf, _⟩ := HOw.out.form
      rw [hpl] at hrf
      have HRf := hid hrf
      have HPl := hid hpl
      have HNew := hid (HD.out.new 300 wr (by omega) (by omega))
      have HSr := hid (HS1.out.on (HEb.out ▸ HB.out))
      have HBr := hid (show Below w1.heap.size w1 wr from HEb.out ▸ HB.out)
      rw [hpl]
      clear htk hp hrf hpl
      go_wp2_with fail
      refine HNew.out.mono ?_
      rintro e w3 ⟨d, F, rfl, hr, hb, hf⟩
      have HOp := hid (bk_open HD.out HO.out HSr.out hb hr hf (by omega) (by omega) (show RefSl w3 w3.heap.size A2 k c2 p from ⟨HRf.out.len, HRf.out.cap, HRf.out.max, HRf.out.nil, fun ad ha h0 => by
        obtain ⟨h1, h2⟩ := HRf.out.at_ ad ha h0
        exact ⟨Nat.lt_of_lt_of_le h1 hb.size, fun j x hx => ⟨(hb.cell (by rw [add_block]; exact h1)).trans (h2 j x hx).1, (hb.cell (by rw [add_block]; exact h1)).trans (h2 j x hx).2⟩⟩⟩) (by have := HLn.out.2; omega) HPw.out)
      have HB3 := hid hb
      clear hr hb hf
      go_wp2_with fail
      refine HOp.out.mono ?_
      rintro e w5 ⟨hb5, (⟨ho, g, rfl, hk⟩ | ⟨ho, v, hv, rfl⟩)⟩
      · rw [ho]
        have HK5 := hid (hk.old HBl.out)
        have HLo := hid (left_open ho)
        have HUo := hid (used_open ho)
        clear hk hb5
        obtain ⟨lf, hlf⟩ : ∃ lf, leftA 300 (openA' 300 p) = lf := ⟨_, rfl⟩
        have HLf := hid hlf
        have hlfI : (150 : Int) - (k : Int) = (lf : Int) := by have := HLo.out; have := HPl.out; omega
        have HU0 := hid (opens_use (p := p))
        clear ho hlf
        go_wp2_with fail
        refine (bk_left HD.out HO.out HK5.out).mono ?_
        rw [HLf.out]
        rintro e w6 ⟨rfl, hk, _⟩
        have HK6 := hid hk
        clear hk
        go_wp2_with fail
        refine (bk_used HD.out HO.out HK6.out).mono ?_
        rintro e w7 ⟨hkB, _, A9, m9, c9, rfl, hsn⟩
        have hm9 : m9 = k := by rw [← hsn.len, HUo.out, HPl.out]
        subst hm9
        have HK7 := hid hkB
        clear hkB hsn
        go_wp2
        go_loopw [13] (fun iv wx => ∃ (i q : Nat) (s : DSt) (a : ASt), i ≤ 20 ∧ iv = .int .i64 (i : Int) ∧ q ≤ i ∧ (∀ j, inA p j = true → a.use j = true) ∧ leftA 300 a + m9 + i = 150 ∧ Bk Real AR S wr wx d g s 300 a q [Lie.blk eb 29 (arr 300 (inA p))]) (fun iv _ => 20 - (intOf iv).toNat)
        case atStart => exact ⟨0, 0, _, _, by omega, rfl, by omega, HU0.out, by have := HLo.out; have := HLf.out; have := HPl.out; omega, HK7.out⟩
        case round =>
          obtain ⟨i, q, s, a, hi20, rfl, hq, hu, hle, hki⟩ := hrel
          have HKi := hid hki
          have HQ := hid hq
          have HU := hid hu
          have HLe := hid hle
          clear hki hq hu hle
          by_cases hil : i < 20
          · have hilI : (i : Int) < 20 := by omega
            go_wp2_with fail
            refine (bk_put HO.out (A := none) (m := 0) (c := 0) (l := []) HKi.out.nob (by have := HQ.out; omega) (by omega) Byt.nil).mono ?_
            rintro e w8 (⟨kp, hn, rfl, hk⟩ | ⟨hn, _⟩)
            · obtain ⟨o1, o2, o3, o4⟩ := opens_put hn HU.out HLe.out
              have HN1 := hid o1
              have HN2 := hid o2
              obtain ⟨z, hz⟩ : ∃ z, crcOf (nats (padB [])) = z := ⟨_, rfl⟩
              have HK8 := hid (hk.box HD.out HO.out 36 #[.int .i64 (kp : Int), .int .u32 (crcOf (nats (padB [])) : Int)])
              rw [hz] at HK8 ⊢
              have hkp : (kp : Int) < 300 := by omega
              have hkp0 : (0 : Int) ≤ (kp : Int) := by omega
              have HO3 := hid o3
              have HO4 := hid o4
              clear hk hn hz o1 o2 o3 o4
              go_upto_region 29 with fail
              generalize hw9 : (w8.alloc (.cells #[.int .i64 (kp : Int), .int .u32 (z : Int)] 36)) = w9 at HK8 ⊢
              obtain ⟨rb, hrb⟩ : ∃ rb, w8.heap.size = rb := ⟨_, rfl⟩
              rw [hrb] at HK8 ⊢
              clear hrb hw9
              have k0 := (HK8.out.blk List.mem_cons_self).cell 0
              simp at k0
              have ce := arr_cell (HK8.out.blk (g1 := eb) (t := 29) (cs := arr 300 (inA p)) (by simp)) HO4.out
              rw [HO3.out] at ce
              have HKn := hid (HK8.out.less (ls := [Lie.blk eb 29 (arr 300 (inA p))]) (fun K hK => by simp at hK; subst hK; simp))
              go_wp2
              go_roundw
              case rel => exact ⟨i + 1, q + 1, _, _, by omega, by go_num, by have := HQ.out; omega, HN1.out, HN2.out, HKn.out⟩
              case measure => simp [intOf]; omega
            · have h1 := room_zero hn
              have h2 := HLe.out
              have h3 := HLn.out.2
              exact absurd h2 (by omega)
          · have hilI : decide (i < 20) = false := by simpa using hil
            obtain rfl : i = 20 := by omega
            have HB := hid HKi.out.below
            go_wp2
            go_ret
            exact ⟨rfl, HB1.out.trans ((HBr.out.trans (HB.out.mono HBr.out.size)).mono HB1.out.size)⟩
      · rw [ho]
        have HV := hid hv
        have HB5 := hid (HB3.out.trans (hb5.mono HB3.out.size))
        have HS5 := hid (HSr.out.on HB5.out)
        clear ho hv hb5
        go_wp2_with fail
        refine (is_any S 103 103 v _ HS5.out HV.out).mono ?_
        rintro e w6 ⟨rfl, hb⟩
        have HB6 := hid hb
        clear hb
        go_wp2
        go_ret
        exact ⟨rfl, HB1.out.trans ((HBr.out.trans ((HB5.out.trans (HB6.out.mono HB5.out.size)).mono HBr.out.size)).mono HB1.out.size)⟩
end
end Go.Proofs.YtfdabbpfphnbhaaDoor
