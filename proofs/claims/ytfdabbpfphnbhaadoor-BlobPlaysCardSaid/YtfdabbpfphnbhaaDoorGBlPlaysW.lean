/- The walk of BlobPlays, for whatever keeps the calls. -/
import Derived.Test.YtfdabbpfphnbhaaDoorGBlS
namespace Go.Proofs.YtfdabbpfphnbhaaDoor
open Go.RowKit

section
variable {Real : World → Nat → DSt → (Nat → Prop) → Prop} {AR : World → Nat → Nat → Nat → ASt → (Nat → Prop) → Prop}
set_option maxRecDepth 100000 in
set_option maxHeartbeats 1000000 in
theorem blobPlays_long (D : DevOk Real) (O : AreaOk Real AR) (S : Nat → Addr) (A : Option Addr) (len cap : Nat) (w : World) (hS : Sent w S) (h : 60 < len) (hm : len ≤ 9223372036854775807) :
    Calls Tryd.prog 3 #[.slice A len cap] w (Yes w) := by
  have HS := hid hS
  have HD := hid D
  have HO := hid O
  have g1 : decide ((60 : Int) < (len : Int)) = true := by simp; omega
  clear hS D O
  go_enter Tryd.func3, Tryd.ntmps3
  go_wp2_with fail
  refine (first9_any HD.out HO.out _ HS.out).mono ?_
  rintro e w1 ⟨rfl, hb1⟩
  have HB1 := hid hb1
  clear hb1
  go_wp2
  go_ret
  exact ⟨rfl, HB1.out⟩
set_option maxRecDepth 100000 in
set_option maxHeartbeats 40000000 in
theorem blobPlays_any (D : DevOk Real) (O : AreaOk Real AR) (S : Nat → Addr) (A : Option Addr) (len cap : Nat) (T : Nat → Stb) (w : World) (hS : Sent w S) (hlen : len ≤ 60) (hT : Dob w w.heap.size A len T) :
    Calls Tryd.prog 3 #[.slice A len cap] w (Yes w) := by
  have HS := hid hS
  have HD := hid D
  have HO := hid O
  have HT := hid hT
  have HLn := hid hlen
  have g1 : decide ((60 : Int) < (len : Int)) = false := by simp; omega
  have g2 : (len : Int) ≤ 60 := by omega
  clear hS D O hT hlen
  obtain ⟨i0, hi, hz0, hz1, hz2⟩ := info_parts Tryd.infoRefB
  go_enter Tryd.func3, Tryd.ntmps3
  go_wp2_with fail
  refine (first9_any HD.out HO.out _ HS.out).mono ?_
  rintro e w1 ⟨rfl, hb1⟩
  have HB1 := hid hb1
  have HS1 := hid (HS.out.on hb1)
  have HT1 := hid (HT.out.below hb1)
  clear hb1
  go_wp2_with fail
  refine (opened9_any HD.out HO.out 300 _ HS1.out (by omega) (by omega)).mono ?_
  rintro e w2 ⟨g, d, rfl, hk⟩
  have HK2 := hid hk
  clear hk
  go_upto_region 11 with fail
  rw [show Tryd.zeroCells29 = arr 300 (openA' 300 []).held from by kernel_rfl]
  have hua : arr 300 (openA' 300 []).held = arr 300 (openA' 300 []).use := arr_same (fun i _ => by rw [open_use', open_held]; simp)
  have HKa := hid (HK2.out.box HD.out HO.out 29 (arr 300 (openA' 300 []).held))
  have HKb := hid (HKa.out.box HD.out HO.out 29 (arr 300 (openA' 300 []).held))
  have hz1' : (w2.alloc (.cells (arr 300 (openA' 300 []).held) 29)).heap.size = w2.heap.size + 1 := by simp
  rw [hz1'] at HKb
  obtain ⟨w3, hw3⟩ : ∃ W, (w2.alloc (.cells (arr 300 (openA' 300 []).held) 29)).alloc (.cells (arr 300 (openA' 300 []).held) 29) = W := ⟨_, rfl⟩
  have hz3 : w3.heap.size = w2.heap.size + 2 := by rw [← hw3]; simp
  rw [hw3] at HKb
  obtain ⟨ub, hub⟩ : ∃ ub, w2.heap.size = ub := ⟨_, rfl⟩
  obtain ⟨hb, hhb⟩ : ∃ hb, w2.heap.size + 1 = hb := ⟨_, rfl⟩
  obtain ⟨B, hB⟩ : ∃ B, w3.heap.size = B := ⟨_, rfl⟩
  have HBh := hid (show B = hb + 1 from by omega)
  have HUh := hid (show ub < B ∧ hb < B ∧ ub ≠ hb ∧ w1.heap.size ≤ ub ∧ w1.heap.size ≤ hb ∧ w1.heap.size ≤ B from by have := HK2.out.below.size; omega)
  rw [hhb, hub] at HKb
  have HAt := hid (show BpAt Real AR S w1 d g ub hb B 0 (.slice none 0 0) (.int .i64 299) w3 from by
    refine ⟨DSt.new 300, openA' 300 [], 0, [], Nat.le_refl _, ?_, Nat.le_refl _, RefsOk.nil, rfl, ?_⟩
    · have : leftA 300 (openA' 300 []) = 150 := by rw [left_all (fun k _ _ => rfl), datN_300]
      omega
    · refine Bk.less (HKb.out.refs0 B) (fun K hK => ?_)
      rw [hua] at HKb ⊢
      simp at hK ⊢
      rcases hK with rfl | rfl | rfl
      · exact .inr (.inr rfl)
      · rw [← hua]; exact .inr (.inl rfl)
      · exact .inl rfl)
  have HBs := hid (show w1.heap.size ≤ B from HUh.out.2.2.2.2.2)
  rw [hw3, hhb, hub]
  clear hua HKa HKb hz1' hw3 hz3 hub hhb hB HK2
  go_wp2
  go_loopw [6, 9, 10] (fun rv lv iv wr => ∃ i : Nat, i ≤ len ∧ iv = .int .i64 (i : Int) ∧ BpAt Real AR S w1 d g ub hb B i rv lv wr) (fun _ _ iv _ => len - (intOf iv).toNat)
  case atStart => exact ⟨0, Nat.zero_le _, rfl, HAt.out⟩
  case round =>
    obtain ⟨i, hil, rfl, s, a, q, refs, hq, hleft, hrl, hro, rfl, hm⟩ := hrel
    have HM := hid hm
    have HQ := hid (And.intro hq (And.intro hleft (And.intro hrl hro)))
    have HBw := hid (show Below w1.heap.size w1 wr from Bk.below hm)
    clear hm hq hleft hrl hro
    by_cases hlt : i < len
    · as_aux_lemma =>
      have hilI : (i : Int) < (len : Int) := by omega
      have HIl := hid (show i < len ∧ i < 60 from ⟨hlt, by have := HLn.out; omega⟩)
      have had : ∃ ad, A = some ad := by
        cases A with
        | none => have := HT1.out.nil rfl; omega
        | some ad => exact ⟨ad, rfl⟩
      obtain ⟨ad, rfl⟩ := had
      have hHw : w.heap.size ≤ w1.heap.size := HB1.out.size
      have HTk := hid (show StbOk w1 w1.heap.size (T i) from { HT1.out.ok i hlt with hB := (HT1.out.ok i hlt).hB.more hHw })
      have hdk := HT1.out.below (HBw.out.mono hHw)
      have c0 := hdk.at_ ad rfl i hlt 0 (by omega)
      have c1 := hdk.at_ ad rfl i hlt 1 (by omega)
      have c2 := hdk.at_ ad rfl i hlt 2 (by omega)
      have c3 := hdk.at_ ad rfl i hlt 3 (by omega)
      have c4 := hdk.at_ ad rfl i hlt 4 (by omega)
      rw [adB ad (i * 5) _ (by omega)] at c1 c2 c3 c4
      simp only [Stb.cell, Nat.add_zero] at c0 c1 c2 c3 c4
      obtain ⟨tk, htk⟩ : ∃ t, T i = t := ⟨_, rfl⟩
      rw [htk] at c0 c1 c2 c3 c4 HTk
      clear htk hdk
      obtain ⟨Av, c, hrv, hrf, _⟩ := (Bk.refs HM.out (B := B) (v := u6) (l := refs) (by simp)).form
      have hn9 : (refs.length : Int) ≤ 60 := by have := HQ.out.2.2.1; have := HIl.out.2; omega
      obtain ⟨nr, hnr⟩ : ∃ nr, refs.length = nr := ⟨_, rfl⟩
      rw [hnr] at hrv hrf hn9
      have HNr := hid hnr
      subst hrv
      have HRf := hid hrf
      clear hnr hrf
      have HTb := hid (Bk.box HD.out HO.out HM.out 33 #[.int .i64 tk.k, .int .i64 tk.n, .int .i64 tk.t, .int .u32 (tk.z : Int), .slice tk.B tk.nB tk.cB])
      go_upto_region 16 with fail
      obtain ⟨w4, hw4⟩ : ∃ W, wr.alloc (.cells #[.int .i64 tk.k, .int .i64 tk.n, .int .i64 tk.t, .int .u32 (tk.z : Int), .slice tk.B tk.nB tk.cB] 33) = W := ⟨_, rfl⟩
      obtain ⟨tb, htb⟩ : ∃ tb, wr.heap.size = tb := ⟨_, rfl⟩
      have HRf4 := hid (show RefSl w4 w4.heap.size Av nr c refs from by
        have hb : Below wr.heap.size wr w4 := by rw [← hw4]; exact (Below.refl _ _).alloc (Nat.le_refl _) _
        exact ⟨HRf.out.len, HRf.out.cap, HRf.out.max, HRf.out.nil, fun ad ha h0 => by
          obtain ⟨h1, h2⟩ := HRf.out.at_ ad ha h0
          exact ⟨Nat.lt_of_lt_of_le h1 hb.size, fun j x hx => ⟨(hb.cell (by rw [add_block]; exact h1)).trans (h2 j x hx).1, (hb.cell (by rw [add_block]; exact h1)).trans (h2 j x hx).2⟩⟩⟩)
      have HTB := hid (show hb ≠ tb ∧ ub ≠ tb from by
        have h1 := (Bk.blk HM.out (g1 := ub) (t := 29) (cs := arr 300 a.use) (by simp)).lt
        have h2 := (Bk.blk HM.out (g1 := hb) (t := 29) (cs := arr 300 a.held) (by simp)).lt
        omega)
      have HK4 := hid (show BpM Real AR S w1 d g ub hb B s a a q (.slice Av nr c) refs [Lie.blk tb 33 #[.int .i64 tk.k, .int .i64 tk.n, .int .i64 tk.t, .int .u32 (tk.z : Int), .slice tk.B tk.nB tk.cB]] w4 from by rw [← htb, ← hw4]; exact HTb.out)
      rw [hw4, htb]
      clear hw4 htb HTb HRf c0 c1 c2 c3 c4
      have hBl := HTk.out.hB.len
      have e1 := (Bk.blk HK4.out List.mem_cons_self).cell 1
      have e4 := (Bk.blk HK4.out List.mem_cons_self).cell 4
      simp at e1 e4
      by_cases hbig : 400 < tk.nB
      · as_aux_lemma =>
          have hbI : decide ((400 : Int) < (tk.nB : Int)) = true := by simp; omega
          have HB4 := hid (Bk.below HK4.out)
          clear hbig hBl
          go_wp2
          go_ret
          exact ⟨rfl, HB1.out.trans (HB4.out.mono HB1.out.size)⟩
      have hbI : decide ((400 : Int) < (tk.nB : Int)) = false := by simp; omega
      have HnB := hid (show tk.nB ≤ 400 from by omega)
      clear hbig hBl
      go_upto_if 64 with fail
      go_cut [12] from 48 to 361 (fun kv wz => wz = w4 ∧ ∃ ki : Int, kv = .int .i64 ki ∧ ((nr = 0 ∧ ki = -1) ∨ (0 ≤ ki ∧ ki < (nr : Int))))
      case first =>
        by_cases hn0 : nr = 0
        · as_aux_lemma =>
            subst hn0
            go_wp2
            go_meet
            exact ⟨rfl, _, rfl, .inl ⟨rfl, rfl⟩⟩
        · as_aux_lemma =>
            have hnI : decide ((0 : Int) < (nr : Int)) = true := by simp; omega
            have hn1 : (0 : Int) < (nr : Int) := by omega
            have h0 := Int.emod_nonneg tk.n (show (nr : Int) ≠ 0 by omega)
            have h1 := Int.emod_lt_of_pos tk.n hn1
            have HN := hid (And.intro h0 h1)
            clear h0 h1
            go_wp2_with fail
            refine (number_any tk.n nr _ (by omega) (by omega)).mono ?_
            rintro e w5 ⟨rfl, rfl⟩
            go_wp2
            go_meet
            exact ⟨rfl, _, rfl, .inr HN.out⟩
      case rest =>
        as_aux_lemma =>
          obtain ⟨rfl, ki, rfl, hki⟩ := hcut
          have HKi := hid hki
          clear hki e1 e4
          have e0 := (Bk.blk HK4.out List.mem_cons_self).cell 0
          simp at e0
          have hks : ((tk.k == 1) = true) ∨ ((tk.k == 1) = false ∧ (tk.k == 5) = true) ∨ ((tk.k == 1) = false ∧ (tk.k == 5) = false ∧ (tk.k == 4) = true) ∨ ((tk.k == 1) = false ∧ (tk.k == 5) = false ∧ (tk.k == 4) = false ∧ decide (ki < 0) = true) ∨ ((tk.k == 1) = false ∧ (tk.k == 5) = false ∧ (tk.k == 4) = false ∧ decide (ki < 0) = false ∧ (tk.k == 3) = true) ∨ ((tk.k == 1) = false ∧ (tk.k == 5) = false ∧ (tk.k == 4) = false ∧ decide (ki < 0) = false ∧ (tk.k == 3) = false ∧ (tk.k == 6) = true) ∨ ((tk.k == 1) = false ∧ (tk.k == 5) = false ∧ (tk.k == 4) = false ∧ decide (ki < 0) = false ∧ (tk.k == 3) = false ∧ (tk.k == 6) = false) := by
            rcases (tk.k == 1) with _ | _ <;> rcases (tk.k == 5) with _ | _ <;> rcases (tk.k == 4) with _ | _ <;> rcases (decide (ki < 0)) with _ | _ <;> rcases (tk.k == 3) with _ | _ <;> rcases (tk.k == 6) with _ | _ <;> simp
          go_upto_block 2 with fail
          go_cut [6, 9, 13, 14, 15, 16, 17, 18, 19, 20, 21, 22, 23, 24, 25, 26] from 48 to 361 (fun rv lv _ _ _ _ _ _ _ _ _ _ _ _ _ _ wz => BpAt Real AR S w1 d g ub hb B (i + 1) rv lv wz)
          case first =>
            rcases hks with m1 | ⟨m1, m2⟩ | ⟨m1, m2, m3⟩ | ⟨m1, m2, m3, m4⟩ | ⟨m1, m2, m3, m4, m5⟩ | ⟨m1, m2, m3, m4, m5, m6⟩ | ⟨m1, m2, m3, m4, m5, m6⟩
            · as_aux_lemma =>
                  by_cases hl : 256 < tk.nB
                  · as_aux_lemma =>
                      have hlI : decide ((256 : Int) < (tk.nB : Int)) = true := by simp; omega
                      have e4 := (Bk.blk HK4.out List.mem_cons_self).cell 4
                      simp at e4
                      have HLl := hid hl
                      clear hl
                      go_wp2_with fail
                      refine (bk_putLong HO.out HK4.out HLl.out (by have := HnB.out; omega)).mono ?_
                      rintro e w5 ⟨⟨x, z, v, hv, rfl⟩, hk⟩
                      have HV := hid hv
                      have HK5 := hid (Bk.box HD.out HO.out hk 36 #[.int .i64 x, .int .u32 z])
                      clear hk hv e0 e4
                      go_upto_region 28 with fail
                      generalize hw6 : (w5.alloc (.cells #[.int .i64 x, .int .u32 z] 36)) = w6 at HK5 ⊢
                      obtain ⟨rb, hrb⟩ : ∃ rb, w5.heap.size = rb := ⟨_, rfl⟩
                      rw [hrb] at HK5 ⊢
                      clear hrb hw6
                      have e4 := (Bk.blk HK5.out (g1 := tb) (t := 33) (cs := #[.int .i64 tk.k, .int .i64 tk.n, .int .i64 tk.t, .int .u32 (tk.z : Int), .slice tk.B tk.nB tk.cB]) (by simp)).cell 4
                      simp at e4
                      go_wp2_with fail
                      refine (bk_is HD.out HO.out HK5.out 103 HV.out).mono ?_
                      rintro e w7 ⟨rfl, hk, _⟩
                      have HN := hid (show BpAt Real AR S w1 d g ub hb B (i + 1) (.slice Av nr c) (.int .i64 (a.last : Int)) w7 from ⟨s, a, q, refs, by have := HQ.out.1; omega, by have := HQ.out.2.1; omega, by have := HQ.out.2.2.1; omega, HQ.out.2.2.2, rfl, Bk.less hk (fun K hK => by simp at hK; rcases hK with rfl | rfl | rfl <;> simp)⟩)
                      have e3 : ((103 : Int) == 103) = true := rfl
                      rw [e3]
                      clear hk e4
                      have hi60 : (i : Int) < 60 := by have := HIl.out.2; omega
                      go_wp2
                      go_roundw
                      case rel => exact ⟨i + 1, by have := HIl.out.1; omega, by go_num, HN.out⟩
                      case measure => simp [intOf]; have := HIl.out.1; omega
                  · as_aux_lemma =>
                      have hlI : decide ((256 : Int) < (tk.nB : Int)) = false := by simp; omega
                      have e4 := (Bk.blk HK4.out List.mem_cons_self).cell 4
                      simp at e4
                      have HLl := hid (show tk.nB ≤ 256 from by omega)
                      have HKp := hid (Bk.arg HK4.out HTk.out.hB)
                      obtain ⟨l, hll⟩ : ∃ l, padB tk.lB = l := ⟨_, rfl⟩
                      have HL := hid hll
                      obtain ⟨z, hz⟩ : ∃ z, crcOf (nats l) = z := ⟨_, rfl⟩
                      have HZ := hid hz
                      have HZl := hid (show z < 4294967296 from hz ▸ crc_lt (nats_bts (hll ▸ padB_byt HTk.out.yB)))
                      have HYl := hid (show Byt l from hll ▸ padB_byt HTk.out.yB)
                      clear hl hll hz
                      go_wp2_with fail
                      refine (bk_put HO.out HKp.out (by have := HQ.out.1; have := HIl.out.2; omega) HLl.out HTk.out.yB).mono ?_
                      rw [HL.out, HZ.out]
                      rintro e w5 (⟨kp, hn, rfl, hk⟩ | ⟨hn, _⟩)
                      rotate_left
                      · have h1 := room_zero hn
                        have h2 := HQ.out.2.1
                        have h3 := HIl.out.2
                        exact absurd h2 (by omega)
                      have hin := hn.in_ (by omega)
                      rw [datN_300] at hin
                      have HIn := hid hin
                      have HFr := hid hn.free
                      have HLf := hid (left_put (n := 300) hn.free (hn.in_ (by omega)).1 (hn.in_ (by omega)).2)
                      have hla := HKp.out.ok.last
                      rw [datN_300] at hla
                      have HLa := hid hla
                      obtain ⟨jn, hj1, hj2, hke, _, hbe⟩ := hn
                      rw [datN_300] at hj2
                      rw [cand_300] at hke
                      have HBe := hid hbe
                      have HKe := hid hke
                      have HJn := hid (And.intro hj1 hj2)
                      have HK5 := hid (Bk.box HD.out HO.out hk 36 #[.int .i64 (kp : Int), .int .u32 (z : Int)])
                      have HRne := hid (show w5.heap.size ≠ ub ∧ w5.heap.size ≠ hb from by
                        have h1 := (Bk.blk hk (g1 := ub) (t := 29) (cs := arr 300 a.use) (by simp)).lt
                        have h2 := (Bk.blk hk (g1 := hb) (t := 29) (cs := arr 300 a.held) (by simp)).lt
                        omega)
                      clear hk hin hla hbe hke e0 e4
                      go_upto_region 28 with fail
                      generalize hw6 : (w5.alloc (.cells #[.int .i64 (kp : Int), .int .u32 (z : Int)] 36)) = w6 at HK5 ⊢
                      obtain ⟨rb, hrb⟩ : ∃ rb, w5.heap.size = rb := ⟨_, rfl⟩
                      obtain ⟨s5, hs5⟩ : ∃ x, s.put kp l = x := ⟨_, rfl⟩
                      rw [hrb, hs5] at HK5
                      rw [hrb] at HRne ⊢
                      clear hrb hw6 hs5
                      have e4 := (Bk.blk HK5.out (g1 := tb) (t := 33) (cs := #[.int .i64 tk.k, .int .i64 tk.n, .int .i64 tk.t, .int .u32 (tk.z : Int), .slice tk.B tk.nB tk.cB]) (by simp)).cell 4
                      simp at e4
                      have hlaI : (150 : Int) ≤ (a.last : Int) := by have := HLa.out.1; omega
                      have hlaI2 : (a.last : Int) < 300 := by have := HLa.out.2; omega
                      go_wp2
                      go_loopw [15, 16] (fun wv jv wx => (∃ t : Nat, 1 ≤ t ∧ t ≤ jn ∧ jv = .int .i64 (t : Int) ∧ wv = .int .i64 (-1) ∧ wx = w6) ∨ (jv = .int .i64 ((jn + 1 : Nat) : Int) ∧ wv = .int .i64 (kp : Int) ∧ wx = w6)) (fun _ jv _ => 200 - (intOf jv).toNat)
                      case atStart => exact .inl ⟨1, Nat.le_refl _, HJn.out.1, rfl, rfl, rfl⟩
                      case round =>
                        rcases hrel with ⟨t, ht1, ht2, rfl, rfl, rfl⟩ | ⟨rfl, rfl, rfl⟩
                        · as_aux_lemma =>
                            have ht9 : (t : Int) ≤ 150 := by have := HJn.out.2; omega
                            have ht0 : (1 : Int) ≤ (t : Int) := by omega
                            obtain ⟨p, hp⟩ : ∃ p, 150 + (a.last - 150 + t) % 150 = p := ⟨_, rfl⟩
                            have hp9 : 150 ≤ p ∧ p < 300 := by omega
                            have hpI : (150 : Int) + ((a.last : Int) - 150 + (t : Int)) % 150 = (p : Int) := by have := HLa.out.1; omega
                            have hp0 : (0 : Int) ≤ (p : Int) := by omega
                            have hp3 : (p : Int) < 300 := by omega
                            have cu := arr_cell (Bk.blk HK5.out (g1 := ub) (t := 29) (cs := arr 300 a.use) (by simp)) hp9.2
                            have ch := arr_cell (Bk.blk HK5.out (g1 := hb) (t := 29) (cs := arr 300 a.held) (by simp)) hp9.2
                            have hcnd : candA 300 a t = p := by rw [cand_300, hp]
                            by_cases htj : t = jn
                            · have hpk : p = kp := by rw [HKe.out, ← htj, hp]
                              have hfr := free_not (hpk ▸ HFr.out : a.free p = true)
                              rw [hfr.1] at cu
                              rw [hfr.2] at ch
                              have HTj := hid htj
                              have HPk := hid hpk
                              clear hp hp9 hcnd htj hpk hfr
                              go_wp2
                              go_roundw
                              case rel => exact .inr ⟨by rw [HTj.out]; go_num, by rw [HPk.out], by first | rfl | trivial⟩
                              case measure => simp [intOf]; omega
                            · have hnf := HBe.out t ht1 (by omega)
                              rw [hcnd, free_def] at hnf
                              have HT2 := hid (show t + 1 ≤ jn from by omega)
                              rcases hub1 : a.use p with _ | _
                              · rw [hub1] at cu hnf
                                have hh1 : a.held p = true := by simpa using hnf
                                rw [hh1] at ch
                                clear hp hp9 hcnd htj hnf hub1 hh1
                                go_wp2
                                go_roundw
                                case rel => exact .inl ⟨t + 1, by omega, HT2.out, by go_num, rfl, by first | rfl | trivial⟩
                                case measure => simp [intOf]; omega
                              · rw [hub1] at cu
                                clear hp hp9 hcnd htj hnf hub1
                                go_wp2
                                go_roundw
                                case rel => exact .inl ⟨t + 1, by omega, HT2.out, by go_num, rfl, by first | rfl | trivial⟩
                                case measure => simp [intOf]; omega
                        · obtain ⟨j9, hj9⟩ : ∃ j9, jn + 1 = j9 := ⟨_, rfl⟩
                          rw [hj9]
                          have hkpI : decide ((kp : Int) < 0) = false := by simp
                          have hkp0 : (0 : Int) ≤ (kp : Int) := by omega
                          have hkp3 : (kp : Int) < 300 := by have := HIn.out.2; omega
                          have hways : decide ((j9 : Int) ≤ 150) = true ∨ decide ((j9 : Int) ≤ 150) = false := by cases decide ((j9 : Int) ≤ 150) <;> simp
                          clear hj9
                          rcases hways with hw | hw
                          all_goals as_aux_lemma =>
                            go_upto_region 38 with fail
                            have HKd := hid (Bk.on HD.out HO.out HK5.out ((Below.refl _ _).drew))
                            have HCb := hid (show ∀ (W : World) (ks' : List Lie), Bk Real AR S w1 W d g s5 300 (a.put kp) (q + 1) (ks' ++ [Lie.blk rb 36 #[.int .i64 (kp : Int), .int .u32 (z : Int)], Lie.byt tk.B tk.nB tk.cB tk.lB, Lie.blk tb 33 #[.int .i64 tk.k, .int .i64 tk.n, .int .i64 tk.t, .int .u32 (tk.z : Int), .slice tk.B tk.nB tk.cB], Lie.blk ub 29 (arr 300 a.use), Lie.blk hb 29 (arr 300 a.held), Lie.refs B (.slice Av nr c) refs]) → W.cell? ⟨rb, 0, none⟩ = some (.int .i64 (kp : Int)) ∧ W.cell? ⟨rb, 1, none⟩ = some (.int .u32 (z : Int)) ∧ W.cell? ⟨tb, 4, none⟩ = some (.slice tk.B tk.nB tk.cB) from fun W ks' h => by
                              have h1 := Bk.blk h (g1 := rb) (t := 36) (cs := #[.int .i64 (kp : Int), .int .u32 (z : Int)]) (by simp)
                              have h2 := Bk.blk h (g1 := tb) (t := 33) (cs := #[.int .i64 tk.k, .int .i64 tk.n, .int .i64 tk.t, .int .u32 (tk.z : Int), .slice tk.B tk.nB tk.cB]) (by simp)
                              exact ⟨h1.cell 0, h1.cell 1, h2.cell 4⟩)
                            have kd := HCb.out _ [] HKd.out
                            have HFu := hid (bk_full HD.out HO.out HKd.out (Bk.bytes HKd.out (A := tk.B) (k := tk.nB) (c := tk.cB) (l := tk.lB) (by simp)) HLl.out)
                            clear e4
                            go_region_held3 (fun w' => w'.cell? ⟨rb, 0, none⟩ = some (.int .i64 (kp : Int)) ∧ w'.cell? ⟨rb, 1, none⟩ = some (.int .u32 (z : Int)) ∧ w'.cell? ⟨tb, 4, none⟩ = some (.slice tk.B tk.nB tk.cB)) (first | exact kd | exact k7) (first | (go_at_call 14; refine HFu.out.mono ?_; rw [HL.out]; rintro e w7 ⟨A7, c7, rfl, hk, _⟩; have HK7 := hid hk; clear hk; have k7 := HCb.out w7 [_] HK7.out) | (go_at_call 13; refine (refSum_any A7 256 c7 _ l _ (Bk.bytes HK7.out List.mem_cons_self) HYl.out).mono ?_; rw [HZ.out]; rintro e w8 ⟨rfl, rfl⟩))
                            have HM7 := hid (show BpM Real AR S w1 d g ub hb B s5 (a.put kp) a (q + 1) (.slice Av nr c) refs [Lie.blk rb 36 #[.int .i64 (kp : Int), .int .u32 (z : Int)]] w7 from Bk.less HK7.out (fun K hK => by simp at hK; rcases hK with rfl | rfl | rfl | rfl <;> simp))
                            have HM8 := hid (HM7.out.setUse HD.out HO.out ⟨HUh.out.1, HUh.out.2.2.1, HUh.out.2.2.2.1⟩ (fun K hK => by simp at hK; subst hK; exact fun e => HRne.out.1 e.symm) kp true)
                            have cu := arr_cell HM7.out.use HIn.out.2
                            have fu := HM7.out.use.free kp
                            go_upto_region 42 with fail
                            obtain ⟨w8, hw8⟩ : ∃ W, w7.setCell ⟨ub, kp, none⟩ (.bool true) = W := ⟨_, rfl⟩
                            rw [hw8] at HM8 ⊢
                            clear hw8 cu fu k7 kd
                            have r0 := (Bk.blk HM8.out List.mem_cons_self).cell 0
                            have r1 := (Bk.blk HM8.out List.mem_cons_self).cell 1
                            simp at r0 r1
                            have HM9 := hid (show BpM Real AR S w1 d g ub hb B s5 (a.put kp) { a with use := setN a.use kp true } (q + 1) (.slice Av nr c) refs [] (w8.alloc (.cells #[.int .i64 (kp : Int), .int .u32 (z : Int)] 36)) from Bk.on HD.out HO.out (Bk.less HM8.out (fun K hK => by simp at hK; rcases hK with rfl | rfl | rfl <;> simp)) ((Below.refl _ _).alloc (Nat.le_refl _) _))
                            have HOf := hid (show (w8.alloc (.cells #[.int .i64 (kp : Int), .int .u32 (z : Int)] 36)).ownsRow B 36 2 (.slice Av nr c) nr (refC refs) from by
                              have := HM9.out.own
                              unfold OwnB at this
                              rwa [HNr.out] at this)
                            have HBz := hid (show B ≤ (w8.alloc (.cells #[.int .i64 (kp : Int), .int .u32 (z : Int)] 36)).heap.size from by have := HM9.out.held.lt; have := HBh.out; omega)
                            go_wp2_with (at_builtin; refine wpList_append_lies _ rfl _ _ 28 rfl B 36 i0 (.agg #[.int .i64 0, .int .u32 0]) 2 16 Tryd.underlying28 hi hz0 hz1 hz2 rfl (by decide) (.slice Av nr c) nr (refC refs) rfl HOf.out ⟨w8.heap.size, 0, none⟩ 1 1 [.int .i64 (kp : Int), .int .u32 (z : Int)] rfl rfl newsB (oneB _ _) (by omega) (by unfold maxLen; omega) (by omega) HBz.out _ rfl ?_)
                            intro gg cap9 w10 hown hgrow hat _
                            have HM10 := hid (HM9.out.app HD.out HO.out (x := ((kp : Int), z)) HNr.out ⟨HUh.out.1, HUh.out.2.1⟩ HUh.out.2.2.2.2.2 hown hgrow (by simpa using hat))
                            have HN := hid (show BpAt Real AR S w1 d g ub hb B (i + 1) (.slice (some ⟨gg, 0, none⟩) (nr + 1) cap9) (.int .i64 (kp : Int)) w10 from ⟨s5, a.put kp, q + 1, refs ++ [((kp : Int), z)], by have := HQ.out.1; omega, by have := HQ.out.2.1; have := HLf.out; omega, by have := HQ.out.2.2.1; rw [List.length_append]; simp; omega, HQ.out.2.2.2.more HIn.out.1 HIn.out.2 HZl.out, rfl, HM10.out⟩)
                            clear hown hgrow hat r0 r1
                            go_wp2_with fail
                            go_meet
                            exact HN.out
            · as_aux_lemma =>
                  by_cases hl : 256 < tk.nB
                  · as_aux_lemma =>
                      have hlI : decide ((256 : Int) < (tk.nB : Int)) = true := by simp; omega
                      have e4 := (Bk.blk HK4.out List.mem_cons_self).cell 4
                      have e2 := (Bk.blk HK4.out List.mem_cons_self).cell 2
                      simp at e4 e2
                      have HLl := hid hl
                      clear hl
                      go_wp2_with fail
                      refine (bk_lowLong HO.out HK4.out (x := tk.t) HLl.out (by have := HnB.out; omega) HTk.out.t0 HTk.out.t1).mono ?_
                      rintro e w5 ⟨⟨x, z, bv, v, hv, rfl⟩, hk⟩
                      have HV := hid hv
                      have HK5 := hid (Bk.box HD.out HO.out hk 36 #[.int .i64 x, .int .u32 z])
                      clear hk hv e0 e4 e2
                      go_upto_region 45 with fail
                      generalize hw6 : (w5.alloc (.cells #[.int .i64 x, .int .u32 z] 36)) = w6 at HK5 ⊢
                      obtain ⟨rb, hrb⟩ : ∃ rb, w5.heap.size = rb := ⟨_, rfl⟩
                      rw [hrb] at HK5 ⊢
                      clear hrb hw6
                      have e4 := (Bk.blk HK5.out (g1 := tb) (t := 33) (cs := #[.int .i64 tk.k, .int .i64 tk.n, .int .i64 tk.t, .int .u32 (tk.z : Int), .slice tk.B tk.nB tk.cB]) (by simp)).cell 4
                      simp at e4
                      go_wp2_with fail
                      refine (bk_is HD.out HO.out HK5.out 103 HV.out).mono ?_
                      rintro e w7 ⟨rfl, hk, _⟩
                      have HN := hid (show BpAt Real AR S w1 d g ub hb B (i + 1) (.slice Av nr c) (.int .i64 (a.last : Int)) w7 from ⟨s, a, q, refs, by have := HQ.out.1; omega, by have := HQ.out.2.1; omega, by have := HQ.out.2.2.1; omega, HQ.out.2.2.2, rfl, Bk.less hk (fun K hK => by simp at hK; rcases hK with rfl | rfl | rfl <;> simp)⟩)
                      have e3 : ((103 : Int) == 103) = true := rfl
                      rw [e3]
                      clear hk e4
                      have hi60 : (i : Int) < 60 := by have := HIl.out.2; omega
                      go_wp2
                      go_roundw
                      case rel => exact ⟨i + 1, by have := HIl.out.1; omega, by go_num, HN.out⟩
                      case measure => simp [intOf]; have := HIl.out.1; omega
                  · as_aux_lemma =>
                      have hlI : decide ((256 : Int) < (tk.nB : Int)) = false := by simp; omega
                      have e4 := (Bk.blk HK4.out List.mem_cons_self).cell 4
                      have e2 := (Bk.blk HK4.out List.mem_cons_self).cell 2
                      simp at e4 e2
                      have HLl := hid (show tk.nB ≤ 256 from by omega)
                      have HKp := hid (Bk.arg HK4.out HTk.out.hB)
                      obtain ⟨l, hll⟩ : ∃ l, padB tk.lB = l := ⟨_, rfl⟩
                      have HL := hid hll
                      obtain ⟨z, hz⟩ : ∃ z, crcOf (nats l) = z := ⟨_, rfl⟩
                      have HZ := hid hz
                      have HZl := hid (show z < 4294967296 from hz ▸ crc_lt (nats_bts (hll ▸ padB_byt HTk.out.yB)))
                      have hlow : ∃ kl, IsLow 300 a kl := by
                        rcases low_or 300 a with h | h
                        · exact h
                        · have h1 := room_zero h
                          have h2 := HQ.out.2.1
                          have h3 := HIl.out.2
                          exact absurd h2 (by omega)
                      obtain ⟨kl, hkl⟩ := hlow
                      have HKl := hid hkl
                      have hin : 150 ≤ kl ∧ kl < 300 := ⟨by have := hkl.1; rw [datN_300] at this; exact this, hkl.2.1⟩
                      have HIn := hid hin
                      have HLf := hid (left_took (n := 300) hkl.2.2.1 hkl.1 hkl.2.1)
                      have hkl0 : (150 : Int) ≤ (kl : Int) := by omega
                      have hkl3 : (kl : Int) < 300 := by omega
                      have ht0 := HTk.out.t0
                      have ht1 := HTk.out.t1
                      clear hl hll hz hkl hin
                      go_wp2_with fail
                      refine (bk_low HO.out (x := tk.t) HKp.out (by have := HQ.out.1; have := HIl.out.2; omega) HLl.out HTk.out.yB HTk.out.t0 HTk.out.t1).mono ?_
                      rw [HL.out, HZ.out]
                      rintro e w5 (⟨k2, hn, hlt2, rfl, hk⟩ | ⟨hno, ⟨zz, rfl⟩, hk⟩)
                      · as_aux_lemma =>
                          have hk2 := hn.eq HKl.out
                          subst hk2
                          have HT := hid hlt2
                          have hT : decide ((k2 : Int) < tk.t) = true := by simpa using hlt2
                          have HK5 := hid (Bk.box HD.out HO.out hk 36 #[.int .i64 (k2 : Int), .int .u32 (z : Int)])
                          have HRne := hid (show w5.heap.size ≠ ub ∧ w5.heap.size ≠ hb from by
                            have h1 := (Bk.blk hk (g1 := ub) (t := 29) (cs := arr 300 a.use) (by simp)).lt
                            have h2 := (Bk.blk hk (g1 := hb) (t := 29) (cs := arr 300 a.held) (by simp)).lt
                            omega)
                          clear hk hn hlt2 e0 e4 e2
                          go_upto_region 45 with fail
                          generalize hw6 : (w5.alloc (.cells #[.int .i64 (k2 : Int), .int .u32 (z : Int)] 36)) = w6 at HK5 ⊢
                          obtain ⟨rb, hrb⟩ : ∃ rb, w5.heap.size = rb := ⟨_, rfl⟩
                          obtain ⟨s5, hs5⟩ : ∃ x, s.put k2 l = x := ⟨_, rfl⟩
                          rw [hrb, hs5] at HK5
                          rw [hrb] at HRne ⊢
                          clear hrb hw6 hs5
                          have hbt := Bk.blk HK5.out (g1 := tb) (t := 33) (cs := #[.int .i64 tk.k, .int .i64 tk.n, .int .i64 tk.t, .int .u32 (tk.z : Int), .slice tk.B tk.nB tk.cB]) (by simp)
                          have e4 := hbt.cell 4
                          have e2 := hbt.cell 2
                          simp at e4 e2
                          clear hbt
                          go_wp2
                          go_loopw [21] (fun wv wx => ∃ p : Nat, 150 ≤ p ∧ p ≤ k2 ∧ wv = .int .i64 (p : Int) ∧ wx = w6) (fun wv _ => 400 - (intOf wv).toNat)
                          case atStart => exact ⟨150, Nat.le_refl _, HIn.out.1, rfl, rfl⟩
                          case round =>
                            obtain ⟨p, hp0, hp1, rfl, rfl⟩ := hrel
                            have hp3 : (p : Int) < 300 := by have := HIn.out.2; omega
                            have hp0I : (150 : Int) ≤ (p : Int) := by omega
                            have hp9 : p < 300 := by omega
                            have cu := arr_cell (Bk.blk HK5.out (g1 := ub) (t := 29) (cs := arr 300 a.use) (by simp)) hp9
                            have ch := arr_cell (Bk.blk HK5.out (g1 := hb) (t := 29) (cs := arr 300 a.held) (by simp)) hp9
                            by_cases hpk : p = k2
                            · as_aux_lemma =>
                                subst hpk
                                have hfr := free_not HKl.out.2.2.1
                                rw [hfr.1] at cu
                                rw [hfr.2] at ch
                                have r0 := (Bk.blk HK5.out (g1 := rb) (t := 36) (cs := #[.int .i64 (p : Int), .int .u32 (z : Int)]) (by simp)).cell 0
                                simp at r0
                                have HM6 := hid (show BpM Real AR S w1 d g ub hb B s5 (a.took p) a (q + 1) (.slice Av nr c) refs [Lie.blk rb 36 #[.int .i64 (p : Int), .int .u32 (z : Int)]] wr from Bk.less HK5.out (fun K hK => by simp at hK; rcases hK with rfl | rfl | rfl | rfl <;> simp))
                                have HM8 := hid (HM6.out.setUse HD.out HO.out ⟨HUh.out.1, HUh.out.2.2.1, HUh.out.2.2.2.1⟩ (fun K hK => by simp at hK; subst hK; exact fun e => HRne.out.1 e.symm) p true)
                                have fu := HM6.out.use.free p
                                clear hfr hp9
                                go_upto_region 55 with fail
                                obtain ⟨w8, hw8⟩ : ∃ W, wr.setCell ⟨ub, p, none⟩ (.bool true) = W := ⟨_, rfl⟩
                                rw [hw8] at HM8 ⊢
                                clear hw8 cu ch fu r0 e4 e2
                                have r0 := (Bk.blk HM8.out List.mem_cons_self).cell 0
                                have r1 := (Bk.blk HM8.out List.mem_cons_self).cell 1
                                simp at r0 r1
                                have HM9 := hid (show BpM Real AR S w1 d g ub hb B s5 (a.took p) { a with use := setN a.use p true } (q + 1) (.slice Av nr c) refs [] (w8.alloc (.cells #[.int .i64 (p : Int), .int .u32 (z : Int)] 36)) from Bk.on HD.out HO.out (Bk.less HM8.out (fun K hK => by simp at hK; rcases hK with rfl | rfl | rfl <;> simp)) ((Below.refl _ _).alloc (Nat.le_refl _) _))
                                have HOf := hid (show (w8.alloc (.cells #[.int .i64 (p : Int), .int .u32 (z : Int)] 36)).ownsRow B 36 2 (.slice Av nr c) nr (refC refs) from by
                                  have := HM9.out.own
                                  unfold OwnB at this
                                  rwa [HNr.out] at this)
                                have HBz := hid (show B ≤ (w8.alloc (.cells #[.int .i64 (p : Int), .int .u32 (z : Int)] 36)).heap.size from by have := HM9.out.held.lt; have := HBh.out; omega)
                                go_wp2_with (at_builtin; refine wpList_append_lies _ rfl _ _ 28 rfl B 36 i0 (.agg #[.int .i64 0, .int .u32 0]) 2 16 Tryd.underlying28 hi hz0 hz1 hz2 rfl (by decide) (.slice Av nr c) nr (refC refs) rfl HOf.out ⟨w8.heap.size, 0, none⟩ 1 1 [.int .i64 (p : Int), .int .u32 (z : Int)] rfl rfl newsB (oneB _ _) (by omega) (by unfold maxLen; omega) (by omega) HBz.out _ rfl ?_)
                                intro gg cap9 w10 hown hgrow hat _
                                have HM10 := hid (HM9.out.app HD.out HO.out (x := ((p : Int), z)) HNr.out ⟨HUh.out.1, HUh.out.2.1⟩ HUh.out.2.2.2.2.2 hown hgrow (by simpa using hat))
                                have HN := hid (show BpAt Real AR S w1 d g ub hb B (i + 1) (.slice (some ⟨gg, 0, none⟩) (nr + 1) cap9) (.int .i64 (a.last : Int)) w10 from ⟨s5, a.took p, q + 1, refs ++ [((p : Int), z)], by have := HQ.out.1; omega, by have := HQ.out.2.1; have := HLf.out; omega, by have := HQ.out.2.2.1; rw [List.length_append]; simp; omega, HQ.out.2.2.2.more HIn.out.1 HIn.out.2 HZl.out, rfl, HM10.out⟩)
                                clear hown hgrow hat r0 r1
                                go_wp2_with fail
                                go_meet
                                exact HN.out
                            · as_aux_lemma =>
                                have hnf := HKl.out.2.2.2 p (by rw [datN_300]; exact hp0) (by omega)
                                rw [free_def] at hnf
                                have HP2 := hid (show p + 1 ≤ k2 from by omega)
                                rcases hub1 : a.use p with _ | _
                                · rw [hub1] at cu hnf
                                  have hh1 : a.held p = true := by simpa using hnf
                                  rw [hh1] at ch
                                  clear hpk hnf hub1 hh1
                                  go_wp2
                                  go_roundw
                                  case rel => exact ⟨p + 1, by omega, HP2.out, by go_num, by first | rfl | trivial⟩
                                  case measure => simp [intOf]; omega
                                · rw [hub1] at cu
                                  clear hpk hnf hub1
                                  go_wp2
                                  go_roundw
                                  case rel => exact ⟨p + 1, by omega, HP2.out, by go_num, by first | rfl | trivial⟩
                                  case measure => simp [intOf]; omega
                      · as_aux_lemma =>
                          have hge := hno kl HKl.out
                          have hT : decide ((kl : Int) < tk.t) = false := by simpa using hge
                          have HK5 := hid (Bk.box HD.out HO.out hk 36 #[.int .i64 0, .int .u32 zz])
                          clear hk hno hge e0 e4 e2
                          go_upto_region 45 with fail
                          generalize hw6 : (w5.alloc (.cells #[.int .i64 0, .int .u32 zz] 36)) = w6 at HK5 ⊢
                          obtain ⟨rb, hrb⟩ : ∃ rb, w5.heap.size = rb := ⟨_, rfl⟩
                          rw [hrb] at HK5 ⊢
                          clear hrb hw6
                          have hbt := Bk.blk HK5.out (g1 := tb) (t := 33) (cs := #[.int .i64 tk.k, .int .i64 tk.n, .int .i64 tk.t, .int .u32 (tk.z : Int), .slice tk.B tk.nB tk.cB]) (by simp)
                          have e4 := hbt.cell 4
                          have e2 := hbt.cell 2
                          simp at e4 e2
                          clear hbt
                          have HN := hid (show BpAt Real AR S w1 d g ub hb B (i + 1) (.slice Av nr c) (.int .i64 (a.last : Int)) w6 from ⟨s, a, q, refs, by have := HQ.out.1; omega, by have := HQ.out.2.1; omega, by have := HQ.out.2.2.1; omega, HQ.out.2.2.2, rfl, Bk.less HK5.out (fun K hK => by simp at hK; rcases hK with rfl | rfl | rfl <;> simp)⟩)
                          go_wp2
                          go_loopw [21] (fun wv wx => ∃ p : Nat, 150 ≤ p ∧ p ≤ kl ∧ wv = .int .i64 (p : Int) ∧ wx = w6) (fun wv _ => 400 - (intOf wv).toNat)
                          case atStart => exact ⟨150, Nat.le_refl _, HIn.out.1, rfl, rfl⟩
                          case round =>
                            obtain ⟨p, hp0, hp1, rfl, rfl⟩ := hrel
                            have hp3 : (p : Int) < 300 := by have := HIn.out.2; omega
                            have hp0I : (150 : Int) ≤ (p : Int) := by omega
                            have hp9 : p < 300 := by omega
                            have cu := arr_cell (Bk.blk HK5.out (g1 := ub) (t := 29) (cs := arr 300 a.use) (by simp)) hp9
                            have ch := arr_cell (Bk.blk HK5.out (g1 := hb) (t := 29) (cs := arr 300 a.held) (by simp)) hp9
                            by_cases hpk : p = kl
                            · as_aux_lemma =>
                                subst hpk
                                have hfr := free_not HKl.out.2.2.1
                                rw [hfr.1] at cu
                                rw [hfr.2] at ch
                                clear hfr hp9
                                go_wp2_with fail
                                go_meet
                                exact HN.out
                            · as_aux_lemma =>
                                have hnf := HKl.out.2.2.2 p (by rw [datN_300]; exact hp0) (by omega)
                                rw [free_def] at hnf
                                have HP2 := hid (show p + 1 ≤ kl from by omega)
                                rcases hub1 : a.use p with _ | _
                                · rw [hub1] at cu hnf
                                  have hh1 : a.held p = true := by simpa using hnf
                                  rw [hh1] at ch
                                  clear hpk hnf hub1 hh1
                                  go_wp2
                                  go_roundw
                                  case rel => exact ⟨p + 1, by omega, HP2.out, by go_num, by first | rfl | trivial⟩
                                  case measure => simp [intOf]; omega
                                · rw [hub1] at cu
                                  clear hpk hnf hub1
                                  go_wp2
                                  go_roundw
                                  case rel => exact ⟨p + 1, by omega, HP2.out, by go_num, by first | rfl | trivial⟩
                                  case measure => simp [intOf]; omega
            · as_aux_lemma =>
                  go_wp2_with fail
                  refine (bk_done HO.out HK4.out).mono ?_
                  rintro e w5 ⟨rfl, hk⟩
                  have HK5 := hid (show BpM Real AR S w1 d g ub hb B s a.done a q (.slice Av nr c) refs [] w5 from Bk.less hk (fun K hK => by simp at hK; rcases hK with rfl | rfl | rfl <;> simp))
                  clear hk e0
                  have HK6 := hid (HK5.out.noHeld HD.out HO.out ⟨HUh.out.2.1, fun e => HUh.out.2.2.1 e.symm, HUh.out.2.2.2.2.1⟩ (fun K hK => by cases hK))
                  go_wp2_with (first
                    | (refine wpList_builtB rfl 29 #[] rfl (arr 300 (fun _ => false)) Tryd.built300 ?_)
                    | (refine wpList_store_row rfl 29 (.tmp 8) (.tmp 258) rfl hb (arr 300 (fun _ => false)) rfl rfl 29 (arr 300 a.held) HK5.out.held (by rw [arr_size]; exact Tryd.size300) (by rw [arr_size, arr_size]) (arr_one _ _) ?_))
                  have HN := hid (show BpAt Real AR S w1 d g ub hb B (i + 1) (.slice Av nr c) (.int .i64 (a.last : Int)) (w5.setRow hb (arr 300 (fun _ => false))) from ⟨s, a.done, q, refs, by have := HQ.out.1; omega, by have := HQ.out.2.1; have := left_done (n := 300) (a := a); omega, by have := HQ.out.2.2.1; omega, HQ.out.2.2.2, rfl, HK6.out⟩)
                  go_meet
                  exact HN.out
            · as_aux_lemma =>
                  have HN := hid (show BpAt Real AR S w1 d g ub hb B (i + 1) (.slice Av nr c) (.int .i64 (a.last : Int)) wc from ⟨s, a, q, refs, by have := HQ.out.1; omega, by have := HQ.out.2.1; omega, by have := HQ.out.2.2.1; omega, HQ.out.2.2.2, rfl, Bk.less HK4.out (fun K hK => by simp at hK; rcases hK with rfl | rfl | rfl <;> simp)⟩)
                  have hi60 : (i : Int) < 60 := by have := HIl.out.2; omega
                  go_wp2
                  go_roundw
                  case rel => exact ⟨i + 1, by have := HIl.out.1; omega, by go_num, HN.out⟩
                  case measure => simp [intOf]; have := HIl.out.1; omega
            · as_aux_lemma =>
                  have hj : ∃ j : Nat, ki = (j : Int) ∧ j < nr := by
                    rcases HKi.out with ⟨_, h⟩ | ⟨h1, h2⟩
                    · subst h; simp at m4
                    · exact ⟨ki.toNat, by omega, by omega⟩
                  obtain ⟨j, rfl, hjn⟩ := hj
                  obtain ⟨ad', x, rfl, _, hx, _, _⟩ := HRf4.out.get hjn
                  obtain ⟨⟨k', hk1, hk2, hxk⟩, hxz⟩ := HQ.out.2.2.2 x (List.mem_of_getElem? hx)
                  obtain ⟨x1, z⟩ := x
                  simp only at hxk hxz
                  subst hxk
                  have HX := hid hx
                  have HK9 := hid (And.intro hk1 (And.intro hk2 hxz))
                  have hjI : (j : Int) < (nr : Int) := by omega
                  have hk1I : (150 : Int) ≤ (k' : Int) := by omega
                  have hk2I : (k' : Int) < 300 := by omega
                  have HCs := hid (show ∀ (W : World) (s' : DSt) (a' b' : ASt) (q' : Nat) (ks' : List Lie), BpM Real AR S w1 d g ub hb B s' a' b' q' (.slice (some ad') nr c) refs ks' W → W.cell? (ad'.add (j * 2)) = some (.int .i64 (k' : Int)) ∧ W.cell? ⟨(ad'.add (j * 2)).block, (ad'.add (j * 2)).off + 1, none⟩ = some (.int .u32 (z : Int)) ∧ W.cell? ⟨ub, k', none⟩ = some (.bool (b'.use k')) from fun W s' a' b' q' ks' h => by
                    obtain ⟨h1, h2⟩ := Bk.cellR (B := B) (m := nr) (c := c) (ad := ad') (l := refs) (j := j) (x := ((k' : Int), z)) h (by simp) HX.out
                    exact ⟨h1, h2, arr_cell h.use HK9.out.2.1⟩)
                  have hi60 : (i : Int) < 60 := by have := HIl.out.2; omega
                  clear hx hk1 hk2 hxz
                  obtain ⟨u, hu⟩ : ∃ u, a.use k' = u := ⟨_, rfl⟩
                  have HU := hid hu
                  have HDr := hid (fun (W : World) (h : BpM Real AR S w1 d g ub hb B s a a q (.slice (some ad') nr c) refs [Lie.blk tb 33 #[.int .i64 tk.k, .int .i64 tk.n, .int .i64 tk.t, .int .u32 (tk.z : Int), .slice tk.B tk.nB tk.cB]] W) => bk_drop HO.out (k := k') (z := z) h (by have := HK9.out.2.1; omega) HK9.out.2.2)
                  have HKd := hid (show BpM Real AR S w1 d g ub hb B s a a q (.slice (some ad') nr c) refs [Lie.blk tb 33 #[.int .i64 tk.k, .int .i64 tk.n, .int .i64 tk.t, .int .u32 (tk.z : Int), .slice tk.B tk.nB tk.cB]] wc.drew from Bk.on HD.out HO.out HK4.out ((Below.refl _ _).drew))
                  have kd := HCs.out _ _ _ _ _ _ HKd.out
                  rw [hu] at kd
                  clear hu
                  go_upto_region 61 with fail
                  clear e0
                  cases u
                  · as_aux_lemma =>
                      go_region_held3 (fun w' => w'.cell? (ad'.add (j * 2)) = some (.int .i64 (k' : Int)) ∧ w'.cell? ⟨(ad'.add (j * 2)).block, (ad'.add (j * 2)).off + 1, none⟩ = some (.int .u32 (z : Int)) ∧ w'.cell? ⟨ub, k', none⟩ = some (.bool false)) (first | exact kd | exact k6) (first | (go_at_call 17; refine (HDr.out _ HKd.out).mono ?_; rw [HU.out]; rintro e w6 ⟨rfl, hk⟩; have HK6 := hid hk; clear hk; have k6 := HCs.out w6 _ _ _ _ _ HK6.out; rw [HU.out] at k6))
                      have HN := hid (show BpAt Real AR S w1 d g ub hb B (i + 1) (.slice (some ad') nr c) (.int .i64 (a.last : Int)) w6 from ⟨s, a, q, refs, by have := HQ.out.1; omega, by have := HQ.out.2.1; omega, by have := HQ.out.2.2.1; omega, HQ.out.2.2.2, rfl, Bk.less HK6.out (fun K hK => by simp at hK; rcases hK with rfl | rfl | rfl <;> simp)⟩)
                      obtain ⟨r0, _, cu⟩ := k6
                      clear kd
                      go_wp2_with fail
                      go_meet
                      exact HN.out
                  · as_aux_lemma =>
                      go_region_held3 (fun w' => w'.cell? (ad'.add (j * 2)) = some (.int .i64 (k' : Int)) ∧ w'.cell? ⟨(ad'.add (j * 2)).block, (ad'.add (j * 2)).off + 1, none⟩ = some (.int .u32 (z : Int)) ∧ w'.cell? ⟨ub, k', none⟩ = some (.bool true)) (first | exact kd | exact k6) (first | (go_at_call 17; refine (HDr.out _ HKd.out).mono ?_; rw [HU.out]; rintro e w6 ⟨rfl, hk⟩; have HK6 := hid hk; clear hk; have k6 := HCs.out w6 _ _ _ _ _ HK6.out; rw [HU.out] at k6))
                      have HM6 := hid (show BpM Real AR S w1 d g ub hb B s (a.drop k') a q (.slice (some ad') nr c) refs [] w6 from Bk.less HK6.out (fun K hK => by simp at hK; rcases hK with rfl | rfl | rfl <;> simp))
                      have HM7 := hid (HM6.out.setUse HD.out HO.out ⟨HUh.out.1, HUh.out.2.2.1, HUh.out.2.2.2.1⟩ (fun K hK => by cases hK) k' false)
                      have HM8 := hid (HM7.out.setHeld HD.out HO.out ⟨HUh.out.2.1, fun e => HUh.out.2.2.1 e.symm, HUh.out.2.2.2.2.1⟩ (fun K hK => by cases hK) k' true)
                      have HN := hid (show BpAt Real AR S w1 d g ub hb B (i + 1) (.slice (some ad') nr c) (.int .i64 (a.last : Int)) ((w6.setCell ⟨ub, k', none⟩ (.bool false)).setCell ⟨hb, k', none⟩ (.bool true)) from ⟨s, a.drop k', q, refs, by have := HQ.out.1; omega, by have := HQ.out.2.1; rw [left_drop HU.out]; omega, by have := HQ.out.2.2.1; omega, HQ.out.2.2.2, rfl, HM8.out⟩)
                      obtain ⟨r0, _, cu⟩ := k6
                      have fu := HM6.out.use.free k'
                      have r0' := (HCs.out _ _ _ _ _ _ HM7.out).1
                      have ch := arr_cell HM7.out.held HK9.out.2.1
                      have fh := HM7.out.held.free k'
                      clear kd
                      go_wp2_with fail
                      go_meet
                      exact HN.out
            · as_aux_lemma =>
                  have hj : ∃ j : Nat, ki = (j : Int) ∧ j < nr := by
                    rcases HKi.out with ⟨_, h⟩ | ⟨h1, h2⟩
                    · subst h; simp at m4
                    · exact ⟨ki.toNat, by omega, by omega⟩
                  obtain ⟨j, rfl, hjn⟩ := hj
                  obtain ⟨ad', x, rfl, _, hx, _, _⟩ := HRf4.out.get hjn
                  obtain ⟨⟨k', hk1, hk2, hxk⟩, hxz⟩ := HQ.out.2.2.2 x (List.mem_of_getElem? hx)
                  obtain ⟨x1, z⟩ := x
                  simp only at hxk hxz
                  subst hxk
                  have HX := hid hx
                  have HK9 := hid (And.intro hk1 (And.intro hk2 hxz))
                  have hjI : (j : Int) < (nr : Int) := by omega
                  have hk1I : (150 : Int) ≤ (k' : Int) := by omega
                  have hk2I : (k' : Int) < 300 := by omega
                  have HCs := hid (show ∀ (W : World) (s' : DSt) (a' b' : ASt) (q' : Nat) (ks' : List Lie), BpM Real AR S w1 d g ub hb B s' a' b' q' (.slice (some ad') nr c) refs ks' W → W.cell? (ad'.add (j * 2)) = some (.int .i64 (k' : Int)) ∧ W.cell? ⟨(ad'.add (j * 2)).block, (ad'.add (j * 2)).off + 1, none⟩ = some (.int .u32 (z : Int)) ∧ W.cell? ⟨ub, k', none⟩ = some (.bool (b'.use k')) from fun W s' a' b' q' ks' h => by
                    obtain ⟨h1, h2⟩ := Bk.cellR (B := B) (m := nr) (c := c) (ad := ad') (l := refs) (j := j) (x := ((k' : Int), z)) h (by simp) HX.out
                    exact ⟨h1, h2, arr_cell h.use HK9.out.2.1⟩)
                  have hi60 : (i : Int) < 60 := by have := HIl.out.2; omega
                  clear hx hk1 hk2 hxz
                  have HTc := hid (show ∀ (W : World) (s' : DSt) (a' b' : ASt) (q' : Nat), BpM Real AR S w1 d g ub hb B s' a' b' q' (.slice (some ad') nr c) refs [Lie.blk tb 33 #[.int .i64 tk.k, .int .i64 tk.n, .int .i64 tk.t, .int .u32 (tk.z : Int), .slice tk.B tk.nB tk.cB]] W → W.cell? (ad'.add (j * 2)) = some (.int .i64 (k' : Int)) ∧ W.cell? ⟨tb, 2, none⟩ = some (.int .i64 tk.t) ∧ W.cell? ⟨tb, 3, none⟩ = some (.int .u32 (tk.z : Int)) from fun W s' a' b' q' h => by
                    have h1 := Bk.blk h List.mem_cons_self
                    exact ⟨(HCs.out _ _ _ _ _ _ h).1, h1.cell 2, h1.cell 3⟩)
                  go_wp2_with fail
                  refine (bk_flush HD.out HO.out HK4.out (by have := HQ.out.1; have := HIl.out.2; omega)).mono ?_
                  rintro e w5 ⟨rfl, hk⟩
                  have HK5 := hid (show BpM Real AR S w1 d g ub hb B (fl s) a a (q + 1) (.slice (some ad') nr c) refs [Lie.blk tb 33 #[.int .i64 tk.k, .int .i64 tk.n, .int .i64 tk.t, .int .u32 (tk.z : Int), .slice tk.B tk.nB tk.cB]] w5 from hk)
                  clear hk e0
                  go_upto_region 68 with fail
                  have HKd := hid (show BpM Real AR S w1 d g ub hb B (fl s) a a (q + 1) (.slice (some ad') nr c) refs [Lie.blk tb 33 #[.int .i64 tk.k, .int .i64 tk.n, .int .i64 tk.t, .int .u32 (tk.z : Int), .slice tk.B tk.nB tk.cB]] w5.drew from Bk.on HD.out HO.out HK5.out ((Below.refl _ _).drew))
                  have kd := HTc.out _ _ _ _ _ HKd.out
                  have HSp := hid (bk_spoil HD.out HO.out HKd.out (k' : Int) (tk.t % 253) tk.z HTk.out.z)
                  obtain ⟨s6, hs6⟩ : ∃ r, ((fl s).spoil (k' : Int) (tk.t % 253) tk.z).2 = r := ⟨_, rfl⟩
                  rw [hs6] at HSp
                  clear hs6
                  go_region_held3 (fun w' => w'.cell? (ad'.add (j * 2)) = some (.int .i64 (k' : Int)) ∧ w'.cell? ⟨tb, 2, none⟩ = some (.int .i64 tk.t) ∧ w'.cell? ⟨tb, 3, none⟩ = some (.int .u32 (tk.z : Int))) (first | exact kd | exact k6) (first | (go_at_call 10; refine (number_any tk.t 253 _ (of_decide_eq_true rfl) (of_decide_eq_true rfl)).mono ?_; rintro e y5 ⟨rfl, rfl⟩) | (go_at_call 19; refine HSp.out.mono ?_; rintro e w6 ⟨rfl, hk⟩; have HK6 := hid hk; clear hk; have k6 := HTc.out w6 _ _ _ _ HK6.out))
                  have HN := hid (show BpAt Real AR S w1 d g ub hb B (i + 1) (.slice (some ad') nr c) (.int .i64 (a.last : Int)) w6 from ⟨s6, a, q + 1, refs, by have := HQ.out.1; omega, by have := HQ.out.2.1; omega, by have := HQ.out.2.2.1; omega, HQ.out.2.2.2, rfl, Bk.less HK6.out (fun K hK => by simp at hK; rcases hK with rfl | rfl | rfl <;> simp)⟩)
                  go_wp2_with fail
                  go_meet
                  exact HN.out
            · as_aux_lemma =>
                  have hj : ∃ j : Nat, ki = (j : Int) ∧ j < nr := by
                    rcases HKi.out with ⟨_, h⟩ | ⟨h1, h2⟩
                    · subst h; simp at m4
                    · exact ⟨ki.toNat, by omega, by omega⟩
                  obtain ⟨j, rfl, hjn⟩ := hj
                  obtain ⟨ad', x, rfl, _, hx, _, _⟩ := HRf4.out.get hjn
                  obtain ⟨⟨k', hk1, hk2, hxk⟩, hxz⟩ := HQ.out.2.2.2 x (List.mem_of_getElem? hx)
                  obtain ⟨x1, z⟩ := x
                  simp only at hxk hxz
                  subst hxk
                  have HX := hid hx
                  have HK9 := hid (And.intro hk1 (And.intro hk2 hxz))
                  have hjI : (j : Int) < (nr : Int) := by omega
                  have hk1I : (150 : Int) ≤ (k' : Int) := by omega
                  have hk2I : (k' : Int) < 300 := by omega
                  have HCs := hid (show ∀ (W : World) (s' : DSt) (a' b' : ASt) (q' : Nat) (ks' : List Lie), BpM Real AR S w1 d g ub hb B s' a' b' q' (.slice (some ad') nr c) refs ks' W → W.cell? (ad'.add (j * 2)) = some (.int .i64 (k' : Int)) ∧ W.cell? ⟨(ad'.add (j * 2)).block, (ad'.add (j * 2)).off + 1, none⟩ = some (.int .u32 (z : Int)) ∧ W.cell? ⟨ub, k', none⟩ = some (.bool (b'.use k')) from fun W s' a' b' q' ks' h => by
                    obtain ⟨h1, h2⟩ := Bk.cellR (B := B) (m := nr) (c := c) (ad := ad') (l := refs) (j := j) (x := ((k' : Int), z)) h (by simp) HX.out
                    exact ⟨h1, h2, arr_cell h.use HK9.out.2.1⟩)
                  have hi60 : (i : Int) < 60 := by have := HIl.out.2; omega
                  clear hx hk1 hk2 hxz
                  have hkr := HCs.out _ _ _ _ _ _ HK4.out
                  obtain ⟨r0, r1, _⟩ := hkr
                  have HRd := hid (bk_read HD.out HO.out HK4.out (k' : Int))
                  have HUp := hid (Bk.up HK4.out)
                  have HYt := hid (read_bytB (k := k') (Bk.up HK4.out) HK9.out.2.1)
                  obtain ⟨⟨code, y⟩, hcy⟩ : ∃ r, s.read (k' : Int) = r := ⟨_, rfl⟩
                  rw [hcy] at HYt
                  have HCy := hid hcy
                  have hcb : 150 ≤ k' ∧ k' < 300 := ⟨HK9.out.1, HK9.out.2.1⟩
                  have HCb := hid hcb
                  clear hcy hcb
                  go_wp2_with fail
                  refine HRd.out.mono ?_
                  rw [HCy.out]
                  rintro e w5 ⟨hk, hb5, A5, m5, c5, v5, rfl, hv, hl⟩
                  have HK5 := hid (show BpM Real AR S w1 d g ub hb B s a a q (.slice (some ad') nr c) refs [Lie.blk tb 33 #[.int .i64 tk.k, .int .i64 tk.n, .int .i64 tk.t, .int .u32 (tk.z : Int), .slice tk.B tk.nB tk.cB]] w5 from hk)
                  have HL5 := hid hl
                  have HV5 := hid (show EV S code v5 from hv)
                  have HN := hid (show ∀ W, Below w5.heap.size w5 W → BpAt Real AR S w1 d g ub hb B (i + 1) (.slice (some ad') nr c) (.int .i64 (a.last : Int)) W from fun W hb => ⟨s, a, q, refs, by have := HQ.out.1; omega, by have := HQ.out.2.1; omega, by have := HQ.out.2.2.1; omega, HQ.out.2.2.2, rfl, Bk.less (Bk.on HD.out HO.out HK5.out hb) (fun K hK => by simp at hK; rcases hK with rfl | rfl | rfl <;> simp)⟩)
                  have HCw := hid (show ∀ W, Below w5.heap.size w5 W → W.cell? (ad'.add (j * 2)) = some (.int .i64 (k' : Int)) ∧ W.cell? ⟨(ad'.add (j * 2)).block, (ad'.add (j * 2)).off + 1, none⟩ = some (.int .u32 (z : Int)) from fun W hbW => by
                    obtain ⟨h1, h2, _⟩ := HCs.out _ _ _ _ _ _ (show BpM Real AR S w1 d g ub hb B s a a q (.slice (some ad') nr c) refs [Lie.blk tb 33 #[.int .i64 tk.k, .int .i64 tk.n, .int .i64 tk.t, .int .u32 (tk.z : Int), .slice tk.B tk.nB tk.cB]] W from Bk.on HD.out HO.out HK5.out hbW)
                    exact ⟨h1, h2⟩)
                  have HGt := hid (fun (W : World) (hb : Below w5.heap.size w5 W) => bk_get HD.out HO.out (k := k') (z := z) (Bk.on HD.out HO.out HK5.out hb) (by have := HCb.out.2; omega) HK9.out.2.2)
                  have HGd := hid (fun (W : World) (hb : Below w5.heap.size w5 W) => bk_good HD.out HO.out (k := k') (z := z) (Bk.on HD.out HO.out HK5.out hb) (by have := HCb.out.2; omega) HK9.out.2.2)
                  clear hk hb5 hl hv r0 r1 e0
                  have hways : (code = 0 ∧ crcOf (nats y) = z) ∨ (code = 0 ∧ crcOf (nats y) ≠ z) ∨ code ≠ 0 := by
                    by_cases h1 : code = 0
                    · by_cases h2 : crcOf (nats y) = z
                      · exact .inl ⟨h1, h2⟩
                      · exact .inr (.inl ⟨h1, h2⟩)
                    · exact .inr (.inr h1)
                  rcases hways with ⟨hc, hz⟩ | ⟨hc, hz⟩ | hc
                  · as_aux_lemma =>
                      subst hc
                      obtain rfl : v5 = .nilIface := HV5.out.nil
                      have HG := hid (get_of (z := z) HCb.out.1 HCb.out.2 HCy.out hz)
                      have HZ := hid hz
                      have kd := HCw.out w5.drew ((Below.refl _ _).drew)
                      clear hz
                      go_upto_region 22 with fail
                      go_region_held3 (fun w' => w'.cell? ⟨(ad'.add (j * 2)).block, (ad'.add (j * 2)).off + 1, none⟩ = some (.int .u32 (z : Int))) (first | exact kd.2) (first | (go_at_call 13; refine (refSum_any A5 m5 c5 _ y _ (HL5.out.on ((Below.refl _ _).drew)) HYt.out).mono ?_; rw [HZ.out]; rintro e w8 ⟨rfl, rfl⟩))
                      obtain ⟨k0, k1⟩ := kd
                      go_wp2_with fail
                      refine (HGt.out w5.drew ((Below.refl _ _).drew)).mono ?_
                      rw [HG.out]
                      rintro e w9 ⟨_, hb9, A9, m9, c9, v9, rfl, hv9, hl9⟩
                      obtain rfl := hv9.nil
                      have HB9 := hid (show Below w5.heap.size w5 w9 from (Below.refl _ _).drew.trans hb9)
                      have HL9 := hid (hl9 rfl)
                      clear hb9 hv9 hl9 k0 k1
                      go_wp2_with fail
                      refine (same_any A9 A5 m9 c9 m5 c5 y y _ _ _ HL9.out (HL5.out.on HB9.out)).mono ?_
                      rw [same_self]
                      rintro e w10 ⟨rfl, jj, rfl⟩
                      have HB10 := hid (show Below w5.heap.size w5 (w9.drewN jj) from below_drewN HB9.out jj)
                      obtain ⟨w10, hw10⟩ : ∃ W, w9.drewN jj = W := ⟨_, rfl⟩
                      rw [hw10] at HB10 ⊢
                      clear hw10
                      obtain ⟨k0, k1⟩ := HCw.out w10 HB10.out
                      go_wp2_with fail
                      refine (HGd.out w10 HB10.out).mono ?_
                      rw [HG.out]
                      rintro e w11 ⟨rfl, _, hb11⟩
                      have HNN := hid (HN.out w11 (HB10.out.trans (hb11.mono HB10.out.size)))
                      have e8 : (((0, y) : Int × List Int).1 == 0) = true := rfl
                      rw [e8]
                      clear hb11 k0 k1
                      go_wp2_with fail
                      go_meet
                      exact HNN.out
                  · as_aux_lemma =>
                      subst hc
                      obtain rfl : v5 = .nilIface := HV5.out.nil
                      have HG := hid (get_io (z := z) HCb.out.1 HCb.out.2 HCy.out hz)
                      obtain ⟨cy, hcy⟩ : ∃ cy, crcOf (nats y) = cy := ⟨_, rfl⟩
                      have HZ := hid hcy
                      have hczI : ((cy : Int) == (z : Int)) = false := by rw [beq_eq_false_iff_ne]; omega
                      have kd := HCw.out w5.drew ((Below.refl _ _).drew)
                      clear hz hcy
                      go_upto_region 22 with fail
                      go_region_held3 (fun w' => w'.cell? ⟨(ad'.add (j * 2)).block, (ad'.add (j * 2)).off + 1, none⟩ = some (.int .u32 (z : Int))) (first | exact kd.2) (first | (go_at_call 13; refine (refSum_any A5 m5 c5 _ y _ (HL5.out.on ((Below.refl _ _).drew)) HYt.out).mono ?_; rw [HZ.out]; rintro e w8 ⟨rfl, rfl⟩))
                      obtain ⟨k0, k1⟩ := kd
                      go_wp2_with fail
                      refine (HGt.out w5.drew ((Below.refl _ _).drew)).mono ?_
                      rw [HG.out]
                      rintro e w9 ⟨_, hb9, A9, m9, c9, v9, rfl, hv9, _⟩
                      obtain ⟨jj, rfl⟩ := hv9.is (by decide)
                      have HB9 := hid (show Below w5.heap.size w5 w9 from (Below.refl _ _).drew.trans hb9)
                      clear hb9 hv9 k0 k1
                      obtain ⟨k0, k1⟩ := HCw.out w9 HB9.out
                      go_wp2_with fail
                      refine (HGd.out w9 HB9.out).mono ?_
                      rw [HG.out]
                      rintro e w11 ⟨rfl, _, hb11⟩
                      have HNN := hid (HN.out w11 (HB9.out.trans (hb11.mono HB9.out.size)))
                      have e8 : (((107, []) : Int × List Int).1 == 0) = false := rfl
                      rw [e8]
                      clear hb11 k0 k1
                      go_wp2_with fail
                      go_meet
                      exact HNN.out
                  · as_aux_lemma =>
                      have HG := hid (get_bad (z := z) HCb.out.1 HCb.out.2 HCy.out hc)
                      have HCc := hid hc
                      obtain ⟨jv, rfl⟩ := HV5.out.is hc
                      have e8 : (((code, []) : Int × List Int).1 == 0) = false := by simpa using hc
                      have HE8 := hid e8
                      clear hc e8
                      go_upto_region 22 with fail
                      obtain ⟨k0, k1⟩ := HCw.out w5 (Below.refl _ _)
                      go_quiet (fail)
                      go_wp2_with fail
                      refine (HGt.out _ (by first | exact Below.refl _ _ | exact below_drewN (Below.refl _ _) _ | exact (Below.refl _ _).drew)).mono ?_
                      rw [HG.out]
                      rintro e w9 ⟨_, hb9, A9, m9, c9, v9, rfl, hv9, _⟩
                      obtain ⟨jj, rfl⟩ := hv9.is HCc.out
                      have HB9 := hid (show Below w5.heap.size w5 w9 from by first | exact hb9 | exact (below_drewN (Below.refl _ _) _).trans hb9 | exact (Below.refl _ _).drew.trans hb9)
                      clear hb9 hv9 k0 k1
                      obtain ⟨k0, k1⟩ := HCw.out w9 HB9.out
                      go_wp2_with fail
                      refine (HGd.out w9 HB9.out).mono ?_
                      rw [HG.out]
                      rintro e w11 ⟨rfl, _, hb11⟩
                      have HNN := hid (HN.out w11 (HB9.out.trans (hb11.mono HB9.out.size)))
                      rw [HE8.out]
                      clear hb11 k0 k1
                      go_wp2_with fail
                      go_meet
                      exact HNN.out
          case rest => as_aux_lemma =>
            obtain ⟨s', a', q', refs', hq, hleft, hrl, hro, hlv, hm⟩ := hcut
            have HM5 := hid hm
            have HQ5 := hid (And.intro hq (And.intro hleft (And.intro hrl (And.intro hro hlv))))
            rename World => w5
            clear hm hq hleft hrl hro hlv hks e0
            go_wp2_with fail
            refine (bk_used HD.out HO.out HM5.out).mono ?_
            rintro e w6 ⟨hk, _, A9, m9, c9, rfl, hsn⟩
            have HM6 := hid hk
            have HSn := hid hsn
            have hm9 : m9 = (usedA 300 a').length := hsn.len.symm
            have hul := usedTo_le a' 150
            rw [usedTo_all, ← hm9] at hul
            have HUl := hid hm9
            have hm9I : (m9 : Int) ≤ 150 := by omega
            clear hk hsn hm9 hul
            go_wp2
            go_loopw [27, 28, 30] (fun nv fv pv wx => ∃ p : Nat, 150 ≤ p ∧ p ≤ 300 ∧ pv = .int .i64 (p : Int) ∧ nv = .int .i64 (usedTo a' (p - 150) : Int) ∧ fv = .int .i64 (leftTo a' (p - 150) : Int) ∧ wx = w6) (fun _ _ pv _ => 300 - (intOf pv).toNat)
            case atStart => exact ⟨150, by omega, by omega, rfl, rfl, rfl, rfl⟩
            case round =>
              obtain ⟨p, hp0, hp1, rfl, rfl, rfl, rfl⟩ := hrel
              by_cases hpl : p < 300
              · have hpI : (p : Int) < 300 := by omega
                have hp0I : (150 : Int) ≤ (p : Int) := by omega
                obtain ⟨j, hj⟩ : ∃ j, p - 150 = j := ⟨_, rfl⟩
                have hpj : 150 + j = p := by omega
                have hj9 : j < 150 := by omega
                have hus := usedTo_succ a' j
                have hlf := leftTo_succ a' j
                have hul := usedTo_le a' j
                have hll := leftTo_le a' j
                have hj1 : p + 1 - 150 = j + 1 := by omega
                have cu := arr_cell (Bk.blk HM6.out (g1 := ub) (t := 29) (cs := arr 300 a'.use) (by simp)) hpl
                have ch := arr_cell (Bk.blk HM6.out (g1 := hb) (t := 29) (cs := arr 300 a'.held) (by simp)) hpl
                have hfd : a'.free p = (!a'.use p && !a'.held p) := rfl
                have hug : a'.use p = true → (usedA 300 a')[usedTo a' j]? = some (p : Int) ∧ usedTo a' j < (usedA 300 a').length := fun h => by
                  rw [← hpj] at h ⊢
                  exact ⟨used_get hj9 h, used_lt hj9 h⟩
                rw [hpj] at hus hlf
                rw [hj]
                obtain ⟨ut, hut⟩ : ∃ x, usedTo a' j = x := ⟨_, rfl⟩
                obtain ⟨lt', hlt'⟩ : ∃ x, leftTo a' j = x := ⟨_, rfl⟩
                rw [hut] at hus hul hug ⊢
                rw [hlt'] at hlf hll ⊢
                have hutI : (ut : Int) ≤ 150 := by omega
                have hltI : (lt' : Int) ≤ 150 := by omega
                have HUs := hid hus
                have HLf := hid hlf
                have HJ1 := hid (And.intro hj1 hj)
                have HUg := hid hug
                rcases hub1 : a'.use p with _ | _
                · rw [hub1] at cu
                  have HUb := hid hub1
                  rcases hhb1 : a'.held p with _ | _
                  · rw [hhb1] at ch
                    have HFr := hid (show a'.free p = true from by rw [hfd, hub1, hhb1]; rfl)
                    clear hus hlf hj1 hj hug hub1 hhb1 hul hll hut hlt' hpj hj9 hfd
                    as_aux_lemma =>
                    go_wp2
                    go_roundw
                    case rel => exact ⟨p + 1, by omega, by omega, by go_num, by rw [HJ1.out.1, HUs.out, if_neg (by rw [HUb.out]; decide)]; rfl, by rw [HJ1.out.1, HLf.out, if_pos HFr.out]; go_num, by first | rfl | trivial⟩
                    case measure => simp [intOf]; omega
                  · rw [hhb1] at ch
                    have HFr := hid (show a'.free p = false from by rw [hfd, hub1, hhb1]; rfl)
                    clear hus hlf hj1 hj hug hub1 hhb1 hul hll hut hlt' hpj hj9 hfd
                    as_aux_lemma =>
                    go_wp2
                    go_roundw
                    case rel => exact ⟨p + 1, by omega, by omega, by go_num, by rw [HJ1.out.1, HUs.out, if_neg (by rw [HUb.out]; decide)]; rfl, by rw [HJ1.out.1, HLf.out, if_neg (by rw [HFr.out]; decide)]; rfl, by first | rfl | trivial⟩
                    case measure => simp [intOf]; omega
                · rw [hub1] at cu
                  have HUb := hid hub1
                  obtain ⟨hg1, hg2⟩ := hug hub1
                  rw [← HUl.out] at hg2
                  obtain ⟨a9, x9, rfl, _, hx9, c9'⟩ := HSn.out.get hg2
                  rw [hg1] at hx9
                  cases hx9
                  have hutm : (ut : Int) < (m9 : Int) := by omega
                  have hutf : decide ((m9 : Int) ≤ (ut : Int)) = false := by simp; omega
                  have HFr := hid (show a'.free p = false from by rw [hfd, hub1]; rfl)
                  clear hus hlf hj1 hj hug hub1 hul hll hut hlt' hpj hj9 hfd hg1 hg2
                  as_aux_lemma =>
                  go_wp2
                  go_roundw
                  case rel => exact ⟨p + 1, by omega, by omega, by go_num, by rw [HJ1.out.1, HUs.out, if_pos HUb.out]; go_num, by rw [HJ1.out.1, HLf.out, if_neg (by rw [HFr.out]; decide)]; rfl, by first | rfl | trivial⟩
                  case measure => simp [intOf]; omega
              · obtain rfl : p = 300 := by omega
                have hn9 : usedTo a' (300 - 150) = m9 := by rw [HUl.out, ← usedTo_all]
                have hl9 : leftTo a' (300 - 150) = leftA 300 a' := by rw [← leftTo_all]
                obtain ⟨lf, hlf⟩ : ∃ lf, leftA 300 a' = lf := ⟨_, rfl⟩
                rw [hlf] at hl9
                have HLf := hid hlf
                rw [hn9, hl9]
                clear hn9 hl9 hlf
                have hi60 : (i : Int) < 60 := by have := HIl.out.2; omega
                as_aux_lemma =>
                go_wp2_with fail
                refine (bk_left HD.out HO.out HM6.out).mono ?_
                rw [HLf.out]
                rintro e w7 ⟨rfl, hk, _⟩
                have HN := hid (show BpAt Real AR S w1 d g ub hb B (i + 1) _ _ w7 from ⟨s', a', q', refs', HQ5.out.1, HQ5.out.2.1, HQ5.out.2.2.1, HQ5.out.2.2.2.1, HQ5.out.2.2.2.2, hk⟩)
                clear hk
                go_wp2
                go_roundw
                case rel => exact ⟨i + 1, by have := HIl.out.1; omega, by go_num, HN.out⟩
                case measure => simp [intOf]; have := HIl.out.1; omega
    · have hilI : decide (i < len) = false := by simpa using hlt
      as_aux_lemma =>
      go_wp2
      go_ret
      exact ⟨rfl, HB1.out.trans (HBw.out.mono HB1.out.size)⟩
end
end Go.Proofs.YtfdabbpfphnbhaaDoor
