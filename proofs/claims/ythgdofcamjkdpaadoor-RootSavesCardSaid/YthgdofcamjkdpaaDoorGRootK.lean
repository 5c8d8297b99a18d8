/- Package pair's Write over any device, armed or not; package root: Save. -/
import Derived.Test.YthgdofcamjkdpaaDoorGRootI
namespace Go.Proofs.YthgdofcamjkdpaaDoor
open Go.RowKit

/-- two writes, one behind the other -/
def wr2 (s : DSt) (i H : Nat) (l : List Int) : Int × DSt := if (s.write (i : Int) l).1 ≠ 0 then s.write (i : Int) l else (s.write (i : Int) l).2.write ((i + H : Nat) : Int) l
section
variable {Real : World → Nat → DSt → (Nat → Prop) → Prop}
set_option maxRecDepth 100000 in
set_option maxHeartbeats 4000000 in
theorem prWriteArm_any (D : DevOk Real) (S : Nat → Addr) (p d n m i q : Nat) (s : DSt) (F G : Nat → Prop) (A : Option Addr) (c : Nat) (l : List Int) (w0 w : World) (hS : Sent5 w0 S) (hB0 : Below w0.heap.size w0 w) (hF0 : ∀ k, F k → w0.heap.size ≤ k) (hr : Real w d s F) (h : PrReal w p d n m G) (hap : ∀ k, F k → ¬ G k) (ho : s.okN q) (hq : q ≤ 1000) (h0 : 300 ≤ n) (h1 : n ≤ 6000) (hi : i < halN n) (hl : Sl w w.heap.size A 256 c l) (hA : ∀ ad, A = some ad → ¬ F ad.block) (hb : Byt l) :
    Calls Tryd.prog 29 #[.pointer (some ⟨p, 0, none⟩), .int .i64 (i : Int), .slice A 256 c] w fun e w' => (∃ a z v, e = .returned (.tuple #[.agg #[.int .i64 a, .int .u32 z], v]) ∧ EV S (wr2 s i (halN n) l).1 v) ∧ RealUpd Real w d (wr2 s i (halN n) l).2 F w' := by
  obtain ⟨⟨c1, s1⟩, e1⟩ : ∃ x, s.write (i : Int) l = x := ⟨_, rfl⟩
  obtain ⟨⟨c2, s2⟩, e2⟩ : ∃ x, s1.write ((i + halN n : Nat) : Int) l = x := ⟨_, rfl⟩
  have ho1 : s1.okN (q + 1) := by have := okN_write (i := (i : Int)) ho hb; rw [e1] at this; exact this
  obtain ⟨R, hR⟩ : ∃ R, wr2 s i (halN n) l = R := ⟨_, rfl⟩
  have HW := hid (show R = if c1 ≠ 0 then (c1, s1) else (c2, s2) from by rw [← hR]; unfold wr2; rw [e1]; simp only; rw [e2])
  rw [hR]
  clear hR
  have HE1 := hid e1
  have HE2 := hid e2
  have HU := hid (ho.ok (by omega))
  have HU1 := hid (ho1.ok (by omega))
  have HD := hid D
  have HS := hid hS
  have HB0 := hid hB0
  have HF0 := hid hF0
  have HR := hid hr
  have HP := hid h
  have HAp := hid hap
  have HL := hid hl
  have HA := hid hA
  have HY := hid hb
  have HFl := hid (D.lt hr)
  have hPa := h.on ((Below.refl _ _).alloc (Nat.le_refl _) (.cells #[.int .i64 0, .int .u32 0] 56))
  have HPc := hid (prPartner_ok p d n m i G _ hPa h0 h1 hi)
  generalize halN n = H at *
  clear hS hB0 hF0 hr h hap ho ho1 hq hl hA hb e1 e2 D hPa
  go_enter Tryd.func29, Tryd.ntmps29
  go_wp2_with fail
  refine HPc.out.mono ?_
  rintro e w1 ⟨rfl, hbe⟩
  have HBk := hid ((Blk.new w 56 #[.int .i64 0, .int .u32 0]).below hbe (by simp))
  have HB1 := hid (show Below w.heap.size w w1 from ((Below.refl _ _).alloc (Nat.le_refl _) _).trans (hbe.mono (by simp)))
  have HSz := hid (show w.heap.size < w1.heap.size from by have := hbe.size; simp at this; omega)
  clear hbe
  go_wp2
  go_loopw [26] (fun v wr => ∃ (s' : DSt) (F' : Nat → Prop), ((v = .int .i64 0 ∧ s' = s) ∨ (v = .int .i64 1 ∧ s' = s1 ∧ c1 = 0) ∨ (v = .int .i64 2 ∧ s' = s2 ∧ c1 = 0 ∧ c2 = 0)) ∧ Real wr d s' F' ∧ Only F w1 wr ∧ (∀ k, F' k → F k ∨ w1.heap.size ≤ k)) (fun v _ => 2 - (intOf v).toNat)
  case atStart => exact ⟨s, F, .inl ⟨rfl, rfl⟩, HD.out.kept HR.out (Kept.of_below HB1.out HFl.out), Only.refl _ _, fun k hk => .inl hk⟩
  case round =>
    obtain ⟨s', F', hv, hr', ho', hf'⟩ := hrel
    have HR' := hid hr'
    have HO' := hid ho'
    have HF' := hid hf'
    clear hr' ho' hf'
    have hp1 : PrReal wr p d n m G := (HP.out.on HB1.out).kept (HO'.out.kept (HP.out.on HB1.out).lt (fun k hg hf => HAp.out k hf hg))
    obtain ⟨c0, _, _, _⟩ := hp1.cells
    have HLr := hid (show Sl wr wr.heap.size A 256 c l from (HL.out.on HB1.out).only HO'.out (fun ad ha _ => HA.out ad ha))
    have HBr := hid (show Below w0.heap.size w0 wr from ((HB0.out.trans (HB1.out.mono HB0.out.size))).trans (HO'.out.below (by have := HB0.out.size; have := HSz.out; omega) HF0.out))
    have HAf := hid (show ∀ ad, A = some ad → 0 < 256 → ¬ F' ad.block from fun ad ha _ hf => by
      rcases HF'.out _ hf with h1 | h1
      · exact HA.out ad ha h1
      · have := (HL.out.at_ ad ha (by omega)).1; have := HSz.out; omega)
    clear hp1
    -- what a write leaves, and the answer's box
    have HNext := hid (fun (w2 : World) (s2' : DSt) (F2 : Nat → Prop) (hr2 : Real w2 d s2' F2) (ho2 : Only F' wr w2) (hf2 : ∀ k, F2 k → F' k ∨ wr.heap.size ≤ k) =>
      (show Real w2 d s2' F2 ∧ Only F w1 w2 ∧ ∀ k, F2 k → F k ∨ w1.heap.size ≤ k from
        ⟨hr2, HO'.out.trans ho2 (fun k hk => HF'.out k hk), fun k hk => (hf2 k hk).elim (HF'.out k) (fun h => .inr (by have := HO'.out.size; omega))⟩))
    have HEnd := hid (fun (w2 : World) (s2' : DSt) (F2 : Nat → Prop) (hn : Real w2 d s2' F2 ∧ Only F w1 w2 ∧ ∀ k, F2 k → F k ∨ w1.heap.size ≤ k) (u v : Value) =>
      (show RealUpd Real w d s2' F ((w2.setCell ⟨w.heap.size, 0, none⟩ u).setCell ⟨w.heap.size, 1, none⟩ v) from by
        have hne : ∀ k, F2 k → k ≠ w.heap.size := fun k hk e => by
          rcases hn.2.2 k hk with hf | hf
          · have := HFl.out k hf; omega
          · have := HSz.out; omega
        refine ⟨F2, HD.out.kept hn.1 ⟨fun k hk => (Below.heap_setCell _ ⟨w.heap.size, 1, none⟩ _ k (hne k hk)).trans (Below.heap_setCell _ ⟨w.heap.size, 0, none⟩ _ k (hne k hk)), by simp [World.setCell]⟩, ?_, fun k hk => (hn.2.2 k hk).imp id (fun h => by have := HSz.out; omega)⟩
        exact ((Only.of_below HB1.out).trans hn.2.1 (fun k hk => .inl hk)).trans (((Only.refl (fun k => k = w.heap.size) w2).put (p := ⟨w.heap.size, 0, none⟩) rfl _).put (p := ⟨w.heap.size, 1, none⟩) rfl _) (fun k hk => .inr (Nat.le_of_eq hk.symm))))
    have HBox := hid (fun (w2 : World) (ho2 : Only F w1 w2) => (show Blk w2 w.heap.size 56 #[.int .i64 0, .int .u32 0] from HBk.out.same (ho2.block _ HSz.out (fun hf => by have := HFl.out _ hf; omega))))
    have x0 := fun W => Tryd.idx0 (i : Int) ((i : Int) + (H : Int)) W
    have x1 := fun W => Tryd.idx1 (i : Int) ((i : Int) + (H : Int)) W
    rcases hv with ⟨rfl, rfl⟩ | ⟨rfl, rfl, hc1⟩ | ⟨rfl, rfl, hc1, hc2⟩
    · go_wp2_with fail
      refine (HD.out.write S d s' F' (i : Int) A 256 c l wr (HS.out.on HBr.out) HR'.out HU.out HLr.out HAf.out HY.out (by omega)).mono ?_
      rw [HE1.out]
      rintro e w2 ⟨⟨v, hv, rfl⟩, F2, hr2, ho2, hf2⟩
      have hn := HNext.out w2 s1 F2 hr2 ho2 hf2
      have HN := hid hn
      by_cases hc : c1 = 0
      · have HC := hid hc
        have hv2 : v = .nilIface := by simp only [hc] at hv; exact hv.nil
        subst hv2
        clear hr2 ho2 hf2 hv c0 hc hn
        go_wp2
        go_roundw
        case rel => exact ⟨s1, F2, .inr (.inl ⟨rfl, rfl, HC.out⟩), HN.out.1, HN.out.2.1, HN.out.2.2⟩
        case measure => simp [intOf]
      · have hbk := HBox.out w2 hn.2.1
        have fr := fun i => hbk.free i
        have b0 := hbk.cell 0
        have b1 := hbk.cell 1
        simp at b0 b1
        have HK4 := (hbk.put 0 (.int .i64 0)).put 1 (.int .u32 0)
        have m0 := HK4.cell 0
        have m1 := HK4.cell 1
        simp at m0 m1
        have HV := hid (show EV S R.1 v from by rw [HW.out, if_pos hc]; exact hv)
        have HEn := hid (show RealUpd Real w d R.2 F ((w2.setCell ⟨w.heap.size, 0, none⟩ (.int .i64 0)).setCell ⟨w.heap.size, 1, none⟩ (.int .u32 0)) from by rw [HW.out, if_pos hc]; exact HEnd.out w2 s1 F2 hn _ _)
        obtain ⟨j, rfl⟩ := hv.is hc
        clear hr2 ho2 hf2 hv c0 hc hn hbk HK4
        go_wp2
        exact bodyPost_ret (v := .tuple #[.agg #[.int .i64 0, .int .u32 0], .iface 157 (.pointer (some (S j)))]) (by simp [results, Tryd.results29, go_sem, m0, m1]) rfl ⟨⟨0, 0, _, rfl, HV.out⟩, HEn.out⟩
    · go_wp2_with fail
      refine (HD.out.write S d s' F' ((i + H : Nat) : Int) A 256 c l wr (HS.out.on HBr.out) HR'.out HU1.out HLr.out HAf.out HY.out (by omega)).mono ?_
      rw [HE2.out]
      rintro e w2 ⟨⟨v, hv, rfl⟩, F2, hr2, ho2, hf2⟩
      have hn := HNext.out w2 s2 F2 hr2 ho2 hf2
      have HN := hid hn
      by_cases hc : c2 = 0
      · have HC := hid hc
        have HC1 := hid hc1
        have hv2 : v = .nilIface := by simp only [hc] at hv; exact hv.nil
        subst hv2
        clear hr2 ho2 hf2 hv c0 hc hn hc1
        go_wp2
        go_roundw
        case rel => exact ⟨s2, F2, .inr (.inr ⟨rfl, rfl, HC1.out, HC.out⟩), HN.out.1, HN.out.2.1, HN.out.2.2⟩
        case measure => simp [intOf]
      · have hbk := HBox.out w2 hn.2.1
        have fr := fun i => hbk.free i
        have b0 := hbk.cell 0
        have b1 := hbk.cell 1
        simp at b0 b1
        have HK4 := (hbk.put 0 (.int .i64 0)).put 1 (.int .u32 0)
        have m0 := HK4.cell 0
        have m1 := HK4.cell 1
        simp at m0 m1
        have HV := hid (show EV S R.1 v from by rw [HW.out, if_neg (by rw [hc1]; simp)]; exact hv)
        have HEn := hid (show RealUpd Real w d R.2 F ((w2.setCell ⟨w.heap.size, 0, none⟩ (.int .i64 0)).setCell ⟨w.heap.size, 1, none⟩ (.int .u32 0)) from by rw [HW.out, if_neg (by rw [hc1]; simp)]; exact HEnd.out w2 s2 F2 hn _ _)
        obtain ⟨j, rfl⟩ := hv.is hc
        clear hr2 ho2 hf2 hv c0 hc hn hbk HK4 hc1
        go_wp2
        exact bodyPost_ret (v := .tuple #[.agg #[.int .i64 0, .int .u32 0], .iface 157 (.pointer (some (S j)))]) (by simp [results, Tryd.results29, go_sem, m0, m1]) rfl ⟨⟨0, 0, _, rfl, HV.out⟩, HEn.out⟩
    · go_wp2_with fail
      refine (sum_any A 256 c _ l _ HLr.out HY.out).mono ?_
      rintro e w2 ⟨rfl, rfl⟩
      have hbk := HBox.out wr HO'.out
      have fr := fun i => hbk.free i
      have b0 := hbk.cell 0
      have b1 := hbk.cell 1
      simp at b0 b1
      have HK4 := (hbk.put 0 (.int .i64 (i : Int))).put 1 (.int .u32 ((crcOf (nats l) : Nat) : Int))
      have m0 := HK4.cell 0
      have m1 := HK4.cell 1
      simp at m0 m1
      have HV := hid (show EV S R.1 .nilIface from by rw [HW.out, if_neg (by rw [hc1]; simp)]; simp only [hc2]; exact .fine)
      have HEn := hid (show RealUpd Real w d R.2 F ((wr.setCell ⟨w.heap.size, 0, none⟩ (.int .i64 (i : Int))).setCell ⟨w.heap.size, 1, none⟩ (.int .u32 ((crcOf (nats l) : Nat) : Int))) from by rw [HW.out, if_neg (by rw [hc1]; simp)]; exact HEnd.out wr s' F' ⟨HR'.out, HO'.out, HF'.out⟩ _ _)
      clear c0 hbk HK4 hc1 hc2
      go_wp2
      exact bodyPost_ret (v := .tuple #[.agg #[.int .i64 (i : Int), .int .u32 ((crcOf (nats l) : Nat) : Int)], .nilIface]) (by simp [results, Tryd.results29, go_sem, m0, m1]) rfl ⟨⟨_, _, _, rfl, HV.out⟩, HEn.out⟩
/-- what Save leaves -/
theorem saveR_eq {s : DSt} {r : RSt} {p H : Nat} (hc : r.code = 0) (hp : r.epoch % 2 = (p : Int)) : saveR s H r = if (wr2 s p H (bytesOf r)).1 ≠ 0 then wr2 s p H (bytesOf r) else (wr2 s p H (bytesOf r)).2.flush := by
  unfold saveR wr2
  rw [if_neg (by rw [hc]; simp), hp, show ((p : Int) + (H : Int)) = ((p + H : Nat) : Int) by omega]
  by_cases h : (s.write (p : Int) (bytesOf r)).1 ≠ 0
  · simp only [if_pos h]
  · simp only [if_neg h]
theorem wr2_okN {s : DSt} {p H q : Nat} {l : List Int} (h : s.okN q) (hl : Byt l) : (wr2 s p H l).2.okN (q + 2) := by
  unfold wr2
  split
  · exact (okN_write h hl).more (by omega)
  · exact okN_write (okN_write h hl) hl
set_option maxRecDepth 100000 in
set_option maxHeartbeats 4000000 in
theorem save_any (D : DevOk Real) (S : Nat → Addr) (d n q : Nat) (s : DSt) (F : Nat → Prop) (r : RSt) (A : Option Addr) (m c : Nat) (w0 w : World) (hS : Sent6 w0 S) (hB0 : Below w0.heap.size w0 w) (hF0 : ∀ k, F k → w0.heap.size ≤ k) (hr : Real w d s F) (ho : s.okN q) (hq : q ≤ 900) (hn : s.blks.length = n) (h0 : 300 ≤ n) (hrf : Rf w w.heap.size A m c r.refs) (hs : Sums r.refs) (h1 : -9223372036854775808 ≤ r.epoch) (h2 : r.epoch ≤ 9223372036854775807) :
    Calls Tryd.prog 15 #[.pointer (some ⟨d, 0, none⟩), rtV r.epoch A m c] w fun e w' => (∃ v, e = .returned v ∧ EV S (saveR s (halN n) r).1 v) ∧ RealUpd Real w d (saveR s (halN n) r).2 F w' := by
  have hok := ho.ok (by omega)
  have HB1 := hid (show Below w.heap.size w (w.alloc (.cells #[.int .i64 r.epoch, .slice A m c] 31)) from (Below.refl _ _).alloc (Nat.le_refl _) _)
  have HK1 := hid (Blk.new w 31 #[.int .i64 r.epoch, .slice A m c])
  have HBw := hid (hB0.trans (HB1.out.mono hB0.size))
  have HRl := hid (fun w' (hb : Below w.heap.size w w') => D.kept hr (Kept.of_below hb (D.lt hr)))
  have HOp := hid (prOpen_any D d s F _ (HRl.out _ HB1.out) hok (by omega))
  have HBy := hid (fun w' (hb : Below w.heap.size w w') => rootBytes_any S r A m c w' (hS.on (hB0.trans (hb.mono hB0.size))) (hrf.on hb) hs h1 h2)
  have HPl := hid (fun w' h0 h1 => place_any r.epoch A m c w' h0 h1)
  have HD := hid D
  have HS := hid hS
  have HB0 := hid hB0
  have HF0 := hid hF0
  have HO := hid ho
  have HQ := hid hq
  have HN0 := hid (show 300 ≤ n ∧ n ≤ 6000 from ⟨h0, by rw [← hn]; exact hok.2.2.2⟩)
  have HLt := hid (D.lt hr)
  rw [hn] at HOp
  obtain ⟨R, hR⟩ : ∃ R, saveR s (halN n) r = R := ⟨_, rfl⟩
  have HR0 := hid (fun (hc : r.code ≠ 0) => (show R = (r.code, s) from by rw [← hR]; unfold saveR; rw [if_pos hc]))
  have HR1 := hid (fun (hc : r.code = 0) (pp : Nat) (hpp : r.epoch % 2 = (pp : Int)) => hR.symm.trans (saveR_eq (s := s) (H := halN n) hc hpp))
  rw [hR]
  clear hR
  have c0 := HK1.out.cell 0
  have c1 := HK1.out.cell 1
  simp at c0 c1
  clear hS hB0 hF0 hr ho hq hn h0 hrf hs h1 h2 hok D
  go_enter Tryd.func15, Tryd.ntmps15
  go_wp2_with fail
  refine HOp.out.mono ?_
  rintro e w1 ⟨p, G, rfl, hp, hb, hg⟩
  have HP1 := hid hp
  have HB2 := hid (HB1.out.trans (hb.mono HB1.out.size))
  have HK2 := hid (HK1.out.below hb HK1.out.lt)
  have HGn := hid (show ∀ k, G k → w.heap.size ≤ k from fun k hk => by have := hg k hk; simp at this; omega)
  clear hp hb hg c0 c1
  have c0 := HK2.out.cell 0
  have c1 := HK2.out.cell 1
  simp at c0 c1
  go_wp2_with fail
  refine (HBy.out _ HB2.out).mono ?_
  rintro e w2 ⟨hout, hb⟩
  have HP2 := hid (HP1.out.on hb)
  have HB3 := hid (HB2.out.trans (hb.mono HB2.out.size))
  have HK3 := hid (HK2.out.below hb HK2.out.lt)
  clear hb c0 c1
  have c0 := HK3.out.cell 0
  have c1 := HK3.out.cell 1
  simp at c0 c1
  have HUn := hid (fun w' (hb : Below w.heap.size w w') => (show RealUpd Real w d s F w' from ⟨F, HRl.out w' hb, Only.of_below hb, fun k hk => .inl hk⟩))
  rcases hout with ⟨hc, A2, c2, rfl, hsl, hfr⟩ | ⟨hc, v, rfl, hv⟩
  · obtain ⟨f0, f1, _, _⟩ := RSt.fine hc
    obtain ⟨pp, hpp⟩ : ∃ pp : Nat, r.epoch % 2 = (pp : Int) := ⟨(r.epoch % 2).toNat, by omega⟩
    have HPp := hid (show pp < halN n from by have := half_facts HN0.out.1; omega)
    have HSv := hid (HR1.out hc pp hpp)
    have HPl2 := hid (fun w' => HPl.out w' f0 f1)
    rw [hpp] at HPl2
    have HSl := hid hsl
    have HFr := hid (show ∀ ad, A2 = some ad → w.heap.size ≤ ad.block from fun ad ha => Nat.le_trans HB2.out.size (hfr ad ha))
    clear hc hsl hfr f0 f1 hpp
    go_wp2_with fail
    refine (HPl2.out _).mono ?_
    rintro e w3 ⟨rfl, hb⟩
    have HB4 := hid (HB3.out.trans (hb.mono HB3.out.size))
    have HP3 := hid (HP2.out.on hb)
    have HSl3 := hid (HSl.out.on hb)
    clear hb c0 c1
    have HWr := hid (prWriteArm_any HD.out S p d n 0 pp q s F G A2 c2 (bytesOf r) w0 w3 HS.out.five (HB0.out.trans (HB4.out.mono HB0.out.size)) HF0.out (HRl.out _ HB4.out) HP3.out (fun k hf hg => by have := HLt.out k hf; have := HGn.out k hg; omega) HO.out (by have := HQ.out; omega) HN0.out.1 HN0.out.2 HPp.out HSl3.out (fun ad ha hf => by have := HLt.out _ hf; have := HFr.out ad ha; omega) (bytesOf_byt r))
    have HOk2 := hid (wr2_okN (p := pp) (H := halN n) HO.out (bytesOf_byt r))
    obtain ⟨⟨c3, s3⟩, h3⟩ : ∃ x, wr2 s pp (halN n) (bytesOf r) = x := ⟨_, rfl⟩
    rw [h3] at HWr HSv HOk2
    clear h3
    go_wp2_with fail
    refine HWr.out.mono ?_
    rintro e w4 ⟨⟨a4, z4, v, rfl, hv⟩, F4, hr4, ho4, hf4⟩
    have HR4 := hid hr4
    have HO4 := hid (show Only F w w4 from (Only.of_below HB4.out).trans ho4 (fun k hk => .inl hk))
    have HF4 := hid (show ∀ k, F4 k → F k ∨ w.heap.size ≤ k from fun k hk => (hf4 k hk).imp id (fun h => by have := HB4.out.size; omega))
    have HW4 := hid (show w.heap.size ≤ w4.heap.size from HO4.out.size)
    -- the ref's box
    have HKeep := hid (fun w' (hb : Below w4.heap.size w4 w') => (show Real w' d s3 F4 ∧ Only F w w' from ⟨HD.out.kept HR4.out (Kept.of_below hb (HD.out.lt HR4.out)), HO4.out.then_below hb⟩))
    have HBox := hid (show Below w4.heap.size w4 (w4.alloc (.cells #[.int .i64 a4, .int .u32 z4] 56)) from (Below.refl _ _).alloc (Nat.le_refl _) _)
    by_cases hc3 : c3 = 0
    · have hv2 : v = .nilIface := by simp only [hc3] at hv; exact hv.nil
      subst hv2
      have hRe : R = s3.flush := by rw [HSv.out]; simp only [hc3]; rw [if_neg (by simp)]
      have HRe := hid hRe
      have hk := HKeep.out _ HBox.out
      have hSnt : Below w0.heap.size w0 (w4.alloc (.cells #[.int .i64 a4, .int .u32 z4] 56)) := HB0.out.trans (hk.2.below HB0.out.size HF0.out)
      have HFl := hid (HD.out.flush S d s3 F4 _ (HS.out.five.on hSnt) hk.1 (HOk2.out.ok (by have := HQ.out; omega)))
      have HOA := hid hk.2
      clear hr4 ho4 hf4 hv hc3 hRe hk hSnt
      go_wp2_with fail
      refine HFl.out.mono ?_
      rintro e w5 ⟨⟨v, hv, rfl⟩, F5, hr5, ho5, hf5⟩
      have HFin := hid (show (∃ v', Ending.returned v = .returned v' ∧ EV S R.1 v') ∧ RealUpd Real w d R.2 F w5 from by
        rw [HRe.out]
        refine ⟨⟨v, rfl, hv⟩, F5, hr5, HOA.out.trans ho5 (fun k hk => HF4.out k hk), fun k hk => (hf5 k hk).elim (HF4.out k) (fun h => .inr (by have := HOA.out.size; omega))⟩)
      clear hv hr5 ho5 hf5
      go_wp2
      go_ret
      exact HFin.out
    · have HV := hid (show EV S R.1 v from by rw [HSv.out]; rw [if_pos hc3]; exact hv)
      have HFin := hid (show RealUpd Real w d R.2 F (w4.alloc (.cells #[.int .i64 a4, .int .u32 z4] 56)) from by
        rw [HSv.out]; rw [if_pos hc3]
        exact ⟨F4, (HKeep.out _ HBox.out).1, (HKeep.out _ HBox.out).2, HF4.out⟩)
      obtain ⟨j, rfl⟩ := hv.is hc3
      clear hr4 ho4 hf4 hv hc3
      go_wp2
      go_ret
      exact ⟨⟨_, rfl, HV.out⟩, HFin.out⟩
  · have HRe := hid (HR0.out hc)
    have HV := hid (show EV S R.1 v from by rw [HRe.out]; exact hv)
    have HFin := hid (show RealUpd Real w d R.2 F w2 from by rw [HRe.out]; exact HUn.out _ HB3.out)
    obtain ⟨j, rfl⟩ := hv.is hc
    clear hv hc
    go_wp2
    go_ret
    exact ⟨⟨_, rfl, HV.out⟩, HFin.out⟩
end
end Go.Proofs.YthgdofcamjkdpaaDoor
