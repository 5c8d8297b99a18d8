/- Put together out of 3 texts. Package pair's Write over any device, armed or not; package root: Save. -/
import Derived.Test.YtkhdgacjgccnnaaGreatDoorGXan
import Derived.Test.YtkhdgacjgccnnaaGreatDoorGXab
import Derived.Test.YtkhdgacjgccnnaaGreatDoorGXae
namespace Go.Proofs.YtkhdgacjgccnnaaGreatDoor
open Go.RowKit

/-- two writes, one behind the other -/
def wr2 (s : DSt) (i H : Nat) (l : List Int) : Int × DSt := if (s.write (i : Int) l).1 ≠ 0 then s.write (i : Int) l else (s.write (i : Int) l).2.write ((i + H : Nat) : Int) l
section
variable {Real : World → Nat → DSt → (Nat → Prop) → Prop}
set_option maxRecDepth 100000 in
set_option maxHeartbeats 4000000 in
theorem prWriteArm_any (D : DevOk Real) (S : Nat → Addr) (p d n m i q : Nat) (s : DSt) (F G : Nat → Prop) (A : Option Addr) (c : Nat) (l : List Int) (w0 w : World) (hS : Sent5 w0 S) (hB0 : Below w0.heap.size w0 w) (hF0 : ∀ k, F k → w0.heap.size ≤ k) (hr : Real w d s F) (h : PrReal w p d n m G) (hap : ∀ k, F k → ¬ G k) (ho : s.okN q) (hq : q ≤ 900000) (h0 : 300 ≤ n) (h1 : n ≤ 6000) (hi : i < halN n) (hl : Sl w w.heap.size A 256 c l) (hA : ∀ ad, A = some ad → ¬ F ad.block) (hb : Byt l) :
    Calls Tryz.prog 90 #[.pointer (some ⟨p, 0, none⟩), .int .i64 (i : Int), .slice A 256 c] w fun e w' => (∃ a z v, e = .returned (.tuple #[.agg #[.int .i64 a, .int .u32 z], v]) ∧ EV S (wr2 s i (halN n) l).1 v) ∧ RealUpd Real w d (wr2 s i (halN n) l).2 F w' := by
  obtain ⟨⟨c1, s1⟩, e1⟩ : ∃ x, s.write (i : Int) l = x := ⟨_, rfl⟩
  obtain ⟨⟨c2, s2⟩, e2⟩ : ∃ x, s1.write ((i + halN n : Nat) : Int) l = x := ⟨_, rfl⟩
  have ho1 : s1.okN (q + 1) := by have := okN_write (i := (i : Int)) ho hb; rw [e1] at this; exact this
  obtain ⟨R, hR⟩ : ∃ R, wr2 s i (halN n) l = R := ⟨_, rfl⟩
  have HW := hid (show R = if c1 ≠ 0 then (c1, s1) else (c2, s2) from by rw [← hR]; unfold wr2; rw [e1]; simp only; rw [e2])
  rw [hR]
  clear hR
  have HE1 := hid e1
  have HE2 := hid e2
  have HU := hid (ho.ok (by omega))
  have HU1 := hid (ho1.ok (by omega))
  have HD := hid D
  have HS := hid hS
  have HB0 := hid hB0
  have HF0 := hid hF0
  have HR := hid hr
  have HP := hid h
  have HAp := hid hap
  have HL := hid hl
  have HA := hid hA
  have HY := hid hb
  have HFl := hid (D.lt hr)
  have hPa := h.on ((Below.refl _ _).alloc (Nat.le_refl _) (.cells #[.int .i64 0, .int .u32 0] 91))
  have HPc := hid (prPartner_ok p d n m i G _ hPa h0 h1 hi)
  generalize halN n = H at *
  clear hS hB0 hF0 hr h hap ho ho1 hq hl hA hb e1 e2 D hPa
  go_enter Tryz.func90, Tryz.ntmps90
  go_wp2_with fail
  refine HPc.out.mono ?_
  rintro e w1 ⟨rfl, hbe⟩
  have HBk := hid ((Blk.new w 91 #[.int .i64 0, .int .u32 0]).below hbe (by simp))
  have HB1 := hid (show Below w.heap.size w w1 from ((Below.refl _ _).alloc (Nat.le_refl _) _).trans (hbe.mono (by simp)))
  have HSz := hid (show w.heap.size < w1.heap.size from by have := hbe.size; simp at this; omega)
  clear hbe
  go_wp2
  go_loopw [26] (fun v wr => ∃ (s' : DSt) (F' : Nat → Prop), ((v = .int .i64 0 ∧ s' = s) ∨ (v = .int .i64 1 ∧ s' = s1 ∧ c1 = 0) ∨ (v = .int .i64 2 ∧ s' = s2 ∧ c1 = 0 ∧ c2 = 0)) ∧ Real wr d s' F' ∧ Only F w1 wr ∧ (∀ k, F' k → F k ∨ w1.heap.size ≤ k)) (fun v _ => 2 - (intOf v).toNat)
  case atStart => exact ⟨s, F, .inl ⟨rfl, rfl⟩, HD.out.kept HR.out (Kept.of_below HB1.out HFl.out), Only.refl _ _, fun k hk => .inl hk⟩
  case round =>
    obtain ⟨s', F', hv, hr', ho', hf'⟩ := hrel
    have HR' := hid hr'
    have HO' := hid ho'
    have HF' := hid hf'
    clear hr' ho' hf'
    have hp1 : PrReal wr p d n m G := (HP.out.on HB1.out).kept (HO'.out.kept (HP.out.on HB1.out).lt (fun k hg hf => HAp.out k hf hg))
    obtain ⟨c0, _, _, _⟩ := hp1.cells
    have HLr := hid (show Sl wr wr.heap.size A 256 c l from (HL.out.on HB1.out).only HO'.out (fun ad ha _ => HA.out ad ha))
    have HBr := hid (show Below w0.heap.size w0 wr from ((HB0.out.trans (HB1.out.mono HB0.out.size))).trans (HO'.out.below (by have := HB0.out.size; have := HSz.out; omega) HF0.out))
    have HAf := hid (show ∀ ad, A = some ad → 0 < 256 → ¬ F' ad.block from fun ad ha _ hf => by
      rcases HF'.out _ hf with h1 | h1
      · exact HA.out ad ha h1
      · have := (HL.out.at_ ad ha (by omega)).1; have := HSz.out; omega)
    clear hp1
    -- what a write leaves, and the answer's box
    have HNext := hid (fun (w2 : World) (s2' : DSt) (F2 : Nat → Prop) (hr2 : Real w2 d s2' F2) (ho2 : Only F' wr w2) (hf2 : ∀ k, F2 k → F' k ∨ wr.heap.size ≤ k) =>
      (show Real w2 d s2' F2 ∧ Only F w1 w2 ∧ ∀ k, F2 k → F k ∨ w1.heap.size ≤ k from
        ⟨hr2, HO'.out.trans ho2 (fun k hk => HF'.out k hk), fun k hk => (hf2 k hk).elim (HF'.out k) (fun h => .inr (by have := HO'.out.size; omega))⟩))
    have HEnd := hid (fun (w2 : World) (s2' : DSt) (F2 : Nat → Prop) (hn : Real w2 d s2' F2 ∧ Only F w1 w2 ∧ ∀ k, F2 k → F k ∨ w1.heap.size ≤ k) (u v : Value) =>
      (show RealUpd Real w d s2' F ((w2.setCell ⟨w.heap.size, 0, none⟩ u).setCell ⟨w.heap.size, 1, none⟩ v) from by
        have hne : ∀ k, F2 k → k ≠ w.heap.size := fun k hk e => by
          rcases hn.2.2 k hk with hf | hf
          · have := HFl.out k hf; omega
          · have := HSz.out; omega
        refine ⟨F2, HD.out.kept hn.1 ⟨fun k hk => (Below.heap_setCell _ ⟨w.heap.size, 1, none⟩ _ k (hne k hk)).trans (Below.heap_setCell _ ⟨w.heap.size, 0, none⟩ _ k (hne k hk)), by simp [World.setCell]⟩, ?_, fun k hk => (hn.2.2 k hk).imp id (fun h => by have := HSz.out; omega)⟩
        exact ((Only.of_below HB1.out).trans hn.2.1 (fun k hk => .inl hk)).trans (((Only.refl (fun k => k = w.heap.size) w2).put (p := ⟨w.heap.size, 0, none⟩) rfl _).put (p := ⟨w.heap.size, 1, none⟩) rfl _) (fun k hk => .inr (Nat.le_of_eq hk.symm))))
    have HBox := hid (fun (w2 : World) (ho2 : Only F w1 w2) => (show Blk w2 w.heap.size 91 #[.int .i64 0, .int .u32 0] from HBk.out.same (ho2.block _ HSz.out (fun hf => by have := HFl.out _ hf; omega))))
    have x0 := fun W => Tryz.idx0 (i : Int) ((i : Int) + (H : Int)) W
    have x1 := fun W => Tryz.idx1 (i : Int) ((i : Int) + (H : Int)) W
    rcases hv with ⟨rfl, rfl⟩ | ⟨rfl, rfl, hc1⟩ | ⟨rfl, rfl, hc1, hc2⟩
    · go_wp2_with fail
      refine (HD.out.write S d s' F' (i : Int) A 256 c l wr (HS.out.on HBr.out) HR'.out HU.out HLr.out HAf.out HY.out (by omega)).mono ?_
      rw [HE1.out]
      rintro e w2 ⟨⟨v, hv, rfl⟩, F2, hr2, ho2, hf2⟩
      have hn := HNext.out w2 s1 F2 hr2 ho2 hf2
      have HN := hid hn
      by_cases hc : c1 = 0
      · have HC := hid hc
        have hv2 : v = .nilIface := by simp only [hc] at hv; exact hv.nil
        subst hv2
        clear hr2 ho2 hf2 hv c0 hc hn
        go_wp2
        go_roundw
        case rel => exact ⟨s1, F2, .inr (.inl ⟨rfl, rfl, HC.out⟩), HN.out.1, HN.out.2.1, HN.out.2.2⟩
        case measure => simp [intOf]
      · have hbk := HBox.out w2 hn.2.1
        have fr := fun i => hbk.free i
        have b0 := hbk.cell 0
        have b1 := hbk.cell 1
        simp at b0 b1
        have HK4 := (hbk.put 0 (.int .i64 0)).put 1 (.int .u32 0)
        have m0 := HK4.cell 0
        have m1 := HK4.cell 1
        simp at m0 m1
        have HV := hid (show EV S R.1 v from by rw [HW.out, if_pos hc]; exact hv)
        have HEn := hid (show RealUpd Real w d R.2 F ((w2.setCell ⟨w.heap.size, 0, none⟩ (.int .i64 0)).setCell ⟨w.heap.size, 1, none⟩ (.int .u32 0)) from by rw [HW.out, if_pos hc]; exact HEnd.out w2 s1 F2 hn _ _)
        obtain ⟨j, rfl⟩ := hv.is hc
        clear hr2 ho2 hf2 hv c0 hc hn hbk HK4
        go_wp2
        exact bodyPost_ret (v := .tuple #[.agg #[.int .i64 0, .int .u32 0], .iface 261 (.pointer (some (S j)))]) (by simp [results, Tryz.results90, go_sem, m0, m1]) rfl ⟨⟨0, 0, _, rfl, HV.out⟩, HEn.out⟩
    · go_wp2_with fail
      refine (HD.out.write S d s' F' ((i + H : Nat) : Int) A 256 c l wr (HS.out.on HBr.out) HR'.out HU1.out HLr.out HAf.out HY.out (by omega)).mono ?_
      rw [HE2.out]
      rintro e w2 ⟨⟨v, hv, rfl⟩, F2, hr2, ho2, hf2⟩
      have hn := HNext.out w2 s2 F2 hr2 ho2 hf2
      have HN := hid hn
      by_cases hc : c2 = 0
      · have HC := hid hc
        have HC1 := hid hc1
        have hv2 : v = .nilIface := by simp only [hc] at hv; exact hv.nil
        subst hv2
        clear hr2 ho2 hf2 hv c0 hc hn hc1
        go_wp2
        go_roundw
        case rel => exact ⟨s2, F2, .inr (.inr ⟨rfl, rfl, HC1.out, HC.out⟩), HN.out.1, HN.out.2.1, HN.out.2.2⟩
        case measure => simp [intOf]
      · have hbk := HBox.out w2 hn.2.1
        have fr := fun i => hbk.free i
        have b0 := hbk.cell 0
        have b1 := hbk.cell 1
        simp at b0 b1
        have HK4 := (hbk.put 0 (.int .i64 0)).put 1 (.int .u32 0)
        have m0 := HK4.cell 0
        have m1 := HK4.cell 1
        simp at m0 m1
        have HV := hid (show EV S R.1 v from by rw [HW.out, if_neg (by rw [hc1]; simp)]; exact hv)
        have HEn := hid (show RealUpd Real w d R.2 F ((w2.setCell ⟨w.heap.size, 0, none⟩ (.int .i64 0)).setCell ⟨w.heap.size, 1, none⟩ (.int .u32 0)) from by rw [HW.out, if_neg (by rw [hc1]; simp)]; exact HEnd.out w2 s2 F2 hn _ _)
        obtain ⟨j, rfl⟩ := hv.is hc
        clear hr2 ho2 hf2 hv c0 hc hn hbk HK4 hc1
        go_wp2
        exact bodyPost_ret (v := .tuple #[.agg #[.int .i64 0, .int .u32 0], .iface 261 (.pointer (some (S j)))]) (by simp [results, Tryz.results90, go_sem, m0, m1]) rfl ⟨⟨0, 0, _, rfl, HV.out⟩, HEn.out⟩
    · go_wp2_with fail
      refine (sum_any A 256 c _ l _ HLr.out HY.out).mono ?_
      rintro e w2 ⟨rfl, rfl⟩
      have hbk := HBox.out wr HO'.out
      have fr := fun i => hbk.free i
      have b0 := hbk.cell 0
      have b1 := hbk.cell 1
      simp at b0 b1
      have HK4 := (hbk.put 0 (.int .i64 (i : Int))).put 1 (.int .u32 ((crcOf (nats l) : Nat) : Int))
      have m0 := HK4.cell 0
      have m1 := HK4.cell 1
      simp at m0 m1
      have HV := hid (show EV S R.1 .nilIface from by rw [HW.out, if_neg (by rw [hc1]; simp)]; simp only [hc2]; exact .fine)
      have HEn := hid (show RealUpd Real w d R.2 F ((wr.setCell ⟨w.heap.size, 0, none⟩ (.int .i64 (i : Int))).setCell ⟨w.heap.size, 1, none⟩ (.int .u32 ((crcOf (nats l) : Nat) : Int))) from by rw [HW.out, if_neg (by rw [hc1]; simp)]; exact HEnd.out wr s' F' ⟨HR'.out, HO'.out, HF'.out⟩ _ _)
      clear c0 hbk HK4 hc1 hc2
      go_wp2
      exact bodyPost_ret (v := .tuple #[.agg #[.int .i64 (i : Int), .int .u32 ((crcOf (nats l) : Nat) : Int)], .nilIface]) (by simp [results, Tryz.results90, go_sem, m0, m1]) rfl ⟨⟨_, _, _, rfl, HV.out⟩, HEn.out⟩
/-- what Save leaves -/
theorem saveR_eq {s : DSt} {r : RSt} {p H : Nat} (hc : r.code = 0) (hp : r.epoch % 2 = (p : Int)) : saveR s H r = if (wr2 s p H (bytesOf r)).1 ≠ 0 then wr2 s p H (bytesOf r) else (wr2 s p H (bytesOf r)).2.flush := by
  unfold saveR wr2
  rw [if_neg (by rw [hc]; simp), hp, show ((p : Int) + (H : Int)) = ((p + H : Nat) : Int) by omega]
  by_cases h : (s.write (p : Int) (bytesOf r)).1 ≠ 0
  · simp only [if_pos h]
  · simp only [if_neg h]
theorem wr2_okN {s : DSt} {p H q : Nat} {l : List Int} (h : s.okN q) (hl : Byt l) : (wr2 s p H l).2.okN (q + 2) := by
  unfold wr2
  split
  · exact (okN_write h hl).more (by omega)
  · exact okN_write (okN_write h hl) hl
set_option maxRecDepth 100000 in
set_option maxHeartbeats 4000000 in
theorem save_any (D : DevOk Real) (S : Nat → Addr) (d n q : Nat) (s : DSt) (F : Nat → Prop) (r : RSt) (A : Option Addr) (m c : Nat) (w0 w : World) (hS : Sent6 w0 S) (hB0 : Below w0.heap.size w0 w) (hF0 : ∀ k, F k → w0.heap.size ≤ k) (hr : Real w d s F) (ho : s.okN q) (hq : q ≤ 800000) (hn : s.blks.length = n) (h0 : 300 ≤ n) (hrf : Rf w w.heap.size A m c r.refs) (hs : Sums r.refs) (h1 : -9223372036854775808 ≤ r.epoch) (h2 : r.epoch ≤ 9223372036854775807) :
    Calls Tryz.prog 52 #[.pointer (some ⟨d, 0, none⟩), rtV r.epoch A m c] w fun e w' => (∃ v, e = .returned v ∧ EV S (saveR s (halN n) r).1 v) ∧ RealUpd Real w d (saveR s (halN n) r).2 F w' := by
  have hok := ho.ok (by omega)
  have HB1 := hid (show Below w.heap.size w (w.alloc (.cells #[.int .i64 r.epoch, .slice A m c] 85)) from (Below.refl _ _).alloc (Nat.le_refl _) _)
  have HK1 := hid (Blk.new w 85 #[.int .i64 r.epoch, .slice A m c])
  have HBw := hid (hB0.trans (HB1.out.mono hB0.size))
  have HRl := hid (fun w' (hb : Below w.heap.size w w') => D.kept hr (Kept.of_below hb (D.lt hr)))
  have HOp := hid (prOpen_any D d s F _ (HRl.out _ HB1.out) hok (by omega))
  have HBy := hid (fun w' (hb : Below w.heap.size w w') => rootBytes_any S r A m c w' (hS.on (hB0.trans (hb.mono hB0.size))) (hrf.on hb) hs h1 h2)
  have HPl := hid (fun w' h0 h1 => place_any r.epoch A m c w' h0 h1)
  have HD := hid D
  have HS := hid hS
  have HB0 := hid hB0
  have HF0 := hid hF0
  have HO := hid ho
  have HQ := hid hq
  have HN0 := hid (show 300 ≤ n ∧ n ≤ 6000 from ⟨h0, by rw [← hn]; exact hok.2.2.2⟩)
  have HLt := hid (D.lt hr)
  rw [hn] at HOp
  obtain ⟨R, hR⟩ : ∃ R, saveR s (halN n) r = R := ⟨_, rfl⟩
  have HR0 := hid (fun (hc : r.code ≠ 0) => (show R = (r.code, s) from by rw [← hR]; unfold saveR; rw [if_pos hc]))
  have HR1 := hid (fun (hc : r.code = 0) (pp : Nat) (hpp : r.epoch % 2 = (pp : Int)) => hR.symm.trans (saveR_eq (s := s) (H := halN n) hc hpp))
  rw [hR]
  clear hR
  have c0 := HK1.out.cell 0
  have c1 := HK1.out.cell 1
  simp at c0 c1
  clear hS hB0 hF0 hr ho hq hn h0 hrf hs h1 h2 hok D
  go_enter Tryz.func52, Tryz.ntmps52
  go_wp2_with fail
  refine HOp.out.mono ?_
  rintro e w1 ⟨p, G, rfl, hp, hb, hg⟩
  have HP1 := hid hp
  have HB2 := hid (HB1.out.trans (hb.mono HB1.out.size))
  have HK2 := hid (HK1.out.below hb HK1.out.lt)
  have HGn := hid (show ∀ k, G k → w.heap.size ≤ k from fun k hk => by have := hg k hk; simp at this; omega)
  clear hp hb hg c0 c1
  have c0 := HK2.out.cell 0
  have c1 := HK2.out.cell 1
  simp at c0 c1
  go_wp2_with fail
  refine (HBy.out _ HB2.out).mono ?_
  rintro e w2 ⟨hout, hb⟩
  have HP2 := hid (HP1.out.on hb)
  have HB3 := hid (HB2.out.trans (hb.mono HB2.out.size))
  have HK3 := hid (HK2.out.below hb HK2.out.lt)
  clear hb c0 c1
  have c0 := HK3.out.cell 0
  have c1 := HK3.out.cell 1
  simp at c0 c1
  have HUn := hid (fun w' (hb : Below w.heap.size w w') => (show RealUpd Real w d s F w' from ⟨F, HRl.out w' hb, Only.of_below hb, fun k hk => .inl hk⟩))
  rcases hout with ⟨hc, A2, c2, rfl, hsl, hfr⟩ | ⟨hc, v, rfl, hv⟩
  · obtain ⟨f0, f1, _, _⟩ := RSt.fine hc
    obtain ⟨pp, hpp⟩ : ∃ pp : Nat, r.epoch % 2 = (pp : Int) := ⟨(r.epoch % 2).toNat, by omega⟩
    have HPp := hid (show pp < halN n from by have := half_facts HN0.out.1; omega)
    have HSv := hid (HR1.out hc pp hpp)
    have HPl2 := hid (fun w' => HPl.out w' f0 f1)
    rw [hpp] at HPl2
    have HSl := hid hsl
    have HFr := hid (show ∀ ad, A2 = some ad → w.heap.size ≤ ad.block from fun ad ha => Nat.le_trans HB2.out.size (hfr ad ha))
    clear hc hsl hfr f0 f1 hpp
    go_wp2_with fail
    refine (HPl2.out _).mono ?_
    rintro e w3 ⟨rfl, hb⟩
    have HB4 := hid (HB3.out.trans (hb.mono HB3.out.size))
    have HP3 := hid (HP2.out.on hb)
    have HSl3 := hid (HSl.out.on hb)
    clear hb c0 c1
    have HWr := hid (prWriteArm_any HD.out S p d n 0 pp q s F G A2 c2 (bytesOf r) w0 w3 HS.out.five (HB0.out.trans (HB4.out.mono HB0.out.size)) HF0.out (HRl.out _ HB4.out) HP3.out (fun k hf hg => by have := HLt.out k hf; have := HGn.out k hg; omega) HO.out (by have := HQ.out; omega) HN0.out.1 HN0.out.2 HPp.out HSl3.out (fun ad ha hf => by have := HLt.out _ hf; have := HFr.out ad ha; omega) (bytesOf_byt r))
    have HOk2 := hid (wr2_okN (p := pp) (H := halN n) HO.out (bytesOf_byt r))
    obtain ⟨⟨c3, s3⟩, h3⟩ : ∃ x, wr2 s pp (halN n) (bytesOf r) = x := ⟨_, rfl⟩
    rw [h3] at HWr HSv HOk2
    clear h3
    go_wp2_with fail
    refine HWr.out.mono ?_
    rintro e w4 ⟨⟨a4, z4, v, rfl, hv⟩, F4, hr4, ho4, hf4⟩
    have HR4 := hid hr4
    have HO4 := hid (show Only F w w4 from (Only.of_below HB4.out).trans ho4 (fun k hk => .inl hk))
    have HF4 := hid (show ∀ k, F4 k → F k ∨ w.heap.size ≤ k from fun k hk => (hf4 k hk).imp id (fun h => by have := HB4.out.size; omega))
    have HW4 := hid (show w.heap.size ≤ w4.heap.size from HO4.out.size)
    -- the ref's box
    have HKeep := hid (fun w' (hb : Below w4.heap.size w4 w') => (show Real w' d s3 F4 ∧ Only F w w' from ⟨HD.out.kept HR4.out (Kept.of_below hb (HD.out.lt HR4.out)), HO4.out.then_below hb⟩))
    have HBox := hid (show Below w4.heap.size w4 (w4.alloc (.cells #[.int .i64 a4, .int .u32 z4] 91)) from (Below.refl _ _).alloc (Nat.le_refl _) _)
    by_cases hc3 : c3 = 0
    · have hv2 : v = .nilIface := by simp only [hc3] at hv; exact hv.nil
      subst hv2
      have hRe : R = s3.flush := by rw [HSv.out]; simp only [hc3]; rw [if_neg (by simp)]
      have HRe := hid hRe
      have hk := HKeep.out _ HBox.out
      have hSnt : Below w0.heap.size w0 (w4.alloc (.cells #[.int .i64 a4, .int .u32 z4] 91)) := HB0.out.trans (hk.2.below HB0.out.size HF0.out)
      have HFl := hid (HD.out.flush S d s3 F4 _ (HS.out.five.on hSnt) hk.1 (HOk2.out.ok (by have := HQ.out; omega)))
      have HOA := hid hk.2
      clear hr4 ho4 hf4 hv hc3 hRe hk hSnt
      go_wp2_with fail
      refine HFl.out.mono ?_
      rintro e w5 ⟨⟨v, hv, rfl⟩, F5, hr5, ho5, hf5⟩
      have HFin := hid (show (∃ v', Ending.returned v = .returned v' ∧ EV S R.1 v') ∧ RealUpd Real w d R.2 F w5 from by
        rw [HRe.out]
        refine ⟨⟨v, rfl, hv⟩, F5, hr5, HOA.out.trans ho5 (fun k hk => HF4.out k hk), fun k hk => (hf5 k hk).elim (HF4.out k) (fun h => .inr (by have := HOA.out.size; omega))⟩)
      clear hv hr5 ho5 hf5
      go_wp2
      go_ret
      exact HFin.out
    · have HV := hid (show EV S R.1 v from by rw [HSv.out]; rw [if_pos hc3]; exact hv)
      have HFin := hid (show RealUpd Real w d R.2 F (w4.alloc (.cells #[.int .i64 a4, .int .u32 z4] 91)) from by
        rw [HSv.out]; rw [if_pos hc3]
        exact ⟨F4, (HKeep.out _ HBox.out).1, (HKeep.out _ HBox.out).2, HF4.out⟩)
      obtain ⟨j, rfl⟩ := hv.is hc3
      clear hr4 ho4 hf4 hv hc3
      go_wp2
      go_ret
      exact ⟨⟨_, rfl, HV.out⟩, HFin.out⟩
  · have HRe := hid (HR0.out hc)
    have HV := hid (show EV S R.1 v from by rw [HRe.out]; exact hv)
    have HFin := hid (show RealUpd Real w d R.2 F w2 from by rw [HRe.out]; exact HUn.out _ HB3.out)
    obtain ⟨j, rfl⟩ := hv.is hc
    clear hv hc
    go_wp2
    go_ret
    exact ⟨⟨_, rfl, HV.out⟩, HFin.out⟩
end
end Go.Proofs.YtkhdgacjgccnnaaGreatDoor
namespace Go.Proofs.YtkhdgacjgccnnaaGreatDoor
open Go.ChangeShapes Go.WideShapes Go.ChangeAt Go.RowKit

theorem Tryz.star : "*" ++ "errors.errorString" = "*errors.errorString" := by decide
theorem Tryz.row71 (u : TypeId) (h : Tryz.prog.typeName? 3 u = some "*errors.errorString") : u = 261 :=
  typeName_ptr_named (nm := "errors.errorString") (by rw [Tryz.star]; kernel_rfl) (by kernel_rfl) (by decide) u (by rw [Tryz.star]; exact h)
theorem Tryz.cells88 : Tryz.prog.cellsOf 278 = 1 := by kernel_rfl
theorem Tryz.cells9 : Tryz.prog.cellsOf 9 = 1 := by kernel_rfl
/-- an error of errors.New's making, under its variable -/
abbrev sentOf (x : String × Nat × List UInt8) : String × DataW Unit := (x.1, .iface "*errors.errorString" (.ptr (.agg [.lit (.string x.2.2)])))
set_option maxRecDepth 100000 in
theorem sents {W : World} : ∀ (L : List (String × Nat × List UInt8)) (ps : List MemPlace), DataW.LaidVars Tryz.prog W (L.map sentOf) ps →
    (∀ x ∈ L, Tryz.prog.globalNamed x.1 = some x.2.1 ∧ (Tryz.prog.globals[x.2.1]?).map (·.type) = some 31) →
    (∀ b off, MemPlace.cell b off ∈ ps → (∃ c t, W.heap[b]? = some (.cells c t (0, 0))) ∧ ∀ u v, W.cell? ⟨b, off, none⟩ = some (.iface u v) → Value.okWide Tryz.prog W .any 0 u v) → ps.Nodup →
    ∃ az : List Addr, az.length = L.length ∧ az.Nodup ∧ (∀ a ∈ az, MemPlace.cell a.block a.off ∈ ps) ∧ ∀ (i : Nat) (x : String × Nat × List UInt8) (a : Addr), L[i]? = some x → az[i]? = some a → W.cell? ⟨x.2.1, 0, none⟩ = some (.iface 261 (.pointer (some a)))
  | [], ps, _, _, _, _ => ⟨[], rfl, List.nodup_nil, (fun a h => by cases h), (fun i x a h => by simp at h)⟩
  | x :: L, ps, hv, hg, hrows, hnd => by
    obtain ⟨g0, t0, cs0, f0, p0, q0, hg0, ht0, hv0, hd0, hq, rfl⟩ := hv
    obtain ⟨hgx, htx⟩ := hg x (List.mem_cons_self)
    obtain rfl := Option.some.inj (hgx.symm.trans hg0)
    obtain rfl := Option.some.inj (htx.symm.trans ht0)
    obtain ⟨l0⟩ := cs0
    have ok0 : ∀ u v, l0 = [.iface u v] → Value.okWide Tryz.prog W .any 0 u v := fun u v e => by
      subst e
      exact (hrows x.2.1 0 (by simp [MemPlace.row])).2 u v (by simpa using World.var?_cell hg0 hv0 0)
    obtain ⟨a0, s0, rfl, _, _, _, rfl⟩ := errorString_of_trod Tryz.underlying31 Tryz.row71 Tryz.underlying261 Tryz.underlying278 rfl rfl Tryz.underlying9 Tryz.cells88 Tryz.cells9 hd0 ok0
    obtain ⟨az, h1, h2, h3, h4⟩ := sents L q0 hq (fun y hy => hg y (List.mem_cons_of_mem _ hy)) (fun b off hm => hrows b off (List.mem_append_right _ hm)) (List.Nodup.sublist (List.sublist_append_right _ _) hnd)
    have hm0 : MemPlace.cell a0.block a0.off ∈ MemPlace.row ⟨x.2.1, 0, none⟩ 1 ++ MemPlace.row a0 1 := by simp [MemPlace.row]
    refine ⟨a0 :: az, by simp [h1], List.nodup_cons.2 ⟨fun hm => ?_, h2⟩, ?_, ?_⟩
    · have := h3 a0 hm
      exact (List.nodup_append.1 hnd).2.2 _ hm0 _ this rfl
    · intro a ha
      rcases List.mem_cons.1 ha with rfl | ha
      · exact List.mem_append_left _ hm0
      · exact List.mem_append_right _ (h3 a ha)
    · intro i y a hy ha
      rcases i with _ | i
      · simp at hy ha
        subst hy ha
        simpa using World.var?_cell hg0 hv0 0
      · simp at hy ha
        exact h4 i y a hy ha

end Go.Proofs.YtkhdgacjgccnnaaGreatDoor
namespace Go.Proofs.YtkhdgacjgccnnaaGreatDoor

/-- a page, as a block has it: how many bytes, then these -/
def pageB (l : List Int) : List Int := ((l.length : Nat) : Int) :: (l ++ List.replicate (255 - l.length) 0)
theorem pageB_len {l : List Int} (h : l.length ≤ 248) : (pageB l).length = 256 := by
  simp only [pageB, List.length_cons, List.length_append, List.length_replicate]; omega
theorem byt_zeros (n : Nat) : Byt (List.replicate n 0) := fun x hx => by rw [List.eq_of_mem_replicate hx]; omega
theorem pageB_byt {l : List Int} (h : l.length ≤ 248) (hy : Byt l) : Byt (pageB l) := fun x hx => by
  rcases List.mem_cons.1 hx with rfl | hx
  · omega
  · exact (hy.append (byt_zeros _)) x hx
theorem pageB_back (l : List Int) : ((pageB l).drop 1).take l.length = l := by
  show (l ++ List.replicate (255 - l.length) 0).take l.length = l
  rw [List.take_left' rfl]
theorem pageB_head (l : List Int) : (pageB l)[0]? = some ((l.length : Nat) : Int) := rfl
/-- the Refs of index k -/
def slotsOf (ps : List (Int × Nat)) (k : Nat) : List (Int × Nat) := (ps.drop (42 * k)).take 42
theorem slotsOf_len {ps : List (Int × Nat)} (h : ps.length = 256) (k : Nat) : (slotsOf ps k).length = min 42 (256 - 42 * k) := by
  simp only [slotsOf, List.length_take, List.length_drop, h]
theorem slotsOf_le {ps : List (Int × Nat)} (k : Nat) : (slotsOf ps k).length ≤ 42 := by
  simp only [slotsOf, List.length_take]; omega
/-- an index, as a block has it -/
def indexB (ps : List (Int × Nat)) (k : Nat) : List Int := refsB (slotsOf ps k) ++ List.replicate (256 - 6 * (slotsOf ps k).length) 0
theorem indexB_len (ps : List (Int × Nat)) (k : Nat) : (indexB ps k).length = 256 := by
  have := @slotsOf_le ps k
  simp only [indexB, List.length_append, List.length_replicate, refsB_len]; omega
theorem indexB_byt (ps : List (Int × Nat)) (k : Nat) : Byt (indexB ps k) := (refsB_byt _).append (byt_zeros _)
/-- the i-th Ref that lies at a block's beginning -/
def tellRef (b : List Int) (i : Nat) : Int × Nat := (((numOf ((b.drop (6 * i)).take 2) : Nat) : Int), numOf ((b.drop (6 * i + 2)).take 4))
def Small (l : List (Int × Nat)) : Prop := ∀ x, x ∈ l → 0 ≤ x.1 ∧ x.1 < 65536 ∧ x.2 < 4294967296
theorem tellRef_refsB {l : List (Int × Nat)} (h : Small l) (rest : List Int) {i : Nat} {x : Int × Nat} (hx : l[i]? = some x) : tellRef (refsB l ++ rest) i = x := by
  have hl := refsB_len l
  obtain ⟨hi, _⟩ := List.getElem?_eq_some_iff.1 hx
  have e2 : ∀ (a : Int × Nat) l, refsB (a :: l) = refB a ++ refsB l := fun a l => by simp [refsB]
  have hd : l.drop i = x :: l.drop (i + 1) := by
    obtain ⟨hk, rfl⟩ := List.getElem?_eq_some_iff.1 hx
    exact List.drop_eq_getElem_cons hk
  have dx : (refsB l ++ rest).drop (6 * i) = refB x ++ (refsB (l.drop (i + 1)) ++ rest) := by
    rw [List.drop_append_of_le_length (by omega), refsB_drop, hd, e2, List.append_assoc]
  have d2 : (refsB l ++ rest).drop (6 * i + 2) = numB 4 x.2 ++ (refsB (l.drop (i + 1)) ++ rest) := by
    rw [← List.drop_drop, dx, refB, List.append_assoc, List.drop_left' (numB_len _ _)]
  obtain ⟨h0, h1, h2⟩ := h x (List.mem_of_getElem? hx)
  unfold tellRef
  rw [d2, List.take_left' (numB_len _ _), dx, refB, List.append_assoc, List.take_left' (numB_len _ _), numOf_numB, numOf_numB]
  have p2 : (256 : Nat) ^ 2 = 65536 := by decide
  have p4 : (256 : Nat) ^ 4 = 4294967296 := by decide
  rw [Nat.mod_eq_of_lt (by omega), Nat.mod_eq_of_lt (by omega)]
  exact Prod.ext (by show ((x.1.toNat : Nat) : Int) = x.1; omega) rfl
/-- a Ref as one number: the address, and the sum 16 bits up -/
def refNum (x : Int × Nat) : Nat := x.1.toNat + 65536 * x.2
theorem numB_add (j k n : Nat) : numB (j + k) n = numB j n ++ numB k (n / 256 ^ j) := by
  induction k with
  | zero => simp [numB]
  | succ k ih => rw [← Nat.add_assoc, numB_succ, ih, numB_succ, List.append_assoc, Nat.div_div_eq_div_mul, ← Nat.pow_add]
theorem numB_mod (k n m : Nat) : numB k (n + 256 ^ k * m) = numB k n := by
  unfold numB
  apply List.map_congr_left
  intro i hi
  have hk : i < k := List.mem_range.1 hi
  have e : 256 ^ k * m = 256 ^ i * (256 * (256 ^ (k - i - 1) * m)) := by
    have : (256 : Nat) ^ k = 256 ^ i * (256 * 256 ^ (k - i - 1)) := by
      rw [← Nat.pow_succ', ← Nat.pow_add]; congr 1; omega
    rw [this]; simp only [Nat.mul_assoc]
  rw [e, Nat.add_mul_div_left _ _ (Nat.pow_pos (by omega)), Nat.add_mul_mod_self_left]
theorem refNum_bytes {x : Int × Nat} (h0 : 0 ≤ x.1) (h1 : x.1 < 65536) : numB 6 (refNum x) = refB x := by
  have p2 : (256 : Nat) ^ 2 = 65536 := by decide
  have e := numB_add 2 4 (refNum x)
  rw [show (2 + 4 : Nat) = 6 from rfl] at e
  rw [e, refB]
  congr 1
  · unfold refNum
    rw [← p2]; exact numB_mod 2 _ _
  · unfold refNum
    rw [p2, Nat.add_mul_div_left _ _ (by omega), Nat.div_eq_of_lt (by omega), Nat.zero_add]
theorem numOf_split (b : List Int) (h : 6 ≤ b.length) (hb : Byt b) : numOf (b.take 6) = numOf (b.take 2) + 65536 * numOf ((b.drop 2).take 4) := by
  rcases b with _ | ⟨a0, _ | ⟨a1, _ | ⟨a2, _ | ⟨a3, _ | ⟨a4, _ | ⟨a5, t⟩⟩⟩⟩⟩⟩ <;> simp only [List.length_nil, List.length_cons] at h <;> (try omega)
  simp only [List.take_succ_cons, List.take_zero, List.drop_succ_cons, List.drop_zero, numOf]
  omega
theorem numOf_two (b : List Int) (hb : Byt b) : numOf (b.take 2) < 65536 := by
  have h1 := @numOf_lt (b.take 2) (fun x hx => hb x (List.mem_of_mem_take hx))
  have h2 : (256 : Nat) ^ (b.take 2).length ≤ 256 ^ 2 := Nat.pow_le_pow_right (by omega) (by rw [List.length_take]; omega)
  have p2 : (256 : Nat) ^ 2 = 65536 := by decide
  omega
theorem numOf_four (b : List Int) (hb : Byt b) : numOf (b.take 4) < 4294967296 := by
  have h1 := @numOf_lt (b.take 4) (fun x hx => hb x (List.mem_of_mem_take hx))
  have h2 : (256 : Nat) ^ (b.take 4).length ≤ 256 ^ 4 := Nat.pow_le_pow_right (by omega) (by rw [List.length_take]; omega)
  have p2 : (256 : Nat) ^ 4 = 4294967296 := by decide
  omega
theorem numOf_ref (b : List Int) (h : 6 ≤ b.length) (hb : Byt b) : (((numOf (b.take 6) % 65536 : Nat) : Int), numOf (b.take 6) / 65536) = tellRef b 0 := by
  have h1 := numOf_two b hb
  rw [numOf_split b h hb]
  unfold tellRef
  simp only [Nat.mul_zero, Nat.zero_add, List.drop_zero]
  rw [Nat.add_mul_mod_self_left, Nat.mod_eq_of_lt h1, Nat.add_mul_div_left _ _ (by omega), Nat.div_eq_of_lt h1, Nat.zero_add]
/-- where all lies: how many commits, the indexes' Refs, the pages' -/
structure PS where
  epoch : Int
  idx : List (Int × Nat)
  pgs : List (Int × Nat)
theorem PS.ext' {a b : PS} (h1 : a.epoch = b.epoch) (h2 : a.idx = b.idx) (h3 : a.pgs = b.pgs) : a = b := by
  cases a; cases b; simp_all
def points (x : Int × Nat) : Bool := decide (0 < x.1)
def PS.refs (P : PS) : List (Int × Nat) := (P.idx ++ P.pgs).filter points
def PS.addrs (P : PS) : List Int := 0 :: 1 :: P.refs.map (·.1)
def PS.used (P : PS) : List Int := P.addrs.mergeSort fun x y => decide (x ≤ y)
/-- what was changed: of one that was dropped, nothing -/
abbrev Chg := Nat → Option (List Int)
def keysOf (ch : Chg) : List Nat := (List.range 256).filter fun p => (ch p).isSome
def thereB (P : PS) (ch : Chg) (p : Nat) : Bool := match ch p with
  | some l => decide (0 < l.length)
  | none => points (P.pgs.getD p (0, 0))
def endK (k : Nat) : Nat := min ((k + 1) * 42) 256
def emptyB (P : PS) (ch : Chg) (k : Nat) : Bool := (List.range (endK k - 42 * k)).all fun i => !thereB P ch (42 * k + i)
/-- without what was changed -/
def PS.cutAt (P : PS) (p : Nat) : PS := ⟨P.epoch, P.idx.set (p / 42) (0, 0), P.pgs.set p (0, 0)⟩
def PS.cut (P : PS) (l : List Nat) : PS := l.foldl PS.cutAt ⟨P.epoch + 1, P.idx, P.pgs⟩
/-- each once, of those that stand beside each other, among the first j -/
def onceTo {α : Type} [DecidableEq α] (l : List α) (j : Nat) : List α := (List.range j).filterMap fun i => if i ≠ 0 ∧ l[i]? = l[i - 1]? then none else l[i]?
def once {α : Type} [DecidableEq α] (l : List α) : List α := onceTo l l.length
theorem onceTo_new {α : Type} [DecidableEq α] {l : List α} {j : Nat} {x : α} (hx : l[j]? = some x) (h : j = 0 ∨ l[j]? ≠ l[j - 1]?) : onceTo l (j + 1) = onceTo l j ++ [x] := by
  unfold onceTo
  rw [List.range_succ, List.filterMap_append]
  have hn : ¬ (j ≠ 0 ∧ l[j]? = l[j - 1]?) := fun h2 => h.elim h2.1 (fun h3 => h3 h2.2)
  have e : (if j ≠ 0 ∧ l[j]? = l[j - 1]? then none else l[j]?) = some x := by rw [if_neg hn, hx]
  simp only [List.filterMap_cons, e, List.filterMap_nil]
theorem onceTo_old {α : Type} [DecidableEq α] {l : List α} {j : Nat} (h0 : j ≠ 0) (h : l[j]? = l[j - 1]?) : onceTo l (j + 1) = onceTo l j := by
  unfold onceTo
  rw [List.range_succ, List.filterMap_append]
  simp only [List.filterMap_cons, if_pos (⟨h0, h⟩ : j ≠ 0 ∧ l[j]? = l[j - 1]?), List.filterMap_nil, List.append_nil]
theorem onceTo_len {α : Type} [DecidableEq α] (l : List α) (j : Nat) : (onceTo l j).length ≤ j := by
  have := List.length_filterMap_le (fun i => if i ≠ 0 ∧ l[i]? = l[i - 1]? then none else l[i]?) (List.range j)
  rwa [List.length_range] at this
def pagesOf (P : PS) (ch : Chg) : List Nat := (keysOf ch).filter (thereB P ch)
def indexesOf (P : PS) (ch : Chg) : List Nat := (once ((keysOf ch).map (· / 42))).filter fun k => !emptyB P ch k
def freeOf (P : PS) (H : Nat) : List Nat := (List.range H).filter fun i => !P.addrs.contains (i : Int)
def fitsB (P : PS) (ch : Chg) (H : Nat) : Bool := decide ((pagesOf P ch).length + (indexesOf P ch).length ≤ (freeOf P H).length) && decide (2 * ((P.cut (keysOf ch)).used.length + ((pagesOf P ch).length + (indexesOf P ch).length)) ≤ H)
/-- seven indexes, 256 pages -/
structure PS.Len (P : PS) : Prop where
  i : P.idx.length = 7
  p : P.pgs.length = 256
theorem PS.Len.cutAt {P : PS} (h : P.Len) (p : Nat) : (P.cutAt p).Len := ⟨by simp [PS.cutAt, h.i], by simp [PS.cutAt, h.p]⟩
theorem PS.Len.page {P : PS} (h : P.Len) {p : Nat} (hp : p < 256) : ∃ x, P.pgs[p]? = some x := ⟨_, List.getElem?_eq_getElem (by rw [h.p]; exact hp)⟩
theorem PS.Len.index {P : PS} (h : P.Len) {k : Nat} (hk : k < 7) : ∃ x, P.idx[k]? = some x := ⟨_, List.getElem?_eq_getElem (by rw [h.i]; exact hk)⟩
def noPS (e : Int) : PS := ⟨e, List.replicate 7 (0, 0), List.replicate 256 (0, 0)⟩
theorem noPS_len (e : Int) : (noPS e).Len := ⟨List.length_replicate .., List.length_replicate ..⟩
theorem thereB_some {P : PS} {ch : Chg} {p : Nat} {l : List Int} (h : ch p = some l) : thereB P ch p = decide (0 < l.length) := by unfold thereB; rw [h]
theorem thereB_none {P : PS} {ch : Chg} {p : Nat} {x : Int × Nat} (h : ch p = none) (hx : P.pgs[p]? = some x) : thereB P ch p = points x := by
  unfold thereB; rw [h]; simp [List.getD, hx]
end Go.Proofs.YtkhdgacjgccnnaaGreatDoor
