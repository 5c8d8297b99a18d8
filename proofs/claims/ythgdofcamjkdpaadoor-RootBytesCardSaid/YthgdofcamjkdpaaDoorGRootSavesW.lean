/- The walk of RootSaves. -/
import Derived.Test.YthgdofcamjkdpaaDoorGRootSavesL
namespace Go.Proofs.YthgdofcamjkdpaaDoor
open Go.RowKit

section
variable {Real : World → Nat → DSt → (Nat → Prop) → Prop}
theorem dk_crashA (D : DevOk Real) {w0 w : World} {d n q : Nat} {s : DSt} {F : Nat → Prop} (h : Dk Real w0 w d n q s F) (hq : q ≤ 900) {A : Option Addr} {m c : Nat} {l : List Int} (hl : Sn w w.heap.size A m c l) (hA : ∀ ad, A = some ad → 0 < m → ¬ F ad.block) (hm : m ≤ 1000) :
    Calls Tryd.prog 17 #[.pointer (some ⟨d, 0, none⟩), .slice A m c] w fun e w' => e = .returned (.tuple #[]) ∧ ∃ F', Dk Real w0 w' d n q (s.crash l) F' := by
  refine (D.crash d s F _ _ _ l _ h.real (h.okN.ok (by omega)) hl hA hm).mono ?_
  rintro e w' ⟨he, hu⟩
  obtain ⟨F', h1, _, _⟩ := h.upd hu (okN_crash h.okN) (by rw [crash_len]; exact h.len)
  exact ⟨he, F', h1⟩
set_option maxRecDepth 100000 in
set_option maxHeartbeats 4000000 in
theorem rootSaves_any (D : DevOk Real) (S : Nat → Addr) (n0 arm0 : Int) (P : Option Addr) (np cp : Nat) (picks : List Int) (A : Option Addr) (la ca : Nat) (l : List Int) (w : World) (hS : Sent w S) (hp : Sn w w.heap.size P np cp picks) (hl : Sn w w.heap.size A la ca l) (hnp : np ≤ 6) (hla : la ≤ 20) :
    Calls Tryd.prog 4 #[.int .i64 n0, .int .i64 arm0, .slice P np cp, .slice A la ca] w (Yes w) := by
  have HS := hid hS
  have HD := hid D
  have HPk := hid hp
  have HL := hid hl
  obtain ⟨m, hm⟩ : ∃ m : Nat, n0 % 20 = (m : Int) := ⟨(n0 % 20).toNat, by omega⟩
  have HM := hid hm
  have hm19 : (m : Int) ≤ 19 := by omega
  obtain ⟨am, ham⟩ : ∃ am : Nat, arm0 % 4 = (am : Int) := ⟨(arm0 % 4).toNat, by omega⟩
  have HAm := hid ham
  have ham3 : (am : Int) ≤ 3 := by omega
  obtain ⟨a, haa⟩ : ∃ a : Nat, a = am + 1 := ⟨_, rfl⟩
  have HA := hid (show (am : Int) + 1 = (a : Int) ∧ 1 ≤ a ∧ a ≤ 4 from ⟨by omega, by omega, by omega⟩)
  obtain ⟨M, hMM⟩ : ∃ M : Nat, M = m + 1 := ⟨_, rfl⟩
  have HM1 := hid (show (m : Int) + 1 = (M : Int) ∧ m + 1 = M from ⟨by omega, by omega⟩)
  have hh : halN 300 = 75 := by decide
  have hcode : ∀ i : Nat, 1 ≤ i → i ≤ 100 → (mkRoot (i : Int) (listOf l i)).code = 0 := fun i h0 h1 => mkRoot_code (by omega) (by omega) (listOf_in l i (by omega)) (Nat.le_trans (listOf_len l i) (by decide))
  obtain ⟨f, hf⟩ : ∃ f : Nat → RSt, f = fun i : Nat => mkRoot (i : Int) (listOf l i) := ⟨_, rfl⟩
  have HFi := hid (fun i : Nat => show mkRoot (i : Int) (listOf l i) = f i from by rw [hf])
  have HFc := hid (show ∀ i : Nat, 1 ≤ i → i ≤ 100 → (f i).code = 0 from fun i => by rw [hf]; exact hcode i)
  have HFs := hid (show ∀ i : Nat, Sums (f i).refs from fun i => by rw [hf]; exact mkR_sums _)
  have HFe := hid (show ∀ i : Nat, (f i).epoch = (i : Int) from fun i => by rw [hf]; rfl)
  have HNp := hid hnp
  have HLa := hid hla
  have g6 : decide ((6 : Int) < (np : Int)) = false := by simp; omega
  have g20 : decide ((20 : Int) < (la : Int)) = false := by simp; omega
  have HBg := hid (show Below w.heap.size w (w.alloc (.cells #[.slice A la ca] 22)) from (Below.refl _ _).alloc (Nat.le_refl _) _)
  have HKg := hid (Blk.new w 22 #[.slice A la ca])
  clear hS D hp hl hm ham haa hMM hcode hf hnp hla
  go_enter Tryd.func4, Tryd.ntmps4
  go_wp2_with fail
  refine (first6_any HD.out S _ (HS.out.on HBg.out).six).mono ?_
  rintro e w1 ⟨rfl, hb1⟩
  have HB1 := hid (HBg.out.trans (hb1.mono HBg.out.size))
  have HKg1 := hid (HKg.out.below hb1 HKg.out.lt)
  have HS1 := hid (HS.out.on HB1.out)
  have HG := hid (fun wx (hb : Below w1.heap.size w1 wx) => (show wx.cell? ⟨w.heap.size, 0, none⟩ = some (.slice A la ca) ∧ Sn wx wx.heap.size A la ca l from
    ⟨(HKg1.out.below hb HKg1.out.lt).cell 0, hl_on (hl_on HL.out HB1.out) hb⟩))
  have hg0 := HKg1.out.cell 0
  simp at hg0
  clear hb1
  go_wp2_with fail
  refine (number_any n0 20 _ (by omega) (by omega)).mono ?_
  rw [HM.out]
  rintro e w2 ⟨rfl, rfl⟩
  go_wp2_with fail
  refine (dk_new HD.out 300 _ (by omega) (by omega)).mono ?_
  rintro e w4 ⟨d, F, rfl, hk⟩
  have HK4 := hid hk
  clear hk
  go_wp2
  go_loopw [13] (fun i wr => ∃ (k : Nat) (s : DSt) (F : Nat → Prop), 1 ≤ k ∧ k ≤ m + 1 ∧ i = .int .i64 (k : Int) ∧ Dk Real w1 wr d 300 (3 * (k - 1)) s F ∧ Saved f s 300 75 (3 * (k - 1)) (k - 1)) (fun i _ => 22 - (intOf i).toNat)
  case atStart => exact ⟨1, _, F, by omega, by omega, rfl, HK4.out, saved_new f (by omega) (by omega)⟩
  case round =>
    obtain ⟨k, s, Fk, hk1, hkm, rfl, hdk, hsv⟩ := hrel
    have HDk := hid hdk
    have HSv := hid hsv
    have hk20 : (k : Int) ≤ 20 := by omega
    clear hdk hsv
    by_cases hlt : k ≤ m
    · have hsv' := HSv.out.save (by omega) (by omega) (by rw [show k - 1 + 1 = k by omega]; exact HFc.out k hk1 (by omega)) (by rw [show k - 1 + 1 = k by omega]; exact HFe.out k)
      rw [show k - 1 + 1 = k by omega] at hsv'
      obtain ⟨s1, hs1, hsv1⟩ := hsv'
      have HE1 := hid hs1
      have HSv1 := hid hsv1
      have HGk := hid (HG.out _ HDk.out.below)
      clear hs1 hsv1
      go_wp2_with fail
      refine (list_any l A la ca w.heap.size k _ HGk.out.1 HGk.out.2).mono ?_
      rintro e w5 ⟨a5, n5, c5, rfl, hs5, hb5⟩
      have HSn5 := hid hs5
      have HK5 := hid (HDk.out.on HD.out hb5)
      have HN5 := hid (show n5 ≤ 2000000 from by rw [← hs5.len]; exact Nat.le_trans (listOf_len l k) (by decide))
      clear hs5 hb5
      go_wp2_with fail
      refine (dk_made HD.out HK5.out (k : Int) HSn5.out HN5.out).mono ?_
      rw [HFi.out]
      rintro e w6 ⟨o5, rfl, ho5, _, hk⟩
      have HO5 := hid ho5
      have HK6 := hid hk
      clear ho5 hk
      go_wp2_with fail
      refine (dk_save HD.out HK6.out HS1.out.six (by omega) (by omega) HO5.out (HFs.out k) (by rw [HFe.out]; omega) (by rw [HFe.out]; omega)).mono ?_
      rw [hh, HE1.out]
      rintro e w7 ⟨⟨v, rfl, hv⟩, F7, hk⟩
      obtain rfl := hv.nil
      have HK7 := hid hk
      clear hv hk
      go_wp2
      go_roundw
      case rel => exact ⟨k + 1, s1, F7, by omega, by omega, by go_num, by rw [show 3 * (k + 1 - 1) = 3 * (k - 1) + 3 by omega]; exact HK7.out, by rw [show 3 * (k + 1 - 1) = 3 * (k - 1) + 3 by omega, show k + 1 - 1 = k by omega]; exact HSv1.out⟩
      case measure => simp [intOf]; omega
    · have hkM : k = m + 1 := by omega
      have HSm := hid (show Saved f s 300 75 (3 * m) m from by have := HSv.out; rw [hkM] at this; exact this)
      have HDm := hid (show Dk Real w1 wr d 300 (3 * m) s Fk from by have := HDk.out; rw [hkM] at this; exact this)
      have HFl := hid (HSm.out.falls (by omega) (by omega) (fun j j0 j1 => HFc.out j j0 (by omega)) HFs.out HFe.out a HA.out.2.1 HA.out.2.2 picks)
      clear HSv HDk
      go_wp2_with fail
      refine (number_any arm0 4 _ (by omega) (by omega)).mono ?_
      rw [HAm.out]
      rintro e w7 ⟨rfl, rfl⟩
      go_wp2_with fail
      rw [HA.out.1]
      refine (dk_arm HD.out HDm.out (by omega) (a : Int) (by have := HA.out; omega)).mono ?_
      rintro e w7 ⟨rfl, F7, hk⟩
      have HK7 := hid hk
      have HG7 := hid (HG.out _ hk.below)
      clear hk
      go_wp2_with fail
      rw [HM1.out.1]
      refine (list_any l A la ca w.heap.size M _ HG7.out.1 HG7.out.2).mono ?_
      rintro e w8 ⟨a8, n8, c8, rfl, hs8, hb8⟩
      have HSn8 := hid hs8
      have HK8 := hid (HK7.out.on HD.out hb8)
      have HN8 := hid (show n8 ≤ 2000000 from by rw [← hs8.len]; exact Nat.le_trans (listOf_len l M) (by decide))
      clear hs8 hb8
      go_wp2_with fail
      refine (dk_made HD.out HK8.out (M : Int) HSn8.out HN8.out).mono ?_
      rw [HFi.out]
      rintro e w9 ⟨o9, rfl, ho9, _, hk⟩
      have HO9 := hid ho9
      have HK9 := hid hk
      clear ho9 hk
      go_wp2_with fail
      refine (dk_save HD.out HK9.out HS1.out.six (by omega) (by omega) HO9.out (HFs.out M) (by rw [HFe.out]; omega) (by rw [HFe.out]; have := HM1.out; omega)).mono ?_
      rw [hh, ← HM1.out.2]
      rintro e w10 ⟨⟨v, rfl, hv⟩, F10, hk⟩
      have HV := hid hv
      have HK10 := hid hk
      clear hv hk
      go_wp2_with fail
      refine (dk_crashA HD.out HK10.out (by omega) (hl_on (hl_on HPk.out HB1.out) HK10.out.below) (fun ad ha h0 hF => by have h1 := HK10.out.fn _ hF; have h2 := (HPk.out.at_ ad ha h0).1; have h3 := HB1.out.size; omega) (by have := HNp.out; omega)).mono ?_
      obtain ⟨s2, hs2, hu2, hres⟩ := HFl.out
      rw [hs2]
      rintro e w11 ⟨rfl, F11, hk⟩
      have HK11 := hid hk
      have HU2 := hid hu2
      have HRs := hid hres
      clear hs2 hu2 hres hk HFl
      go_wp2_with fail
      refine (dk_load HD.out HK11.out HS1.out.six (by omega) (by omega) HU2.out.down).mono ?_
      rw [hh]
      have hM0 := HM1.out.2
      have hMI := HM1.out.1
      rcases HRs.out with ⟨hc, hn, hcp⟩ | ⟨hc, hn⟩
      · have hv := HV.out
        rw [hc] at hv
        obtain rfl := hv.nil
        rw [hM0] at hn
        have HCp := hid hcp
        have hwr : IntKind.i64.wrap (M : Int) = (M : Int) := IntWalk.i64_in _ (by omega)
        clear hv hc hcp
        rw [hn, show decide (0 < (f M).epoch) = true from by simp [HFe.out]; omega]
        rintro e w12 ⟨o4, rfl, ho4, _, hk⟩
        have he4 : o4.e = ((M : Nat) : Int) := by rw [ho4.1, HFe.out]
        have HE4 := hid he4
        have HO12 := hid ho4
        have HK12 := hid hk
        have hal : Below w12.heap.size w12 (w12.alloc (.cells #[.int .i64 o4.e, o4.s] 31)) := (Below.refl _ _).alloc (Nat.le_refl _) _
        have HKo := hid (Blk.new w12 31 #[.int .i64 o4.e, o4.s])
        have HOa := hid (RV.Is.on HO12.out hal)
        have HKa := hid (HK12.out.on HD.out hal)
        clear hal ho4 hk he4
        clear hn
        go_wp2_with fail
        refine (dk_copies HD.out HKa.out HS1.out.six (by omega) (by omega) HU2.out.down).mono ?_
        rw [hh, HCp.out]
        rintro e w13 ⟨rfl, hb, hk⟩
        have HK13 := hid hk
        have HKo13 := hid (HKo.out.below hb HKo.out.lt)
        have HO13 := hid (RV.Is.on HOa.out hb)
        clear hb hk
        have HB13 := hid (HB1.out.trans (HK13.out.below.mono HB1.out.size))
        have k0 := HKo13.out.cell 0
        have k1 := HKo13.out.cell 1
        simp at k0 k1
        rw [HE4.out] at k0
        have HLs := hid (list_any l A la ca w.heap.size M w13.drew (HG.out _ (HK13.out.below.drew)).1 (HG.out _ (HK13.out.below.drew)).2)
        have HKp := hid (fun w7 (hb : Below w13.drew.heap.size w13.drew w7) => (show (w7.cell? ⟨w12.heap.size, 0, none⟩ = some (.int .i64 ((M : Nat) : Int)) ∧ w7.cell? ⟨w12.heap.size, 1, none⟩ = some o4.s) ∧ o4.Is (f M) w7 ∧ Below w.heap.size w w7 from by
          have hk := HKo13.out.drew.below hb HKo13.out.lt
          exact ⟨⟨by rw [← HE4.out]; exact hk.cell 0, hk.cell 1⟩, RV.Is.on HO13.out (show Below w13.heap.size w13 w7 from ⟨hb.os, hb.tape, hb.output, hb.size, hb.block⟩), HB13.out.drew.trans (hb.mono HB13.out.size)⟩))
        go_wp2_with fail
        go_region_held3 (fun w' => w'.cell? ⟨w12.heap.size, 0, none⟩ = some (.int .i64 ((M : Nat) : Int)) ∧ w'.cell? ⟨w12.heap.size, 1, none⟩ = some o4.s) (first | exact ⟨k0, k1⟩ | exact hk7 | exact hk8 | exact hk6 | go_keep)
          ((first | (go_at_call 14; refine HLs.out.mono ?_; rintro e w6 ⟨a6, n6, c6, rfl, hs6, hb6⟩; obtain ⟨hk6, _, _⟩ := HKp.out w6 hb6; have HSn6 := hid hs6; have HN6 := hid (show n6 ≤ 2000000 from by rw [← hs6.len]; exact Nat.le_trans (listOf_len l _) (by decide)); have HKq := hid (fun w7 (hb : Below w6.heap.size w6 w7) => HKp.out w7 (hb6.trans (hb.mono hb6.size))); clear hs6 hb6) | (go_at_call 7; refine (made_any ((M : Nat) : Int) (some a6) n6 c6 _ _ HSn6.out HN6.out).mono ?_; rintro e w7 ⟨o7, rfl, ho7, hb7, _⟩; obtain ⟨hk7, hx7, hbw7⟩ := HKq.out w7 hb7; have HX7 := hid hx7; have HO7 := hid (show o7.Is (f M) w7 from by rw [← HFi.out M]; exact ho7); have HB7 := hid hbw7; have HK7 := hid (fun w8 (hb : Below w7.heap.size w7 w8) => HKq.out w8 (hb7.trans (hb.mono hb7.size))); clear ho7 hb7 hx7 hbw7) | (go_at_call 12; refine (sameRoot_any (RV.mk ((M : Nat) : Int) o4.A o4.n o4.c) o7 (f M) (f M) _ ⟨(HFe.out M).symm, HX7.out.2⟩ HO7.out).mono ?_; rintro e w8 ⟨rfl, hb8⟩; obtain ⟨hk8, _, hbw8⟩ := HK7.out w8 hb8; have HB8 := hid hbw8; clear hb8 hbw8)))
        go_wp2
        go_ret
        exact ⟨by simp, HB8.out⟩
      · have hv := HV.out
        rw [hc] at hv
        have HVe := hid hv
        obtain ⟨j, rfl⟩ := hv.is (by decide)
        clear hv hc
        rcases hn with hn | ⟨h0, hn⟩ | ⟨h0, hn⟩
        · rw [hM0] at hn
          have gne : ((M : Int) != (m : Int) + 1) = false := by simp; omega
          rw [hn, show decide (0 < (f M).epoch) = true from by simp [HFe.out]; omega]
          rintro e w12 ⟨o4, rfl, ho4, _, hk⟩
          have he4 : o4.e = ((M : Nat) : Int) := by rw [ho4.1, HFe.out]
          have HE4 := hid he4
          have HO12 := hid ho4
          have HK12 := hid hk
          have hal : Below w12.heap.size w12 (w12.alloc (.cells #[.int .i64 o4.e, o4.s] 31)) := (Below.refl _ _).alloc (Nat.le_refl _) _
          have HKo := hid (Blk.new w12 31 #[.int .i64 o4.e, o4.s])
          have HOa := hid (RV.Is.on HO12.out hal)
          have HKa := hid (HK12.out.on HD.out hal)
          clear hal ho4 hk he4
          clear hn
          go_wp2_with fail
          refine (is_any S 106 106 _ _ (HS1.out.on HKa.out.below) HVe.out).mono ?_
          rintro e w13 ⟨rfl, hb⟩
          have HK13 := hid (HKa.out.on HD.out hb)
          have HKo13 := hid (HKo.out.below hb HKo.out.lt)
          have HO13 := hid (RV.Is.on HOa.out hb)
          clear hb
          have HB13 := hid (HB1.out.trans (HK13.out.below.mono HB1.out.size))
          have k0 := HKo13.out.cell 0
          have k1 := HKo13.out.cell 1
          simp at k0 k1
          rw [HE4.out] at k0
          have HLs := hid (list_any l A la ca w.heap.size M w13.drew (HG.out _ (HK13.out.below.drew)).1 (HG.out _ (HK13.out.below.drew)).2)
          have HKp := hid (fun w7 (hb : Below w13.drew.heap.size w13.drew w7) => (show (w7.cell? ⟨w12.heap.size, 0, none⟩ = some (.int .i64 ((M : Nat) : Int)) ∧ w7.cell? ⟨w12.heap.size, 1, none⟩ = some o4.s) ∧ o4.Is (f M) w7 ∧ Below w.heap.size w w7 from by
            have hk := HKo13.out.drew.below hb HKo13.out.lt
            exact ⟨⟨by rw [← HE4.out]; exact hk.cell 0, hk.cell 1⟩, RV.Is.on HO13.out (show Below w13.heap.size w13 w7 from ⟨hb.os, hb.tape, hb.output, hb.size, hb.block⟩), HB13.out.drew.trans (hb.mono HB13.out.size)⟩))
          go_wp2_with fail
          go_region_held3 (fun w' => w'.cell? ⟨w12.heap.size, 0, none⟩ = some (.int .i64 ((M : Nat) : Int)) ∧ w'.cell? ⟨w12.heap.size, 1, none⟩ = some o4.s) (first | exact ⟨k0, k1⟩ | exact hk7 | exact hk8 | exact hk6 | go_keep)
            ((first | (go_at_call 14; refine HLs.out.mono ?_; rintro e w6 ⟨a6, n6, c6, rfl, hs6, hb6⟩; obtain ⟨hk6, _, _⟩ := HKp.out w6 hb6; have HSn6 := hid hs6; have HN6 := hid (show n6 ≤ 2000000 from by rw [← hs6.len]; exact Nat.le_trans (listOf_len l _) (by decide)); have HKq := hid (fun w7 (hb : Below w6.heap.size w6 w7) => HKp.out w7 (hb6.trans (hb.mono hb6.size))); clear hs6 hb6) | (go_at_call 7; refine (made_any ((M : Nat) : Int) (some a6) n6 c6 _ _ HSn6.out HN6.out).mono ?_; rintro e w7 ⟨o7, rfl, ho7, hb7, _⟩; obtain ⟨hk7, hx7, hbw7⟩ := HKq.out w7 hb7; have HX7 := hid hx7; have HO7 := hid (show o7.Is (f M) w7 from by rw [← HFi.out M]; exact ho7); have HB7 := hid hbw7; have HK7 := hid (fun w8 (hb : Below w7.heap.size w7 w8) => HKq.out w8 (hb7.trans (hb.mono hb7.size))); clear ho7 hb7 hx7 hbw7) | (go_at_call 12; refine (sameRoot_any (RV.mk ((M : Nat) : Int) o4.A o4.n o4.c) o7 (f M) (f M) _ ⟨(HFe.out M).symm, HX7.out.2⟩ HO7.out).mono ?_; rintro e w8 ⟨rfl, hb8⟩; obtain ⟨hk8, _, hbw8⟩ := HK7.out w8 hb8; have HB8 := hid hbw8; clear hb8 hbw8)))
          go_wp2
          go_ret
          exact ⟨by simp, HB8.out⟩
        · have hz : decide (0 < (s2.newest 75).epoch) = false := by rw [hn]; rfl
          rw [hz]
          rintro e w12 ⟨o4, rfl, ho4, hb12, hk⟩
          have HK12 := hid hk
          have hal : Below w12.heap.size w12 (w12.alloc (.cells #[.int .i64 o4.e, o4.s] 31)) := (Below.refl _ _).alloc (Nat.le_refl _) _
          have HKa := hid (HK12.out.on HD.out hal)
          clear hal ho4 hk hb12 hn hz
          have g0 : decide ((0 : Int) < (m : Int)) = false := by rw [h0]; rfl
          have g1 : decide (m = 0) = true := by rw [h0]; rfl
          have g2 : decide (0 < m) = false := by rw [h0]; rfl
          go_wp2_with fail
          refine (is_any S 106 106 _ _ (HS1.out.on HKa.out.below) HVe.out).mono ?_
          rintro e w13 ⟨rfl, hb⟩
          have HB13 := hid (HB1.out.trans ((HKa.out.below.trans (hb.mono HKa.out.below.size)).mono HB1.out.size))
          clear hb
          go_wp2_with fail
          go_quiet (fail)
          go_wp2
          go_ret
          exact ⟨by simp, below_drewN HB13.out _⟩
        · have gne : ((m : Int) != (m : Int) + 1) = true := by simp; omega
          have gnz : decide ((0 : Int) < (m : Int)) = true := by simp; omega
          rw [hn, show decide (0 < (f m).epoch) = true from by simp [HFe.out]; omega]
          rintro e w12 ⟨o4, rfl, ho4, _, hk⟩
          have he4 : o4.e = ((m : Nat) : Int) := by rw [ho4.1, HFe.out]
          have HE4 := hid he4
          have HO12 := hid ho4
          have HK12 := hid hk
          have hal : Below w12.heap.size w12 (w12.alloc (.cells #[.int .i64 o4.e, o4.s] 31)) := (Below.refl _ _).alloc (Nat.le_refl _) _
          have HKo := hid (Blk.new w12 31 #[.int .i64 o4.e, o4.s])
          have HOa := hid (RV.Is.on HO12.out hal)
          have HKa := hid (HK12.out.on HD.out hal)
          clear hal ho4 hk he4
          clear hn
          go_wp2_with fail
          refine (is_any S 106 106 _ _ (HS1.out.on HKa.out.below) HVe.out).mono ?_
          rintro e w13 ⟨rfl, hb⟩
          have HK13 := hid (HKa.out.on HD.out hb)
          have HKo13 := hid (HKo.out.below hb HKo.out.lt)
          have HO13 := hid (RV.Is.on HOa.out hb)
          clear hb
          have HB13 := hid (HB1.out.trans (HK13.out.below.mono HB1.out.size))
          have k0 := HKo13.out.cell 0
          have k1 := HKo13.out.cell 1
          simp at k0 k1
          rw [HE4.out] at k0
          have HLs := hid (list_any l A la ca w.heap.size m w13.drew (HG.out _ (HK13.out.below.drew)).1 (HG.out _ (HK13.out.below.drew)).2)
          have HKp := hid (fun w7 (hb : Below w13.drew.heap.size w13.drew w7) => (show (w7.cell? ⟨w12.heap.size, 0, none⟩ = some (.int .i64 ((m : Nat) : Int)) ∧ w7.cell? ⟨w12.heap.size, 1, none⟩ = some o4.s) ∧ o4.Is (f m) w7 ∧ Below w.heap.size w w7 from by
            have hk := HKo13.out.drew.below hb HKo13.out.lt
            exact ⟨⟨by rw [← HE4.out]; exact hk.cell 0, hk.cell 1⟩, RV.Is.on HO13.out (show Below w13.heap.size w13 w7 from ⟨hb.os, hb.tape, hb.output, hb.size, hb.block⟩), HB13.out.drew.trans (hb.mono HB13.out.size)⟩))
          go_wp2_with fail
          go_region_held3 (fun w' => w'.cell? ⟨w12.heap.size, 0, none⟩ = some (.int .i64 ((m : Nat) : Int)) ∧ w'.cell? ⟨w12.heap.size, 1, none⟩ = some o4.s) (first | exact ⟨k0, k1⟩ | exact hk7 | exact hk8 | exact hk6 | go_keep)
            ((first | (go_at_call 14; refine HLs.out.mono ?_; rintro e w6 ⟨a6, n6, c6, rfl, hs6, hb6⟩; obtain ⟨hk6, _, _⟩ := HKp.out w6 hb6; have HSn6 := hid hs6; have HN6 := hid (show n6 ≤ 2000000 from by rw [← hs6.len]; exact Nat.le_trans (listOf_len l _) (by decide)); have HKq := hid (fun w7 (hb : Below w6.heap.size w6 w7) => HKp.out w7 (hb6.trans (hb.mono hb6.size))); clear hs6 hb6) | (go_at_call 7; refine (made_any ((m : Nat) : Int) (some a6) n6 c6 _ _ HSn6.out HN6.out).mono ?_; rintro e w7 ⟨o7, rfl, ho7, hb7, _⟩; obtain ⟨hk7, hx7, hbw7⟩ := HKq.out w7 hb7; have HX7 := hid hx7; have HO7 := hid (show o7.Is (f m) w7 from by rw [← HFi.out m]; exact ho7); have HB7 := hid hbw7; have HK7 := hid (fun w8 (hb : Below w7.heap.size w7 w8) => HKq.out w8 (hb7.trans (hb.mono hb7.size))); clear ho7 hb7 hx7 hbw7) | (go_at_call 12; refine (sameRoot_any (RV.mk ((m : Nat) : Int) o4.A o4.n o4.c) o7 (f m) (f m) _ ⟨(HFe.out m).symm, HX7.out.2⟩ HO7.out).mono ?_; rintro e w8 ⟨rfl, hb8⟩; obtain ⟨hk8, _, hbw8⟩ := HK7.out w8 hb8; have HB8 := hid hbw8; clear hb8 hbw8)))
          go_wp2
          go_ret
          exact ⟨by simp, HB8.out⟩
end
end Go.Proofs.YthgdofcamjkdpaaDoor
