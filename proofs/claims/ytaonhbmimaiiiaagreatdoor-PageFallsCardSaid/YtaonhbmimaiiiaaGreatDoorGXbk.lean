/- Put together out of 2 texts. Package page's Commit over a device that is armed. -/
import Derived.Test.YtaonhbmimaiiiaaGreatDoorGXbj
import Derived.Test.YtaonhbmimaiiiaaGreatDoorGXba
import Derived.Test.YtaonhbmimaiiiaaGreatDoorGXbb
namespace Go.Proofs.YtaonhbmimaiiiaaGreatDoor
open Go.RowKit Go.Maps

section
variable {Real : World → Nat → DSt → (Nat → Prop) → Prop} {PR : World → Nat → Nat → Nat → Nat → (Nat → Prop) → Prop} {S : Nat → Addr} {w0 w w' : World} {d p n m q k : Nat} {s : DSt} {F G : Nat → Prop}
theorem pa_flush (D : DevOk Real) (P : PairOk Real PR) (h : Pd (RealA Real k) PR S w0 w d p s n m q F G) (hk : k ≤ 1000) (hq : q + 1 ≤ 900000) :
    Calls Tryz.prog 28 #[.pointer (some ⟨d, 0, none⟩)] w fun e w' => (e = .returned .nilIface ∧ ∃ k', k' ≤ 1000 ∧ Stepped (RealA Real k') PR S w0 w d p (fl s) n m (q + 1) F G (fun _ _ => True) w') ∨ (∃ v, e = .returned v ∧ EV S 106 v ∧ ∃ F', Real w' d s.fall F' ∧ Only F w w' ∧ ∀ k, F' k → F k ∨ w.heap.size ≤ k) := by
  obtain ⟨_, hu⟩ := h.up.flush
  have hr : Real w d (s.armed k) F := h.real
  refine (D.flush S d (s.armed k) F w (h.sent0.on h.below) hr (h.up.armed_ok (by omega) hk)).mono ?_
  rintro e w' ⟨⟨v, hv, rfl⟩, hupd⟩
  rw [armed_flush h.up] at hv hupd
  by_cases k1 : k = 1
  · simp only [if_pos k1] at hv hupd
    obtain ⟨F', r1, r2, r3⟩ := hupd
    exact .inr ⟨v, rfl, hv, F', r1, r2, r3⟩
  · simp only [if_neg k1] at hv hupd
    obtain ⟨F', h1, h2, h3⟩ := paDev P h hupd hu hq
    exact .inl ⟨by rw [hv.nil], k - 1, by omega, F', G, h1, h2, h3, fun k hk => .inr (.inl hk), trivial⟩
theorem pa_save (D : DevOk Real) (O : PairOk Real PR) (h : Pd (RealA Real k) PR S w0 w d p s n m q F G) (hk : k ≤ 1000) (hS : Sent6 w0 S) (hq : q ≤ 800000) {r : RSt} {A : Option Addr} {j c q' : Nat} (hrf : Rf w w.heap.size A j c r.refs) (hs : Sums r.refs) (hc : r.code = 0) (hq1 : q + 3 ≤ q') (hq2 : q' ≤ 900000) :
    Calls Tryz.prog 61 #[.pointer (some ⟨d, 0, none⟩), rtV r.epoch A j c] w fun e w' => ∃ v, e = .returned v ∧ Only (fun k => F k ∨ G k) w w' ∧ ((v = .nilIface ∧ ∃ k', k' ≤ 1000 ∧ Stepped (RealA Real k') PR S w0 w d p (fl (pWrite s (halN n) (r.epoch % 2).toNat (bytesOf r))) n m q' F G (fun _ _ => True) w') ∨ (EV S 106 v ∧ ∃ u F', Real w' d u.fall F' ∧ Over s u (bytesOf r) (r.epoch % 2).toNat (halN n) ∧ Up u n q' ∧ Only F w w' ∧ ∀ k, F' k → F k ∨ w.heap.size ≤ k)) := by
  have hr : Real w d (s.armed k) F := h.real
  have hH2 := halN_two (n := n)
  have h3 := h.n0
  have hH4 := halN_four h3
  obtain ⟨f0, f1, _, _⟩ := RSt.fine hc
  have hl := bytesOf_len (RSt.fine hc).2.2.2
  have hy := bytesOf_byt r
  have hp : r.epoch % 2 = (((r.epoch % 2).toNat : Nat) : Int) := by omega
  have u1 := (h.up.write (i := (r.epoch % 2).toNat) (by omega) hl hy).2
  have u2 := (u1.write (i := (r.epoch % 2).toNat + halN n) (by omega) hl hy).2
  refine (save_any D S d n q (s.armed k) F r A j c w0 w hS h.below h.fn hr (h.up.armed_okN hk) hq h.up.len h.n0 hrf hs (by omega) (by omega)).mono ?_
  rw [armed_save h.up (by omega) hc hp]
  rintro e w' ⟨⟨v, rfl, hv⟩, hu⟩
  refine ⟨v, rfl, by obtain ⟨_, _, r2, _⟩ := hu; exact r2.mono (fun i hi => .inl (.inl hi)), ?_⟩
  by_cases k1 : k = 1
  · simp only [if_pos k1] at hv hu
    obtain ⟨F', r1, r2, r3⟩ := hu
    exact .inr ⟨hv, s, F', r1, over_nil _ _ _ _, h.up.more (by omega), r2, r3⟩
  · simp only [if_neg k1] at hv hu
    by_cases k2 : k = 2
    · simp only [if_pos k2] at hv hu
      obtain ⟨F', r1, r2, r3⟩ := hu
      exact .inr ⟨hv, _, F', r1, over_put _ _ _ _, u1.more (by omega), r2, r3⟩
    · simp only [if_neg k2] at hv hu
      by_cases k3 : k = 3
      · simp only [if_pos k3] at hv hu
        obtain ⟨F', r1, r2, r3⟩ := hu
        exact .inr ⟨hv, _, F', r1, over_two _ _ _ (by omega), Up.more u2 (by omega), r2, r3⟩
      · simp only [if_neg k3] at hv hu
        obtain ⟨F', i1, i2, i3⟩ := paDev O h hu (Up.more (Up.flush (s := pWrite s (halN n) (r.epoch % 2).toNat (bytesOf r)) u2).2 (show _ ≤ q' by omega)) (by omega)
        exact .inl ⟨hv.nil, k - 3, by omega, F', G, i1, i2, i3, fun k hk => .inr (.inl hk), trivial⟩
/-- the power went in a commit -/
def ComFell (Real : World → Nat → DSt → (Nat → Prop) → Prop) (w : World) (d g mm n q : Nat) (F G : Nat → Prop) (s : DSt) (P : PS) (ch : Chg) (w' : World) : Prop :=
  ∃ u F', Real w' d u.fall F' ∧ CFall s P ch (halN n) u ∧ Up u n q ∧ Only (fun k => F k ∨ G k ∨ k = g ∨ k = mm) w w' ∧ ∀ k, F' k → F k ∨ G k ∨ w.heap.size ≤ k
end
section
variable {P : PS} {ch : Chg} {Real : World → Nat → DSt → (Nat → Prop) → Prop} {PR : World → Nat → Nat → Nat → Nat → (Nat → Prop) → Prop}
set_option maxRecDepth 100000 in
set_option maxHeartbeats 8000000 in
theorem commitA_any (DD : DevOk Real) (O : PairOk Real PR) (OA : PairArm Real PR) (S : Nat → Addr) (w0 w : World) (g d p mm n m q k : Nat) (D : DataW Unit) (C F G : Nat → Prop) (s : DSt) (h : Sto w g d p mm P ch D C) (hpd : Pd (RealA Real k) PR S w0 w d p s n m q F G) (hk : k ≤ 1000) (hS : Sent6 w0 S) (hg0 : w0.heap.size ≤ g ∧ w0.heap.size ≤ mm) (hog : ¬ (F g ∨ G g)) (hom : ¬ (F mm ∨ G mm)) (hoC : ∀ k, C k → ¬ (F k ∨ G k)) (h0 : 0 < (keysOf ch).length) (he0 : 0 ≤ P.epoch) (he2 : P.epoch < 1099511627776) (hsm : Small P.idx ∧ Small P.pgs) (hf : fitsB P ch (halN n) = true) (hfr0 : 0 < (freeOf P (halN n)).length) (hq : q ≤ 600000) (hcode : (rootSt (commitTo P ch s (halN n)).2).code = 0) :
    Calls Tryz.prog 21 #[.pointer (some ⟨g, 0, none⟩)] w fun e w' => (e = .returned .nilIface ∧ ∃ k', k' ≤ 1000 ∧ ∃ F' G', Pd (RealA Real k') PR S w0 w' d p (comDev P ch s (halN n)) n m (q + 1000) F' G' ∧ Sto w' g d p mm (commitTo P ch s (halN n)).2 noChg (.map []) (fun _ => False) ∧ Only (fun k => F k ∨ G k ∨ k = g ∨ k = mm) w w' ∧ (∀ k, F' k → F k ∨ G k ∨ w.heap.size ≤ k) ∧ ∀ k, G' k → F k ∨ G k ∨ w.heap.size ≤ k) ∨ ∃ v, e = .returned v ∧ EV S 106 v ∧ ComFell Real w d g mm n (q + 1000) F G s P ch w' := by
  have hp := hpd.pr
  have he1 : P.epoch < 4611686018427387904 := by omega
  have HD := hid DD
  have HPd := hid hpd
  have HG0 := hid hg0
  have HSn := hid hS
  have HOff := hid (And.intro hog (And.intro hom hoC))
  have HSm := hid hsm
  have HCode := hid hcode
  have HKl := hid hk
  have HOA := hid OA
  have HQq0 := hid (show q + 2 * ((pagesOf P ch).length + (indexesOf P ch).length) + 300 ≤ q + 1000 ∧ q ≤ 600000 from by have h1 := pagesOf_le P ch; have h2 := indexesOf_seven P ch; omega)
  have HLt0 := hid (show (∀ k, F k → k < w.heap.size) ∧ ∀ k, G k → k < w.heap.size from ⟨fun k hk => DD.lt (s := s.armed _) hpd.real k hk, O.lt hpd.pr⟩)
  have HF0 := hid hfr0
  have HEp := hid (And.intro he0 he2)
  have HLt := hid (show (∀ k, F k → k < w.heap.size) ∧ ∀ k, G k → k < w.heap.size from ⟨fun k hk => DD.lt (s := s.armed _) hpd.real k hk, O.lt hpd.pr⟩)
  have HS := hid h
  have HO := hid O
  have HKp := hid (fun w' (hb : Below w.heap.size w w') => O.kept hp (Kept.of_below hb (O.lt hp)))
  have HFt := hid hf
  have c0 := h.mapc
  have hl := h.chd.map.len Tryz.underlying97 3
  rw [h.chd.size] at hl
  obtain ⟨n0, hn0⟩ : ∃ n0, (keysOf ch).length = n0 := ⟨_, rfl⟩
  rw [hn0] at hl
  have hn1 : ((n0 : Int) == 0) = false := by rw [beq_eq_false_iff_ne]; omega
  have hn2 : ¬ n0 = 0 := by omega
  have hzc := fun W => (zero_of_info Tryz.zeroChange).1 W
  have HCg := hid (fun w' (hs : Sto w' g d p mm P ch D C) => change_any g d p mm D C w' hs h0 he0 he1)
  have HQ := hid (cut_len h.len (keysOf ch))
  clear h O OA hp hf hpd hk hS hog hom hoC hsm hcode hq hfr0 DD HLt0
  go_enter Tryz.func21, Tryz.ntmps21
  go_wp2_with fail
  refine (HCg.out _ HS.out).mono ?_
  rintro e w1 ⟨vp, vi, rfl, hlp, hli, hb1⟩
  obtain ⟨Q, hQq⟩ : ∃ Q, P.cut (keysOf ch) = Q := ⟨_, rfl⟩
  have HQq := hid hQq
  rw [hQq] at HQ
  rw [hQq]
  obtain ⟨Ap, cp, rfl, hsp, hAp⟩ := hlp
  obtain ⟨Ai, ci, rfl, hsi, hAi⟩ := hli
  have HB1 := hid hb1
  have HSp := hid hsp
  have HSi := hid hsi
  have HAp := hid hAp
  have HAi := hid hAi
  clear hb1 hQq hl c0 hsp hsi hAp hAi
  go_upto_region 4 with (refine wpList_store_last rfl 114 (.tmp 3) (.tmp 17) rfl w1.heap.size (by simp) (chL (noPS 0) nilS nilS).toArray (chL Q (.slice Ap (pagesOf P ch).length cp) (.slice Ai (indexesOf P ch).length ci)).toArray rfl rfl ?b1 ?b2 ?b3 ?_)
  case b1 => rw [List.size_toArray]; exact size_of_change HQ.out _ _
  case b2 => rw [List.size_toArray, List.size_toArray, chL_len HQ.out, chL_len (noPS_len 0)]
  case b3 => exact chL_one Q rfl rfl
  obtain ⟨W2, hW2⟩ : ∃ W2, w1.alloc (.cells (chL Q (.slice Ap (pagesOf P ch).length cp) (.slice Ai (indexesOf P ch).length ci)).toArray 114) = W2 := ⟨_, rfl⟩
  have hb2 : Below w.heap.size w W2 := by rw [← hW2]; exact HB1.out.alloc HB1.out.size _
  have hk2 : Blk W2 w1.heap.size 114 (chL Q (.slice Ap (pagesOf P ch).length cp) (.slice Ai (indexesOf P ch).length ci)).toArray := by rw [← hW2]; exact Blk.new w1 _ _
  have HB12 := hid (show Below w1.heap.size w1 W2 ∧ W2.heap.size = w1.heap.size + 1 from by rw [← hW2]; exact ⟨(Below.refl _ _).alloc (Nat.le_refl _) _, by simp⟩)
  have HB2 := hid hb2
  have HK2 := hid hk2
  rw [hW2]
  clear hW2 hb2 hk2 hzc
  go_wp2_with fail
  refine (free_any HO.out g d p mm n m P ch D C G _ (HS.out.below HB2.out) (HKp.out _ HB2.out)).mono ?_
  rintro e w3 ⟨vf, rfl, hfr, hb3⟩
  obtain ⟨gf, cf, rfl, hgf1, hgf2, hsf⟩ := ownN_some hfr (by rw [natsI_len]; exact HF0.out)
  have HSf := hid hsf
  have HGf := hid (And.intro hgf1 hgf2)
  have HB23 := hid hb3
  have HB3 := hid (HB2.out.trans (hb3.mono HB2.out.size))
  have HK3 := hid (HK2.out.below hb3 HK2.out.lt)
  obtain ⟨nf, hnf⟩ : ∃ nf, (natsI (freeOf P (halN n))).length = nf := ⟨_, rfl⟩
  have HNf := hid (show (freeOf P (halN n)).length = nf ∧ nf ≤ 512 from ⟨by rw [← hnf, natsI_len], by
    rw [← hnf, natsI_len]
    have h1 := freeOf_le P (halN n)
    have h2 : halN n ≤ 512 := by unfold halN; omega
    omega⟩)
  rw [hnf] at HSf
  rw [hnf]
  have HSz := hid (show (Tryz.prog.info? 114).map (·.size) = some (chL Q (.slice Ap (pagesOf P ch).length cp) (.slice Ai (indexesOf P ch).length ci)).toArray.size from by rw [List.size_toArray]; exact size_of_change HQ.out _ _)
  clear hfr hsf hb3 hnf hgf1 hgf2
  go_wp2_with (refine wpList_load_row rfl 114 (.tmp 3) rfl w1.heap.size rfl 114 (chL Q (.slice Ap (pagesOf P ch).length cp) (.slice Ai (indexesOf P ch).length ci)).toArray (0, 0) _ HK3.out Tryz.underlying114 rfl HSz.out ?_)
  refine (fits_any HO.out g d p mm n m P Q ch D C G Ap Ai (pagesOf P ch).length (indexesOf P ch).length cp ci nf _ (HS.out.below HB3.out) (HKp.out _ HB3.out) HQ.out (by have := pagesOf_le P ch; omega) (by have := indexesOf_le P ch; omega) (by have := HNf.out; omega)).mono ?_
  have HFb := hid (show (decide ((pagesOf P ch).length + (indexesOf P ch).length ≤ nf) && decide (2 * (Q.used.length + ((pagesOf P ch).length + (indexesOf P ch).length)) ≤ halN n)) = true from by
    have h1 := HFt.out
    unfold fitsB at h1
    rw [HQq.out, HNf.out.1] at h1
    exact h1)
  rw [HFb.out]
  rintro e w4 ⟨rfl, hb4⟩
  have HB34 := hid hb4
  have HB4 := hid (HB3.out.trans (hb4.mono HB3.out.size))
  have HK4 := hid (HK3.out.below hb4 HK3.out.lt)
  have hcE : w4.cell? ⟨w1.heap.size, 0, none⟩ = some (.int .i64 (P.epoch + 1)) := by
    have h1 : HoldsP w4 w1.heap.size 114 [] Q [.slice Ap (pagesOf P ch).length cp, .slice Ai (indexesOf P ch).length ci] := HK4.out
    have h2 := h1.epoch
    have e : Q.epoch = P.epoch + 1 := by rw [← HQq.out]; exact cut_epoch _ _
    rw [e] at h2
    exact h2
  clear hb4
  go_wp2_with fail
  refine (rootBytes_any S ⟨P.epoch + 1, []⟩ none 0 0 _ (HSn.out.on (HPd.out.below.trans (HB4.out.mono HPd.out.below.size))) (Rf.empty _ _) (fun _ h => by cases h) (by have := HEp.out; show _ ≤ P.epoch + 1; omega) (by have := HEp.out; show P.epoch + 1 ≤ _; omega)).mono ?_
  rintro e w5 ⟨hby, hb5⟩
  have hcode : (⟨P.epoch + 1, []⟩ : RSt).code = 0 := by
    have h1 := HEp.out
    unfold RSt.code
    rw [if_neg (by show ¬ (P.epoch + 1 < 1 ∨ 1099511627776 < P.epoch + 1); omega), if_neg (by simp [badAddr]), if_neg (by simp)]
  rcases hby with ⟨_, Ab, cbb, rfl, _, _⟩ | ⟨hcn, _⟩
  rotate_left
  · exact absurd hcode hcn
  have HB15 := hid (show Below w1.heap.size w1 w5 from ((HB12.out.1.trans (HB23.out.mono HB12.out.1.size)).trans (HB34.out.mono (Nat.le_trans HB12.out.1.size HB23.out.size))).trans (hb5.mono (Nat.le_trans (Nat.le_trans HB12.out.1.size HB23.out.size) HB34.out.size)))
  have HB35 := hid (show Below w3.heap.size w3 w5 from HB34.out.trans (hb5.mono HB34.out.size))
  have HB5 := hid (show Below w.heap.size w w5 from HB4.out.trans (hb5.mono HB4.out.size))
  have HK5 := hid (show HoldsP w5 w1.heap.size 114 [] Q [.slice Ap (pagesOf P ch).length cp, .slice Ai (indexesOf P ch).length ci] from HK4.out.below hb5 HK4.out.lt)
  clear hb5 hcode
  have HCb := hid (show w1.heap.size < w5.heap.size ∧ ¬ F w1.heap.size ∧ ¬ G w1.heap.size ∧ w0.heap.size ≤ w1.heap.size from ⟨HK5.out.lt, fun hk => by have := HLt.out.1 _ hk; have := HB1.out.size; omega, fun hk => by have := HLt.out.2 _ hk; have := HB1.out.size; omega, Nat.le_trans HPd.out.below.size HB1.out.size⟩)
  have HW5 := hid (show WrB Real PR S w0 w5 d p n m F G w1.heap.size (.slice Ap (pagesOf P ch).length cp) (.slice Ai (indexesOf P ch).length ci) s Q q w5 from ⟨k, HKl.out, F, G, paOn HD.out HO.out HPd.out HB5.out, HK5.out, Only.refl _ _, fun k hk => .inl hk, fun k hk => .inr (.inl hk)⟩)
  have HE5 := hid (show WrE w5 g d p mm w1.heap.size gf (pagesOf P ch).length (indexesOf P ch).length nf cp ci cf P ch D C (fun k => F k ∨ G k ∨ k = w1.heap.size) Ap Ai (pagesOf P ch) (indexesOf P ch) (freeOf P (halN n)) from by
    have hz := HB1.out.size
    have hFl : ∀ k, F k ∨ G k → k < w.heap.size := fun k hk => hk.elim (HLt.out.1 k) (HLt.out.2 k)
    have low : ∀ k, k < w.heap.size → ¬ (F k ∨ G k) → ¬ (F k ∨ G k ∨ k = w1.heap.size) := fun k hk hn h => by
      rcases h with h | h | h
      · exact hn (.inl h)
      · exact hn (.inr h)
      · omega
    have high : ∀ k, w.heap.size ≤ k → k ≠ w1.heap.size → ¬ (F k ∨ G k ∨ k = w1.heap.size) := fun k hk hn h => by
      rcases h with h | h | h
      · have := hFl k (.inl h); omega
      · have := hFl k (.inr h); omega
      · exact hn h
    have h2 := HB12.out.2
    have h3 := HGf.out
    refine ⟨HS.out.below HB5.out, sn_on HSp.out HB15.out, sn_on HSi.out HB15.out, sn_on HSf.out HB35.out, low g HS.out.box.lt HOff.out.1, low mm HS.out.chd.map.lt HOff.out.2.1, fun k hk => low k (HS.out.chd.lt k hk).1 (HOff.out.2.2 k hk), high gf (by omega) (by omega), fun ad ha => ?_, fun ad ha => ?_⟩
    · have := HAp.out ad ha; exact high _ this.1 (by omega)
    · have := HAi.out ad ha; exact high _ this.1 (by omega))
  have HFi2 := hid (show (pagesOf P ch).length + (indexesOf P ch).length ≤ nf from by
    have := HFb.out
    simp only [Bool.and_eq_true, decide_eq_true_eq] at this
    exact this.1)
  have HCm := hid (show commitTo P ch s (halN n) = wiTo (halN n) ((freeOf P (halN n)).drop (pagesOf P ch).length) (indexesOf P ch) (wpTo ch (halN n) (freeOf P (halN n)) (pagesOf P ch) s Q (pagesOf P ch).length).1 (wpTo ch (halN n) (freeOf P (halN n)) (pagesOf P ch) s Q (pagesOf P ch).length).2 (indexesOf P ch).length from by unfold commitTo; rw [HQq.out])
  have HSq := hid (show Small Q.pgs from by rw [← HQq.out]; exact (cut_small HSm.out _).2)
  go_wp2_with fail
  refine (writeA_any HD.out HO.out HOA.out S w0 _ g d p mm n m q w1.heap.size gf (pagesOf P ch).length (indexesOf P ch).length nf cp ci cf P Q ch D C F G Ap Ai (pagesOf P ch) (indexesOf P ch) (freeOf P (halN n)) s HE5.out HW5.out HCb.out HQ.out HSq.out HFi2.out (by have := HNf.out.2; omega) (fun f hf => (freeOf_is hf).1) (fun k hk => pagesOf_is hk) (fun k hk => indexesOf_is hk) (by have := HQq0.out; omega)).mono ?_
  rw [← HCm.out]
  obtain ⟨x, hx⟩ : ∃ x, commitTo P ch s (halN n) = x := ⟨_, rfl⟩
  have HX := hid hx
  rw [hx]
  rintro e w6 (⟨rfl, hw6⟩ | ⟨v6, rfl, hv6, hf6⟩)
  rotate_left
  · obtain ⟨j6, _, _, hvj⟩ := hv6.one (by decide)
    have HEv := hid hv6
    have HFe := hid (show ComFell Real w d g mm n (q + 1000) F G s P ch w6 from by
      obtain ⟨u, F6, f1, f2, f3, f4, f5⟩ := hf6
      have hz := HB5.out.size
      have hz1 := HB1.out.size
      refine ⟨u, F6, f1, .pts f2, f3.more (by have := HQq0.out; omega), (Only.of_below HB5.out).trans f4 (fun i hi => ?_), fun i hi => (f5 i hi).imp id (fun h => h.imp id (fun h => by omega))⟩
      rcases hi with hi | hi | hi
      · exact .inl (.inl hi)
      · exact .inl (.inr (.inl hi))
      · exact .inr (by omega))
    subst hvj
    clear hv6 hf6 hx
    go_wp2
    go_ret
    exact .inr ⟨_, rfl, HEv.out, HFe.out⟩
  have HW6 := hid hw6
  have hs6 := (HE5.out.at_ hw6.only).1
  have HS6 := hid hs6
  have d6 := hs6.dev
  obtain ⟨k6, hk6, F6, G6, hpd6, hbx6, ho6, hF6, hG6⟩ := hw6
  have HK6 := hid hk6
  have HPd6 := hid hpd6
  have HBx6 := hid hbx6
  have HOn6 := hid ho6
  have HFG6 := hid (And.intro hF6 hG6)
  clear hpd6 hbx6 ho6 hF6 hG6 hx hs6 hk6
  go_wp2_with fail
  refine (pa_flush HD.out HO.out HPd6.out HK6.out (by have := HQq0.out; omega)).mono ?_
  have HUp6 := hid (show ∀ k, F6 k ∨ G6 k → F k ∨ G k ∨ w.heap.size ≤ k from fun k hk => by
    have hz := HB5.out.size
    rcases hk with hk | hk
    · rcases HFG6.out.1 k hk with h' | h' | h'
      · exact .inl h'
      · exact .inr (.inl h')
      · exact .inr (.inr (by omega))
    · rcases HFG6.out.2 k hk with h' | h' | h'
      · exact .inl h'
      · exact .inr (.inl h')
      · exact .inr (.inr (by omega)))
  have HCo6 := hid (show ∀ (w6' : World) (F' : Nat → Prop), Only F6 w6 w6' → (∀ k, F' k → F6 k ∨ w6.heap.size ≤ k) → Only (fun k => F k ∨ G k ∨ k = g ∨ k = mm) w w6' ∧ ∀ k, F' k → F k ∨ G k ∨ w.heap.size ≤ k from fun w6' F' ho hf => by
    have hz := HB5.out.size
    have hz1 := HB1.out.size
    have hz6 := HOn6.out.size
    refine ⟨((Only.of_below HB5.out).trans HOn6.out (fun i hi => ?_)).trans ho (fun i hi => ?_), fun i hi => ?_⟩
    · rcases hi with hi | hi | hi
      · exact .inl (.inl hi)
      · exact .inl (.inr (.inl hi))
      · exact .inr (by omega)
    · rcases HUp6.out i (.inl hi) with h' | h' | h'
      · exact .inl (.inl h')
      · exact .inl (.inr (.inl h'))
      · exact .inr h'
    · rcases hf i hi with h' | h'
      · exact HUp6.out i (.inl h')
      · exact .inr (.inr (by omega)))
  rintro e w7 (⟨rfl, k7, hk7, F7, G7, hpd7, ho7, hF7, hG7, _⟩ | ⟨v7, rfl, hv7, F7, f1, f2, f3⟩)
  rotate_left
  · obtain ⟨j7, _, _, hvj⟩ := hv7.one (by decide)
    have HEv := hid hv7
    have HFe := hid (show ComFell Real w d g mm n (q + 1000) F G s P ch w7 from by
      obtain ⟨o1, o2⟩ := HCo6.out w7 F7 f2 f3
      refine ⟨x.1, F7, f1, .pts ?_, HPd6.out.up.more (by have := HQq0.out; omega), o1, o2⟩
      rw [← HX.out]
      exact com_pts (by rw [HNf.out.1]; exact HFi2.out) HS.out.chd.good)
    subst hvj
    clear hv7 f1 f2 f3 d6
    go_wp2
    go_ret
    exact .inr ⟨_, rfl, HEv.out, HFe.out⟩
  have HK7 := hid hk7
  clear hk7
  have HPd7 := hid hpd7
  have HOn7 := hid ho7
  have HFG7 := hid (And.intro hF7 hG7)
  clear hpd7 ho7 hF7 hG7
  have HOut6 := hid (show ∀ k, k < w5.heap.size → ¬ F k → ¬ G k → ¬ (F6 k ∨ G6 k) from fun k hk hf hg h => by
    rcases h with h | h
    · rcases HFG6.out.1 k h with h' | h' | h'
      · exact hf h'
      · exact hg h'
      · omega
    · rcases HFG6.out.2 k h with h' | h' | h'
      · exact hf h'
      · exact hg h'
      · omega)
  have HOut7 := hid (show ∀ k, k < w5.heap.size → ¬ F k → ¬ G k → ¬ (F7 k ∨ G7 k) from fun k hk hf hg h => by
    have h6 := HOut6.out k hk hf hg
    have hz := HOn6.out.size
    rcases h with h | h
    · rcases HFG7.out.1 k h with h' | h' | h'
      · exact h6 (.inl h')
      · exact h6 (.inr h')
      · omega
    · rcases HFG7.out.2 k h with h' | h' | h'
      · exact h6 (.inl h')
      · exact h6 (.inr h')
      · omega)
  have HLow := hid (show g < w5.heap.size ∧ mm < w5.heap.size ∧ (∀ k, C k → k < w5.heap.size) ∧ ∀ k, C k → ¬ F k ∧ ¬ G k from by
    have hz := HB5.out.size
    exact ⟨Nat.lt_of_lt_of_le HS.out.box.lt hz, Nat.lt_of_lt_of_le HS.out.chd.map.lt hz, fun k hk => Nat.lt_of_lt_of_le (HS.out.chd.lt k hk).1 hz, fun k hk => ⟨fun h => HOff.out.2.2 k hk (.inl h), fun h => HOff.out.2.2 k hk (.inr h)⟩⟩)
  have HGm := hid (show (¬ F g ∧ ¬ G g) ∧ ¬ F mm ∧ ¬ G mm from ⟨⟨fun h => HOff.out.1 (.inl h), fun h => HOff.out.1 (.inr h)⟩, fun h => HOff.out.2.1 (.inl h), fun h => HOff.out.2.1 (.inr h)⟩)
  have hs7 : Sto w7 g d p mm P ch D C := HS6.out.only HOn7.out (HOut6.out g HLow.out.1 HGm.out.1.1 HGm.out.1.2) (HOut6.out mm HLow.out.2.1 HGm.out.2.1 HGm.out.2.2) (fun k hk => HOut6.out k (HLow.out.2.2.1 k hk) (HLow.out.2.2.2 k hk).1 (HLow.out.2.2.2 k hk).2)
  have hbx7 : HoldsP w7 w1.heap.size 114 [] x.2 [.slice Ap (pagesOf P ch).length cp, .slice Ai (indexesOf P ch).length ci] := (HOn7.out.block _ HBx6.out.lt (HOut6.out _ HCb.out.1 HCb.out.2.1 HCb.out.2.2.1)).trans HBx6.out
  have hdr : Below w7.heap.size w7 w7.drew := (Below.refl _ _).drew
  have HLx := hid (show x.2.Len from by rw [← HX.out]; exact commitTo_len HS.out.len ch s (halN n))
  have HSx := hid (show Small x.2.idx from by rw [← HX.out]; exact (commitTo_small HSm.out ch s (by unfold halN; omega) HS.out.chd.good).1)
  have HEx := hid (show x.2.epoch = P.epoch + 1 from by rw [← HX.out]; exact commitTo_epoch P ch s (halN n))
  have hco7 := HCode.out
  rw [HX.out] at hco7
  have HCo7 := hid hco7
  have HRo := hid (fun (w' : World) (hb : Below w7.drew.heap.size w7.drew w') => rootOf_any x.2 w1.heap.size 0 114 [] [.slice Ap (pagesOf P ch).length cp, .slice Ai (indexesOf P ch).length ci] w' (hbx7.below (hdr.trans (hb.mono hdr.size)) hbx7.lt) HLx.out rfl)
  have HDv := hid (fun (w' : World) (hb : Below w7.drew.heap.size w7.drew w') => (hs7.below (hdr.trans (hb.mono hdr.size))).dev)
  have HSve := hid (fun (w' : World) (A8 : Option Addr) (c8 : Nat) (hb : Below w7.drew.heap.size w7.drew w') (hrf : Rf w' w'.heap.size A8 7 c8 x.2.idx) => pa_save HD.out HO.out (paOn HD.out HO.out HPd7.out (hdr.trans (hb.mono hdr.size))) HK7.out HSn.out (by have := HQq0.out; omega) (r := rootSt x.2) hrf (fun y hy => (HSx.out y hy).2.2) HCo7.out (q' := q + 1000) (by have := HQq0.out; omega) (by have := HQq0.out; omega))
  have HKe := hid (fun (w8 w' : World) (hb : Below w7.drew.heap.size w7.drew w8) (ho : Only (fun k => F7 k ∨ G7 k) w8 w') => (show Sto w' g d p mm P ch D C ∧ HoldsP w' w1.heap.size 114 [] x.2 [.slice Ap (pagesOf P ch).length cp, .slice Ai (indexesOf P ch).length ci] from by
    have hb7 : Below w7.heap.size w7 w8 := hdr.trans (hb.mono hdr.size)
    have hs8 := hs7.below hb7
    have hx8 := hbx7.below hb7 hbx7.lt
    exact ⟨hs8.only ho (HOut7.out g HLow.out.1 HGm.out.1.1 HGm.out.1.2) (HOut7.out mm HLow.out.2.1 HGm.out.2.1 HGm.out.2.2) (fun k hk => HOut7.out k (HLow.out.2.2.1 k hk) (HLow.out.2.2.2 k hk).1 (HLow.out.2.2.2 k hk).2), (ho.block _ hx8.lt (HOut7.out _ HCb.out.1 HCb.out.2.1 HCb.out.2.2.1)).trans hx8⟩))
  have HBd7 := hid hdr
  have k0 := HDv.out _ (Below.refl _ _)
  clear d6 hs7 hbx7 hdr hco7
  go_upto_region 16 with fail
  go_region_held3 (fun w' => w'.cell? ⟨g, 0, none⟩ = some (.pointer (some ⟨d, 0, none⟩))) (first | exact k0 | exact k8 | exact k9) (first | (go_at_call 62; refine (HRo.out _ (Below.refl _ _)).mono ?_; rintro e w8 ⟨A8, c8, rfl, hrf, _, hb8⟩; have k8 := HDv.out w8 hb8; have HSvc := hid (HSve.out w8 A8 c8 hb8 hrf); have HB8 := hid hb8; clear hrf hb8) | (go_at_call 61; refine HSvc.out.mono ?_; rintro e w9 ⟨v9, rfl, ho9, hst⟩; have k9 := (HKe.out w8 w9 HB8.out ho9).1.dev; have HSt9 := hid hst; clear hst ho9))
  have HUp7 := hid (show ∀ k, F7 k ∨ G7 k → F k ∨ G k ∨ w.heap.size ≤ k from fun k hk => by
    have hz := HB5.out.size
    have hz2 := HOn6.out.size
    rcases hk with hk | hk
    · rcases HFG7.out.1 k hk with h' | h' | h'
      · exact HUp6.out k (.inl h')
      · exact HUp6.out k (.inr h')
      · exact .inr (.inr (by omega))
    · rcases HFG7.out.2 k hk with h' | h' | h'
      · exact HUp6.out k (.inl h')
      · exact HUp6.out k (.inr h')
      · exact .inr (.inr (by omega)))
  have HSz8 := hid (show w.heap.size ≤ w8.heap.size from by
    have h1 := HB5.out.size
    have h2 := HOn6.out.size
    have h3 := HOn7.out.size
    have h4 := HBd7.out.size
    have h5 := HB8.out.size
    omega)
  have HOn8 := hid (show Only (fun k => F k ∨ G k ∨ k = g ∨ k = mm) w w8 from by
    have hz1 := HB1.out.size
    have o1 : Only (fun k => F k ∨ G k ∨ k = g ∨ k = mm) w w5 := Only.of_below HB5.out
    have o2 := o1.trans HOn6.out (fun i hi => by
      rcases hi with hi | hi | hi
      · exact .inl (.inl hi)
      · exact .inl (.inr (.inl hi))
      · exact .inr (by omega))
    have up : ∀ i, (F i ∨ G i ∨ w.heap.size ≤ i) → (F i ∨ G i ∨ i = g ∨ i = mm) ∨ w.heap.size ≤ i := fun i hi => by
      rcases hi with hi | hi | hi
      · exact .inl (.inl hi)
      · exact .inl (.inr (.inl hi))
      · exact .inr hi
    have o3 := o2.trans HOn7.out (fun i hi => up i (HUp6.out i hi))
    exact o3.then_below (HBd7.out.trans (HB8.out.mono HBd7.out.size)))
  rcases HSt9.out with ⟨rfl, k9', hk9, F9, G9, hpd9, ho9, hF9, hG9, _⟩ | ⟨hv9, u, F9, f1, f2, f3, f4, f5⟩
  rotate_left
  · obtain ⟨j9, _, _, hvj⟩ := hv9.one (by decide)
    have HEv := hid hv9
    have HFe := hid (show ComFell Real w d g mm n (q + 1000) F G s P ch w9 from by
      have hz := HSz8.out
      refine ⟨u, F9, f1, .root ?_, f3, HOn8.out.trans f4 (fun i hi => ?_), fun i hi => ?_⟩
      · rw [HX.out]; exact f2
      · rcases HUp7.out i (.inl hi) with h' | h' | h'
        · exact .inl (.inl h')
        · exact .inl (.inr (.inl h'))
        · exact .inr h'
      · rcases f5 i hi with h' | h'
        · exact HUp7.out i (.inl h')
        · exact .inr (.inr (by omega)))
    subst hvj
    clear hv9 f1 f2 f3 f4 f5 HSt9 k0 k8 k9
    go_wp2
    go_ret
    exact .inr ⟨_, rfl, HEv.out, HFe.out⟩
  obtain ⟨hs9, hx9⟩ := HKe.out w8 w9 HB8.out ho9
  have HS9 := hid hs9
  have HBx9 := hid hx9
  have HPd9 := hid hpd9
  have HUp9 := hid (show ∀ k, F9 k ∨ G9 k → F k ∨ G k ∨ w.heap.size ≤ k from fun k hk => by
    have hz := HSz8.out
    rcases hk with hk | hk
    · rcases hF9 k hk with h' | h' | h'
      · exact HUp7.out k (.inl h')
      · exact HUp7.out k (.inr h')
      · exact .inr (.inr (by omega))
    · rcases hG9 k hk with h' | h' | h'
      · exact HUp7.out k (.inl h')
      · exact HUp7.out k (.inr h')
      · exact .inr (.inr (by omega)))
  have HOn9 := hid (show Only (fun k => F k ∨ G k ∨ k = g ∨ k = mm) w w9 from HOn8.out.trans ho9 (fun i hi => by
    rcases HUp7.out i hi with hi | hi | hi
    · exact .inl (.inl hi)
    · exact .inl (.inr (.inl hi))
    · exact .inr hi))
  have HOut9 := hid (show ∀ k, k < w5.heap.size → ¬ F k → ¬ G k → ¬ (F9 k ∨ G9 k) from fun k hk hf hg h => by
    have h7 := HOut7.out k hk hf hg
    have h1 := HOn6.out.size
    have h2 := HOn7.out.size
    have h3 := HBd7.out.size
    have h4 := HB8.out.size
    rcases h with h | h
    · rcases hF9 k h with h' | h' | h'
      · exact h7 (.inl h')
      · exact h7 (.inr h')
      · omega
    · rcases hG9 k h with h' | h' | h'
      · exact h7 (.inl h')
      · exact h7 (.inr h')
      · omega)
  have HTh := hid (show w9.there g 2 (stL x.2).toArray.size from fun j hj => by
    have hj2 : j < (stL P).length := by rw [stL_len HS.out.len]; rw [List.size_toArray, stL_len HLx.out] at hj; exact hj
    have h1 := hs9.box.at_ (List.getElem?_eq_getElem hj2)
    exact ⟨by rw [show (⟨g, 2 + j, none⟩ : Addr) = ⟨g, [Value.pointer (some ⟨d, 0, none⟩), Value.pointer (some ⟨p, 0, none⟩)].length + j, none⟩ from rfl, h1]; rfl, Blk.free hs9.box _⟩)
  have HSzS := hid (show (Tryz.prog.info? 103).map (·.size) = some (stL x.2).toArray.size from by rw [List.size_toArray]; exact size_of_state HLx.out)
  have HK9 := hid hk9
  clear hpd9 ho9 hF9 hG9 hs9 hx9 k0 k8 k9 hk9 HSt9
  go_upto_region 20 with (first | (refine wpList_load_mid rfl 103 (.tmp 63) rfl w1.heap.size 0 rfl (stL x.2) _ HBx9.out.range Tryz.underlying103 rfl (size_of_state HLx.out) ?_) | (refine wpList_store_mid rfl 103 (.tmp 66) (.tmp 64) rfl g 2 (stL x.2).toArray rfl rfl HTh.out HSzS.out (all_oneCell_toArray (stL_one _)) ?_))
  have hgr : w9.grownBy (w9.setCells g 2 (stL x.2)) (some g) := only_setCells (only_refl w9 (some g)) (stL x.2) 2
  have hbx : HoldsP (w9.setCells g 2 (stL x.2)) g 105 [.pointer (some ⟨d, 0, none⟩), .pointer (some ⟨p, 0, none⟩)] x.2 [.map (some mm)] := blk_setCells (stL x.2) (stL P) [.pointer (some ⟨d, 0, none⟩), .pointer (some ⟨p, 0, none⟩)] w9 (by rw [stL_len HS.out.len, stL_len HLx.out]) HS9.out.box
  have hmp := ownsMapS_same HS9.out.chd.map (hgr.block mm HS9.out.chd.map.lt (fun e => HS9.out.ap.1 (by injection e with e; exact e.symm)))
  obtain ⟨w11, hcl, hm11, hg11⟩ := clearS_run hmp
  have cmp : (w9.setCells g 2 (stL x.2)).cell? ⟨g, 529, none⟩ = some (.map (some mm)) := hbx.back HLx.out 0
  have HF := hid (show Sto w11 g d p mm x.2 noChg (.map []) (fun _ => False) ∧ Only (fun k => k = g ∨ k = mm) w9 w11 from by
    have hgm := HS9.out.ap.1
    refine ⟨⟨(hg11.block g hbx.lt (fun e => hgm (by injection e))).trans hbx, chd_none hm11, HLx.out, hgm, id⟩, ?_⟩
    exact ⟨hg11.os.trans hgr.os, hg11.tape.trans hgr.tape, hg11.output.trans hgr.output, Nat.le_trans hgr.size hg11.size, fun k hk hn => (hg11.block k (Nat.lt_of_lt_of_le hk hgr.size) (fun e => hn (.inr (by injection e)))).trans (hgr.block k hk (fun e => hn (.inl (by injection e))))⟩)
  obtain ⟨W10, hW10⟩ : ∃ W10, w9.setCells g 2 (stL x.2) = W10 := ⟨_, rfl⟩
  have hW10' : w9.setCells g 2 (stL x.2).toArray.toList = W10 := hW10
  rw [hW10] at hcl cmp
  rw [hW10']
  clear hgr hbx hmp hm11 hg11 hW10 hW10'
  go_wp2
  go_ret
  have hK9 : ∀ k, F9 k ∨ G9 k → ¬ (k = g ∨ k = mm) := fun k hk hn => by
    rcases hn with rfl | rfl
    · exact HOut9.out _ HLow.out.1 HGm.out.1.1 HGm.out.1.2 hk
    · exact HOut9.out _ HLow.out.2.1 HGm.out.2.1 HGm.out.2.2 hk
  have hO := HOn9.out.trans HF.out.2 (fun i hi => hi.elim (fun e => .inl (.inr (.inr (.inl e)))) (fun e => .inl (.inr (.inr (.inr e)))))
  exact .inl ⟨rfl, k9', HK9.out, F9, G9, paBeside HD.out HO.out (by unfold comDev; rw [HX.out]; exact HPd9.out) HF.out.2 (fun k hk => hK9 k (.inl hk)) (fun k hk => hK9 k (.inr hk)) (fun k hk => hk.elim (fun e => by rw [e]; exact HG0.out.1) (fun e => by rw [e]; exact HG0.out.2)), by rw [HX.out]; exact HF.out.1, hO, fun k hk => HUp9.out k (.inl hk), fun k hk => HUp9.out k (.inr hk)⟩
end
end Go.Proofs.YtaonhbmimaiiiaaGreatDoor
namespace Go.Proofs.YtaonhbmimaiiiaaGreatDoor
open Go.RowKit Go.Maps

theorem item_right {s : DSt} {n q : Nat} {P : PS} {cont : Cont} {x : Int × Nat} {l : List Int} (hF : Fine (halN n) P cont) (hd : Held s (halN n) P cont) (hc : Clean s) (u : Up s n q) (hi : Item P cont x l) : s.right x.1.toNat x.2 = true ∧ (s.read ((x.1.toNat : Nat) : Int)).2 = l := by
  obtain ⟨⟨f, hf, f2, f3⟩, hz, _, _⟩ := hi.fine hF
  obtain ⟨a, b, h1, h2, _, _⟩ := hd x l hi
  have hr := h2.clean (hc a (List.mem_of_getElem? h1.a))
  have hH := halN_two (n := n)
  have hlt : x.1.toNat < n := by omega
  refine ⟨?_, by rw [u.read hlt h1.a, hr]⟩
  rw [u.right hlt h1.a, hz]
  exact right_of hr
/-- while a state is read, nothing else turning -/
def RdQ (w : World) (P : PS) (ob rb j : Nat) (wr : World) : Prop :=
  HoldsP wr ob 103 [] ⟨P.epoch, P.idx, tkTo P.pgs j⟩ [] ∧ Blk wr rb 103 (stL (noPS 0)).toArray ∧ Below w.heap.size w wr
theorem RdQ.on {w wr w' : World} {P : PS} {ob rb j : Nat} (h : RdQ w P ob rb j wr) (hb : Below wr.heap.size wr w') : RdQ w P ob rb j w' :=
  ⟨h.1.below hb h.1.lt, h.2.1.below hb h.2.1.lt, h.2.2.trans (hb.mono h.2.2.size)⟩
theorem RdQ.turn {w wr w' : World} {P : PS} {ob rb j j' : Nat} (h : RdQ w P ob rb j wr) (hob : w.heap.size ≤ ob) (hne : ob ≠ rb) (hg : wr.grownBy w' (some ob)) (hb : HoldsP w' ob 103 [] ⟨P.epoch, P.idx, tkTo P.pgs j'⟩ []) : RdQ w P ob rb j' w' :=
  ⟨hb, h.2.1.grown hg (fun e => by injection e with e; exact hne e.symm), h.2.2.grown hg h.2.2.size (fun k hk => by injection hk with hk; omega)⟩
section
variable {Real : World → Nat → DSt → (Nat → Prop) → Prop} {PR : World → Nat → Nat → Nat → Nat → (Nat → Prop) → Prop}
set_option maxRecDepth 100000 in
set_option maxHeartbeats 8000000 in
theorem stateOfA_any (DD : DevOk Real) (O : PairOk Real PR) (OA : PairArm Real PR) (S : Nat → Addr) (w : World) (d p n m q k c : Nat) (F G : Nat → Prop) (A : Option Addr) (P : PS) (cont : Cont) (s : DSt) (hr : Real w d (s.armed k) F) (hp : PR w p d n m G) (hS : Sent5 w S) (hu : Up s n q) (hk : k ≤ 1000) (hq : q ≤ 900000) (n0 : 300 ≤ n) (n1 : n ≤ 6000) (hF : Fine (halN n) P cont) (hd : Held s (halN n) P cont) (hc : Clean s) (hrf : Rf w w.heap.size A 7 c P.idx) :
    Calls Tryz.prog 94 #[.pointer (some ⟨p, 0, none⟩), rtV P.epoch A 7 c] w fun e w' => e = .returned (.tuple #[.agg (stL P).toArray, .nilIface]) ∧ Below w.heap.size w w' := by
  have hzc := fun W => (zero_of_info Tryz.zeroState).1 W
  have HFn := hid hF
  have HRf := hid hrf
  have HGe := hid (fun (w' : World) (hb : Below w.heap.size w w') => O.geo p d n m G w' (O.kept hp (Kept.of_below hb (O.lt hp))))
  have HRe := hid (fun (w' : World) (hb : Below w.heap.size w w') (j f z : Nat) (hy : P.idx[j]? = some ((f : Int), z)) (hpt : points ((f : Int), z) = true) => (show Calls Tryz.prog 78 #[.pointer (some ⟨p, 0, none⟩), refV f z] w' fun e w'' => ∃ A c, e = .returned (.tuple #[.slice A 256 c, .nilIface]) ∧ Sl w'' w''.heap.size A 256 c (indexB P.pgs j) ∧ Below w'.heap.size w' w'' ∧ ∀ ad, A = some ad → w'.heap.size ≤ ad.block from by
    have hit : Item P cont ((f : Int), z) (indexB P.pgs j) := .index hy hpt
    obtain ⟨⟨f', hf', g2, g3⟩, _, _, _⟩ := hit.fine hF
    obtain rfl : f = f' := by have h9 : (f : Int) = (f' : Int) := hf'; omega
    obtain ⟨r1, r2⟩ := item_right hF hd hc hu hit
    simp only [Int.toNat_natCast] at r1 r2
    rw [← r2]
    exact OA.read S p d n m f z q k s F G w' (hS.on hb) (DD.kept hr (Kept.of_below hb (DD.lt hr))) (O.kept hp (Kept.of_below hb (O.lt hp))) hu hq hk n0 n1 g3 r1))
  have HSd := hid (fun j => tk_sound hF P.epoch j)
  have HLn := hid hF.len
  clear hr hp hS hu hk hq hd hc hF hrf DD O OA
  go_enter Tryz.func94, Tryz.ntmps94
  go_upto_region 1 with fail
  obtain ⟨W2, hW2⟩ : ∃ W2, ((w.alloc (.cells #[.int .i64 P.epoch, .slice A 7 c] 94)).alloc (.cells (stL (noPS 0)).toArray 103)) = W2 := ⟨_, rfl⟩
  have z0 : (w.alloc (.cells #[.int .i64 P.epoch, .slice A 7 c] 94)).heap.size = w.heap.size + 1 := by simp
  have z1 : W2.heap.size = w.heap.size + 2 := by rw [← hW2]; simp
  have z2 : Below w.heap.size w W2 := by rw [← hW2]; exact ((Below.refl _ _).alloc (Nat.le_refl _) _).alloc (by rw [z0]; omega) _
  have z3 : Blk W2 w.heap.size 94 #[.int .i64 P.epoch, .slice A 7 c] := by rw [← hW2]; exact (Blk.new w _ _).alloc _
  have z4 : Blk W2 (w.heap.size + 1) 103 (stL (noPS 0)).toArray := by
    rw [← hW2]
    have := Blk.new (w.alloc (.cells #[.int .i64 P.epoch, .slice A 7 c] 94)) 103 (stL (noPS 0)).toArray
    rwa [z0] at this
  have HZ1 := hid z1
  have HZ2 := hid z2
  have HZ3 := hid z3
  have HZ4 := hid z4
  have c0 := z3.cell 0
  have c0' : W2.cell? ⟨w.heap.size, 0, none⟩ = some (.int .i64 P.epoch) := c0
  rw [hW2]
  clear z0 z1 z2 z3 z4 hW2 c0
  go_upto_region 2 with (first | (refine wpList_built1 rfl 103 0 (.tmp 12) rfl (.int .i64 P.epoch) rfl (stL (noPS P.epoch)).toArray (Tryz.built_state P.epoch) ?_) | (refine wpList_store_last rfl 103 (.tmp 6) (.tmp 13) rfl W2.heap.size (by simp) (stL (noPS 0)).toArray (stL (noPS P.epoch)).toArray rfl rfl ?b1 ?b2 ?b3 ?_))
  case b1 => rw [List.size_toArray]; exact size_of_state (noPS_len _)
  case b2 => rw [List.size_toArray, List.size_toArray, stL_len (noPS_len _), stL_len (noPS_len _)]
  case b3 => exact stL_one _
  obtain ⟨W3, hW3⟩ : ∃ W3, W2.alloc (.cells (stL (noPS P.epoch)).toArray 103) = W3 := ⟨_, rfl⟩
  have z5 : Below W2.heap.size W2 W3 := by rw [← hW3]; exact (Below.refl _ _).alloc (Nat.le_refl _) _
  have z6 : HoldsP W3 W2.heap.size 103 [] ⟨P.epoch, List.replicate 7 (0, 0), tkTo P.pgs 0⟩ [] := by
    rw [← hW3, tkTo_zero]
    have := Blk.new W2 103 (stL (noPS P.epoch)).toArray
    have e : ([] ++ (stL ⟨P.epoch, List.replicate 7 (0, 0), List.replicate 256 (0, 0)⟩ ++ [])) = stL (noPS P.epoch) := by rw [List.nil_append, List.append_nil]; rfl
    show Blk _ _ _ ([] ++ (stL ⟨P.epoch, List.replicate 7 (0, 0), List.replicate 256 (0, 0)⟩ ++ [])).toArray
    rw [e]; exact this
  have z7 : W3.heap.size = w.heap.size + 3 := by rw [← hW3]; have := HZ1.out; simp; omega
  have z8 := HZ2.out.trans (z5.mono HZ2.out.size)
  have z9 := HZ3.out.below z5 HZ3.out.lt
  have HZ5 := hid z6
  have HZ6 := hid z7
  have HZ7 := hid z8
  have HZ8 := hid (HZ4.out.below z5 HZ4.out.lt)
  have c1 : W3.cell? ⟨w.heap.size, 1, none⟩ = some (.slice A 7 c) := z9.cell 1
  obtain ⟨ad, _, rfl, _⟩ := HRf.out.get (k := 0) (by omega)
  obtain ⟨W4, hcp, hb4, hg4⟩ := copy_state (w := W3.drew) (g := W2.heap.size) (Blk.drew z6) List.length_replicate (HRf.out.on (z8.drew))
  have HZ9 := hid hb4
  have HZ10 := hid (And.intro hg4 trivial)
  rw [hW3]
  clear z5 z6 z7 z8 z9 hW3 c0' hb4 hg4
  go_upto_region 4 with fail
  go_region
  have HB4 := hid (show Below w.heap.size w W4 from (HZ7.out.drew).grown HZ10.out.1 HZ7.out.drew.size (fun k hk => by injection hk with hk; have := HZ1.out; omega))
  have HBk4 := hid (show Blk W4 (w.heap.size + 1) 103 (stL (noPS 0)).toArray from (Blk.drew HZ8.out).grown HZ10.out.1 (fun e => by injection e with e; have := HZ1.out; omega))
  have hr0 : RdQ w P W2.heap.size (w.heap.size + 1) 0 W4 := ⟨HZ9.out, HBk4.out, HB4.out⟩
  obtain ⟨ob, hob⟩ : ∃ ob, W2.heap.size = ob := ⟨_, rfl⟩
  obtain ⟨rb, hrb⟩ : ∃ rb, w.heap.size + 1 = rb := ⟨_, rfl⟩
  have HOb := hid (show w.heap.size ≤ ob ∧ w.heap.size ≤ rb ∧ ob ≠ rb from by have := HZ1.out; omega)
  rw [hob, hrb] at hr0
  rw [hob, hrb]
  have HR0 := hid hr0
  clear hr0 hob hrb
  clear HZ1 HZ2 HZ3 HZ4 HZ5 HZ6 HZ7 HZ8 HZ9 HZ10 HBk4
  go_wp2_with fail
  refine (HGe.out _ HB4.out).mono ?_
  rintro e w5 ⟨rfl, hb5⟩
  have hr5 := HR0.out.on hb5
  have HR5 := hid hr5
  clear hb5
  go_wp2_with fail
  refine (sound_any ⟨P.epoch, P.idx, tkTo P.pgs 0⟩ ob 0 (halN n) (n : Int) 103 [] [] _ hr5.1 ⟨HLn.out.i, tkTo_len HLn.out.p 0⟩ rfl (HSd.out 0)).mono ?_
  rintro e w6 ⟨rfl, hb6⟩
  have HR6 := hid (HR5.out.on hb6)
  have HRg := hid (show w6.rangeAt ob 1 (cellsR P.idx) from HoldsP.idxRange (P := ⟨P.epoch, P.idx, tkTo P.pgs 0⟩) HR6.out.1)
  have HSz7 := hid (show (Tryz.prog.info? 100).map (·.size) = some (cellsR P.idx).length from by rw [cellsR_len, HLn.out.i]; kernel_rfl)
  clear hr5 hb6
  go_wp2_with (refine wpList_load_mid rfl 100 (.tmp 31) rfl ob 1 rfl (cellsR P.idx) _ HRg.out Tryz.underlying100 rfl HSz7.out ?_)
  go_loopw [33] (fun iv wx => ∃ j : Nat, j ≤ 7 ∧ iv = .int .i64 (j : Int) ∧ RdQ w P ob rb j wx) (fun iv _ => 7 - (intOf iv).toNat)
  case atStart => exact ⟨0, Nat.zero_le _, rfl, HR6.out⟩
  case round =>
    rename World => wx
    obtain ⟨j, hj, rfl, hrd⟩ := hrel
    have HRx := hid hrd
    clear hrd
    by_cases hlt : j < 7
    · obtain ⟨⟨y, z⟩, hy⟩ := HLn.out.index hlt
      have hix := fun W => idx7 HLn.out.i hy W
      have HY := hid hy
      have hj7 : (j : Int) < 7 := by omega
      clear hy
      go_upto_region 10 with fail
      obtain ⟨W7, hW7⟩ : ∃ W7, wx.alloc (.cells #[.int .i64 y, .int .u32 (z : Int)] 99) = W7 := ⟨_, rfl⟩
      have z1 : Below wx.heap.size wx W7 := by rw [← hW7]; exact (Below.refl _ _).alloc (Nat.le_refl _) _
      have z2 : Blk W7 wx.heap.size 99 #[.int .i64 y, .int .u32 (z : Int)] := by rw [← hW7]; exact Blk.new wx _ _
      have HR7 := hid (HRx.out.on z1)
      have HK7 := hid z2
      have c0 : W7.cell? ⟨wx.heap.size, 0, none⟩ = some (.int .i64 y) := z2.cell 0
      have c1 : W7.cell? ⟨wx.heap.size, 1, none⟩ = some (.int .u32 (z : Int)) := z2.cell 1
      rw [hW7]
      clear hW7 z1 z2 hix
      go_wp2_with fail
      refine (points_any (y, z) _).mono ?_
      obtain ⟨b, hb⟩ : ∃ b, points (y, z) = b := ⟨_, rfl⟩
      have HPt := hid hb
      rw [hb]
      rintro e w8 ⟨rfl, hb8⟩
      have HR8 := hid (HR7.out.on hb8)
      have hk8 := HK7.out.below hb8 HK7.out.lt
      have d0 : w8.cell? ⟨wx.heap.size, 0, none⟩ = some (.int .i64 y) := hk8.cell 0
      have d1 : w8.cell? ⟨wx.heap.size, 1, none⟩ = some (.int .u32 (z : Int)) := hk8.cell 1
      clear hb hb8 hk8 c0 c1
      cases b
      · have HN := hid (show RdQ w P ob rb (j + 1) w8 from by
          obtain ⟨h1, h2⟩ := HR8.out
          rw [← tk_skip HFn.out HY.out HPt.out] at h1
          exact ⟨h1, h2⟩)
        go_wp2
        go_roundw
        case rel => exact ⟨j + 1, by omega, by go_num, HN.out⟩
        case measure => simp [intOf]; omega
      · obtain ⟨f, rfl⟩ : ∃ f : Nat, y = (f : Int) := ⟨y.toNat, by have := HPt.out; simp [points] at this; omega⟩
        have HRd := hid (HRe.out _ HR8.out.2.2 j f z HY.out HPt.out)
        go_wp2_with fail
        refine HRd.out.mono ?_
        rintro e w9 ⟨A9, c9, rfl, hs9, hb9, hA9⟩
        have HS9 := hid hs9
        have HA9 := hid (show ∀ ad, A9 = some ad → ad.block ≠ ob from fun ad ha => by have h1 := hA9 ad ha; have h2 := HR8.out.1.lt; omega)
        have HR9 := hid (HR8.out.on hb9)
        clear hs9 hA9 hb9
        go_wp2_with fail
        refine (takeIndex_any ⟨P.epoch, P.idx, tkTo P.pgs j⟩ ob j A9 c9 (indexB P.pgs j) _ HR9.out.1 ⟨HLn.out.i, tkTo_len HLn.out.p j⟩ hlt HS9.out (indexB_byt _ _) HA9.out).mono ?_
        rintro e w10 ⟨rfl, hbx, hg⟩
        rw [tk_told HFn.out hlt] at hbx
        have HN := hid (show RdQ w P ob rb (j + 1) w10 from HR9.out.turn HOb.out.1 HOb.out.2.2 hg hbx)
        clear hbx hg
        go_wp2
        go_roundw
        case rel => exact ⟨j + 1, by omega, by go_num, HN.out⟩
        case measure => simp [intOf]; omega
    · have hj7 : j = 7 := by omega
      subst hj7
      go_wp2_with fail
      refine (HGe.out _ HRx.out.2.2).mono ?_
      rintro e w8 ⟨rfl, hb8⟩
      have hr8 := HRx.out.on hb8
      have HR8 := hid hr8
      clear hb8
      go_wp2_with fail
      refine (sound_any ⟨P.epoch, P.idx, tkTo P.pgs 7⟩ ob 0 (halN n) (n : Int) 103 [] [] _ hr8.1 ⟨HLn.out.i, tkTo_len HLn.out.p 7⟩ rfl (HSd.out 7)).mono ?_
      rintro e w9 ⟨rfl, hb9⟩
      have HR9 := hid (HR8.out.on hb9)
      have hbx := HR9.out.1
      have ePS : (⟨P.epoch, P.idx, tkTo P.pgs 7⟩ : PS) = P := PS.ext' rfl rfl (tkTo_all HLn.out.p)
      rw [ePS] at hbx
      have HBx := hid hbx
      have HTh := hid (show w9.there rb 0 (stL P).toArray.size from fun i hi => by
        have h3 := HR9.out.2.1
        have hi2 : i < (stL (noPS 0)).length := by rw [stL_len (noPS_len 0)]; rw [List.size_toArray, stL_len HLn.out] at hi; exact hi
        refine ⟨?_, Blk.free h3 _⟩
        rw [Nat.zero_add, Blk.cell h3]
        simp only [List.getElem?_toArray]
        rw [List.getElem?_eq_getElem hi2]; rfl)
      have HSzS := hid (show (Tryz.prog.info? 103).map (·.size) = some (stL P).toArray.size from by rw [List.size_toArray]; exact size_of_state HLn.out)
      have hnew : Blk (w9.setCells rb 0 (stL P)) rb 103 (stL P).toArray := by
        have h3 := HR9.out.2.1
        have h4 : Blk w9 rb 103 ([] ++ (stL (noPS 0) ++ [])).toArray := by rw [List.nil_append, List.append_nil]; exact h3
        have h5 := blk_setCells (stL P) (stL (noPS 0)) [] w9 (by rw [stL_len HLn.out, stL_len (noPS_len 0)]) h4
        rw [List.nil_append, List.append_nil] at h5
        exact h5
      have HFin := hid (show Below w.heap.size w (w9.setCells rb 0 (stL P)) from by
        have hg := only_setCells (only_refl w9 (some rb)) (stL P) 0
        exact HR9.out.2.2.grown hg HR9.out.2.2.size (fun k hk => by injection hk with hk; have := HOb.out.2.1; omega))
      have HNew := hid hnew
      clear hr8 hb9 hbx hnew ePS
      go_wp2_with (first | (refine wpList_load_mid rfl 103 (.tmp 6) rfl ob 0 rfl (stL P) _ HBx.out.range Tryz.underlying103 rfl (size_of_state HLn.out) ?_) | (refine wpList_store_mid rfl 103 (.tmp 4) (.tmp 60) rfl rb 0 (stL P).toArray rfl rfl HTh.out HSzS.out (all_oneCell_toArray (stL_one _)) ?_))
      exact bodyPost_ret_by (results_row_tmp (p := 4) (u := 5) rfl _ _ rb 103 _ (0, 0) _ .nilIface rfl HNew.out rfl Tryz.underlying103 rfl HSzS.out) rfl ⟨rfl, HFin.out⟩
end
end Go.Proofs.YtaonhbmimaiiiaaGreatDoor
