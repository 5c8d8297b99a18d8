/- Put together out of 3 texts. Package page: Commit. -/
import Derived.Test.YtkhdgacjgccnnaaGreatDoorGXav
import Derived.Test.YtkhdgacjgccnnaaGreatDoorGXax
namespace Go.Proofs.YtkhdgacjgccnnaaGreatDoor
open Go.RowKit Go.Maps

section
variable {P : PS} {ch : Chg} {Real : World → Nat → DSt → (Nat → Prop) → Prop} {PR : World → Nat → Nat → Nat → Nat → (Nat → Prop) → Prop}
theorem pd_save (D : DevOk Real) (O : PairOk Real PR) {S : Nat → Addr} {w0 w : World} {d p n m q q3 : Nat} {s s3 : DSt} {F G : Nat → Prop} (h : Pd Real PR S w0 w d p s n m q F G) (hS : Sent6 w0 S) (hq : q ≤ 800000) {r : RSt} {A : Option Addr} {k c : Nat} (hrf : Rf w w.heap.size A k c r.refs) (hs : Sums r.refs) (h1 : -9223372036854775808 ≤ r.epoch) (h2 : r.epoch ≤ 9223372036854775807) (hsv : saveR s (halN n) r = (0, s3)) (hu3 : Up s3 n q3) (hq3 : q3 ≤ 900000) :
    Calls Tryz.prog 52 #[.pointer (some ⟨d, 0, none⟩), rtV r.epoch A k c] w fun e w' => e = .returned .nilIface ∧ Stepped Real PR S w0 w d p s3 n m q3 F G (fun _ _ => True) w' := by
  refine (save_any D S d n q s F r A k c w0 w hS h.below h.fn h.real h.up.okN hq h.up.len h.n0 hrf hs h1 h2).mono ?_
  rw [hsv]
  rintro e w' ⟨⟨v, rfl, hv⟩, hu⟩
  obtain ⟨F', k1, k2, k3⟩ := h.dev O hu hu3 hq3
  exact ⟨by rw [hv.nil], F', G, k1, k2, k3, fun k hk => .inr (.inl hk), trivial⟩
set_option maxRecDepth 100000 in
set_option maxHeartbeats 8000000 in
theorem commit_any (DD : DevOk Real) (O : PairOk Real PR) (S : Nat → Addr) (w0 w : World) (g d p mm n m q q3 : Nat) (D : DataW Unit) (C F G : Nat → Prop) (s s3 : DSt) (h : Sto w g d p mm P ch D C) (hpd : Pd Real PR S w0 w d p s n m q F G) (hS : Sent6 w0 S) (hg0 : w0.heap.size ≤ g ∧ w0.heap.size ≤ mm) (hog : ¬ (F g ∨ G g)) (hom : ¬ (F mm ∨ G mm)) (hoC : ∀ k, C k → ¬ (F k ∨ G k)) (h0 : 0 < (keysOf ch).length) (he0 : 0 ≤ P.epoch) (he2 : P.epoch < 1099511627776) (hsm : Small P.idx ∧ Small P.pgs) (hf : fitsB P ch (halN n) = true) (hfr0 : 0 < (freeOf P (halN n)).length) (hq : q + 2 * ((pagesOf P ch).length + (indexesOf P ch).length) ≤ 700000) (hsv : saveR (fl (commitTo P ch s (halN n)).1) (halN n) ⟨(commitTo P ch s (halN n)).2.epoch, (commitTo P ch s (halN n)).2.idx⟩ = (0, s3)) (hu3 : Up s3 n q3) (hq3 : q3 ≤ 900000) :
    Calls Tryz.prog 32 #[.pointer (some ⟨g, 0, none⟩)] w fun e w' => e = .returned .nilIface ∧ ∃ F' G', Pd Real PR S w0 w' d p s3 n m q3 F' G' ∧ Sto w' g d p mm (commitTo P ch s (halN n)).2 noChg (.map []) (fun _ => False) ∧ Only (fun k => F k ∨ G k ∨ k = g ∨ k = mm) w w' ∧ (∀ k, F' k → F k ∨ G k ∨ w.heap.size ≤ k) ∧ ∀ k, G' k → F k ∨ G k ∨ w.heap.size ≤ k := by
  have hp := hpd.pr
  have he1 : P.epoch < 4611686018427387904 := by omega
  have HD := hid DD
  have HPd := hid hpd
  have HG0 := hid hg0
  have HSn := hid hS
  have HOff := hid (And.intro hog (And.intro hom hoC))
  have HSm := hid hsm
  have HSv := hid hsv
  have HU3 := hid (And.intro hu3 hq3)
  have HQq0 := hid hq
  have HF0 := hid hfr0
  have HEp := hid (And.intro he0 he2)
  have HLt := hid (And.intro (DD.lt hpd.real) (O.lt hpd.pr))
  have HS := hid h
  have HO := hid O
  have HKp := hid (fun w' (hb : Below w.heap.size w w') => O.kept hp (Kept.of_below hb (O.lt hp)))
  have HFt := hid hf
  have c0 := h.mapc
  have hl := h.chd.map.len Tryz.underlying88 3
  rw [h.chd.size] at hl
  obtain ⟨n0, hn0⟩ : ∃ n0, (keysOf ch).length = n0 := ⟨_, rfl⟩
  rw [hn0] at hl
  have hn1 : ((n0 : Int) == 0) = false := by rw [beq_eq_false_iff_ne]; omega
  have hn2 : ¬ n0 = 0 := by omega
  have hzc := fun W => (zero_of_info Tryz.zeroChange).1 W
  have HCg := hid (fun w' (hs : Sto w' g d p mm P ch D C) => change_any g d p mm D C w' hs h0 he0 he1)
  have HQ := hid (cut_len h.len (keysOf ch))
  clear h O hp hf hpd hS hog hom hoC hsm hsv hu3 hq3 hq hfr0 DD
  go_enter Tryz.func32, Tryz.ntmps32
  go_wp2_with fail
  refine (HCg.out _ HS.out).mono ?_
  rintro e w1 ⟨vp, vi, rfl, hlp, hli, hb1⟩
  obtain ⟨Q, hQq⟩ : ∃ Q, P.cut (keysOf ch) = Q := ⟨_, rfl⟩
  have HQq := hid hQq
  rw [hQq] at HQ
  rw [hQq]
  obtain ⟨Ap, cp, rfl, hsp, hAp⟩ := hlp
  obtain ⟨Ai, ci, rfl, hsi, hAi⟩ := hli
  have HB1 := hid hb1
  have HSp := hid hsp
  have HSi := hid hsi
  have HAp := hid hAp
  have HAi := hid hAi
  clear hb1 hQq hl c0 hsp hsi hAp hAi
  go_upto_region 4 with (refine wpList_store_last rfl 110 (.tmp 3) (.tmp 17) rfl w1.heap.size (by simp) (chL (noPS 0) nilS nilS).toArray (chL Q (.slice Ap (pagesOf P ch).length cp) (.slice Ai (indexesOf P ch).length ci)).toArray rfl rfl ?b1 ?b2 ?b3 ?_)
  case b1 => rw [List.size_toArray]; exact size_of_change HQ.out _ _
  case b2 => rw [List.size_toArray, List.size_toArray, chL_len HQ.out, chL_len (noPS_len 0)]
  case b3 => exact chL_one Q rfl rfl
  obtain ⟨W2, hW2⟩ : ∃ W2, w1.alloc (.cells (chL Q (.slice Ap (pagesOf P ch).length cp) (.slice Ai (indexesOf P ch).length ci)).toArray 110) = W2 := ⟨_, rfl⟩
  have hb2 : Below w.heap.size w W2 := by rw [← hW2]; exact HB1.out.alloc HB1.out.size _
  have hk2 : Blk W2 w1.heap.size 110 (chL Q (.slice Ap (pagesOf P ch).length cp) (.slice Ai (indexesOf P ch).length ci)).toArray := by rw [← hW2]; exact Blk.new w1 _ _
  have HB12 := hid (show Below w1.heap.size w1 W2 ∧ W2.heap.size = w1.heap.size + 1 from by rw [← hW2]; exact ⟨(Below.refl _ _).alloc (Nat.le_refl _) _, by simp⟩)
  have HB2 := hid hb2
  have HK2 := hid hk2
  rw [hW2]
  clear hW2 hb2 hk2 hzc
  go_wp2_with fail
  refine (free_any HO.out g d p mm n m P ch D C G _ (HS.out.below HB2.out) (HKp.out _ HB2.out)).mono ?_
  rintro e w3 ⟨vf, rfl, hfr, hb3⟩
  obtain ⟨gf, cf, rfl, hgf1, hgf2, hsf⟩ := ownN_some hfr (by rw [natsI_len]; exact HF0.out)
  have HSf := hid hsf
  have HGf := hid (And.intro hgf1 hgf2)
  have HB23 := hid hb3
  have HB3 := hid (HB2.out.trans (hb3.mono HB2.out.size))
  have HK3 := hid (HK2.out.below hb3 HK2.out.lt)
  obtain ⟨nf, hnf⟩ : ∃ nf, (natsI (freeOf P (halN n))).length = nf := ⟨_, rfl⟩
  have HNf := hid (show (freeOf P (halN n)).length = nf ∧ nf ≤ 512 from ⟨by rw [← hnf, natsI_len], by
    rw [← hnf, natsI_len]
    have h1 := freeOf_le P (halN n)
    have h2 : halN n ≤ 512 := by unfold halN; omega
    omega⟩)
  rw [hnf] at HSf
  rw [hnf]
  have HSz := hid (show (Tryz.prog.info? 110).map (·.size) = some (chL Q (.slice Ap (pagesOf P ch).length cp) (.slice Ai (indexesOf P ch).length ci)).toArray.size from by rw [List.size_toArray]; exact size_of_change HQ.out _ _)
  clear hfr hsf hb3 hnf hgf1 hgf2
  go_wp2_with (refine wpList_load_row rfl 110 (.tmp 3) rfl w1.heap.size rfl 110 (chL Q (.slice Ap (pagesOf P ch).length cp) (.slice Ai (indexesOf P ch).length ci)).toArray (0, 0) _ HK3.out Tryz.underlying110 rfl HSz.out ?_)
  refine (fits_any HO.out g d p mm n m P Q ch D C G Ap Ai (pagesOf P ch).length (indexesOf P ch).length cp ci nf _ (HS.out.below HB3.out) (HKp.out _ HB3.out) HQ.out (by have := pagesOf_le P ch; omega) (by have := indexesOf_le P ch; omega) (by have := HNf.out; omega)).mono ?_
  have HFb := hid (show (decide ((pagesOf P ch).length + (indexesOf P ch).length ≤ nf) && decide (2 * (Q.used.length + ((pagesOf P ch).length + (indexesOf P ch).length)) ≤ halN n)) = true from by
    have h1 := HFt.out
    unfold fitsB at h1
    rw [HQq.out, HNf.out.1] at h1
    exact h1)
  rw [HFb.out]
  rintro e w4 ⟨rfl, hb4⟩
  have HB34 := hid hb4
  have HB4 := hid (HB3.out.trans (hb4.mono HB3.out.size))
  have HK4 := hid (HK3.out.below hb4 HK3.out.lt)
  have hcE : w4.cell? ⟨w1.heap.size, 0, none⟩ = some (.int .i64 (P.epoch + 1)) := by
    have h1 : HoldsP w4 w1.heap.size 110 [] Q [.slice Ap (pagesOf P ch).length cp, .slice Ai (indexesOf P ch).length ci] := HK4.out
    have h2 := h1.epoch
    have e : Q.epoch = P.epoch + 1 := by rw [← HQq.out]; exact cut_epoch _ _
    rw [e] at h2
    exact h2
  clear hb4
  go_wp2_with fail
  refine (rootBytes_any S ⟨P.epoch + 1, []⟩ none 0 0 _ (HSn.out.on (HPd.out.below.trans (HB4.out.mono HPd.out.below.size))) (Rf.empty _ _) (fun _ h => by cases h) (by have := HEp.out; show _ ≤ P.epoch + 1; omega) (by have := HEp.out; show P.epoch + 1 ≤ _; omega)).mono ?_
  rintro e w5 ⟨hby, hb5⟩
  have hcode : (⟨P.epoch + 1, []⟩ : RSt).code = 0 := by
    have h1 := HEp.out
    unfold RSt.code
    rw [if_neg (by show ¬ (P.epoch + 1 < 1 ∨ 1099511627776 < P.epoch + 1); omega), if_neg (by simp [badAddr]), if_neg (by simp)]
  rcases hby with ⟨_, Ab, cbb, rfl, _, _⟩ | ⟨hcn, _⟩
  rotate_left
  · exact absurd hcode hcn
  have HB15 := hid (show Below w1.heap.size w1 w5 from ((HB12.out.1.trans (HB23.out.mono HB12.out.1.size)).trans (HB34.out.mono (Nat.le_trans HB12.out.1.size HB23.out.size))).trans (hb5.mono (Nat.le_trans (Nat.le_trans HB12.out.1.size HB23.out.size) HB34.out.size)))
  have HB35 := hid (show Below w3.heap.size w3 w5 from HB34.out.trans (hb5.mono HB34.out.size))
  have HB5 := hid (show Below w.heap.size w w5 from HB4.out.trans (hb5.mono HB4.out.size))
  have HK5 := hid (show HoldsP w5 w1.heap.size 110 [] Q [.slice Ap (pagesOf P ch).length cp, .slice Ai (indexesOf P ch).length ci] from HK4.out.below hb5 HK4.out.lt)
  clear hb5 hcode
  have HCb := hid (show w1.heap.size < w5.heap.size ∧ ¬ F w1.heap.size ∧ ¬ G w1.heap.size ∧ w0.heap.size ≤ w1.heap.size from ⟨HK5.out.lt, fun hk => by have := HLt.out.1 _ hk; have := HB1.out.size; omega, fun hk => by have := HLt.out.2 _ hk; have := HB1.out.size; omega, Nat.le_trans HPd.out.below.size HB1.out.size⟩)
  have HW5 := hid (show WrAt Real PR S w0 w5 d p n m F G w1.heap.size (.slice Ap (pagesOf P ch).length cp) (.slice Ai (indexesOf P ch).length ci) s Q q w5 from ⟨F, G, HPd.out.on HD.out HO.out HB5.out, HK5.out, Only.refl _ _, fun k hk => .inl hk, fun k hk => .inr (.inl hk)⟩)
  have HE5 := hid (show WrE w5 g d p mm w1.heap.size gf (pagesOf P ch).length (indexesOf P ch).length nf cp ci cf P ch D C (fun k => F k ∨ G k ∨ k = w1.heap.size) Ap Ai (pagesOf P ch) (indexesOf P ch) (freeOf P (halN n)) from by
    have hz := HB1.out.size
    have hFl : ∀ k, F k ∨ G k → k < w.heap.size := fun k hk => hk.elim (HLt.out.1 k) (HLt.out.2 k)
    have low : ∀ k, k < w.heap.size → ¬ (F k ∨ G k) → ¬ (F k ∨ G k ∨ k = w1.heap.size) := fun k hk hn h => by
      rcases h with h | h | h
      · exact hn (.inl h)
      · exact hn (.inr h)
      · omega
    have high : ∀ k, w.heap.size ≤ k → k ≠ w1.heap.size → ¬ (F k ∨ G k ∨ k = w1.heap.size) := fun k hk hn h => by
      rcases h with h | h | h
      · have := hFl k (.inl h); omega
      · have := hFl k (.inr h); omega
      · exact hn h
    have h2 := HB12.out.2
    have h3 := HGf.out
    refine ⟨HS.out.below HB5.out, sn_on HSp.out HB15.out, sn_on HSi.out HB15.out, sn_on HSf.out HB35.out, low g HS.out.box.lt HOff.out.1, low mm HS.out.chd.map.lt HOff.out.2.1, fun k hk => low k (HS.out.chd.lt k hk).1 (HOff.out.2.2 k hk), high gf (by omega) (by omega), fun ad ha => ?_, fun ad ha => ?_⟩
    · have := HAp.out ad ha; exact high _ this.1 (by omega)
    · have := HAi.out ad ha; exact high _ this.1 (by omega))
  have HFi2 := hid (show (pagesOf P ch).length + (indexesOf P ch).length ≤ nf from by
    have := HFb.out
    simp only [Bool.and_eq_true, decide_eq_true_eq] at this
    exact this.1)
  have HCm := hid (show commitTo P ch s (halN n) = wiTo (halN n) ((freeOf P (halN n)).drop (pagesOf P ch).length) (indexesOf P ch) (wpTo ch (halN n) (freeOf P (halN n)) (pagesOf P ch) s Q (pagesOf P ch).length).1 (wpTo ch (halN n) (freeOf P (halN n)) (pagesOf P ch) s Q (pagesOf P ch).length).2 (indexesOf P ch).length from by unfold commitTo; rw [HQq.out])
  have HSq := hid (show Small Q.pgs from by rw [← HQq.out]; exact (cut_small HSm.out _).2)
  go_wp2_with fail
  refine (write_any HD.out HO.out S w0 _ g d p mm n m q w1.heap.size gf (pagesOf P ch).length (indexesOf P ch).length nf cp ci cf P Q ch D C F G Ap Ai (pagesOf P ch) (indexesOf P ch) (freeOf P (halN n)) s HE5.out HW5.out HCb.out HQ.out HSq.out HFi2.out (by have := HNf.out.2; omega) (fun f hf => (freeOf_is hf).1) (fun k hk => pagesOf_is hk) (fun k hk => indexesOf_is hk) (by have := HQq0.out; omega)).mono ?_
  rw [← HCm.out]
  obtain ⟨x, hx⟩ : ∃ x, commitTo P ch s (halN n) = x := ⟨_, rfl⟩
  have HX := hid hx
  rw [hx]
  rintro e w6 ⟨rfl, hw6⟩
  have HW6 := hid hw6
  have hs6 := (HE5.out.at_ hw6.only).1
  have HS6 := hid hs6
  have d6 := hs6.dev
  obtain ⟨F6, G6, hpd6, hbx6, ho6, hF6, hG6⟩ := hw6
  have HPd6 := hid hpd6
  have HBx6 := hid hbx6
  have HOn6 := hid ho6
  have HFG6 := hid (And.intro hF6 hG6)
  clear hpd6 hbx6 ho6 hF6 hG6 hx hs6
  go_wp2_with fail
  refine (pd_flush HD.out HO.out HPd6.out (by have := HQq0.out; omega)).mono ?_
  rintro e w7 ⟨rfl, F7, G7, hpd7, ho7, hF7, hG7, _⟩
  have HPd7 := hid hpd7
  have HOn7 := hid ho7
  have HFG7 := hid (And.intro hF7 hG7)
  clear hpd7 ho7 hF7 hG7
  have HOut6 := hid (show ∀ k, k < w5.heap.size → ¬ F k → ¬ G k → ¬ (F6 k ∨ G6 k) from fun k hk hf hg h => by
    rcases h with h | h
    · rcases HFG6.out.1 k h with h' | h' | h'
      · exact hf h'
      · exact hg h'
      · omega
    · rcases HFG6.out.2 k h with h' | h' | h'
      · exact hf h'
      · exact hg h'
      · omega)
  have HOut7 := hid (show ∀ k, k < w5.heap.size → ¬ F k → ¬ G k → ¬ (F7 k ∨ G7 k) from fun k hk hf hg h => by
    have h6 := HOut6.out k hk hf hg
    have hz := HOn6.out.size
    rcases h with h | h
    · rcases HFG7.out.1 k h with h' | h' | h'
      · exact h6 (.inl h')
      · exact h6 (.inr h')
      · omega
    · rcases HFG7.out.2 k h with h' | h' | h'
      · exact h6 (.inl h')
      · exact h6 (.inr h')
      · omega)
  have HLow := hid (show g < w5.heap.size ∧ mm < w5.heap.size ∧ (∀ k, C k → k < w5.heap.size) ∧ ∀ k, C k → ¬ F k ∧ ¬ G k from by
    have hz := HB5.out.size
    exact ⟨Nat.lt_of_lt_of_le HS.out.box.lt hz, Nat.lt_of_lt_of_le HS.out.chd.map.lt hz, fun k hk => Nat.lt_of_lt_of_le (HS.out.chd.lt k hk).1 hz, fun k hk => ⟨fun h => HOff.out.2.2 k hk (.inl h), fun h => HOff.out.2.2 k hk (.inr h)⟩⟩)
  have HGm := hid (show (¬ F g ∧ ¬ G g) ∧ ¬ F mm ∧ ¬ G mm from ⟨⟨fun h => HOff.out.1 (.inl h), fun h => HOff.out.1 (.inr h)⟩, fun h => HOff.out.2.1 (.inl h), fun h => HOff.out.2.1 (.inr h)⟩)
  have hs7 : Sto w7 g d p mm P ch D C := HS6.out.only HOn7.out (HOut6.out g HLow.out.1 HGm.out.1.1 HGm.out.1.2) (HOut6.out mm HLow.out.2.1 HGm.out.2.1 HGm.out.2.2) (fun k hk => HOut6.out k (HLow.out.2.2.1 k hk) (HLow.out.2.2.2 k hk).1 (HLow.out.2.2.2 k hk).2)
  have hbx7 : HoldsP w7 w1.heap.size 110 [] x.2 [.slice Ap (pagesOf P ch).length cp, .slice Ai (indexesOf P ch).length ci] := (HOn7.out.block _ HBx6.out.lt (HOut6.out _ HCb.out.1 HCb.out.2.1 HCb.out.2.2.1)).trans HBx6.out
  have hdr : Below w7.heap.size w7 w7.drew := (Below.refl _ _).drew
  have HLx := hid (show x.2.Len from by rw [← HX.out]; exact commitTo_len HS.out.len ch s (halN n))
  have HSx := hid (show Small x.2.idx from by rw [← HX.out]; exact (commitTo_small HSm.out ch s (by unfold halN; omega) HS.out.chd.good).1)
  have HEx := hid (show x.2.epoch = P.epoch + 1 from by rw [← HX.out]; exact commitTo_epoch P ch s (halN n))
  have hsv7 := HSv.out
  rw [HX.out] at hsv7
  have HRo := hid (fun (w' : World) (hb : Below w7.drew.heap.size w7.drew w') => rootOf_any x.2 w1.heap.size 0 110 [] [.slice Ap (pagesOf P ch).length cp, .slice Ai (indexesOf P ch).length ci] w' (hbx7.below (hdr.trans (hb.mono hdr.size)) hbx7.lt) HLx.out rfl)
  have HDv := hid (fun (w' : World) (hb : Below w7.drew.heap.size w7.drew w') => (hs7.below (hdr.trans (hb.mono hdr.size))).dev)
  have HSve := hid (fun (w' : World) (A8 : Option Addr) (c8 : Nat) (hb : Below w7.drew.heap.size w7.drew w') (hrf : Rf w' w'.heap.size A8 7 c8 x.2.idx) => pd_save HD.out HO.out (HPd7.out.on HD.out HO.out (hdr.trans (hb.mono hdr.size))) HSn.out (by have := HQq0.out; omega) (r := ⟨x.2.epoch, x.2.idx⟩) hrf (fun y hy => (HSx.out y hy).2.2) (by have h1 := HEp.out; have h2 := HEx.out; show _ ≤ x.2.epoch; omega) (by have h1 := HEp.out; have h2 := HEx.out; show x.2.epoch ≤ _; omega) hsv7 HU3.out.1 HU3.out.2)
  have HKe := hid (fun (w8 w' : World) (hb : Below w7.drew.heap.size w7.drew w8) (ho : Only (fun k => F7 k ∨ G7 k) w8 w') => (show Sto w' g d p mm P ch D C ∧ HoldsP w' w1.heap.size 110 [] x.2 [.slice Ap (pagesOf P ch).length cp, .slice Ai (indexesOf P ch).length ci] from by
    have hb7 : Below w7.heap.size w7 w8 := hdr.trans (hb.mono hdr.size)
    have hs8 := hs7.below hb7
    have hx8 := hbx7.below hb7 hbx7.lt
    exact ⟨hs8.only ho (HOut7.out g HLow.out.1 HGm.out.1.1 HGm.out.1.2) (HOut7.out mm HLow.out.2.1 HGm.out.2.1 HGm.out.2.2) (fun k hk => HOut7.out k (HLow.out.2.2.1 k hk) (HLow.out.2.2.2 k hk).1 (HLow.out.2.2.2 k hk).2), (ho.block _ hx8.lt (HOut7.out _ HCb.out.1 HCb.out.2.1 HCb.out.2.2.1)).trans hx8⟩))
  have HBd7 := hid hdr
  have k0 := HDv.out _ (Below.refl _ _)
  clear d6 hs7 hbx7 hdr hsv7
  go_upto_region 16 with fail
  go_region_held3 (fun w' => w'.cell? ⟨g, 0, none⟩ = some (.pointer (some ⟨d, 0, none⟩))) (first | exact k0 | exact k8 | exact k9) (first | (go_at_call 53; refine (HRo.out _ (Below.refl _ _)).mono ?_; rintro e w8 ⟨A8, c8, rfl, hrf, _, hb8⟩; have k8 := HDv.out w8 hb8; have HSvc := hid (HSve.out w8 A8 c8 hb8 hrf); have HB8 := hid hb8; clear hrf hb8) | (go_at_call 52; refine HSvc.out.mono ?_; rintro e w9 ⟨rfl, hst⟩; have k9 := (HKe.out w8 w9 HB8.out (by obtain ⟨_, _, _, ho, _⟩ := hst; exact ho)).1.dev; have HSt9 := hid hst; clear hst))
  obtain ⟨F9, G9, hpd9, ho9, hF9, hG9, _⟩ := HSt9.out
  obtain ⟨hs9, hx9⟩ := HKe.out w8 w9 HB8.out ho9
  have HS9 := hid hs9
  have HBx9 := hid hx9
  have HPd9 := hid hpd9
  have HUp6 := hid (show ∀ k, F6 k ∨ G6 k → F k ∨ G k ∨ w.heap.size ≤ k from fun k hk => by
    have hz := HB5.out.size
    rcases hk with hk | hk
    · rcases HFG6.out.1 k hk with h' | h' | h'
      · exact .inl h'
      · exact .inr (.inl h')
      · exact .inr (.inr (by omega))
    · rcases HFG6.out.2 k hk with h' | h' | h'
      · exact .inl h'
      · exact .inr (.inl h')
      · exact .inr (.inr (by omega)))
  have HUp7 := hid (show ∀ k, F7 k ∨ G7 k → F k ∨ G k ∨ w.heap.size ≤ k from fun k hk => by
    have hz := HB5.out.size
    have hz2 := HOn6.out.size
    rcases hk with hk | hk
    · rcases HFG7.out.1 k hk with h' | h' | h'
      · exact HUp6.out k (.inl h')
      · exact HUp6.out k (.inr h')
      · exact .inr (.inr (by omega))
    · rcases HFG7.out.2 k hk with h' | h' | h'
      · exact HUp6.out k (.inl h')
      · exact HUp6.out k (.inr h')
      · exact .inr (.inr (by omega)))
  have HSz8 := hid (show w.heap.size ≤ w8.heap.size from by
    have h1 := HB5.out.size
    have h2 := HOn6.out.size
    have h3 := HOn7.out.size
    have h4 := HBd7.out.size
    have h5 := HB8.out.size
    omega)
  have HUp9 := hid (show ∀ k, F9 k ∨ G9 k → F k ∨ G k ∨ w.heap.size ≤ k from fun k hk => by
    have hz := HSz8.out
    rcases hk with hk | hk
    · rcases hF9 k hk with h' | h' | h'
      · exact HUp7.out k (.inl h')
      · exact HUp7.out k (.inr h')
      · exact .inr (.inr (by omega))
    · rcases hG9 k hk with h' | h' | h'
      · exact HUp7.out k (.inl h')
      · exact HUp7.out k (.inr h')
      · exact .inr (.inr (by omega)))
  have HOn9 := hid (show Only (fun k => F k ∨ G k ∨ k = g ∨ k = mm) w w9 from by
    have hz1 := HB1.out.size
    have o1 : Only (fun k => F k ∨ G k ∨ k = g ∨ k = mm) w w5 := Only.of_below HB5.out
    have o2 := o1.trans HOn6.out (fun i hi => by
      rcases hi with hi | hi | hi
      · exact .inl (.inl hi)
      · exact .inl (.inr (.inl hi))
      · exact .inr (by omega))
    have up : ∀ i, (F i ∨ G i ∨ w.heap.size ≤ i) → (F i ∨ G i ∨ i = g ∨ i = mm) ∨ w.heap.size ≤ i := fun i hi => by
      rcases hi with hi | hi | hi
      · exact .inl (.inl hi)
      · exact .inl (.inr (.inl hi))
      · exact .inr hi
    have o3 := o2.trans HOn7.out (fun i hi => up i (HUp6.out i hi))
    have o4 := o3.then_below (HBd7.out.trans (HB8.out.mono HBd7.out.size))
    exact o4.trans ho9 (fun i hi => up i (HUp7.out i hi)))
  have HOut9 := hid (show ∀ k, k < w5.heap.size → ¬ F k → ¬ G k → ¬ (F9 k ∨ G9 k) from fun k hk hf hg h => by
    have h7 := HOut7.out k hk hf hg
    have h1 := HOn6.out.size
    have h2 := HOn7.out.size
    have h3 := HBd7.out.size
    have h4 := HB8.out.size
    rcases h with h | h
    · rcases hF9 k h with h' | h' | h'
      · exact h7 (.inl h')
      · exact h7 (.inr h')
      · omega
    · rcases hG9 k h with h' | h' | h'
      · exact h7 (.inl h')
      · exact h7 (.inr h')
      · omega)
  have HTh := hid (show w9.there g 2 (stL x.2).toArray.size from fun j hj => by
    have hj2 : j < (stL P).length := by rw [stL_len HS.out.len]; rw [List.size_toArray, stL_len HLx.out] at hj; exact hj
    have h1 := hs9.box.at_ (List.getElem?_eq_getElem hj2)
    exact ⟨by rw [show (⟨g, 2 + j, none⟩ : Addr) = ⟨g, [Value.pointer (some ⟨d, 0, none⟩), Value.pointer (some ⟨p, 0, none⟩)].length + j, none⟩ from rfl, h1]; rfl, Blk.free hs9.box _⟩)
  have HSzS := hid (show (Tryz.prog.info? 95).map (·.size) = some (stL x.2).toArray.size from by rw [List.size_toArray]; exact size_of_state HLx.out)
  clear hpd9 ho9 hF9 hG9 hs9 hx9 k0 k8 k9
  go_upto_region 20 with (first | (refine wpList_load_mid rfl 95 (.tmp 63) rfl w1.heap.size 0 rfl (stL x.2) _ HBx9.out.range Tryz.underlying95 rfl (size_of_state HLx.out) ?_) | (refine wpList_store_mid rfl 95 (.tmp 66) (.tmp 64) rfl g 2 (stL x.2).toArray rfl rfl HTh.out HSzS.out (all_oneCell_toArray (stL_one _)) ?_))
  have hgr : w9.grownBy (w9.setCells g 2 (stL x.2)) (some g) := only_setCells (only_refl w9 (some g)) (stL x.2) 2
  have hbx : HoldsP (w9.setCells g 2 (stL x.2)) g 97 [.pointer (some ⟨d, 0, none⟩), .pointer (some ⟨p, 0, none⟩)] x.2 [.map (some mm)] := blk_setCells (stL x.2) (stL P) [.pointer (some ⟨d, 0, none⟩), .pointer (some ⟨p, 0, none⟩)] w9 (by rw [stL_len HS.out.len, stL_len HLx.out]) HS9.out.box
  have hmp := ownsMapS_same HS9.out.chd.map (hgr.block mm HS9.out.chd.map.lt (fun e => HS9.out.ap.1 (by injection e with e; exact e.symm)))
  obtain ⟨w11, hcl, hm11, hg11⟩ := clearS_run hmp
  have cmp : (w9.setCells g 2 (stL x.2)).cell? ⟨g, 529, none⟩ = some (.map (some mm)) := hbx.back HLx.out 0
  have HF := hid (show Sto w11 g d p mm x.2 noChg (.map []) (fun _ => False) ∧ Only (fun k => k = g ∨ k = mm) w9 w11 from by
    have hgm := HS9.out.ap.1
    refine ⟨⟨(hg11.block g hbx.lt (fun e => hgm (by injection e))).trans hbx, chd_none hm11, HLx.out, hgm, id⟩, ?_⟩
    exact ⟨hg11.os.trans hgr.os, hg11.tape.trans hgr.tape, hg11.output.trans hgr.output, Nat.le_trans hgr.size hg11.size, fun k hk hn => (hg11.block k (Nat.lt_of_lt_of_le hk hgr.size) (fun e => hn (.inr (by injection e)))).trans (hgr.block k hk (fun e => hn (.inl (by injection e))))⟩)
  obtain ⟨W10, hW10⟩ : ∃ W10, w9.setCells g 2 (stL x.2) = W10 := ⟨_, rfl⟩
  have hW10' : w9.setCells g 2 (stL x.2).toArray.toList = W10 := hW10
  rw [hW10] at hcl cmp
  rw [hW10']
  clear hgr hbx hmp hm11 hg11 hW10 hW10'
  go_wp2
  go_ret
  have hK9 : ∀ k, F9 k ∨ G9 k → ¬ (k = g ∨ k = mm) := fun k hk hn => by
    rcases hn with rfl | rfl
    · exact HOut9.out _ HLow.out.1 HGm.out.1.1 HGm.out.1.2 hk
    · exact HOut9.out _ HLow.out.2.1 HGm.out.2.1 HGm.out.2.2 hk
  have hO := HOn9.out.trans HF.out.2 (fun i hi => hi.elim (fun e => .inl (.inr (.inr (.inl e)))) (fun e => .inl (.inr (.inr (.inr e)))))
  exact ⟨rfl, F9, G9, HPd9.out.beside HD.out HO.out HF.out.2 (fun k hk => hK9 k (.inl hk)) (fun k hk => hK9 k (.inr hk)) (fun k hk => hk.elim (fun e => by rw [e]; exact HG0.out.1) (fun e => by rw [e]; exact HG0.out.2)), by rw [HX.out]; exact HF.out.1, hO, fun k hk => HUp9.out k (.inl hk), fun k hk => HUp9.out k (.inr hk)⟩
end
end Go.Proofs.YtkhdgacjgccnnaaGreatDoor
namespace Go.Proofs.YtkhdgacjgccnnaaGreatDoor
open Go.RowKit Go.Maps

end Go.Proofs.YtkhdgacjgccnnaaGreatDoor
namespace Go.Proofs.YtkhdgacjgccnnaaGreatDoor
open Go.RowKit Go.Maps

theorem Tryz.idxI0 (a b : Value) (w : World) : (Instr.index 140 (.agg #[a, b]) (.int .i64 0)).run Tryz.prog w = .ok a w := by kernel_rfl
theorem byt_blank : Byt (List.replicate 256 (0 : Int)) := byt_zeros 256
theorem zeroB_blank : zeroB (List.replicate 256 (0 : Int)) = true := by
  unfold zeroB
  rw [List.all_eq_true]
  intro x hx
  rw [List.eq_of_mem_replicate hx]; rfl
section
variable {P : PS} {ch : Chg} {Real : World → Nat → DSt → (Nat → Prop) → Prop} {PR : World → Nat → Nat → Nat → Nat → (Nat → Prop) → Prop}
set_option maxRecDepth 100000 in
set_option maxHeartbeats 4000000 in
theorem checkNew_any (DD : DevOk Real) (O : PairOk Real PR) (S : Nat → Addr) (g d p mm n m : Nat) (s : DSt) (F G : Nat → Prop) (D : DataW Unit) (C : Nat → Prop) (w : World) (h : Sto w g d p mm P ch D C) (hp : PR w p d n m G) (hr : Real w d s F) (hok : s.ok) (hS : Sent5 w S) (hz : s.read 1 = (0, List.replicate 256 0)) (hg : Gm (n : Int) (halN n : Int)) :
    Calls Tryz.prog 37 #[.pointer (some ⟨g, 0, none⟩)] w fun e w' => e = .returned .nilIface ∧ Below w.heap.size w w' := by
  have HS := hid h
  have HO := hid O
  have HKp := hid (fun w' (hb : Below w.heap.size w w') => O.geo p d n m G w' (O.kept hp (Kept.of_below hb (O.lt hp))))
  have HRd := hid (fun w' (hb : Below w.heap.size w w') => DD.read S d s F 1 w' (hS.on hb) (DD.kept hr (Kept.of_below hb (DD.lt hr))) hok)
  have HZ := hid hz
  have HG := hid hg
  have c0 := h.prs
  have hi0 := fun (a b : Value) (W : World) => Tryz.idxI0 a b W
  clear h O hp DD hr hok hS hz hg
  go_enter Tryz.func37, Tryz.ntmps37
  go_wp2_with fail
  refine (HKp.out _ (Below.refl _ _)).mono ?_
  rintro e w1 ⟨rfl, hb1⟩
  have HB1 := hid hb1
  clear hb1 c0
  go_wp2_with fail
  refine (places_any (n : Int) (halN n : Int) 1 _ HG.out).mono ?_
  rintro e w2 ⟨rfl, hb2⟩
  have HB2 := hid (HB1.out.trans (hb2.mono HB1.out.size))
  clear hb2
  have c2 := (HS.out.below HB2.out).dev
  go_wp2_with fail
  go_loopw [13] (fun iv wx => iv = .int .i64 0 ∧ wx = w2) (fun _ _ => 0)
  case atStart => exact ⟨rfl, rfl⟩
  case round =>
    obtain ⟨rfl, rfl⟩ := hrel
    go_wp2_with fail
    refine (HRd.out _ HB2.out).mono ?_
    rw [HZ.out]
    rintro e w3 ⟨A3, n3, c3, v3, rfl, hv3, hs3, hb3, _⟩
    obtain rfl := hv3.nil
    have HB3 := hid (HB2.out.trans (hb3.mono HB2.out.size))
    have HBl := hid (fun (w' : World) (hb : Below w3.heap.size w3 w') => blank_any A3 n3 c3 (List.replicate 256 0) w' (hs3.on hb) byt_blank)
    clear hb3 hv3 hs3
    go_wp2_with fail
    refine (HBl.out _ (Below.refl _ _)).mono ?_
    rw [zeroB_blank]
    rintro e w4 ⟨rfl, hb4⟩
    have HB4 := hid (HB3.out.trans (hb4.mono HB3.out.size))
    clear hb4
    go_wp2
    go_ret
    exact ⟨rfl, HB4.out⟩
end
end Go.Proofs.YtkhdgacjgccnnaaGreatDoor
