/- Put together out of 5 texts. A keep over a device with faults: Open; a keep's Get. -/
import Derived.Test.YtajcfhhnmjcmjaaGreatDoorGXbm
namespace Go.Proofs.YtajcfhhnmjcmjaaGreatDoor
open Go.RowKit

/-- a value handed out -/
def GetO (w : World) (V : ByteArray) (e : Ending) (w' : World) : Prop := ∃ A k c, e = .returned (.tuple #[.slice A k c, .bool true]) ∧ Sl w' w'.heap.size A k c (str V) ∧ Below w.heap.size w w'
set_option maxRecDepth 100000 in
set_option maxHeartbeats 4000000 in
theorem getX_any (b0 kb : Nat) (s lv : Value) (F : Nat → Prop) (l : List Rec) (A : Option Addr) (n c i : Nat) (kl : List Int) (V : ByteArray) (w : World) (h : KpX w b0 kb s lv F l) (hk : Sl w w.heap.size A n c kl) (hx : l[i]? = some (strOfNums kl, V)) :
    Calls Tryz.prog 15 #[.pointer (some ⟨kb, 0, none⟩), .slice A n c] w (GetO w V) := by
  obtain ⟨v, hbox, hrow, hap⟩ := h.box
  obtain ⟨A3, n3, c3, rfl, hln, hnc, hcm, hnil, hat⟩ := hrow.form
  have HRow := hid hrow
  have HBox := hid hbox
  have HL3 := hid (And.intro hln hnc)
  have HV := hid (h.siz _ (List.mem_of_getElem? hx))
  obtain ⟨K, hKe⟩ : ∃ K, strOfNums kl = K := ⟨_, rfl⟩
  rw [hKe] at hx HV
  have HQ1 := hid (show ∀ W, Below w.heap.size w W → (convert 29 9 (.slice A n c)).run Tryz.prog W = .ok (.string K) W from fun W hb => by rw [← hKe]; exact conv_any (hk.below hb))
  have k0 : w.drew.cell? ⟨kb, 1, none⟩ = some (.slice A3 n3 c3) ∧ (convert 29 9 (.slice A n c)).run Tryz.prog w.drew = .ok (.string K) w.drew := ⟨by rw [Blk.cell hbox.drew]; rfl, HQ1.out _ (Below.refl _ _).drew⟩
  have HFi := hid (kpFind_any (.slice A3 n3 c3) b0 l K w.drew (hrow.on (Below.refl _ _).drew) h.ris (by have := h.len; omega))
  have HLow := hid (show Low l K i from low_at h.ris hx)
  have HAt := hid (show isAt l K i = true from by unfold isAt; rw [hx]; simp [kc_self])
  have hin : i < n3 := by have := (List.getElem?_eq_some_iff.1 hx).1; omega
  have HX := hid hx
  have hi3 : (i : Int) < n3 := by omega
  clear h hk hbox hrow hap hcm hln hnc hx hKe
  cases A3 with
  | none => exact absurd (hnil rfl).1 (by omega)
  | some ad =>
  obtain ⟨g, rfl⟩ := krow_addr HRow.out
  clear hnil hat
  go_enter Tryz.func15, Tryz.ntmps15
  go_upto_region 1 with fail
  go_region_held3 (fun w' => w'.cell? ⟨kb, 1, none⟩ = some (.slice (some ⟨g, 0, none⟩) n3 c3) ∧ (convert 29 9 (.slice A n c)).run Tryz.prog w' = .ok (.string K) w') (first | exact k0 | exact k2) (first | (go_at_call 19; refine HFi.out.mono ?_; rintro e w2 ⟨j, he, hl2, hb2⟩; obtain rfl := HLow.out.eq hl2; have HB2 := hid (show Below w.heap.size w w2 from (Below.refl w.heap.size w).drew.trans hb2); have k2 := And.intro ((Blk.cell (HBox.out.below HB2.out HBox.out.lt) 1).trans (rfl : _ = some (Value.slice (some ⟨g, 0, none⟩) n3 c3))) (HQ1.out w2 HB2.out); rw [HAt.out] at he; subst he; clear hl2 hb2))
  have c1 := k2.1
  obtain ⟨d0, d1, _, _⟩ := (HRow.out.on HB2.out).cells HX.out
  clear k0 k2
  have HC := conv_str w2 V (by have h1 : V.size ≤ 120 := HV.out.2; omega)
  obtain ⟨C, W3, hq, hs3, hb3, _⟩ := HC
  have HF := hid (show GetO w V (.returned (.tuple #[.slice (some ⟨w2.heap.size, 0, none⟩) V.size C, .bool true])) W3 from ⟨_, _, _, rfl, hs3.sl, HB2.out.trans (hb3.mono HB2.out.size)⟩)
  clear hs3 hb3
  go_wp2
  go_ret2
  exact HF.out
section
variable {Real : World → Nat → DSt → (Nat → Prop) → Prop} {PR : World → Nat → Nat → Nat → Nat → (Nat → Prop) → Prop} {S : Nat → Addr} {w0 w w' : World} {d g n q mk Q M : Nat} {T : Nat → Prop} {s s' : DSt} {P : PS} {ch : Chg} {cont : Cont} {c : Nat → List Int} {done : Nat → Bool} {K : (Nat → Bool) → Prop}
/-- a keep taken up -/
def KpO (w0 w : World) (l : List Rec) (e : Ending) (w' : World) : Prop := ∃ kb s lv F, e = .returned (.tuple #[.pointer (some ⟨kb, 0, none⟩), .nilIface]) ∧ KpX w' w.heap.size kb s lv F l ∧ Below w0.heap.size w0 w'
set_option maxRecDepth 100000 in
set_option maxHeartbeats 4000000 in
theorem kpOpen_one (D : DevOk Real) (O : PairOk Real PR) (h : FSt Real PR S w0 d g n Q M P cont K T w) (hQ : Q ≤ 800000) (hM : M ≤ 900) (hK : ∀ dn f, K dn → K (setD dn f false)) (l : List Rec) (hc : cont 0 = some (laidR l)) (hp : natsI (pagesTo P noChg 256) = [0]) (aR aE aS : Addr) (hE : Errs w0 aR aE aS) (hs : ∀ x, x ∈ l → 1 ≤ x.1.size ∧ x.1.size ≤ 40 ∧ x.2.size ≤ 120) (hr : Ris l) (h248 : (laidR l).length ≤ 248) (hn : l.length ≤ 10000) (hl : l ≠ []) :
    Calls Tryz.prog 28 #[.pointer (some ⟨g, 0, none⟩)] w (KpO w0 w l) := by
  have HAb := hid (fst_abort D O h)
  have HLv := hid (fun (W : World) (T1 : Nat → Prop) (h1 : FSt Real PR S w0 d g n Q M P cont K T1 W) => leavesOf_one D O h1 hQ hM hK l hc hp aR aE aS hE hs hr h248 hn hl)
  have HL := hid (And.intro hs (And.intro hr hn))
  clear D O h hK hc hp hE hs hr h248 hl
  go_enter Tryz.func28, Tryz.ntmps28
  go_wp2_with fail
  refine HAb.out.mono ?_
  rintro e w1 ⟨rfl, T1, h1, ho1, _⟩
  have H1 := hid h1
  have HO1 := hid ho1.size
  clear h1 ho1
  go_wp2_with fail
  refine (HLv.out w1 T1 H1.out).mono ?_
  rintro e w2 ⟨v, T2, B, rfl, hB, hlo, hf2, _, ho2, _⟩
  obtain ⟨g2, cap, r, n', c', rfl, hf1, _⟩ := hlo.one
  have HLf := hid hf1
  have HO2 := hid ho2.size
  have HB0 := hid (fst_below hf2)
  clear hlo hf1 ho2 hf2
  have e1 : recsOf [((0 : Int), l)] = l := by unfold recsOf; simp
  have HRc := hid (recordsOf_any _ 1 cap [(0, l)] w2 HLf.out.lsl (by omega) (by rw [e1]; exact hn))
  rw [e1] at HRc
  go_wp2_with fail
  refine HRc.out.mono ?_
  rintro e w3 ⟨v3, rfl, hr3, hb3⟩
  obtain ⟨W, hW⟩ : ∃ W, w3.alloc (.cells #[.pointer (some ⟨g, 0, none⟩), v3, .slice (some ⟨g2, 0, none⟩) 1 cap] 59) = W := ⟨_, rfl⟩
  have z1 : Below w3.heap.size w3 W := by rw [← hW]; exact (Below.refl _ _).alloc (Nat.le_refl _) _
  have z2 : Blk W w3.heap.size 59 #[.pointer (some ⟨g, 0, none⟩), v3, .slice (some ⟨g2, 0, none⟩) 1 cap] := by rw [← hW]; exact Blk.new w3 _ _
  have hz := hb3.size
  have hw2 : w.heap.size ≤ w2.heap.size := Nat.le_trans HO1.out HO2.out
  have HF := hid (show KpX W w.heap.size w3.heap.size (.pointer (some ⟨g, 0, none⟩)) (.slice (some ⟨g2, 0, none⟩) 1 cap) (fun k => k = w3.heap.size ∨ v3.ownBlock = some k) l ∧ Below w0.heap.size w0 W from ⟨
    { box := ⟨v3, z2, (hr3.on z1).base hw2, fun k hk => ⟨by have := (hr3.lt k hk).2; omega, .inr hk⟩⟩
      own := .inl rfl
      lt := fun k hk => by
        rcases hk with rfl | hk
        · exact z2.lt
        · have h1 := (hr3.lt k hk).2; have h2 := z1.size; omega
      lo := fun k hk => by
        rcases hk with rfl | hk
        · omega
        · have := (hr3.lt k hk).1; omega
      ris := HL.out.2.1
      siz := fun x hx => by have := HL.out.1 x hx; omega
      len := HL.out.2.2 }, HB0.out.trans ((hb3.trans (z1.mono hb3.size)).mono HB0.out.size)⟩)
  obtain ⟨A3, n3, c3, rfl, _⟩ := hr3.form
  clear hr3 hb3 z1 z2 hz hw2
  go_wp2
  go_ret2
  first
    | exact ⟨_, _, _, _, rfl, HF.out⟩
    | (rw [hW]; exact ⟨_, _, _, _, rfl, HF.out⟩)
end
end Go.Proofs.YtajcfhhnmjcmjaaGreatDoor
namespace Go.Proofs.YtajcfhhnmjcmjaaGreatDoor
open Go.RowKit Go.Maps

/-- one of both blocks that tell a new device is blank and reads so; the other one, too, or it doesn't read so -/
def NewRd (s : DSt) (H : Nat) : Prop := s.read 1 = (0, List.replicate 256 0) ∨ (((s.read 1).1 ≠ 0 ∨ ((s.read 1).1 = 0 ∧ zeroB (s.read 1).2 = false ∧ Byt (s.read 1).2)) ∧ s.read (prt (H : Int) 1) = (0, List.replicate 256 0))
section
variable {P : PS} {ch : Chg} {Real : World → Nat → DSt → (Nat → Prop) → Prop} {PR : World → Nat → Nat → Nat → Nat → (Nat → Prop) → Prop}
set_option maxRecDepth 100000 in
set_option maxHeartbeats 4000000 in
theorem checkNew2_any (DD : DevOk Real) (O : PairOk Real PR) (S : Nat → Addr) (g d p mm n m : Nat) (s : DSt) (F G : Nat → Prop) (D : DataW Unit) (C : Nat → Prop) (w : World) (h : Sto w g d p mm P ch D C) (hp : PR w p d n m G) (hr : Real w d s F) (hok : s.ok) (hS : Sent5 w S) (hz : (s.read 1).1 ≠ 0 ∨ ((s.read 1).1 = 0 ∧ zeroB (s.read 1).2 = false ∧ Byt (s.read 1).2)) (hz2 : s.read (prt (halN n : Int) 1) = (0, List.replicate 256 0)) (hg : Gm (n : Int) (halN n : Int)) :
    Calls Tryz.prog 45 #[.pointer (some ⟨g, 0, none⟩)] w fun e w' => e = .returned .nilIface ∧ Below w.heap.size w w' := by
  have HS := hid h
  have HO := hid O
  have HKp := hid (fun w' (hb : Below w.heap.size w w') => O.geo p d n m G w' (O.kept hp (Kept.of_below hb (O.lt hp))))
  have HRd := hid (fun w' (hb : Below w.heap.size w w') => DD.read S d s F 1 w' (hS.on hb) (DD.kept hr (Kept.of_below hb (DD.lt hr))) hok)
  have HRd2 := hid (fun w' (hb : Below w.heap.size w w') => DD.read S d s F (prt (halN n : Int) 1) w' (hS.on hb) (DD.kept hr (Kept.of_below hb (DD.lt hr))) hok)
  have HZ := hid hz
  have HZ2 := hid hz2
  have HG := hid hg
  have c0 := h.prs
  have hi0 := fun (a b : Value) (W : World) => Tryz.idxI0 a b W
  have hi1 := fun (a b : Value) (W : World) => Tryz.idxI1 a b W
  obtain ⟨pt, hpt⟩ : ∃ pt, prt (halN n : Int) 1 = pt := ⟨_, rfl⟩
  rw [hpt] at HRd2 HZ2
  have HPt := hid hpt
  clear h O hp DD hr hok hS hz hz2 hg hpt
  go_enter Tryz.func45, Tryz.ntmps45
  go_wp2_with fail
  refine (HKp.out _ (Below.refl _ _)).mono ?_
  rintro e w1 ⟨rfl, hb1⟩
  have HB1 := hid hb1
  clear hb1 c0
  go_wp2_with fail
  refine (places_any (n : Int) (halN n : Int) 1 _ HG.out).mono ?_
  rintro e w2 ⟨rfl, hb2⟩
  have HB2 := hid (HB1.out.trans (hb2.mono HB1.out.size))
  rw [HPt.out]
  clear hb2
  go_wp2_with fail
  go_loopw [13] (fun iv wx => (iv = .int .i64 0 ∧ wx = w2) ∨ (iv = .int .i64 1 ∧ Below w.heap.size w wx)) (fun iv _ => 2 - (intOf iv).toNat)
  case atStart => exact .inl ⟨rfl, rfl⟩
  case round =>
    rcases hrel with ⟨rfl, rfl⟩ | ⟨rfl, hbx⟩
    · have c2 := (HS.out.below HB2.out).dev
      go_wp2_with fail
      refine (HRd.out _ HB2.out).mono ?_
      rintro e w3 ⟨A3, n3, c3, v3, rfl, hv3, hs3, hb3, _⟩
      have HB3 := hid (HB2.out.trans (hb3.mono HB2.out.size))
      rcases HZ.out with h1 | ⟨h1, h2, h3⟩
      · obtain ⟨j, rfl⟩ := hv3.is h1
        clear hb3 hv3 hs3 h1 c2
        go_wp2
        go_roundw
        case rel => exact .inr ⟨rfl, HB3.out⟩
        case measure => simp [intOf]
      · rw [h1] at hv3
        obtain rfl := hv3.nil
        have HBl := hid (blank_any A3 n3 c3 _ w3 hs3 h3)
        rw [h2] at HBl
        clear hb3 hv3 hs3 h1 h2 h3 c2
        go_wp2_with fail
        refine HBl.out.mono ?_
        rintro e w4 ⟨rfl, hb4⟩
        have HB4 := hid (HB3.out.trans (hb4.mono HB3.out.size))
        clear hb4
        go_wp2
        go_roundw
        case rel => exact .inr ⟨rfl, HB4.out⟩
        case measure => simp [intOf]
    · have HB2 := hid hbx
      clear hbx
      have c2 := (HS.out.below HB2.out).dev
      go_wp2_with fail
      refine (HRd2.out _ HB2.out).mono ?_
      rw [HZ2.out]
      rintro e w3 ⟨A3, n3, c3, v3, rfl, hv3, hs3, hb3, _⟩
      obtain rfl := hv3.nil
      have HB3 := hid (HB2.out.trans (hb3.mono HB2.out.size))
      have HBl := hid (fun (w' : World) (hb : Below w3.heap.size w3 w') => blank_any A3 n3 c3 (List.replicate 256 0) w' (hs3.on hb) byt_blank)
      clear hb3 hv3 hs3
      go_wp2_with fail
      refine (HBl.out _ (Below.refl _ _)).mono ?_
      rw [zeroB_blank]
      rintro e w4 ⟨rfl, hb4⟩
      have HB4 := hid (HB3.out.trans (hb4.mono HB3.out.size))
      clear hb4
      go_wp2
      go_ret
      exact ⟨rfl, HB4.out⟩
theorem checkNewE_any (DD : DevOk Real) (O : PairOk Real PR) (S : Nat → Addr) (g d p mm n m : Nat) (s : DSt) (F G : Nat → Prop) (D : DataW Unit) (C : Nat → Prop) (w : World) (h : Sto w g d p mm P ch D C) (hp : PR w p d n m G) (hr : Real w d s F) (hok : s.ok) (hS : Sent5 w S) (hz : NewRd s (halN n)) (hg : Gm (n : Int) (halN n : Int)) :
    Calls Tryz.prog 45 #[.pointer (some ⟨g, 0, none⟩)] w fun e w' => e = .returned .nilIface ∧ Below w.heap.size w w' := by
  rcases hz with hz | ⟨h1, h2⟩
  · exact checkNew_any DD O S g d p mm n m s F G D C w h hp hr hok hS hz hg
  · exact checkNew2_any DD O S g d p mm n m s F G D C w h hp hr hok hS h1 h2 hg
set_option maxRecDepth 100000 in
set_option maxHeartbeats 8000000 in
theorem openNewF_any (DD : DevOk Real) (O : PairOk Real PR) (S : Nat → Addr) (w0 w : World) (d n q : Nat) (F : Nat → Prop) (s : DSt) (hS : Sent6 w0 S) (hb0 : Below w0.heap.size w0 w) (hr : Real w d s F) (hFn : ∀ k, F k → w0.heap.size ≤ k) (hu : Up s n q) (hq : q ≤ 700000) (n0 : 300 ≤ n) (n1 : n ≤ 6000) (hnw0 : (s.newest (halN n)).epoch = 0) (hzz : NewRd s (halN n)) :
    Calls Tryz.prog 27 #[.pointer (some ⟨d, 0, none⟩)] w (OpenR Real PR S w0 w d s n q (noPS 0) F) := by
  have hmm := @run_makeMap Tryz.prog
  have hok := hu.ok (by omega)
  have HOp := hid (O.open_ S d s F w ((Sent6.five hS).on hb0) hr hok (by rw [hu.len]; exact n0))
  have HLd := hid (fun (w' : World) (hb : Below w.heap.size w w') => load_any DD S d n s F w' (hS.on (hb0.trans (hb.mono hb0.size))) (DD.kept hr (Kept.of_below hb (DD.lt hr))) ⟨hu.down, hu.len, hok⟩ n0)
  have hnw := hnw0
  have HZr := hid hzz
  obtain ⟨R, hR⟩ : ∃ R, s.newest (halN n) = R := ⟨_, rfl⟩
  rw [hR] at HLd hnw
  have HNw := hid hnw
  have HSn := hid hS
  have HB0 := hid hb0
  have HR := hid hr
  have HFw := hid hFn
  have HU := hid hu
  have HD := hid DD
  have HO := hid O
  clear hS hb0 hr hFn hu hnw0 hzz DD O hnw hR
  go_enter Tryz.func27, Tryz.ntmps27
  go_wp2_with fail
  refine HOp.out.mono ?_
  rintro e w1 ⟨p, G, rfl, hp, hb1, hG⟩
  rw [HU.out.len] at hp
  have HP1 := hid hp
  have HB1 := hid hb1
  have HGw := hid hG
  clear hp hb1 hG
  go_wp2_with fail
  refine (HLd.out _ HB1.out).mono ?_
  rintro e w2 ⟨o, rfl, ho, hb2, hoA⟩
  obtain ⟨oe, oA, on, oc⟩ := o
  obtain ⟨h1, h2⟩ := ho
  simp only at h1 h2
  have h3 : oe = 0 := h1.trans HNw.out
  subst h3
  have HB2 := hid (HB1.out.trans (hb2.mono HB1.out.size))
  have HB12 := hid hb2
  have hdec : decide (0 < R.epoch) = false := by rw [HNw.out]; decide
  rw [hdec]
  clear h1 h2 hb2 hoA hdec
  dsimp only [RV.v]
  go_upto_region 7 with fail
  obtain ⟨W3, hW3⟩ : ∃ W3, w2.alloc (.cells #[.int .i64 0, .slice oA on oc] 93) = W3 := ⟨_, rfl⟩
  have z1 : Below w2.heap.size w2 W3 := by rw [← hW3]; exact (Below.refl _ _).alloc (Nat.le_refl _) _
  have z2 : Blk W3 w2.heap.size 93 #[.int .i64 0, .slice oA on oc] := by rw [← hW3]; exact Blk.new w2 _ _
  have HZ1 := hid z1
  have HZ2 := hid z2
  rw [hW3]
  clear hW3 z1 z2
  go_upto_region 10 with (refine wpList_built3 rfl 104 0 1 3 (.tmp 26) (.tmp 27) (.tmp 28) rfl (.pointer (some ⟨d, 0, none⟩)) (.pointer (some ⟨p, 0, none⟩)) (.map (some W3.heap.size)) rfl rfl rfl _ (Tryz.built_store d p W3.heap.size) ?_)
  obtain ⟨W5, hW5⟩ : ∃ W5, (W3.alloc (.map #[] 0)).alloc (.cells (Value.pointer (some ⟨d, 0, none⟩) :: Value.pointer (some ⟨p, 0, none⟩) :: (stL (noPS 0) ++ [Value.map (some W3.heap.size)])).toArray 104) = W5 := ⟨_, rfl⟩
  have y1 : (W3.alloc (.map #[] 0)).heap.size = W3.heap.size + 1 := by simp
  have y2 : Below W3.heap.size W3 W5 := by rw [← hW5]; exact ((Below.refl _ _).alloc (Nat.le_refl _) _).alloc (by rw [y1]; omega) _
  have y3 : W5.heap[W3.heap.size]? = some (.map #[] 0) := by rw [← hW5]; exact heap_alloc2_old W3 _ _
  have y4 : HoldsP W5 (W3.heap.size + 1) 104 [.pointer (some ⟨d, 0, none⟩), .pointer (some ⟨p, 0, none⟩)] (noPS 0) [.map (some W3.heap.size)] := by
    rw [← hW5]; exact heap_alloc2_new W3 _ _
  have HY1 := hid y2
  have hb5 : Below w.heap.size w W5 := HB2.out.trans ((HZ1.out.trans (y2.mono HZ1.out.size)).mono HB2.out.size)
  have HB5 := hid hb5
  obtain ⟨mm, hmm2⟩ : ∃ mm, W3.heap.size = mm := ⟨_, rfl⟩
  rw [hW5]
  rw [hmm2] at y3 y4
  rw [hmm2]
  have HMm := hid hmm2
  have hzm : w.heap.size ≤ mm := by have := HB2.out.size; have := HZ1.out.size; omega
  have hsto : Sto W5 (mm + 1) d p mm (noPS 0) noChg (.map []) (fun _ => False) := ⟨y4, chd_made mm y3, noPS_len 0, by omega, id⟩
  have hb25 := HZ1.out.trans (y2.mono HZ1.out.size)
  have hb15 : Below w1.heap.size w1 W5 := HB12.out.trans (hb25.mono HB12.out.size)
  have hpd : Pd Real PR S w0 W5 d p s n 0 q F G := ⟨HD.out.kept HR.out (Kept.of_below hb5 (HD.out.lt HR.out)), HO.out.kept HP1.out (Kept.of_below hb15 (HO.out.lt HP1.out)), HB0.out.trans (hb5.mono HB0.out.size), HSn.out.five, HFw.out, fun k hk => by have := HGw.out k hk; have := HB0.out.size; omega, fun k hk hg => by have := HD.out.lt HR.out k hk; have := HGw.out k hg; omega, HU.out, by omega, n0, n1⟩
  have hGl : ∀ k, G k → k < w1.heap.size := HO.out.lt HP1.out
  have hz1 : w1.heap.size ≤ mm := by have := HB12.out.size; have := HZ1.out.size; have := HMm.out; omega
  have hoff : ∀ k, mm ≤ k → ¬ (F k ∨ G k) := fun k hk h => by
    rcases h with h | h
    · have := HD.out.lt HR.out k h; omega
    · have := hGl k h; omega
  have HTk := hid (checkNewE_any HD.out HO.out S (mm + 1) d p mm n 0 s F G (.map []) (fun _ => False) W5 hsto hpd.pr hpd.real hok hpd.sent HZr.out (halN_gm n0 n1))
  have HFn2 := hid (And.intro hzm (And.intro HGw.out (And.intro HB5.out (And.intro hoff y4.lt))))
  have HPd5 := hid hpd
  have HSt5 := hid hsto
  clear y1 y2 y3 y4 hW5 hb5 hb25 hb15 hpd hGl hz1 hoff hsto hmm2 hzm hok
  go_wp2_with fail
  refine HTk.out.mono ?_
  rintro e w6 ⟨rfl, hb6⟩
  have HF := hid (show OpenR Real PR S w0 w d s n q (noPS 0) F (.returned (.tuple #[.pointer (some ⟨mm + 1, 0, none⟩), .nilIface])) w6 from by
    obtain ⟨hzm, hgw, hb5, hoff, hlt⟩ := HFn2.out
    exact ⟨mm + 1, p, mm, 0, F, G, rfl, HPd5.out.on HD.out HO.out hb6, by omega, HSt5.out.below hb6, hoff _ (by omega), hoff _ (Nat.le_refl _), by omega, hzm, (Only.of_below hb5).then_below hb6, fun k hk => .inl hk, fun k hk => .inr (hgw k hk)⟩)
  clear hb6
  go_wp2
  go_ret2
  exact HF.out
end
end Go.Proofs.YtajcfhhnmjcmjaaGreatDoor
namespace Go.Proofs.YtajcfhhnmjcmjaaGreatDoor
open Go.RowKit Go.Maps

section
variable {s s' : DSt} {n q a i f : Nat} {P : PS} {cont : Cont} {c : Nat → List Int} {done : Nat → Bool} {l m : List Int} {d : Bool}
/-- what isn't faulted reads right -/
theorem Blkd.calm (h : Blkd s a l) (u : Up s n q) (ha : a < n) (hf : s.faulted (a : Int) = false) : Rt s a l := by
  rcases h.reads with h1 | ⟨b, h1, h2, _⟩
  · exact h1
  · exfalso
    unfold DSt.faulted at hf
    rw [u.inB ha, Int.toNat_natCast, h1] at hf
    simp [h2] at hf
theorem Pr.calm (h : Pr s (halN n) f l m d) (u : Up s n q) (hf : f + halN n < n) (h1 : s.faulted (f : Int) = false) (h2 : s.faulted ((f + halN n : Nat) : Int) = false) : Pr s (halN n) f l m false :=
  ⟨h.a, h.b, h.or, fun _ => ⟨h.a.calm u (by omega) h1, h.b.calm u hf h2⟩⟩
theorem Fau.calm (h : Fau s n q P cont c done) (n0 : 300 ≤ n) (hf : f < halN n) (h1 : s.faulted (f : Int) = false) (h2 : s.faulted ((f + halN n : Nat) : Int) = false) : Fau s n q P cont c (setD done f false) := by
  have hh := half_four n0
  refine h.others hh.1 h.up f hf (fun _ _ _ => rfl) (fun j hj => if_neg hj) (fun _ _ _ => rfl) (fun x l hx he hp => ?_) (fun h3 => ⟨?_, fun b hb' => h.ok f b h3 hb'⟩)
  · rw [show setD done f false f = false from if_pos rfl]
    exact hp.calm h.up (by omega) h1 h2
  · rw [show setD done f false f = false from if_pos rfl]
    exact (h.root f h3).calm h.up (by omega) h1 h2
/-- a new device, one side of some pairs faulted -/
structure NF (s : DSt) (n : Nat) (done : Nat → Bool) : Prop where
  up : Up s n 0
  prs : ∀ i, i < halN n → Pr s (halN n) i (zerosL 256) (zerosL 256) (done i)
theorem NF.start (h0 : 300 ≤ n) (h1 : n ≤ 6000) : NF (DSt.new n) n (fun _ => false) := by
  have hh := half_four h0
  have hr : ∀ a, a < n → Rt (DSt.new n) a (zerosL 256) := fun a ha => ⟨blank, new_at ha, .sound rfl rfl rfl rfl, rfl⟩
  exact ⟨up_new h1, fun i hi => ⟨(hr i (by omega)).blkd, (hr _ (by omega)).blkd, .inl (hr i (by omega)), fun _ => ⟨hr i (by omega), hr _ (by omega)⟩⟩⟩
theorem NF.hit (h : NF s n done) (n0 : 300 ≤ n) (hf : f < halN n) (ha : a = f ∨ a = f + halN n) (h1 : s.faulted (f : Int) = false) (h2 : s.faulted ((f + halN n : Nat) : Int) = false) (up' : Up s' n 0) (hs : ∀ j, j ≠ a → s'.blks[j]? = s.blks[j]?) (hb : ∀ l, Blkd s a l → Blkd s' a l) : NF s' n (setD done f true) := by
  have hh := half_four n0
  refine ⟨up', fun j hj => ?_⟩
  have hp := h.prs j hj
  by_cases e : j = f
  · subst e
    rw [show setD done j true j = true from if_pos rfl]
    have hp2 := hp.calm h.up (by omega) h1 h2
    rcases ha with rfl | rfl
    · exact hp2.hit1 (hb _ hp.a) (hs _ (by omega))
    · exact hp2.hit2 (hs _ (by omega)) (hb _ hp.b)
  · rw [show setD done f true j = done j from if_neg e]
    exact hp.same (hs j (by rcases ha with rfl | rfl <;> omega)) (hs _ (by rcases ha with rfl | rfl <;> omega))
theorem NF.root (h : NF s n done) (n0 : 300 ≤ n) (ha : a = 0 ∨ a = halN n ∨ a = 1 ∨ a = 1 + halN n) : s.root a = none := by
  have hh := half_four n0
  have hb : Blkd s a (zerosL 256) := by
    rcases ha with rfl | rfl | rfl | rfl
    · exact (h.prs 0 (by omega)).a
    · have := (h.prs 0 (by omega)).b
      rwa [Nat.zero_add] at this
    · exact (h.prs 1 (by omega)).a
    · exact (h.prs 1 (by omega)).b
  have han : a < n := by omega
  rcases hb.root h.up han twice_zeros with h1 | h1
  · rw [h1.root h.up han]; exact readR_zeros'
  · exact h1
theorem NF.newest (h : NF s n done) (n0 : 300 ≤ n) : (s.newest (halN n)).epoch = 0 := by
  unfold DSt.newest
  rw [h.root n0 (.inl rfl), h.root n0 (.inr (.inl rfl)), h.root n0 (.inr (.inr (.inl rfl))), h.root n0 (.inr (.inr (.inr rfl)))]
  rfl
theorem NF.rd (h : NF s n done) (n0 : 300 ≤ n) : NewRd s (halN n) := by
  have hh := half_four n0
  have hp := h.prs 1 (by omega)
  have e1 : prt (halN n : Int) 1 = ((1 + halN n : Nat) : Int) := by
    unfold prt
    rw [if_pos (by omega)]
    omega
  rcases hp.a.reads with h1 | ⟨b, h1, _, _, h2⟩
  · exact .inl (h1.read h.up (by omega))
  · have hr := h.up.read (i := 1) (by omega) h1
    rcases h2 with h2 | ⟨at', bits, k0, k1, k2, k3, h2⟩
    · have hb : Rt s (1 + halN n) (zerosL 256) := by
        rcases hp.or with h3 | h3
        · have := h3.read h.up (by omega)
          rw [hr, h2] at this
          cases this
        · exact h3
      refine .inr ⟨.inl ?_, by rw [e1]; exact hb.read h.up (by omega)⟩
      have hr' : s.read 1 = b.read := hr
      rw [hr', h2]
      decide
    · have hne := (turned_other twice_zeros.byt twice_zeros.len k0 k1 k2 k3).1
      have hb : Rt s (1 + halN n) (zerosL 256) := by
        rcases hp.or with h3 | h3
        · have := h3.read h.up (by omega)
          rw [hr, h2] at this
          injection this with _ this
          exact absurd this hne
        · exact h3
      have hr' : s.read 1 = b.read := hr
      refine .inr ⟨.inr ?_, by rw [e1]; exact hb.read h.up (by omega)⟩
      rw [hr', h2]
      refine ⟨rfl, ?_, turned_byt twice_zeros.byt _ _⟩
      show zeroB (turned (zerosL 256) at' bits) = false
      rcases hz : zeroB (turned (zerosL 256) at' bits) with _ | _
      · rfl
      · refine absurd (zeroB_eq hz ?_) hne
        have e2 : ∀ (l : List Int) (b : Nat), (turned l at' b).length = l.length := fun l b => by
          unfold turned
          split
          · rfl
          · exact turns_len _ _ _ _
        rw [e2]
        exact twice_zeros.len
end
/-- what goes on where one side of a pair is faulted that was not -/
structure FltZ (n q : Nat) (Z : DSt → Prop) : Prop where
  up : ∀ s, Z s → Up s n q
  fail : ∀ s f a, Z s → f < halN n → (a = f ∨ a = f + halN n) → s.faulted (f : Int) = false → s.faulted ((f + halN n : Nat) : Int) = false → Z (s.fail (a : Int)).2
  spoil : ∀ s f a at' bits, Z s → f < halN n → (a = f ∨ a = f + halN n) → s.faulted (f : Int) = false → s.faulted ((f + halN n : Nat) : Int) = false → bits < 4294967296 → Z (s.spoil (a : Int) at' bits).2
theorem fltZ_old {n q : Nat} (n0 : 300 ≤ n) (P : PS) (cont : Cont) : FltZ n q (fun s => ∃ c done, Fau s n q P cont c done) where
  up := fun _ ⟨_, _, h⟩ => h.up
  fail := fun _ _ _ ⟨c, _, h⟩ hf ha h1 h2 => ⟨c, _, (h.calm n0 hf h1 h2).fail (half_four n0).1 hf ha (if_pos rfl)⟩
  spoil := fun _ _ _ _ _ ⟨c, _, h⟩ hf ha h1 h2 hb => ⟨c, _, (h.calm n0 hf h1 h2).spoil (half_four n0).1 hf ha (if_pos rfl) hb⟩
theorem fltZ_new {n : Nat} (n0 : 300 ≤ n) : FltZ n 0 (fun s => ∃ done, NF s n done) where
  up := fun _ ⟨_, h⟩ => h.up
  fail := fun _ _ _ ⟨_, h⟩ hf ha h1 h2 => ⟨_, h.hit n0 hf ha h1 h2 (h.up.fail _) (fun _ hj => fail_else (fun e => hj e.symm)) (fun _ hb => hb.fail)⟩
  spoil := fun _ _ _ at' bits ⟨_, h⟩ hf ha h1 h2 hb => ⟨_, h.hit n0 hf ha h1 h2 (h.up.spoil _ _ _) (fun _ hj => spoil_else (fun e => hj e.symm) at' bits) (fun _ hbk => hbk.spoil hb)⟩
end Go.Proofs.YtajcfhhnmjcmjaaGreatDoor
namespace Go.Proofs.YtajcfhhnmjcmjaaGreatDoor
open Go.RowKit

section
variable {Real : World → Nat → DSt → (Nat → Prop) → Prop} {PR : World → Nat → Nat → Nat → Nat → (Nat → Prop) → Prop} {S : Nat → Addr} {w0 w w' : World} {d g n q mk Q M : Nat} {T : Nat → Prop} {s s' : DSt} {P : PS} {ch : Chg} {cont : Cont} {c : Nat → List Int} {done : Nat → Bool} {K : (Nat → Bool) → Prop}
set_option maxRecDepth 100000 in
set_option maxHeartbeats 4000000 in
theorem leavesOf_newF (w : World) (h : Shop Real PR S w0 w d g n q mk T s (noPS 0) noChg) (hk : Fine (halN n) (noPS 0) (fun _ => none)) :
    Calls Tryz.prog 46 #[.pointer (some ⟨g, 0, none⟩)] w fun e w' => e = .returned (.tuple #[.slice none 0 0, .nilIface]) ∧ Below w.heap.size w w' := by
  have HPg := hid (sh_pages h)
  have HNo := hid (pages_none hk (ch := noChg) (fun i => by rw [noChg_cont]))
  clear h hk
  go_enter Tryz.func46, Tryz.ntmps46
  go_wp2_with fail
  refine HPg.out.mono ?_
  rw [HNo.out]
  rintro e w1 ⟨v, rfl, hown, hb⟩
  obtain ⟨A, c, rfl, _⟩ := hown.form
  have HB := hid hb
  clear hown hb
  have h0 : (natsI []).length = 0 := rfl
  rw [h0]
  go_wp2
  go_loopw [5, 19] (fun a b wr => a = .slice none 0 0 ∧ b = .int .i64 0 ∧ wr = w1) (fun _ _ _ => 0)
  case atStart => exact ⟨rfl, rfl, rfl⟩
  case round =>
    obtain ⟨rfl, rfl, rfl⟩ := hrel
    go_wp2
    go_loopw [10, 39] (fun a b wx => a = .slice none 0 0 ∧ b = .int .i64 0 ∧ wx = wr) (fun _ _ _ => 0)
    case atStart => exact ⟨rfl, rfl, rfl⟩
    case round =>
      obtain ⟨rfl, rfl, rfl⟩ := hrel
      go_wp2_with fail
      refine (sortFunc_0 _).mono ?_
      rintro e w2 ⟨rfl, rfl⟩
      go_wp2_with fail
      refine (recordsOf_0 _).mono ?_
      rintro e w3 ⟨rfl, rfl⟩
      go_wp2_with fail
      refine (rising_0 _).mono ?_
      rintro e w4 ⟨rfl, rfl⟩
      go_wp2
      go_ret2
      exact ⟨rfl, HB.out⟩
set_option maxRecDepth 100000 in
set_option maxHeartbeats 4000000 in
theorem kpXOpen_newF (D : DevOk Real) (O : PairOk Real PR) (w : World) (h : Shop Real PR S w0 w d g n q mk T s (noPS 0) noChg) (hk : Fine (halN n) (noPS 0) (fun _ => none)) :
    Calls Tryz.prog 28 #[.pointer (some ⟨g, 0, none⟩)] w fun e w' => ∃ kb T', e = .returned (.tuple #[.pointer (some ⟨kb, 0, none⟩), .nilIface]) ∧ KpX w' w.heap.size kb (.pointer (some ⟨g, 0, none⟩)) (.slice none 0 0) (fun k => k = kb) [] ∧ Shop Real PR S w0 w' d g n q mk T' s (noPS 0) noChg ∧ ¬ T' kb ∧ Only T w w' := by
  have HAb := hid (sh_abort D O h)
  have HD := hid D
  have HO := hid O
  have HK := hid hk
  clear D O h hk
  go_enter Tryz.func28, Tryz.ntmps28
  go_wp2_with fail
  refine HAb.out.mono ?_
  rintro e w1 ⟨rfl, T1, hsh, ho, ht⟩
  have HSh1 := hid hsh
  have HOn1 := hid ho
  clear hsh ho ht
  go_wp2_with fail
  refine (leavesOf_newF w1 HSh1.out HK.out).mono ?_
  rintro e w2 ⟨rfl, hb⟩
  have HSh2 := hid (HSh1.out.on HD.out HO.out hb)
  have HOn2 := hid (HOn1.out.then_below hb)
  clear hb
  go_wp2_with fail
  refine (recordsOf_0 _).mono ?_
  rintro e w3 ⟨rfl, rfl⟩
  obtain ⟨W, hW⟩ : ∃ W, w3.alloc (.cells #[.pointer (some ⟨g, 0, none⟩), .slice none 0 0, .slice none 0 0] 59) = W := ⟨_, rfl⟩
  have z1 : Below w3.heap.size w3 W := by rw [← hW]; exact (Below.refl _ _).alloc (Nat.le_refl _) _
  have z2 : Blk W w3.heap.size 59 #[.pointer (some ⟨g, 0, none⟩), .slice none 0 0, .slice none 0 0] := by rw [← hW]; exact Blk.new w3 _ _
  have HF := hid (show KpX W w.heap.size w3.heap.size (.pointer (some ⟨g, 0, none⟩)) (.slice none 0 0) (fun k => k = w3.heap.size) [] ∧ Shop Real PR S w0 W d g n q mk T1 s (noPS 0) noChg ∧ ¬ T1 w3.heap.size ∧ Only T w W from ⟨kpX_new z2 HOn2.out.size, HSh2.out.on HD.out HO.out z1, fun hk => Nat.lt_irrefl _ (HSh2.out.lt HD.out HO.out _ hk), HOn2.out.then_below z1⟩)
  clear z1 z2
  go_wp2
  go_ret2
  first
    | exact ⟨_, _, rfl, HF.out⟩
    | (rw [hW]; exact ⟨_, _, rfl, HF.out⟩)
/-- a keep opened anew -/
def ReO (w0 : World) (l : List Rec) (e : Ending) (w' : World) : Prop := ∃ kb s lv F b0, e = .returned (.pointer (some ⟨kb, 0, none⟩)) ∧ KpX w' b0 kb s lv F l ∧ Below w0.heap.size w0 w'
set_option maxRecDepth 100000 in
set_option maxHeartbeats 1000000 in
theorem reopened_gen (l : List Rec) (X : World → Nat → Prop) (hop : Calls Tryz.prog 27 #[.pointer (some ⟨d, 0, none⟩)] w fun e w' => ∃ g', e = .returned (.tuple #[.pointer (some ⟨g', 0, none⟩), .nilIface]) ∧ X w' g') (hkp : ∀ w g, X w g → Calls Tryz.prog 28 #[.pointer (some ⟨g, 0, none⟩)] w (KpO w0 w l)) :
    Calls Tryz.prog 10 #[.pointer (some ⟨d, 0, none⟩)] w (ReO w0 l) := by
  have HOp := hid hop
  have HKp := hid hkp
  clear hop hkp
  go_enter Tryz.func10, Tryz.ntmps10
  go_wp2_with fail
  refine HOp.out.mono ?_
  rintro e w1 ⟨g, rfl, hx⟩
  have HX := hid hx
  clear hx
  go_wp2_with fail
  refine (HKp.out w1 g HX.out).mono ?_
  rintro e w2 ⟨kb, s, lv, F, rfl, hk⟩
  have HF := hid hk
  clear hk
  go_wp2
  go_ret
  exact ⟨kb, s, lv, F, _, rfl, HF.out⟩
/-- .. of one page, over faults -/
theorem reopened_old (D : DevOk Real) (O : PairOk Real PR) (hS : Sent7 w0 S) (h : Shop Real PR S w0 w d g n q mk T s P ch) (hfa : Fau s n q P cont c done) (hq : q ≤ 600000) (h6 : halN n ≤ 512) (l : List Rec) (hc : cont 0 = some (laidR l)) (hp : natsI (pagesTo P noChg 256) = [0]) (aR aE aS : Addr) (hE : Errs w0 aR aE aS) (hs : ∀ x, x ∈ l → 1 ≤ x.1.size ∧ x.1.size ≤ 40 ∧ x.2.size ≤ 120) (hr : Ris l) (h248 : (laidR l).length ≤ 248) (hn : l.length ≤ 10000) (hl : l ≠ []) :
    Calls Tryz.prog 10 #[.pointer (some ⟨d, 0, none⟩)] w (ReO w0 l) := by
  have hcn : ∀ j, cntTo done j ≤ j := cnt_le done
  have hcn2 := hcn (halN n)
  refine reopened_gen l (fun w' g' => ∃ T', FSt Real PR S w0 d g' n (q + 1000) 600 P cont (fun _ => True) T' w') ?_ ?_
  · refine (fst_open (K := fun _ => True) D O hS h hfa hq trivial (Q := q + 1000) (M := 600) (by omega) (by omega)).mono ?_
    rintro e w' ⟨g', T', he, hf, _, _⟩
    exact ⟨g', he, T', hf⟩
  · rintro w1 g1 ⟨T1, hf⟩
    exact kpOpen_one D O hf (by omega) (by omega) (fun _ _ _ => trivial) l hc hp aR aE aS hE hs hr h248 hn hl
/-- .. of none, over faults -/
theorem reopened_nfa (D : DevOk Real) (O : PairOk Real PR) (hS : Sent7 w0 S) (h : Shop Real PR S w0 w d g n 0 mk T s P ch) (hnf : NF s n done) :
    Calls Tryz.prog 10 #[.pointer (some ⟨d, 0, none⟩)] w (ReO w0 []) := by
  obtain ⟨p, mm, m1, F, G, Dm, C, k1, k2, k3, k4, k5, k6, k7, k8⟩ := h
  have n0 := k1.n0
  have n1 := k1.n1
  refine reopened_gen [] (fun w' g' => ∃ T', Shop Real PR S w0 w' d g' n 0 7 T' s (noPS 0) noChg) ?_ ?_
  · refine (openNewF_any D O S w0 w d n 0 F s (Sent7.six' hS) k1.below k1.real k1.fn hnf.up (by omega) n0 n1 (hnf.newest n0) (hnf.rd n0)).mono ?_
    rintro e w' ⟨g', p, mm, m, F', G', rfl, j1, j2, j3, j4, j5, j6, j7, j8, j9, j10⟩
    have hz := k1.below.size
    exact ⟨g', rfl, fun k => F' k ∨ G' k ∨ k = g' ∨ k = mm ∨ False, ⟨p, mm, m, F', G', _, _, j1, j2, j3, j4, j5, fun _ h => h.elim, ⟨by omega, by omega, fun _ h => h.elim⟩, fun _ => Iff.rfl⟩⟩
  · rintro w1 g1 ⟨T1, hsh⟩
    refine (kpXOpen_newF D O w1 hsh (keeps_new n0 n1).fine).mono ?_
    rintro e w' ⟨kb, T', rfl, hk, hsh', _⟩
    exact ⟨kb, _, _, _, rfl, hk, hsh'.below⟩
end
end Go.Proofs.YtajcfhhnmjcmjaaGreatDoor
namespace Go.Proofs.YtajcfhhnmjcmjaaGreatDoor
open Go.RowKit

def keyN (i : Nat) : List Int := [9, (i : Int)]
def valN (i : Nat) : List Int := [(i : Int), 5]
def recN (i : Nat) : Rec := (strOfNums (keyN i), strOfNums (valN i))
def recsN (n : Nat) : List Rec := (List.range n).map recN
theorem keys_low : (List.range 40).all (fun i => (List.range i).all fun j => decide (kc (recN j).1 (recN i).1 < 0)) = true := by kernel_rfl
theorem range_one : (List.range 256).filter (fun i => decide (i = 0)) = [0] := by kernel_rfl
theorem key_low {i j : Nat} (hi : i < 40) (hj : j < i) : kc (recN j).1 (recN i).1 < 0 := by
  have h1 := List.all_eq_true.1 (List.all_eq_true.1 keys_low i (List.mem_range.2 hi)) j (List.mem_range.2 hj)
  simpa using h1
theorem keyN_byt {i : Nat} (h : i < 40) : Byt (keyN i) := fun x hx => by
  unfold keyN at hx
  simp at hx
  rcases hx with rfl | rfl <;> omega
theorem valN_byt {i : Nat} (h : i < 40) : Byt (valN i) := fun x hx => by
  unfold valN at hx
  simp at hx
  rcases hx with rfl | rfl <;> omega
theorem recN_size {i : Nat} (h : i < 40) : (recN i).1.size = 2 ∧ (recN i).2.size = 2 := ⟨str_size (keyN_byt h), str_size (valN_byt h)⟩
theorem recsN_len (n : Nat) : (recsN n).length = n := by unfold recsN; simp
theorem recsN_at {n i : Nat} (h : i < n) : (recsN n)[i]? = some (recN i) := by unfold recsN; simp [h]
theorem recsN_mem {n : Nat} {x : Rec} (h : x ∈ recsN n) : ∃ i, i < n ∧ x = recN i := by
  unfold recsN at h
  obtain ⟨i, hi, rfl⟩ := List.mem_map.1 h
  exact ⟨i, List.mem_range.1 hi, rfl⟩
theorem recsN_next (n : Nat) : recsN (n + 1) = recsN n ++ [recN n] := by unfold recsN; rw [List.range_succ, List.map_append]; rfl
theorem recsN_low {n : Nat} (h : n < 40) : Low (recsN n) (recN n).1 n where
  le := by rw [recsN_len]; exact Nat.le_refl _
  lo := fun j r hj he => by
    rw [recsN_at hj] at he
    cases he
    exact key_low h hj
  hi := fun j r hj he => by
    have := (List.getElem?_eq_some_iff.1 he).1
    rw [recsN_len] at this
    omega
theorem recsN_put {n : Nat} : putR (recsN n) n (recN n) = recsN (n + 1) := by
  have e : isAt (recsN n) (recN n).1 n = false := by
    unfold isAt
    rw [List.getElem?_eq_none (by rw [recsN_len]; exact Nat.le_refl _)]
  unfold putR
  rw [e, recsN_next, List.take_of_length_le (by rw [recsN_len]; exact Nat.le_refl _), List.drop_of_length_le (by rw [recsN_len]; exact Nat.le_refl _)]
  rfl
theorem recsN_laid : ∀ n, n ≤ 40 → (laidR (recsN n)).length = 6 * n
  | 0, _ => rfl
  | n + 1, h => by
    have ih := recsN_laid n (by omega)
    have e : laidR (recsN (n + 1)) = laidR (recsN n) ++ recB (recN n) := by
      rw [recsN_next]
      unfold laidR
      rw [List.flatMap_append]
      simp
    have h2 := recN_size (i := n) (by omega)
    have e2 : (enc ((2 : Nat) : Int)).length = 1 := by kernel_rfl
    rw [e, List.length_append, ih]
    unfold recB textB
    simp only [List.length_append, str_len, h2.1, h2.2, e2]
    omega
theorem recsN_ne {n : Nat} (h : 0 < n) : recsN n ≠ [] := fun e => by
  have := recsN_len n
  rw [e] at this
  simp at this
  omega
theorem recsN_diff {n m : Nat} (h : n ≠ m) : recsN n ≠ recsN m := fun e => by
  have := congrArg List.length e
  rw [recsN_len, recsN_len] at this
  exact h this
section
variable {Real : World → Nat → DSt → (Nat → Prop) → Prop} {PR : World → Nat → Nat → Nat → Nat → (Nat → Prop) → Prop} {S : Nat → Addr} {w0 w w' : World} {d g n q kb i m : Nat} {P : PS} {cont : Cont}
/-- a keep with the first i keys, of which the first m lie in its store -/
def KW (Real : World → Nat → DSt → (Nat → Prop) → Prop) (PR : World → Nat → Nat → Nat → Nat → (Nat → Prop) → Prop) (S : Nat → Addr) (w0 : World) (d g n Qb kb i m : Nat) (w : World) : Prop :=
  ∃ q T s P cont F Fo lv Ao no co, q ≤ Qb ∧ Shop Real PR S w0 w d g n q 7 T s P noChg ∧ Keeps s n q P cont ∧ (∀ i, 1 ≤ i → cont i = none) ∧ (0 < m → cont 0 = some (laidR (recsN m)) ∧ 0 < P.epoch) ∧ (m = 0 → s = DSt.new n ∧ P = noPS 0 ∧ q = 0) ∧ RtAll s n P ∧
    KpX w w0.heap.size kb (.pointer (some ⟨g, 0, none⟩)) lv F (recsN i) ∧ LvO w Fo lv Ao no co (recsN m) ∧ (∀ k, F k → ¬ T k ∧ ¬ Fo k) ∧ (∀ k, Fo k → ¬ T k ∧ k < w.heap.size)
theorem kw_on (D : DevOk Real) (O : PairOk Real PR) {Qb : Nat} (h : KW Real PR S w0 d g n Qb kb i m w) (hb : Below w.heap.size w w') : KW Real PR S w0 d g n Qb kb i m w' := by
  obtain ⟨q, T, s, P, cont, F, Fo, lv, Ao, no, co, h1, h2, h3, h4, h5, h6, h7, h8, h9, h10, h11⟩ := h
  exact ⟨q, T, s, P, cont, F, Fo, lv, Ao, no, co, h1, h2.on D O hb, h3, h4, h5, h6, h7, h8.on hb, h9.on hb, h10, fun k hk => ⟨(h11 k hk).1, Nat.lt_of_lt_of_le (h11 k hk).2 hb.size⟩⟩
theorem kw_put (D : DevOk Real) (O : PairOk Real PR) {Qb : Nat} {A A2 : Option Addr} {c c2 : Nat} (h : KW Real PR S w0 d g n Qb kb i m w) (hi : i < 40) (hk : Sl w w.heap.size A 2 c (keyN i)) (hv : Sl w w.heap.size A2 2 c2 (valN i)) :
    Calls Tryz.prog 8 #[.pointer (some ⟨kb, 0, none⟩), .slice A 2 c, .slice A2 2 c2] w fun e w' => e = .returned .nilIface ∧ KW Real PR S w0 d g n Qb kb (i + 1) m w' := by
  obtain ⟨q, T, s, P, cont, F, Fo, lv, Ao, no, co, h1, h2, h3, h4, h5, h6, h7, h8, h9, h10, h11⟩ := h
  have hT := h2.lt D O
  refine (putX_any _ kb _ lv F (recsN i) A A2 2 c 2 c2 (keyN i) (valN i) w h8 hk hv (keyN_byt hi) (valN_byt hi) (by omega) (by omega) (by omega) (by rw [recsN_len]; omega)).mono ?_
  rintro e w' ⟨i', hl, he, F', k1, k2, k3⟩
  obtain rfl : i' = i := hl.eq (recsN_low hi)
  have e1 : putR (recsN i') i' (strOfNums (keyN i'), strOfNums (valN i')) = recsN (i' + 1) := recsN_put
  rw [e1] at k1
  refine ⟨he, q, T, s, P, cont, F', Fo, lv, Ao, no, co, h1, h2.beside D O k2 (fun k hk hf => (h10 k hf).1 hk) (fun k hk => h8.lo k hk), h3, h4, h5, h6, h7, k1, h9.only k2 (fun k hk hf => (h10 k hf).2 hk), fun k hk => ?_, fun k hk => ⟨(h11 k hk).1, Nat.lt_of_lt_of_le (h11 k hk).2 k2.size⟩⟩
  rcases k3 k hk with h | h
  · exact h10 k h
  · exact ⟨fun ht => by have := hT k ht; omega, fun ht => by have := (h11 k ht).2; omega⟩
theorem kw_same (D : DevOk Real) (O : PairOk Real PR) {Qb : Nat} (h : KW Real PR S w0 d g n Qb kb i i w) :
    Calls Tryz.prog 9 #[.pointer (some ⟨kb, 0, none⟩)] w fun e w' => e = .returned .nilIface ∧ KW Real PR S w0 d g n Qb kb i i w' := by
  have h' := h
  obtain ⟨q, T, s, P, cont, F, Fo, lv, Ao, no, co, h1, h2, h3, h4, h5, h6, h7, h8, h9, h10, h11⟩ := h
  refine (kComSame_any _ kb _ lv F Fo Ao no co (recsN i) w h8 h9).mono ?_
  rintro e w' ⟨he, hb⟩
  exact ⟨he, kw_on D O h' hb⟩
theorem kw_new (D : DevOk Real) (O : PairOk Real PR) (hS : Sent7 w0 S) {Qb : Nat} (h : KW Real PR S w0 d g n Qb kb i m w) (hi : i ≤ 40) (him : m < i) (hQ : Qb ≤ 600000) (h42 : 42 ≤ halN n) :
    Calls Tryz.prog 9 #[.pointer (some ⟨kb, 0, none⟩)] w fun e w' => e = .returned .nilIface ∧ KW Real PR S w0 d g n (Qb + 1000) kb i i w' := by
  obtain ⟨q, T, s, P, cont, F, Fo, lv, Ao, no, co, h1, h2, h3, h4, h5, h6, h7, h8, h9, h10, h11⟩ := h
  have hu : Up s n q := by
    obtain ⟨p, mm, m1, F, G, Dm, C, k1, _⟩ := h2
    exact k1.up
  have hn0 := h2.pd.2.2.1
  have h248 : (laidR (recsN i)).length ≤ 248 := by rw [recsN_laid i hi]; omega
  have hpos : (laidR (recsN i)).length ≠ 0 := by rw [recsN_laid i hi]; omega
  have hby : Byt (laidR (recsN i)) := laidR_byt (fun x hx => by
    obtain ⟨j, hj, rfl⟩ := recsN_mem hx
    have := recN_size (i := j) (by omega)
    omega)
  have hfit := fits_room (ch := wrC 256 (laidR (recsN i))) h3.fine (N := 1) (fun j hj => by rw [contC_none (wrC_off _ j hj)]; exact h4 j hj) (by omega)
  have hch : ∀ k l, wrC 256 (laidR (recsN i)) k = some l → Byt l ∧ l.length ≤ 248 := fun k l hk => by
    unfold wrC at hk
    rw [if_neg (by omega)] at hk
    unfold putC noChg at hk
    split at hk
    · cases hk; exact ⟨hby, h248⟩
    · cases hk
  have hoff : ∀ k, 256 ≤ k → wrC 256 (laidR (recsN i)) k = none := fun k hk => wrC_off _ k (by omega)
  refine (kComNew_any D O hS _ kb lv F Fo Ao no co (recsN m) (recsN i) h2 h3 h4 h42 (by omega) h8 (Nat.le_refl _) h9 h10 h11 (by rw [recsN_len]; omega) (recsN_diff (by omega)) (recsN_ne (by omega)) h248).mono ?_
  rintro e w' ⟨he, lv', Fo', Ao', no', co', T', k1, k2, k3, k4, k5⟩
  obtain ⟨_, _, hk2⟩ := keeps_commit h3 hu (by omega) hch hoff hfit
  refine ⟨he, q + 1000, T', _, _, contC cont (wrC 256 (laidR (recsN i))), F, Fo', lv', Ao', no', co', by omega, k3, hk2, fun j hj => by rw [contC_none (wrC_off _ j hj)]; exact h4 j hj, fun _ => ⟨?_, ?_⟩, fun h0 => by omega, rtAll_commit h3 hu (by omega) hn0 hch hoff hfit h7, k1, k2, k4, k5⟩
  · unfold contC
    have e0 : wrC 256 (laidR (recsN i)) 0 = some (laidR (recsN i)) := by
      unfold wrC
      rw [if_neg (by omega)]
      unfold putC
      rw [if_pos rfl]
    rw [e0]
    show (if _ then _ else _) = _
    rw [if_neg hpos]
  · rw [commitTo_epoch]
    have := h3.ep0
    omega
theorem pages_one (hf : Fine (halN n) P cont) {l : List Int} (h0 : cont 0 = some l) (hc : ∀ i, 1 ≤ i → cont i = none) : natsI (pagesTo P noChg 256) = [0] := by
  have e : pagesTo P noChg 256 = [0] := by
    unfold pagesTo
    have e1 : (List.range 256).filter (thereB P noChg) = (List.range 256).filter (fun i => decide (i = 0)) := List.filter_congr (fun i hi => by
      have hi2 := List.mem_range.1 hi
      rw [there_cont hf hi2, contC_none (ch := noChg) rfl]
      rcases i with _ | i
      · rw [h0]; rfl
      · rw [hc _ (by omega)]; rfl)
    rw [e1]
    exact range_one
  rw [e]
  rfl
end
end Go.Proofs.YtajcfhhnmjcmjaaGreatDoor
