/- Put together out of 1 texts. Package page's takeUp and Open over a device that is armed. -/
import Derived.Test.YtaonhbmimaiiiaaGreatDoorGXbk
import Derived.Test.YtaonhbmimaiiiaaGreatDoorGXbd
namespace Go.Proofs.YtaonhbmimaiiiaaGreatDoor
open Go.RowKit Go.Maps

/-- a state was read, and laid at nb; nothing else has turned -/
def TkQ (w : World) (P : PS) (cs : Array Value) (nb : Nat) (wz : World) : Prop :=
  Below w.heap.size w wz ∧ Blk wz nb 103 (stL P).toArray ∧ Blk wz w.heap.size 94 cs ∧ w.heap.size < nb
theorem tkQ_of {w wa w3 wb : World} {P : PS} {cs : Array Value} {nb : Nat} (hP : P.Len) (ha : Below w.heap.size w wa) (hbx : Blk wa w.heap.size 94 cs) (h3 : Below wa.heap.size wa w3) (hb : Below w3.heap.size w3 wb) (hnb : Blk wb nb 103 (stL (noPS 0)).toArray) (hn : w.heap.size < nb) : TkQ w P cs nb (wb.setCells nb 0 (stL P)) := by
  have hg := only_setCells (only_refl wb (some nb)) (stL P) 0
  have h3' := hbx.below h3 hbx.lt
  have hx := h3'.below hb h3'.lt
  have hbw : Below w.heap.size w wb := (ha.trans (h3.mono ha.size)).trans (hb.mono (Nat.le_trans ha.size h3.size))
  exact ⟨hbw.grown hg hbw.size (fun k hk => by injection hk with hk; omega), blk_stored hnb (noPS_len 0) hP, hx.grown hg (fun e => by injection e with e; omega), hn⟩
/-- what an Open leaves, armed: whatever falls then, all is there -/
def Opd (Real : World → Nat → DSt → (Nat → Prop) → Prop) (w : World) (d n q : Nat) (K F : Nat → Prop) (P : PS) (cont : Cont) (w' : World) : Prop :=
  ∃ t F', Real w' d t F' ∧ t.okN (q + 3) ∧ (∀ picks, Stays (t.crash picks) n (q + 3) P cont) ∧ Only K w w' ∧ ∀ k, F' k → F k ∨ w.heap.size ≤ k
theorem openA_okN {s : DSt} {n q k : Nat} {P : PS} {cont : Cont} (h : Stays s n q P cont) (hk : k ≤ 1000) : (openA s P (halN n) k).okN (q + 3) := by
  unfold openA
  split
  · exact okN_save (h.up.armed_okN hk)
  · exact (h.up.armed_okN hk).more (by omega)
section
variable {P0 : PS} {ch : Chg} {Real : World → Nat → DSt → (Nat → Prop) → Prop} {PR : World → Nat → Nat → Nat → Nat → (Nat → Prop) → Prop}
set_option maxRecDepth 100000 in
set_option maxHeartbeats 8000000 in
theorem takeUpA_any (DD : DevOk Real) (O : PairOk Real PR) (OA : PairArm Real PR) (S : Nat → Addr) (w0 w : World) (g d p mm n m q k c : Nat) (D : DataW Unit) (C F G : Nat → Prop) (A : Option Addr) (P : PS) (cont : Cont) (s : DSt) (h : Sto w g d p mm P0 ch D C) (hpd : Pd (RealA Real k) PR S w0 w d p s n m q F G) (hk : k ≤ 1000) (hS : Sent6 w0 S) (hog : ¬ F g) (hq : q + 10 ≤ 700000) (hst : Stays s n q P cont) (he : 1 ≤ P.epoch ∧ P.epoch ≤ 1099511627776) (hrf : Rf w w.heap.size A 7 c P.idx) :
    Calls Tryz.prog 52 #[.pointer (some ⟨g, 0, none⟩), rtV P.epoch A 7 c] w fun e w' => ∃ v, e = .returned v ∧ (v = .nilIface ∨ EV S 106 v) ∧ Opd Real w d n q (fun k => F k ∨ k = g) F P cont w' := by
  have hzc := fun W => (zero_of_info Tryz.zeroState).1 W
  have hr0 : Real w d (s.armed k) F := hpd.real
  have hF := hst.fine
  have HPd := hid hpd
  have HRf := hid hrf
  have HSt0 := hid h
  have HSn := hid hS
  have HD := hid DD
  have HLt := hid (DD.lt hr0)
  have HOg := hid hog
  have HKp := hid (fun (w' : World) (hb : Below w.heap.size w w') => DD.kept hr0 (Kept.of_below hb (DD.lt hr0)))
  have HSnt := hid (fun (w' : World) (hb : Below w.heap.size w w') => (hS.on (hpd.below.trans (hb.mono hpd.below.size)) : Sent6 w' S))
  have HCo := hid (fun (w' : World) (hb : Below w.heap.size w w') => copies_any DD S d n (s.armed k) F w' (HSnt.out w' hb) (HKp.out w' hb) ⟨hpd.up.down, hpd.up.len, hpd.up.armed_ok (by omega) hk⟩ hpd.n0)
  have HOk := hid (openA_okN hst hk)
  have HFall := hid (fun picks => openA_stays hst hpd.n0 (by omega) k picks)
  have HOpA := hid (show openA s P (halN n) k = if 0 < P.epoch ∧ s.copies (halN n) < 2 then (saveR (s.armed k) (halN n) (rootSt P)).2 else s.armed k from rfl)
  obtain ⟨hcode, hsums⟩ := root_code hF (by unfold halN; omega) he.1 he.2
  have HE := hid he
  have HSv := hid (fun (w' : World) (hb : Below w.heap.size w w') => save_any DD S d n q (s.armed k) F (rootSt P) A 7 c w0 w' hS (hpd.below.trans (hb.mono hpd.below.size)) hpd.fn (HKp.out w' hb) (hpd.up.armed_okN hk) (by omega) hpd.up.len hpd.n0 (hrf.on hb) hsums (by have := he.1; show _ ≤ P.epoch; omega) (by have := he.2; show P.epoch ≤ _; omega))
  have hcases : (saveR (s.armed k) (halN n) (rootSt P)).1 = 0 ∨ (saveR (s.armed k) (halN n) (rootSt P)).1 = 106 := by
    have hp : (rootSt P).epoch % 2 = (((P.epoch % 2).toNat : Nat) : Int) := by show P.epoch % 2 = _; omega
    rw [armed_save hpd.up (by have := hpd.n0; have := halN_two (n := n); unfold halN; omega) hcode hp]
    by_cases k1 : k = 1
    · right; rw [if_pos k1]
    · rw [if_neg k1]
      by_cases k2 : k = 2
      · right; rw [if_pos k2]
      · rw [if_neg k2]
        by_cases k3 : k = 3
        · right; rw [if_pos k3]
        · left; rw [if_neg k3]
  have HCas := hid hcases
  obtain ⟨W1, hW1⟩ : ∃ W1, w.alloc (.cells #[.int .i64 P.epoch, .slice A 7 c] 94) = W1 := ⟨_, rfl⟩
  have z1 : Below w.heap.size w W1.drew := by rw [← hW1]; exact ((Below.refl _ _).alloc (Nat.le_refl _) _).drew
  have z2 : Blk W1.drew w.heap.size 94 #[.int .i64 P.epoch, .slice A 7 c] := by rw [← hW1]; exact (Blk.new w _ _).drew
  have z3 : W1.drew.heap.size = w.heap.size + 1 := by rw [← hW1]; simp
  have HZ1 := hid z1
  have HZ3 := hid (show W1.heap.size = w.heap.size + 1 from z3)
  have HB := hid (fun (w' : World) (hb : Below W1.drew.heap.size W1.drew w') => z1.trans (hb.mono z1.size))
  have HSt := hid (fun (w' : World) (hb : Below W1.drew.heap.size W1.drew w') => stateOfA_any DD O OA S w' d p n m q k c F G A P cont s (HKp.out w' (HB.out w' hb)) (O.kept hpd.pr (Kept.of_below (HB.out w' hb) (O.lt hpd.pr))) (hpd.sent0.on (hpd.below.trans ((HB.out w' hb).mono hpd.below.size))) hst.up hk (by omega) hpd.n0 hpd.n1 hF hst.held hst.clean (hrf.on (HB.out w' hb)))
  have HCe := hid (fun (wa w' : World) (hb : Below W1.drew.heap.size W1.drew wa) (ho : Below wa.heap.size wa w') => (show (w'.cell? ⟨g, 1, none⟩ = some (.pointer (some ⟨p, 0, none⟩)) ∧ w'.cell? ⟨w.heap.size, 0, none⟩ = some (.int .i64 P.epoch) ∧ w'.cell? ⟨w.heap.size, 1, none⟩ = some (.slice A 7 c)) from by
    have hs := (h.below (HB.out wa hb)).below ho
    have hk : Blk wa w.heap.size 94 #[.int .i64 P.epoch, .slice A 7 c] := z2.below hb z2.lt
    have hk2 := hk.below ho hk.lt
    exact ⟨hs.prs, Blk.cell hk2 0, Blk.cell hk2 1⟩))
  have HBa := hid (show Below W1.drew.heap.size W1.drew (W1.drew.alloc (.cells (stL (noPS 0)).toArray 103)) from (Below.refl _ _).alloc (Nat.le_refl _) _)
  have HLn := hid hF.len
  have HTn := hid (fun (w3 : World) => store_blk (P := P) (Blk.new w3 103 (stL (noPS 0)).toArray) (noPS_len 0) hF.len)
  have HBo := hid (fun (w3 : World) (ho : Below (W1.drew.alloc (.cells (stL (noPS 0)).toArray 103)).heap.size (W1.drew.alloc (.cells (stL (noPS 0)).toArray 103)) w3) => (show Blk w3 W1.heap.size 103 (stL (noPS 0)).toArray from (Blk.new W1.drew 103 (stL (noPS 0)).toArray).below ho (Blk.new W1.drew _ _).lt))
  have HTo := hid (fun (w3 : World) (hb : Blk w3 W1.heap.size 103 (stL (noPS 0)).toArray) => store_blk (P := P) hb (noPS_len 0) hF.len)
  have HDn := hid (fun (wa w3 wb : World) (nb : Nat) (ha : Below W1.drew.heap.size W1.drew wa) (h3 : Below wa.heap.size wa w3) (hb : Below w3.heap.size w3 wb) (hnb : Blk wb nb 103 (stL (noPS 0)).toArray) (hn : w.heap.size < nb) => tkQ_of (w := w) (P := P) hF.len (HB.out wa ha) (z2.below ha z2.lt) h3 hb hnb hn)
  have HCs := hid (fun (w' : World) (nb : Nat) (hn : w.heap.size < nb) (hk : w'.cell? ⟨g, 1, none⟩ = some (.pointer (some ⟨p, 0, none⟩)) ∧ w'.cell? ⟨w.heap.size, 0, none⟩ = some (.int .i64 P.epoch) ∧ w'.cell? ⟨w.heap.size, 1, none⟩ = some (.slice A 7 c)) => (show (w'.setCells nb 0 (stL P)).cell? ⟨g, 1, none⟩ = some (.pointer (some ⟨p, 0, none⟩)) ∧ (w'.setCells nb 0 (stL P)).cell? ⟨w.heap.size, 0, none⟩ = some (.int .i64 P.epoch) ∧ (w'.setCells nb 0 (stL P)).cell? ⟨w.heap.size, 1, none⟩ = some (.slice A 7 c) from by
    have hgl := h.box.lt
    rw [World.cell?_setCells_out nb (stL P) 0 w' ⟨g, 1, none⟩ (fun e _ => by have : g = nb := e; omega), World.cell?_setCells_out nb (stL P) 0 w' ⟨w.heap.size, 0, none⟩ (fun e _ => by have : w.heap.size = nb := e; omega), World.cell?_setCells_out nb (stL P) 0 w' ⟨w.heap.size, 1, none⟩ (fun e _ => by have : w.heap.size = nb := e; omega)]
    exact hk))
  have HCa := hid (fun (w' : World) (hk : w'.cell? ⟨g, 1, none⟩ = some (.pointer (some ⟨p, 0, none⟩)) ∧ w'.cell? ⟨w.heap.size, 0, none⟩ = some (.int .i64 P.epoch) ∧ w'.cell? ⟨w.heap.size, 1, none⟩ = some (.slice A 7 c)) (o : Obj) => (show (w'.alloc o).cell? ⟨g, 1, none⟩ = some (.pointer (some ⟨p, 0, none⟩)) ∧ (w'.alloc o).cell? ⟨w.heap.size, 0, none⟩ = some (.int .i64 P.epoch) ∧ (w'.alloc o).cell? ⟨w.heap.size, 1, none⟩ = some (.slice A 7 c) from by
    obtain ⟨h1, h2, h3⟩ := hk
    exact ⟨(World.cell?_alloc_some w' _ o (by rw [h1]; rfl)).trans h1, (World.cell?_alloc_some w' _ o (by rw [h2]; rfl)).trans h2, (World.cell?_alloc_some w' _ o (by rw [h3]; rfl)).trans h3⟩))
  have hlen := stL_len hF.len
  have k0 := HCe.out _ _ (Below.refl _ _) (Below.refl _ W1.drew)
  have k1 := HCe.out _ _ HBa.out (Below.refl _ (W1.drew.alloc (.cells (stL (noPS 0)).toArray 103)))
  have HPos := hid (show 0 < P.epoch from by have := he.1; omega)
  obtain ⟨⟨cv, t5⟩, ht5⟩ : ∃ x, saveR (s.armed k) (halN n) (rootSt P) = x := ⟨_, rfl⟩
  rw [ht5] at HSv HCas HOpA
  clear h hpd hk hS hog hq hst he hrf DD O OA z1 z2 z3 hr0 hF hcode hsums hcases ht5
  go_enter Tryz.func52, Tryz.ntmps52
  go_upto_region 1 with fail
  clear hW1
  go_region_held3 (fun w' => w'.cell? ⟨g, 1, none⟩ = some (.pointer (some ⟨p, 0, none⟩)) ∧ w'.cell? ⟨w.heap.size, 0, none⟩ = some (.int .i64 P.epoch) ∧ w'.cell? ⟨w.heap.size, 1, none⟩ = some (.slice A 7 c)) (first | exact k0 | exact k1 | exact k3 | exact k4 | exact k5) (first | (go_at_call 94; refine (HSt.out _ (Below.refl _ _)).mono ?_; rintro e w3 ⟨rfl, hb3⟩; have k3 := HCe.out _ w3 (Below.refl _ _) hb3; have hn3 : w.heap.size < w3.heap.size := (by have h1 : W1.heap.size ≤ w3.heap.size := hb3.size; have := HZ3.out; omega); have t3 := HTn.out w3; have k4 := HCa.out w3 k3 (.cells (stL (noPS 0)).toArray 103); have k5 := HCs.out _ w3.heap.size hn3 k4; have HTk := hid (HDn.out _ w3 _ w3.heap.size (Below.refl _ _) hb3 ((Below.refl w3.heap.size w3).alloc (Nat.le_refl _) (.cells (stL (noPS 0)).toArray 103)) (Blk.new w3 103 (stL (noPS 0)).toArray) hn3); clear hb3) | (go_at_call 94; refine (HSt.out _ HBa.out).mono ?_; rintro e w3 ⟨rfl, hb3⟩; have k3 := HCe.out _ w3 HBa.out hb3; have hbo3 := HBo.out w3 hb3; have hn3 : w.heap.size < W1.heap.size := (by have := HZ3.out; omega); have t3 := HTo.out w3 hbo3; have k5 := HCs.out _ W1.heap.size hn3 k3; have HTk := hid (HDn.out _ w3 _ W1.heap.size HBa.out hb3 (Below.refl _ _) hbo3 hn3); clear hb3 hbo3))
  ·
    obtain ⟨wz, hwz⟩ : ∃ wz, (w3.alloc (.cells (stL (noPS 0)).toArray 103)).setCells w3.heap.size 0 (stL P) = wz := ⟨_, rfl⟩
    rw [hwz] at HTk
    rw [hwz]
    obtain ⟨nb, hnb⟩ : ∃ nb, w3.heap.size = nb := ⟨_, rfl⟩
    rw [hnb] at HTk
    rw [hnb]
    clear hwz hnb k3 k4 k5 t3 hn3 k0 k1
    obtain ⟨hb1, hbk1, hx1, hlt1⟩ := HTk.out
    have HB1 := hid hbk1
    have HX1 := hid hx1
    have HBz := hid hb1
    have hs1 := HSt0.out.below hb1
    have HS1 := hid hs1
    have HLt1 := hid hlt1
    have c1 := hs1.dev
    have hCp := HCo.out wz hb1
    clear hb1 hbk1 hx1 hlt1 hs1 HTk
    obtain ⟨kc, hkc⟩ : ∃ kc, s.copies (halN n) = kc := ⟨_, rfl⟩
    have hkc' : (s.armed k).copies (halN n) = kc := hkc
    rw [hkc'] at hCp
    have HCp := hid hCp
    rw [hkc] at HOpA
    clear hCp hkc hkc'
    go_wp2_with fail
    refine HCp.out.mono ?_
    rintro e w4 ⟨rfl, hb4⟩
    have HB4 := hid (show Below w.heap.size w w4 from HBz.out.trans (hb4.mono HBz.out.size))
    have HS4 := hid (HS1.out.below hb4)
    have hs4 := HS4.out
    have c4 := hs4.dev
    have HBk4 := hid (HB1.out.below hb4 HB1.out.lt)
    have hx4 := HX1.out.below hb4 HX1.out.lt
    clear hb4 hs4
    by_cases hk2 : kc < 2
    · have hk2i : (kc : Int) < 2 := by omega
      have HOp := hid (show openA s P (halN n) k = t5 from by rw [HOpA.out, if_pos ⟨HPos.out, hk2⟩])
      have HBd := hid (show Below w.heap.size w w4.drew from HB4.out.drew)
      have HSvc := hid (HSv.out _ HBd.out)
      have d0 : w4.drew.cell? ⟨g, 0, none⟩ = some (.pointer (some ⟨d, 0, none⟩)) := c4
      have d1 : w4.drew.cell? ⟨w.heap.size, 0, none⟩ = some (.int .i64 P.epoch) := Blk.cell hx4 0
      have d2 : w4.drew.cell? ⟨w.heap.size, 1, none⟩ = some (.slice A 7 c) := Blk.cell hx4 1
      have kk0 := And.intro d0 (And.intro d1 d2)
      have HKe := hid (fun (w' : World) (ho : Only F w4.drew w') => (show w'.cell? ⟨g, 0, none⟩ = some (.pointer (some ⟨d, 0, none⟩)) ∧ w'.cell? ⟨w.heap.size, 0, none⟩ = some (.int .i64 P.epoch) ∧ w'.cell? ⟨w.heap.size, 1, none⟩ = some (.slice A 7 c) from by
        have hbg := ho.block g HS4.out.box.lt HOg.out
        have hbx := ho.block w.heap.size hx4.lt (fun h => by have := HLt.out _ h; omega)
        exact ⟨(World.cell?_of_block hbg).trans d0, (World.cell?_of_block hbx).trans d1, (World.cell?_of_block hbx).trans d2⟩))
      clear c4 hx4
      go_upto_region 8 with fail
      go_region_held3 (fun w' => w'.cell? ⟨g, 0, none⟩ = some (.pointer (some ⟨d, 0, none⟩)) ∧ w'.cell? ⟨w.heap.size, 0, none⟩ = some (.int .i64 P.epoch) ∧ w'.cell? ⟨w.heap.size, 1, none⟩ = some (.slice A 7 c)) (first | exact kk0 | exact kk5) (first | (go_at_call 61; refine HSvc.out.mono ?_; rintro e w5 ⟨⟨v5, rfl, hv5⟩, hup⟩; have kk5 := HKe.out w5 (by obtain ⟨_, _, ho, _⟩ := hup; exact ho); have HUp5 := hid hup; have HV5 := hid hv5; clear hup hv5))
      obtain ⟨F5, hr5, ho5, hF5⟩ := HUp5.out
      have HR5 := hid hr5
      have HBk5 := hid (show Blk w5 nb 103 (stL P).toArray from (ho5.block nb (show nb < w4.drew.heap.size from HBk4.out.lt) (fun h => by have := HLt.out _ h; have := HLt1.out; omega)).trans HBk4.out)
      have hs5 : Sto w5 g d p mm P0 ch D C ∨ True := .inr trivial
      have HOn5 := hid (show Only F w w5 from (Only.of_below HBd.out).trans ho5 (fun i hi => .inl hi))
      have HF5 := hid (show ∀ k, F5 k → F k ∨ w.heap.size ≤ k from fun k hk => (hF5 k hk).imp id (fun h => by have := HBd.out.size; omega))
      have HBox5 := hid (show HoldsP w5 g 105 [.pointer (some ⟨d, 0, none⟩), .pointer (some ⟨p, 0, none⟩)] P0 [.map (some mm)] from (ho5.block g (show g < w4.drew.heap.size from HS4.out.box.lt) HOg.out).trans HS4.out.box)
      clear kk0 kk5 d0 d1 d2 hr5 ho5 hF5 hs5
      rcases HCas.out with hcv | hcv
      · have hv5 := HV5.out
        have hcv' : cv = 0 := hcv
        rw [hcv'] at hv5
        obtain rfl := hv5.nil
        have HTh := hid (there_mid HBox5.out HS4.out.len HLn.out)
        have HSzS := hid (show (Tryz.prog.info? 103).map (·.size) = some (stL P).toArray.size from by rw [List.size_toArray]; exact size_of_state HLn.out)
        have HRn := hid (blk_range HBk5.out)
        have HFin := hid (show Opd Real w d n q (fun k => F k ∨ k = g) F P cont (w5.setCells g 2 (stL P)) from by
          have hgr : w5.grownBy (w5.setCells g 2 (stL P)) (some g) := only_setCells (only_refl w5 (some g)) (stL P) 2
          have hok : Only (fun k => k = g) w5 (w5.setCells g 2 (stL P)) := ⟨hgr.os, hgr.tape, hgr.output, hgr.size, fun k hk hn => hgr.block k hk (fun e => hn (by injection e))⟩
          have hgl := HSt0.out.box.lt
          refine ⟨t5, F5, HD.out.kept HR5.out (hok.kept (HD.out.lt HR5.out) (fun k hk e => ?_)), by rw [← HOp.out]; exact HOk.out, fun picks => by rw [← HOp.out]; exact HFall.out picks, (HOn5.out.mono (fun i hi => .inl (.inl hi))).trans hok (fun i hi => .inl (.inr hi)), HF5.out⟩
          subst e
          rcases HF5.out _ hk with h' | h'
          · exact HOg.out h'
          · omega)
        clear hcv hcv' hv5
        go_wp2_with (first | (refine wpList_load_mid rfl 103 (.tmp 5) rfl nb 0 rfl (stL P) _ HRn.out Tryz.underlying103 rfl (size_of_state HLn.out) ?_) | (refine wpList_store_mid rfl 103 (.tmp 46) (.tmp 44) rfl g 2 (stL P).toArray rfl rfl HTh.out HSzS.out (all_oneCell_toArray (stL_one _)) ?_))
        go_ret
        exact ⟨_, rfl, .inl rfl, HFin.out⟩
      · have hv5 := HV5.out
        have hcv' : cv = 106 := hcv
        rw [hcv'] at hv5
        obtain ⟨j5, _, _, hvj⟩ := hv5.one (by decide)
        have HEv := hid hv5
        have HFin := hid (show Opd Real w d n q (fun k => F k ∨ k = g) F P cont w5 from
          ⟨t5, F5, HR5.out, by rw [← HOp.out]; exact HOk.out, fun picks => by rw [← HOp.out]; exact HFall.out picks, HOn5.out.mono (fun i hi => .inl (.inl hi)), HF5.out⟩)
        subst hvj
        clear hcv hcv' hv5
        go_wp2
        go_ret
        exact ⟨_, rfl, .inr HEv.out, HFin.out⟩
    · have hk2i : decide (kc < 2) = false := by simpa using hk2
      have HOp := hid (show openA s P (halN n) k = s.armed k from by rw [HOpA.out, if_neg (fun h => hk2 h.2)])
      have HTh := hid (there_mid HS4.out.box HS4.out.len HLn.out)
      have HSzS := hid (show (Tryz.prog.info? 103).map (·.size) = some (stL P).toArray.size from by rw [List.size_toArray]; exact size_of_state HLn.out)
      have HRn := hid (blk_range HBk4.out)
      have HFin := hid (show Opd Real w d n q (fun k => F k ∨ k = g) F P cont (w4.setCells g 2 (stL P)) from by
        have hgr : w4.grownBy (w4.setCells g 2 (stL P)) (some g) := only_setCells (only_refl w4 (some g)) (stL P) 2
        have hok : Only (fun k => k = g) w4 (w4.setCells g 2 (stL P)) := ⟨hgr.os, hgr.tape, hgr.output, hgr.size, fun k hk hn => hgr.block k hk (fun e => hn (by injection e))⟩
        have hr4 := HKp.out w4 HB4.out
        exact ⟨s.armed k, F, HD.out.kept hr4 (hok.kept (HD.out.lt hr4) (fun k hk e => HOg.out (e ▸ hk))), by rw [← HOp.out]; exact HOk.out, fun picks => by rw [← HOp.out]; exact HFall.out picks, (Only.of_below HB4.out).trans hok (fun i hi => .inl (.inr hi)), fun k hk => .inl hk⟩)
      clear c4 hx4
      go_wp2_with (first | (refine wpList_load_mid rfl 103 (.tmp 5) rfl nb 0 rfl (stL P) _ HRn.out Tryz.underlying103 rfl (size_of_state HLn.out) ?_) | (refine wpList_store_mid rfl 103 (.tmp 46) (.tmp 44) rfl g 2 (stL P).toArray rfl rfl HTh.out HSzS.out (all_oneCell_toArray (stL_one _)) ?_))
      go_ret
      exact ⟨_, rfl, .inl rfl, HFin.out⟩
  ·
    obtain ⟨wz, hwz⟩ : ∃ wz, w3.setCells W1.heap.size 0 (stL P) = wz := ⟨_, rfl⟩
    rw [hwz] at HTk
    rw [hwz]
    obtain ⟨nb, hnb⟩ : ∃ nb, W1.heap.size = nb := ⟨_, rfl⟩
    rw [hnb] at HTk
    rw [hnb]
    clear hwz hnb k3 k5 t3 hn3 k0 k1
    obtain ⟨hb1, hbk1, hx1, hlt1⟩ := HTk.out
    have HB1 := hid hbk1
    have HX1 := hid hx1
    have HBz := hid hb1
    have hs1 := HSt0.out.below hb1
    have HS1 := hid hs1
    have HLt1 := hid hlt1
    have c1 := hs1.dev
    have hCp := HCo.out wz hb1
    clear hb1 hbk1 hx1 hlt1 hs1 HTk
    obtain ⟨kc, hkc⟩ : ∃ kc, s.copies (halN n) = kc := ⟨_, rfl⟩
    have hkc' : (s.armed k).copies (halN n) = kc := hkc
    rw [hkc'] at hCp
    have HCp := hid hCp
    rw [hkc] at HOpA
    clear hCp hkc hkc'
    go_wp2_with fail
    refine HCp.out.mono ?_
    rintro e w4 ⟨rfl, hb4⟩
    have HB4 := hid (show Below w.heap.size w w4 from HBz.out.trans (hb4.mono HBz.out.size))
    have HS4 := hid (HS1.out.below hb4)
    have hs4 := HS4.out
    have c4 := hs4.dev
    have HBk4 := hid (HB1.out.below hb4 HB1.out.lt)
    have hx4 := HX1.out.below hb4 HX1.out.lt
    clear hb4 hs4
    by_cases hk2 : kc < 2
    · have hk2i : (kc : Int) < 2 := by omega
      have HOp := hid (show openA s P (halN n) k = t5 from by rw [HOpA.out, if_pos ⟨HPos.out, hk2⟩])
      have HBd := hid (show Below w.heap.size w w4.drew from HB4.out.drew)
      have HSvc := hid (HSv.out _ HBd.out)
      have d0 : w4.drew.cell? ⟨g, 0, none⟩ = some (.pointer (some ⟨d, 0, none⟩)) := c4
      have d1 : w4.drew.cell? ⟨w.heap.size, 0, none⟩ = some (.int .i64 P.epoch) := Blk.cell hx4 0
      have d2 : w4.drew.cell? ⟨w.heap.size, 1, none⟩ = some (.slice A 7 c) := Blk.cell hx4 1
      have kk0 := And.intro d0 (And.intro d1 d2)
      have HKe := hid (fun (w' : World) (ho : Only F w4.drew w') => (show w'.cell? ⟨g, 0, none⟩ = some (.pointer (some ⟨d, 0, none⟩)) ∧ w'.cell? ⟨w.heap.size, 0, none⟩ = some (.int .i64 P.epoch) ∧ w'.cell? ⟨w.heap.size, 1, none⟩ = some (.slice A 7 c) from by
        have hbg := ho.block g HS4.out.box.lt HOg.out
        have hbx := ho.block w.heap.size hx4.lt (fun h => by have := HLt.out _ h; omega)
        exact ⟨(World.cell?_of_block hbg).trans d0, (World.cell?_of_block hbx).trans d1, (World.cell?_of_block hbx).trans d2⟩))
      clear c4 hx4
      go_upto_region 8 with fail
      go_region_held3 (fun w' => w'.cell? ⟨g, 0, none⟩ = some (.pointer (some ⟨d, 0, none⟩)) ∧ w'.cell? ⟨w.heap.size, 0, none⟩ = some (.int .i64 P.epoch) ∧ w'.cell? ⟨w.heap.size, 1, none⟩ = some (.slice A 7 c)) (first | exact kk0 | exact kk5) (first | (go_at_call 61; refine HSvc.out.mono ?_; rintro e w5 ⟨⟨v5, rfl, hv5⟩, hup⟩; have kk5 := HKe.out w5 (by obtain ⟨_, _, ho, _⟩ := hup; exact ho); have HUp5 := hid hup; have HV5 := hid hv5; clear hup hv5))
      obtain ⟨F5, hr5, ho5, hF5⟩ := HUp5.out
      have HR5 := hid hr5
      have HBk5 := hid (show Blk w5 nb 103 (stL P).toArray from (ho5.block nb (show nb < w4.drew.heap.size from HBk4.out.lt) (fun h => by have := HLt.out _ h; have := HLt1.out; omega)).trans HBk4.out)
      have hs5 : Sto w5 g d p mm P0 ch D C ∨ True := .inr trivial
      have HOn5 := hid (show Only F w w5 from (Only.of_below HBd.out).trans ho5 (fun i hi => .inl hi))
      have HF5 := hid (show ∀ k, F5 k → F k ∨ w.heap.size ≤ k from fun k hk => (hF5 k hk).imp id (fun h => by have := HBd.out.size; omega))
      have HBox5 := hid (show HoldsP w5 g 105 [.pointer (some ⟨d, 0, none⟩), .pointer (some ⟨p, 0, none⟩)] P0 [.map (some mm)] from (ho5.block g (show g < w4.drew.heap.size from HS4.out.box.lt) HOg.out).trans HS4.out.box)
      clear kk0 kk5 d0 d1 d2 hr5 ho5 hF5 hs5
      rcases HCas.out with hcv | hcv
      · have hv5 := HV5.out
        have hcv' : cv = 0 := hcv
        rw [hcv'] at hv5
        obtain rfl := hv5.nil
        have HTh := hid (there_mid HBox5.out HS4.out.len HLn.out)
        have HSzS := hid (show (Tryz.prog.info? 103).map (·.size) = some (stL P).toArray.size from by rw [List.size_toArray]; exact size_of_state HLn.out)
        have HRn := hid (blk_range HBk5.out)
        have HFin := hid (show Opd Real w d n q (fun k => F k ∨ k = g) F P cont (w5.setCells g 2 (stL P)) from by
          have hgr : w5.grownBy (w5.setCells g 2 (stL P)) (some g) := only_setCells (only_refl w5 (some g)) (stL P) 2
          have hok : Only (fun k => k = g) w5 (w5.setCells g 2 (stL P)) := ⟨hgr.os, hgr.tape, hgr.output, hgr.size, fun k hk hn => hgr.block k hk (fun e => hn (by injection e))⟩
          have hgl := HSt0.out.box.lt
          refine ⟨t5, F5, HD.out.kept HR5.out (hok.kept (HD.out.lt HR5.out) (fun k hk e => ?_)), by rw [← HOp.out]; exact HOk.out, fun picks => by rw [← HOp.out]; exact HFall.out picks, (HOn5.out.mono (fun i hi => .inl (.inl hi))).trans hok (fun i hi => .inl (.inr hi)), HF5.out⟩
          subst e
          rcases HF5.out _ hk with h' | h'
          · exact HOg.out h'
          · omega)
        clear hcv hcv' hv5
        go_wp2_with (first | (refine wpList_load_mid rfl 103 (.tmp 5) rfl nb 0 rfl (stL P) _ HRn.out Tryz.underlying103 rfl (size_of_state HLn.out) ?_) | (refine wpList_store_mid rfl 103 (.tmp 46) (.tmp 44) rfl g 2 (stL P).toArray rfl rfl HTh.out HSzS.out (all_oneCell_toArray (stL_one _)) ?_))
        go_ret
        exact ⟨_, rfl, .inl rfl, HFin.out⟩
      · have hv5 := HV5.out
        have hcv' : cv = 106 := hcv
        rw [hcv'] at hv5
        obtain ⟨j5, _, _, hvj⟩ := hv5.one (by decide)
        have HEv := hid hv5
        have HFin := hid (show Opd Real w d n q (fun k => F k ∨ k = g) F P cont w5 from
          ⟨t5, F5, HR5.out, by rw [← HOp.out]; exact HOk.out, fun picks => by rw [← HOp.out]; exact HFall.out picks, HOn5.out.mono (fun i hi => .inl (.inl hi)), HF5.out⟩)
        subst hvj
        clear hcv hcv' hv5
        go_wp2
        go_ret
        exact ⟨_, rfl, .inr HEv.out, HFin.out⟩
    · have hk2i : decide (kc < 2) = false := by simpa using hk2
      have HOp := hid (show openA s P (halN n) k = s.armed k from by rw [HOpA.out, if_neg (fun h => hk2 h.2)])
      have HTh := hid (there_mid HS4.out.box HS4.out.len HLn.out)
      have HSzS := hid (show (Tryz.prog.info? 103).map (·.size) = some (stL P).toArray.size from by rw [List.size_toArray]; exact size_of_state HLn.out)
      have HRn := hid (blk_range HBk4.out)
      have HFin := hid (show Opd Real w d n q (fun k => F k ∨ k = g) F P cont (w4.setCells g 2 (stL P)) from by
        have hgr : w4.grownBy (w4.setCells g 2 (stL P)) (some g) := only_setCells (only_refl w4 (some g)) (stL P) 2
        have hok : Only (fun k => k = g) w4 (w4.setCells g 2 (stL P)) := ⟨hgr.os, hgr.tape, hgr.output, hgr.size, fun k hk hn => hgr.block k hk (fun e => hn (by injection e))⟩
        have hr4 := HKp.out w4 HB4.out
        exact ⟨s.armed k, F, HD.out.kept hr4 (hok.kept (HD.out.lt hr4) (fun k hk e => HOg.out (e ▸ hk))), by rw [← HOp.out]; exact HOk.out, fun picks => by rw [← HOp.out]; exact HFall.out picks, (Only.of_below HB4.out).trans hok (fun i hi => .inl (.inr hi)), fun k hk => .inl hk⟩)
      clear c4 hx4
      go_wp2_with (first | (refine wpList_load_mid rfl 103 (.tmp 5) rfl nb 0 rfl (stL P) _ HRn.out Tryz.underlying103 rfl (size_of_state HLn.out) ?_) | (refine wpList_store_mid rfl 103 (.tmp 46) (.tmp 44) rfl g 2 (stL P).toArray rfl rfl HTh.out HSzS.out (all_oneCell_toArray (stL_one _)) ?_))
      go_ret
      exact ⟨_, rfl, .inl rfl, HFin.out⟩
set_option maxRecDepth 100000 in
set_option maxHeartbeats 8000000 in
theorem openOldA_any (DD : DevOk Real) (O : PairOk Real PR) (OA : PairArm Real PR) (S : Nat → Addr) (w0 w : World) (d n q k : Nat) (F : Nat → Prop) (P : PS) (cont : Cont) (s : DSt) (hS : Sent6 w0 S) (hb0 : Below w0.heap.size w0 w) (hr : Real w d (s.armed k) F) (hk : k ≤ 1000) (hFn : ∀ k, F k → w0.heap.size ≤ k) (hst : Stays s n q P cont) (hq : q + 10 ≤ 700000) (n0 : 300 ≤ n) (n1 : n ≤ 6000) (he : 1 ≤ P.epoch ∧ P.epoch ≤ 1099511627776) :
    Calls Tryz.prog 15 #[.pointer (some ⟨d, 0, none⟩)] w fun e w' => (∃ v, e = .returned v) ∧ Opd Real w d n q F F P cont w' := by
  have hu := hst.up
  have hF := hst.fine
  have hro := hst.roots
  have hmm := @run_makeMap Tryz.prog
  have hok := hu.armed_ok (k := k) (by omega) hk
  have HOp := hid (O.open_ S d (s.armed k) F w ((Sent6.five hS).on hb0) hr hok (by show 300 ≤ s.blks.length; rw [hu.len]; exact n0))
  have HLd := hid (fun (w' : World) (hb : Below w.heap.size w w') => load_any DD S d n (s.armed k) F w' (hS.on (hb0.trans (hb.mono hb0.size))) (DD.kept hr (Kept.of_below hb (DD.lt hr))) ⟨hu.down, hu.len, hok⟩ n0)
  have hnw : (s.armed k).newest (halN n) = rootSt P := hro.newest he.1
  have HNw := hid hnw
  have HFn := hid hF
  have HSy := hid hst
  have HKl := hid hk
  have HOA := hid OA
  have HE := hid he
  have HSn := hid hS
  have HB0 := hid hb0
  have HR := hid hr
  have HFw := hid hFn
  have HU := hid hu
  have HD := hid DD
  have HO := hid O
  clear hS hb0 hr hFn hu hF hro he DD O OA hok hnw hst hk
  go_enter Tryz.func15, Tryz.ntmps15
  go_wp2_with fail
  refine HOp.out.mono ?_
  rintro e w1 ⟨p, G, rfl, hp, hb1, hG⟩
  rw [show (s.armed k).blks.length = n from HU.out.len] at hp
  have HP1 := hid hp
  have HB1 := hid hb1
  have HGw := hid hG
  clear hp hb1 hG
  go_wp2_with fail
  refine (HLd.out _ HB1.out).mono ?_
  rw [HNw.out]
  rintro e w2 ⟨o, rfl, ho, hb2, hoA⟩
  obtain ⟨oe, oA, on, oc⟩ := o
  obtain ⟨h1, h2⟩ := ho
  simp only at h1 h2
  obtain rfl : oe = P.epoch := h1
  obtain rfl : 7 = on := by rw [← h2.len]; exact HFn.out.len.i.symm
  have HB2 := hid (HB1.out.trans (hb2.mono HB1.out.size))
  have HB12 := hid hb2
  have HRf := hid h2
  have HoA := hid hoA
  have hdec : decide (0 < (rootSt P).epoch) = true := by have := HE.out.1; show decide (0 < P.epoch) = true; simp; omega
  rw [hdec]
  clear h2 hb2 hoA hdec
  dsimp only [RV.v]
  go_upto_region 7 with fail
  obtain ⟨W3, hW3⟩ : ∃ W3, w2.alloc (.cells #[.int .i64 P.epoch, .slice oA 7 oc] 94) = W3 := ⟨_, rfl⟩
  have z1 : Below w2.heap.size w2 W3 := by rw [← hW3]; exact (Below.refl _ _).alloc (Nat.le_refl _) _
  have z2 : Blk W3 w2.heap.size 94 #[.int .i64 P.epoch, .slice oA 7 oc] := by rw [← hW3]; exact Blk.new w2 _ _
  have HZ1 := hid z1
  have HZ2 := hid z2
  rw [hW3]
  clear hW3 z1 z2
  go_upto_region 9 with (refine wpList_built3 rfl 105 0 1 3 (.tmp 26) (.tmp 27) (.tmp 28) rfl (.pointer (some ⟨d, 0, none⟩)) (.pointer (some ⟨p, 0, none⟩)) (.map (some W3.heap.size)) rfl rfl rfl _ (Tryz.built_store d p W3.heap.size) ?_)
  obtain ⟨W5, hW5⟩ : ∃ W5, (W3.alloc (.map #[] 0)).alloc (.cells (Value.pointer (some ⟨d, 0, none⟩) :: Value.pointer (some ⟨p, 0, none⟩) :: (stL (noPS 0) ++ [Value.map (some W3.heap.size)])).toArray 105) = W5 := ⟨_, rfl⟩
  have y1 : (W3.alloc (.map #[] 0)).heap.size = W3.heap.size + 1 := by simp
  have y2 : Below W3.heap.size W3 W5 := by rw [← hW5]; exact ((Below.refl _ _).alloc (Nat.le_refl _) _).alloc (by rw [y1]; omega) _
  have y3 : W5.heap[W3.heap.size]? = some (.map #[] 0) := by rw [← hW5]; exact heap_alloc2_old W3 _ _
  have y4 : HoldsP W5 (W3.heap.size + 1) 105 [.pointer (some ⟨d, 0, none⟩), .pointer (some ⟨p, 0, none⟩)] (noPS 0) [.map (some W3.heap.size)] := by
    rw [← hW5]; exact heap_alloc2_new W3 _ _
  have HY1 := hid y2
  have hb5 : Below w.heap.size w W5 := HB2.out.trans ((HZ1.out.trans (y2.mono HZ1.out.size)).mono HB2.out.size)
  have HB5 := hid hb5
  obtain ⟨mm, hmm2⟩ : ∃ mm, W3.heap.size = mm := ⟨_, rfl⟩
  rw [hW5]
  rw [hmm2] at y3 y4
  rw [hmm2]
  have HMm := hid hmm2
  have hzm : w.heap.size ≤ mm := by have := HB2.out.size; have := HZ1.out.size; omega
  have hsto : Sto W5 (mm + 1) d p mm (noPS 0) noChg (.map []) (fun _ => False) := ⟨y4, chd_made mm y3, noPS_len 0, by omega, id⟩
  have hb25 := HZ1.out.trans (y2.mono HZ1.out.size)
  have hb15 : Below w1.heap.size w1 W5 := HB12.out.trans (hb25.mono HB12.out.size)
  have hpd : Pd (RealA Real k) PR S w0 W5 d p s n 0 q F G := ⟨HD.out.kept HR.out (Kept.of_below hb5 (HD.out.lt HR.out)), HO.out.kept HP1.out (Kept.of_below hb15 (HO.out.lt HP1.out)), HB0.out.trans (hb5.mono HB0.out.size), HSn.out.five, HFw.out, fun k hk => by have := HGw.out k hk; have := HB0.out.size; omega, fun k hk hg => by have := HD.out.lt HR.out k hk; have := HGw.out k hg; omega, HU.out, by omega, n0, n1⟩
  have hGl : ∀ k, G k → k < w1.heap.size := HO.out.lt HP1.out
  have hz1 : w1.heap.size ≤ mm := by have := HB12.out.size; have := HZ1.out.size; have := HMm.out; omega
  have hoff : ∀ k, mm ≤ k → ¬ (F k ∨ G k) := fun k hk h => by
    rcases h with h | h
    · have := HD.out.lt HR.out k h; omega
    · have := hGl k h; omega
  have hx5 := HZ2.out.below y2 HZ2.out.lt
  have c0 : W5.cell? ⟨w2.heap.size, 0, none⟩ = some (.int .i64 P.epoch) := Blk.cell hx5 0
  have c1 : W5.cell? ⟨w2.heap.size, 1, none⟩ = some (.slice oA 7 oc) := Blk.cell hx5 1
  have HTk := hid (takeUpA_any HD.out HO.out HOA.out S w0 W5 (mm + 1) d p mm n 0 q k oc (.map []) (fun _ => False) F G oA P cont s hsto hpd HKl.out HSn.out (fun h => hoff (mm + 1) (by omega) (.inl h)) hq HSy.out HE.out (HRf.out.on hb25))
  have HFn2 := hid (And.intro hzm HB5.out)
  clear y1 y2 y3 y4 hW5 hb5 hb25 hb15 hpd hGl hz1 hoff hx5 hsto hmm2 hzm
  go_wp2_with fail
  refine HTk.out.mono ?_
  rintro e w6 ⟨v6, rfl, hv6, t, F6, k1, k2, k3, k4, k5⟩
  have HF := hid (show Opd Real w d n q F F P cont w6 from by
    obtain ⟨hzm, hb5⟩ := HFn2.out
    have hz5 := hb5.size
    exact ⟨t, F6, k1, k2, k3, (Only.of_below hb5).trans k4 (fun i hi => hi.imp id (fun e => by omega)), fun k hk => (k5 k hk).imp id (fun h => by omega)⟩)
  clear k1 k2 k3 k4 k5 c0 c1
  rcases hv6 with rfl | hv6
  · go_wp2
    go_ret2
    exact ⟨⟨_, rfl⟩, HF.out⟩
  · obtain ⟨j6, _, _, hvj⟩ := hv6.one (by decide)
    subst hvj
    clear hv6
    go_wp2
    go_ret2
    exact ⟨⟨_, rfl⟩, HF.out⟩
set_option maxRecDepth 100000 in
set_option maxHeartbeats 8000000 in
theorem openNewA_any (DD : DevOk Real) (O : PairOk Real PR) (S : Nat → Addr) (w0 w : World) (d n q k : Nat) (F : Nat → Prop) (cont : Cont) (s : DSt) (hS : Sent6 w0 S) (hb0 : Below w0.heap.size w0 w) (hr : Real w d (s.armed k) F) (hk : k ≤ 1000) (hFn : ∀ k, F k → w0.heap.size ≤ k) (hst : Stays s n q (noPS 0) cont) (hq : q ≤ 700000) (n0 : 300 ≤ n) (n1 : n ≤ 6000) :
    Calls Tryz.prog 15 #[.pointer (some ⟨d, 0, none⟩)] w fun e w' => (∃ v, e = .returned v) ∧ Opd Real w d n q F F (noPS 0) cont w' := by
  have hu := hst.up
  have hro := hst.roots
  have hmm := @run_makeMap Tryz.prog
  have hok := hu.armed_ok (k := k) (by omega) hk
  have HOp := hid (O.open_ S d (s.armed k) F w ((Sent6.five hS).on hb0) hr hok (by show 300 ≤ s.blks.length; rw [hu.len]; exact n0))
  have HLd := hid (fun (w' : World) (hb : Below w.heap.size w w') => load_any DD S d n (s.armed k) F w' (hS.on (hb0.trans (hb.mono hb0.size))) (DD.kept hr (Kept.of_below hb (DD.lt hr))) ⟨hu.down, hu.len, hok⟩ n0)
  have hnw : ((s.armed k).newest (halN n)).epoch = 0 := hro.newest0 rfl
  have HZr := hid (show (s.armed k).read 1 = (0, List.replicate 256 0) from hro.zero rfl)
  have HOp2 := hid (And.intro (show (s.armed k).okN (q + 3) from (hu.armed_okN hk).more (by omega)) (show ∀ picks, Stays ((s.armed k).crash picks) n (q + 3) (noPS 0) cont from fun picks => (hst.more (by omega)).crash picks))
  obtain ⟨R, hR⟩ : ∃ R, (s.armed k).newest (halN n) = R := ⟨_, rfl⟩
  rw [hR] at HLd hnw
  have HNw := hid hnw
  have HSn := hid hS
  have HB0 := hid hb0
  have HR := hid hr
  have HFw := hid hFn
  have HU := hid hu
  have HD := hid DD
  have HO := hid O
  clear hS hb0 hr hFn hu hro DD O hnw hR hst hk
  go_enter Tryz.func15, Tryz.ntmps15
  go_wp2_with fail
  refine HOp.out.mono ?_
  rintro e w1 ⟨p, G, rfl, hp, hb1, hG⟩
  rw [show (s.armed k).blks.length = n from HU.out.len] at hp
  have HP1 := hid hp
  have HB1 := hid hb1
  have HGw := hid hG
  clear hp hb1 hG
  go_wp2_with fail
  refine (HLd.out _ HB1.out).mono ?_
  rintro e w2 ⟨o, rfl, ho, hb2, hoA⟩
  obtain ⟨oe, oA, on, oc⟩ := o
  obtain ⟨h1, h2⟩ := ho
  simp only at h1 h2
  have h3 : oe = 0 := h1.trans HNw.out
  subst h3
  have HB2 := hid (HB1.out.trans (hb2.mono HB1.out.size))
  have HB12 := hid hb2
  have hdec : decide (0 < R.epoch) = false := by rw [HNw.out]; decide
  rw [hdec]
  clear h1 h2 hb2 hoA hdec
  dsimp only [RV.v]
  go_upto_region 7 with fail
  obtain ⟨W3, hW3⟩ : ∃ W3, w2.alloc (.cells #[.int .i64 0, .slice oA on oc] 94) = W3 := ⟨_, rfl⟩
  have z1 : Below w2.heap.size w2 W3 := by rw [← hW3]; exact (Below.refl _ _).alloc (Nat.le_refl _) _
  have z2 : Blk W3 w2.heap.size 94 #[.int .i64 0, .slice oA on oc] := by rw [← hW3]; exact Blk.new w2 _ _
  have HZ1 := hid z1
  have HZ2 := hid z2
  rw [hW3]
  clear hW3 z1 z2
  go_upto_region 10 with (refine wpList_built3 rfl 105 0 1 3 (.tmp 26) (.tmp 27) (.tmp 28) rfl (.pointer (some ⟨d, 0, none⟩)) (.pointer (some ⟨p, 0, none⟩)) (.map (some W3.heap.size)) rfl rfl rfl _ (Tryz.built_store d p W3.heap.size) ?_)
  obtain ⟨W5, hW5⟩ : ∃ W5, (W3.alloc (.map #[] 0)).alloc (.cells (Value.pointer (some ⟨d, 0, none⟩) :: Value.pointer (some ⟨p, 0, none⟩) :: (stL (noPS 0) ++ [Value.map (some W3.heap.size)])).toArray 105) = W5 := ⟨_, rfl⟩
  have y1 : (W3.alloc (.map #[] 0)).heap.size = W3.heap.size + 1 := by simp
  have y2 : Below W3.heap.size W3 W5 := by rw [← hW5]; exact ((Below.refl _ _).alloc (Nat.le_refl _) _).alloc (by rw [y1]; omega) _
  have y3 : W5.heap[W3.heap.size]? = some (.map #[] 0) := by rw [← hW5]; exact heap_alloc2_old W3 _ _
  have y4 : HoldsP W5 (W3.heap.size + 1) 105 [.pointer (some ⟨d, 0, none⟩), .pointer (some ⟨p, 0, none⟩)] (noPS 0) [.map (some W3.heap.size)] := by
    rw [← hW5]; exact heap_alloc2_new W3 _ _
  have HY1 := hid y2
  have hb5 : Below w.heap.size w W5 := HB2.out.trans ((HZ1.out.trans (y2.mono HZ1.out.size)).mono HB2.out.size)
  have HB5 := hid hb5
  obtain ⟨mm, hmm2⟩ : ∃ mm, W3.heap.size = mm := ⟨_, rfl⟩
  rw [hW5]
  rw [hmm2] at y3 y4
  rw [hmm2]
  have HMm := hid hmm2
  have hzm : w.heap.size ≤ mm := by have := HB2.out.size; have := HZ1.out.size; omega
  have hsto : Sto W5 (mm + 1) d p mm (noPS 0) noChg (.map []) (fun _ => False) := ⟨y4, chd_made mm y3, noPS_len 0, by omega, id⟩
  have hb25 := HZ1.out.trans (y2.mono HZ1.out.size)
  have hb15 : Below w1.heap.size w1 W5 := HB12.out.trans (hb25.mono HB12.out.size)
  have hpd : Pd (RealA Real k) PR S w0 W5 d p s n 0 q F G := ⟨HD.out.kept HR.out (Kept.of_below hb5 (HD.out.lt HR.out)), HO.out.kept HP1.out (Kept.of_below hb15 (HO.out.lt HP1.out)), HB0.out.trans (hb5.mono HB0.out.size), HSn.out.five, HFw.out, fun k hk => by have := HGw.out k hk; have := HB0.out.size; omega, fun k hk hg => by have := HD.out.lt HR.out k hk; have := HGw.out k hg; omega, HU.out, by omega, n0, n1⟩
  have hGl : ∀ k, G k → k < w1.heap.size := HO.out.lt HP1.out
  have hz1 : w1.heap.size ≤ mm := by have := HB12.out.size; have := HZ1.out.size; have := HMm.out; omega
  have hoff : ∀ k, mm ≤ k → ¬ (F k ∨ G k) := fun k hk h => by
    rcases h with h | h
    · have := HD.out.lt HR.out k h; omega
    · have := hGl k h; omega
  have HTk := hid (checkNew_any HD.out HO.out S (mm + 1) d p mm n 0 (s.armed k) F G (.map []) (fun _ => False) W5 hsto hpd.pr hpd.real hok (hpd.sent0.on hpd.below) HZr.out (halN_gm n0 n1))
  have HFn2 := hid (And.intro hzm (And.intro HGw.out (And.intro HB5.out (And.intro hoff y4.lt))))
  have HPd5 := hid hpd
  have HSt5 := hid hsto
  clear y1 y2 y3 y4 hW5 hb5 hb25 hb15 hpd hGl hz1 hoff hsto hmm2 hzm hok
  go_wp2_with fail
  refine HTk.out.mono ?_
  rintro e w6 ⟨rfl, hb6⟩
  have HF := hid (show Opd Real w d n q F F (noPS 0) cont w6 from by
    obtain ⟨hzm, hgw, hb5, hoff, hlt⟩ := HFn2.out
    have hb56 : Below w.heap.size w w6 := hb5.trans (hb6.mono hb5.size)
    exact ⟨s.armed k, F, HD.out.kept HR.out (Kept.of_below hb56 (HD.out.lt HR.out)), HOp2.out.1, HOp2.out.2, Only.of_below hb56, fun k hk => .inl hk⟩)
  clear hb6
  go_wp2
  go_ret2
  exact ⟨⟨_, rfl⟩, HF.out⟩
end
end Go.Proofs.YtaonhbmimaiiiaaGreatDoor
