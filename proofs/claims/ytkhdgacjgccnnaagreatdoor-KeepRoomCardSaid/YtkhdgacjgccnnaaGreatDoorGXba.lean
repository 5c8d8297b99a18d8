/- Put together out of 1 texts. Package page: takeUp. -/
import Derived.Test.YtkhdgacjgccnnaaGreatDoorGXaz
namespace Go.Proofs.YtkhdgacjgccnnaaGreatDoor
open Go.RowKit Go.Maps

theorem store_blk {w : World} {g : Nat} {t : TypeId} {P0 P : PS} (hb : Blk w g t (stL P0).toArray) (h0 : P0.Len) (h : P.Len) : (storeCells ⟨g, 0, none⟩ (stL P)).run Tryz.prog w = .ok () (w.setCells g 0 (stL P)) := by
  refine run_storeCells_cells g 0 (stL P) 0 w (fun j hj => ?_) (fun j _ => Blk.free hb _) (stL_one P)
  rw [stL_len h] at hj
  simp only [Nat.zero_add]
  rw [Blk.cell hb]
  simp only [List.getElem?_toArray]
  rw [List.getElem?_eq_getElem (by rw [stL_len h0]; exact hj)]; rfl
theorem blk_stored {w : World} {g : Nat} {t : TypeId} {P0 P : PS} (hb : Blk w g t (stL P0).toArray) (h0 : P0.Len) (h : P.Len) : Blk (w.setCells g 0 (stL P)) g t (stL P).toArray := by
  have h4 : Blk w g t ([] ++ (stL P0 ++ [])).toArray := by rw [List.nil_append, List.append_nil]; exact hb
  have h5 := blk_setCells (stL P) (stL P0) [] w (by rw [stL_len h, stL_len h0]) h4
  rw [List.nil_append, List.append_nil] at h5
  exact h5
theorem blk_range {w : World} {g : Nat} {t : TypeId} {cs : List Value} (h : Blk w g t cs.toArray) : w.rangeAt g 0 cs := fun j v hv => by
  rw [Nat.zero_add, Blk.cell h]
  simp only [List.getElem?_toArray]; exact hv
theorem there_mid {w : World} {g d p mm : Nat} {P0 P : PS} (h : HoldsP w g 97 [.pointer (some ⟨d, 0, none⟩), .pointer (some ⟨p, 0, none⟩)] P0 [.map (some mm)]) (h0 : P0.Len) (hP : P.Len) : w.there g 2 (stL P).toArray.size := fun j hj => by
  have hj2 : j < (stL P0).length := by rw [stL_len h0]; rw [List.size_toArray, stL_len hP] at hj; exact hj
  have h1 := h.at_ (List.getElem?_eq_getElem hj2)
  exact ⟨by rw [show (⟨g, 2 + j, none⟩ : Addr) = ⟨g, [Value.pointer (some ⟨d, 0, none⟩), Value.pointer (some ⟨p, 0, none⟩)].length + j, none⟩ from rfl, h1]; rfl, Blk.free h _⟩
/-- a state was read, and laid at nb -/
def TkAt (Real : World → Nat → DSt → (Nat → Prop) → Prop) (PR : World → Nat → Nat → Nat → Nat → (Nat → Prop) → Prop) (S : Nat → Addr) (w0 w : World) (g d p mm n m q : Nat) (P0 : PS) (ch : Chg) (D : DataW Unit) (C F G : Nat → Prop) (P : PS) (s : DSt) (cs : Array Value) (nb : Nat) (wz : World) : Prop :=
  ∃ F' G', Pd Real PR S w0 wz d p s n m q F' G' ∧ Sto wz g d p mm P0 ch D C ∧ Blk wz nb 95 (stL P).toArray ∧ Blk wz w.heap.size 85 cs ∧ Only (fun k => F k ∨ G k) w wz ∧ (∀ k, F' k → F k ∨ G k ∨ w.heap.size ≤ k) ∧ (∀ k, G' k → F k ∨ G k ∨ w.heap.size ≤ k) ∧ ¬ (F' nb ∨ G' nb) ∧ ¬ (F' w.heap.size ∨ G' w.heap.size) ∧ w.heap.size < nb
section
variable {Real : World → Nat → DSt → (Nat → Prop) → Prop} {PR : World → Nat → Nat → Nat → Nat → (Nat → Prop) → Prop} {S : Nat → Addr} {w0 w wa w3 wb wz : World} {g d p mm n m q nb : Nat} {P0 P : PS} {ch : Chg} {D : DataW Unit} {C F G : Nat → Prop} {s : DSt} {cs : Array Value}
theorem tkAt_of (DD : DevOk Real) (O : PairOk Real PR) (h : Sto w g d p mm P0 ch D C) (hog : ¬ (F g ∨ G g)) (hom : ¬ (F mm ∨ G mm)) (hoC : ∀ k, C k → ¬ (F k ∨ G k)) (h0 : w0.heap.size ≤ w.heap.size) (hFl : ∀ k, F k ∨ G k → k < w.heap.size) (hP : P.Len) (ha : Below w.heap.size w wa) (hbx : Blk wa w.heap.size 85 cs) (hst : Stepped Real PR S w0 wa d p s n m q F G (fun _ _ => True) w3) (hb : Below w3.heap.size w3 wb) (hnb : Blk wb nb 95 (stL (noPS 0)).toArray) (hn : w.heap.size < nb) (hap : nb < wa.heap.size ∨ w3.heap.size ≤ nb) :
    TkAt Real PR S w0 w g d p mm n m q P0 ch D C F G P s cs nb (wb.setCells nb 0 (stL P)) := by
  obtain ⟨F', G', k1, k2, k3, k4, _⟩ := hst
  have hz := ha.size
  have hz2 := k2.size
  have hz3 := hb.size
  have hlF := DD.lt k1.real
  have hlG := O.lt k1.pr
  have hbl := hbx.lt
  have hgl := h.box.lt
  have hml := h.chd.map.lt
  have hnn : ¬ (F' nb ∨ G' nb) := fun hk => by
    rcases hap with hap | hap
    · rcases hk with hk | hk
      · rcases k3 nb hk with h' | h' | h'
        · have := hFl nb (.inl h'); omega
        · have := hFl nb (.inr h'); omega
        · omega
      · rcases k4 nb hk with h' | h' | h'
        · have := hFl nb (.inl h'); omega
        · have := hFl nb (.inr h'); omega
        · omega
    · rcases hk with hk | hk
      · have := hlF nb hk; omega
      · have := hlG nb hk; omega
  have hg := only_setCells (only_refl wb (some nb)) (stL P) 0
  have ho : Only (fun k => k = nb) wb (wb.setCells nb 0 (stL P)) := ⟨hg.os, hg.tape, hg.output, hg.size, fun k hk hn => hg.block k hk (fun e => hn (by injection e))⟩
  have hbw : ∀ k, F' k ∨ G' k → ¬ k = w.heap.size := fun k hk e => by
    subst e
    rcases hk with hk | hk
    · rcases k3 _ hk with h' | h' | h'
      · have := hFl _ (.inl h'); omega
      · have := hFl _ (.inr h'); omega
      · omega
    · rcases k4 _ hk with h' | h' | h'
      · have := hFl _ (.inl h'); omega
      · have := hFl _ (.inr h'); omega
      · omega
  refine ⟨F', G', (k1.on DD O hb).beside DD O ho (fun k hk e => hnn (.inl (e ▸ hk))) (fun k hk e => hnn (.inr (e ▸ hk))) (fun k e => by omega), ?_, blk_stored hnb (noPS_len 0) hP, ?_, ?_, fun k hk => (k3 k hk).imp id (fun h => h.imp id (fun h => by omega)), fun k hk => (k4 k hk).imp id (fun h => h.imp id (fun h => by omega)), hnn, fun h => hbw _ h rfl, hn⟩
  · have s1 := ((h.below ha).only k2 hog hom hoC).below hb
    exact s1.grown hg (by omega) (by omega) (fun hc => by have := (h.chd.lt nb hc).1; omega)
  · have b1 : Blk w3 w.heap.size 85 cs := (k2.block _ hbl (fun hk => by have := hFl _ hk; omega)).trans hbx
    exact ((b1.below hb b1.lt)).grown hg (fun e => by injection e with e; omega)
  · exact (((Only.of_below ha).trans k2 (fun i hi => .inl hi)).then_below hb).trans ho (fun i hi => .inr (by omega))
end
section
variable {Real : World → Nat → DSt → (Nat → Prop) → Prop} {PR : World → Nat → Nat → Nat → Nat → (Nat → Prop) → Prop} {S : Nat → Addr} {w0 w w5 : World} {g d p mm n m q : Nat} {P0 P : PS} {ch : Chg} {D : DataW Unit} {C F G F5 G5 : Nat → Prop} {s : DSt}
theorem tk_done (DD : DevOk Real) (O : PairOk Real PR) (hs : Sto w5 g d p mm P0 ch D C) (hP : P.Len) (hpd : Pd Real PR S w0 w5 d p s n m q F5 G5) (ho : Only (fun k => F k ∨ G k) w w5) (hF : ∀ k, F5 k → F k ∨ G k ∨ w.heap.size ≤ k) (hG : ∀ k, G5 k → F k ∨ G k ∨ w.heap.size ≤ k) (hg : ¬ (F5 g ∨ G5 g)) (hg0 : w0.heap.size ≤ g) :
    ∃ F' G', Pd Real PR S w0 (w5.setCells g 2 (stL P)) d p s n m q F' G' ∧ Sto (w5.setCells g 2 (stL P)) g d p mm P ch D C ∧ Only (fun k => F k ∨ G k ∨ k = g) w (w5.setCells g 2 (stL P)) ∧ (∀ k, F' k → F k ∨ G k ∨ w.heap.size ≤ k) ∧ ∀ k, G' k → F k ∨ G k ∨ w.heap.size ≤ k := by
  have hgr : w5.grownBy (w5.setCells g 2 (stL P)) (some g) := only_setCells (only_refl w5 (some g)) (stL P) 2
  have hbx : HoldsP (w5.setCells g 2 (stL P)) g 97 [.pointer (some ⟨d, 0, none⟩), .pointer (some ⟨p, 0, none⟩)] P [.map (some mm)] := blk_setCells (stL P) (stL P0) [.pointer (some ⟨d, 0, none⟩), .pointer (some ⟨p, 0, none⟩)] w5 (by rw [stL_len hs.len, stL_len hP]) hs.box
  have hok : Only (fun k => k = g) w5 (w5.setCells g 2 (stL P)) := ⟨hgr.os, hgr.tape, hgr.output, hgr.size, fun k hk hn => hgr.block k hk (fun e => hn (by injection e))⟩
  refine ⟨F5, G5, hpd.beside DD O hok (fun k hk e => hg (.inl (e ▸ hk))) (fun k hk e => hg (.inr (e ▸ hk))) (fun k e => by rw [e]; exact hg0), ⟨hbx, hs.chd.same hgr.size (hok.block mm hs.chd.map.lt (fun e => hs.ap.1 e.symm)) (fun k hk => hok.block k (hs.chd.lt k hk).1 (fun e => hs.ap.2 (e ▸ hk))), hP, hs.ap⟩, ?_, hF, hG⟩
  exact (ho.mono (fun i hi => .inl (hi.elim .inl (fun h => .inr (.inl h))))).trans hok (fun i hi => .inl (.inr (.inr hi)))
end
/-- behind Open's reading -/
def opDev (s : DSt) (H : Nat) (P : PS) : DSt := if (rdTo H P.idx s 7).1.copies H < 2 then fl (pWrite (rdTo H P.idx s 7).1 H (P.epoch % 2).toNat (bytesOf (rootSt P))) else (rdTo H P.idx s 7).1
theorem rf_only {w w' : World} {A : Option Addr} {n c : Nat} {l : List (Int × Nat)} {K : Nat → Prop} (h : Rf w w.heap.size A n c l) (ho : Only K w w') (hn : ∀ ad, A = some ad → ¬ K ad.block) : Rf w' w'.heap.size A n c l :=
  h.same ho.size (fun ad ha h0 => ho.block _ (h.at_ ad ha h0).1 (hn ad ha))
section
variable {P0 : PS} {ch : Chg} {Real : World → Nat → DSt → (Nat → Prop) → Prop} {PR : World → Nat → Nat → Nat → Nat → (Nat → Prop) → Prop}
set_option maxRecDepth 100000 in
set_option maxHeartbeats 8000000 in
theorem takeUp_any (DD : DevOk Real) (O : PairOk Real PR) (S : Nat → Addr) (w0 w : World) (g d p mm n m q c : Nat) (D : DataW Unit) (C F G : Nat → Prop) (A : Option Addr) (P : PS) (cont : Cont) (s : DSt) (h : Sto w g d p mm P0 ch D C) (hpd : Pd Real PR S w0 w d p s n m q F G) (hS : Sent6 w0 S) (hg0 : w0.heap.size ≤ g) (hog : ¬ (F g ∨ G g)) (hom : ¬ (F mm ∨ G mm)) (hoC : ∀ k, C k → ¬ (F k ∨ G k)) (hm : m + 7 ≤ 1000) (hq : q + 10 ≤ 700000) (hF : Fine (halN n) P cont) (hd : Held s (halN n) P cont) (hr : Roots s (halN n) (rootSt P)) (he : 1 ≤ P.epoch ∧ P.epoch ≤ 1099511627776) (hrf : Rf w w.heap.size A 7 c P.idx) (hAo : ∀ ad, A = some ad → ¬ (F ad.block ∨ G ad.block)) :
    Calls Tryz.prog 36 #[.pointer (some ⟨g, 0, none⟩), rtV P.epoch A 7 c] w fun e w' => e = .returned .nilIface ∧ ∃ F' G', Pd Real PR S w0 w' d p (opDev s (halN n) P) n (m + (rdTo (halN n) P.idx s 7).2) (q + 10) F' G' ∧ Sto w' g d p mm P ch D C ∧ Only (fun k => F k ∨ G k ∨ k = g) w w' ∧ (∀ k, F' k → F k ∨ G k ∨ w.heap.size ≤ k) ∧ ∀ k, G' k → F k ∨ G k ∨ w.heap.size ≤ k := by
  have hzc := fun W => (zero_of_info Tryz.zeroState).1 W
  have HPd := hid hpd
  have HFn := hid hF
  have HHd := hid hd
  have HRf := hid hrf
  have HSt0 := hid h
  have HSn := hid hS
  have HRo := hid hr
  have HE := hid he
  have HG0 := hid hg0
  have HAo := hid hAo
  have HOff := hid (And.intro hog (And.intro hom hoC))
  have HD := hid DD
  have HO := hid O
  have HLt := hid (And.intro (DD.lt hpd.real) (O.lt hpd.pr))
  obtain ⟨W1, hW1⟩ : ∃ W1, w.alloc (.cells #[.int .i64 P.epoch, .slice A 7 c] 85) = W1 := ⟨_, rfl⟩
  have z1 : Below w.heap.size w W1.drew := by rw [← hW1]; exact ((Below.refl _ _).alloc (Nat.le_refl _) _).drew
  have z2 : Blk W1.drew w.heap.size 85 #[.int .i64 P.epoch, .slice A 7 c] := by rw [← hW1]; exact (Blk.new w _ _).drew
  have z3 : W1.drew.heap.size = w.heap.size + 1 := by rw [← hW1]; simp
  have HZ1 := hid z1
  have HZ2 := hid z2
  have HZ3 := hid (show W1.heap.size = w.heap.size + 1 from z3)
  have HB := hid (fun (w' : World) (hb : Below W1.drew.heap.size W1.drew w') => z1.trans (hb.mono z1.size))
  have HSt := hid (fun (w' : World) (hb : Below W1.drew.heap.size W1.drew w') => stateOf_any DD O S w0 w' d p n m q c F G A P cont s (hpd.on DD O (HB.out w' hb)) hm (by omega) hF hd (hrf.on (HB.out w' hb)))
  have HCe := hid (fun (wa w' : World) (hb : Below W1.drew.heap.size W1.drew wa) (ho : Only (fun k => F k ∨ G k) wa w') => (show (w'.cell? ⟨g, 1, none⟩ = some (.pointer (some ⟨p, 0, none⟩)) ∧ w'.cell? ⟨w.heap.size, 0, none⟩ = some (.int .i64 P.epoch) ∧ w'.cell? ⟨w.heap.size, 1, none⟩ = some (.slice A 7 c)) from by
    have hs := (h.below (HB.out wa hb)).only ho hog hom hoC
    have hk : Blk wa w.heap.size 85 #[.int .i64 P.epoch, .slice A 7 c] := z2.below hb z2.lt
    have hk2 := (ho.block w.heap.size hk.lt (fun h => by rcases h with h | h; (have := DD.lt hpd.real _ h; omega); (have := O.lt hpd.pr _ h; omega))).trans hk
    exact ⟨hs.prs, Blk.cell hk2 0, Blk.cell hk2 1⟩))
  have HBa := hid (show Below W1.drew.heap.size W1.drew (W1.drew.alloc (.cells (stL (noPS 0)).toArray 95)) from (Below.refl _ _).alloc (Nat.le_refl _) _)
  have HLn := hid hF.len
  have HTn := hid (fun (w3 : World) => store_blk (P := P) (Blk.new w3 95 (stL (noPS 0)).toArray) (noPS_len 0) hF.len)
  have HBo := hid (fun (w3 : World) (ho : Only (fun k => F k ∨ G k) (W1.drew.alloc (.cells (stL (noPS 0)).toArray 95)) w3) => (show Blk w3 W1.heap.size 95 (stL (noPS 0)).toArray from (ho.block W1.drew.heap.size (Blk.new W1.drew _ _).lt (fun h => by rcases h with h | h; (have := DD.lt hpd.real _ h; omega); (have := O.lt hpd.pr _ h; omega))).trans (Blk.new W1.drew 95 (stL (noPS 0)).toArray)))
  have HTo := hid (fun (w3 : World) (hb : Blk w3 W1.heap.size 95 (stL (noPS 0)).toArray) => store_blk (P := P) hb (noPS_len 0) hF.len)
  have HDn := hid (fun (wa w3 wb : World) (nb : Nat) (ha : Below W1.drew.heap.size W1.drew wa) (hst : Stepped Real PR S w0 wa d p (rdTo (halN n) P.idx s 7).1 n (m + (rdTo (halN n) P.idx s 7).2) (q + 7) F G (fun _ _ => True) w3) (hb : Below w3.heap.size w3 wb) (hnb : Blk wb nb 95 (stL (noPS 0)).toArray) (hn : w.heap.size < nb) (hap : nb < wa.heap.size ∨ w3.heap.size ≤ nb) => tkAt_of DD O h hog hom hoC hpd.below.size (fun k hk => hk.elim (DD.lt hpd.real k) (O.lt hpd.pr k)) hF.len (HB.out wa ha) (z2.below ha z2.lt) hst hb hnb hn hap)
  have HCs := hid (fun (w' : World) (nb : Nat) (hn : w.heap.size < nb) (hk : w'.cell? ⟨g, 1, none⟩ = some (.pointer (some ⟨p, 0, none⟩)) ∧ w'.cell? ⟨w.heap.size, 0, none⟩ = some (.int .i64 P.epoch) ∧ w'.cell? ⟨w.heap.size, 1, none⟩ = some (.slice A 7 c)) => (show (w'.setCells nb 0 (stL P)).cell? ⟨g, 1, none⟩ = some (.pointer (some ⟨p, 0, none⟩)) ∧ (w'.setCells nb 0 (stL P)).cell? ⟨w.heap.size, 0, none⟩ = some (.int .i64 P.epoch) ∧ (w'.setCells nb 0 (stL P)).cell? ⟨w.heap.size, 1, none⟩ = some (.slice A 7 c) from by
    have hgl := h.box.lt
    rw [World.cell?_setCells_out nb (stL P) 0 w' ⟨g, 1, none⟩ (fun e _ => by have : g = nb := e; omega), World.cell?_setCells_out nb (stL P) 0 w' ⟨w.heap.size, 0, none⟩ (fun e _ => by have : w.heap.size = nb := e; omega), World.cell?_setCells_out nb (stL P) 0 w' ⟨w.heap.size, 1, none⟩ (fun e _ => by have : w.heap.size = nb := e; omega)]
    exact hk))
  have HCa := hid (fun (w' : World) (hk : w'.cell? ⟨g, 1, none⟩ = some (.pointer (some ⟨p, 0, none⟩)) ∧ w'.cell? ⟨w.heap.size, 0, none⟩ = some (.int .i64 P.epoch) ∧ w'.cell? ⟨w.heap.size, 1, none⟩ = some (.slice A 7 c)) (o : Obj) => (show (w'.alloc o).cell? ⟨g, 1, none⟩ = some (.pointer (some ⟨p, 0, none⟩)) ∧ (w'.alloc o).cell? ⟨w.heap.size, 0, none⟩ = some (.int .i64 P.epoch) ∧ (w'.alloc o).cell? ⟨w.heap.size, 1, none⟩ = some (.slice A 7 c) from by
    obtain ⟨h1, h2, h3⟩ := hk
    exact ⟨(World.cell?_alloc_some w' _ o (by rw [h1]; rfl)).trans h1, (World.cell?_alloc_some w' _ o (by rw [h2]; rfl)).trans h2, (World.cell?_alloc_some w' _ o (by rw [h3]; rfl)).trans h3⟩))
  have hlen := stL_len hF.len
  have k0 := HCe.out _ _ (Below.refl _ _) (Only.refl _ W1.drew)
  have k1 := HCe.out _ _ HBa.out (Only.refl _ (W1.drew.alloc (.cells (stL (noPS 0)).toArray 95)))
  clear h hpd hS hg0 hog hom hoC hF hd hr he hrf hAo DD O z1 z2 z3
  go_enter Tryz.func36, Tryz.ntmps36
  go_upto_region 1 with fail
  clear hW1
  go_region_held3 (fun w' => w'.cell? ⟨g, 1, none⟩ = some (.pointer (some ⟨p, 0, none⟩)) ∧ w'.cell? ⟨w.heap.size, 0, none⟩ = some (.int .i64 P.epoch) ∧ w'.cell? ⟨w.heap.size, 1, none⟩ = some (.slice A 7 c)) (first | exact k0 | exact k1 | exact k3 | exact k4 | exact k5) (first | (go_at_call 61; refine (HSt.out _ (Below.refl _ _)).mono ?_; rintro e w3 ⟨rfl, hst⟩; have ho3 : Only (fun k => F k ∨ G k) W1.drew w3 := (by obtain ⟨_, _, _, ho, _⟩ := hst; exact ho); have k3 := HCe.out _ w3 (Below.refl _ _) ho3; have hn3 : w.heap.size < w3.heap.size := (by have h1 : W1.heap.size ≤ w3.heap.size := ho3.size; have := HZ3.out; omega); have t3 := HTn.out w3; have k4 := HCa.out w3 k3 (.cells (stL (noPS 0)).toArray 95); have k5 := HCs.out _ w3.heap.size hn3 k4; have HTk := hid (HDn.out _ w3 _ w3.heap.size (Below.refl _ _) hst ((Below.refl w3.heap.size w3).alloc (Nat.le_refl _) (.cells (stL (noPS 0)).toArray 95)) (Blk.new w3 95 (stL (noPS 0)).toArray) hn3 (.inr (Nat.le_refl _))); clear hst ho3) | (go_at_call 61; refine (HSt.out _ HBa.out).mono ?_; rintro e w3 ⟨rfl, hst⟩; have ho3 : Only (fun k => F k ∨ G k) (W1.drew.alloc (.cells (stL (noPS 0)).toArray 95)) w3 := (by obtain ⟨_, _, _, ho, _⟩ := hst; exact ho); have k3 := HCe.out _ w3 HBa.out ho3; have hb3 := HBo.out w3 ho3; have hn3 : w.heap.size < W1.heap.size := (by have := HZ3.out; omega); have t3 := HTo.out w3 hb3; have k5 := HCs.out _ W1.heap.size hn3 k3; have HTk := hid (HDn.out _ w3 _ W1.heap.size HBa.out hst (Below.refl _ _) hb3 hn3 (.inl (Blk.new W1.drew _ _).lt)); clear hst ho3 hb3))
  ·
    obtain ⟨wz, hwz⟩ : ∃ wz, (w3.alloc (.cells (stL (noPS 0)).toArray 95)).setCells w3.heap.size 0 (stL P) = wz := ⟨_, rfl⟩
    rw [hwz] at HTk
    rw [hwz]
    obtain ⟨nb, hnb⟩ : ∃ nb, w3.heap.size = nb := ⟨_, rfl⟩
    rw [hnb] at HTk
    rw [hnb]
    clear hwz hnb k3 k4 k5 t3 hn3 k0 k1
    obtain ⟨F1, G1, hpd1, hs1, hb1, hx1, ho1, hF1, hG1, hn1, hx2, hlt1⟩ := HTk.out
    obtain ⟨k1, k2, k3, _, k5⟩ := rd_keeps HFn.out HHd.out HPd.out.up halN_two 7 (Nat.le_refl _)
    obtain ⟨s1, hs1e⟩ : ∃ s1, (rdTo (halN n) P.idx s 7).1 = s1 := ⟨_, rfl⟩
    have HS1e := hid hs1e
    obtain ⟨mk, hmk⟩ : ∃ mk, (rdTo (halN n) P.idx s 7).2 = mk := ⟨_, rfl⟩
    have HMk := hid hmk
    rw [hs1e] at hpd1 k2
    rw [hmk] at hpd1
    have HPd1 := hid hpd1
    have HS1 := hid hs1
    have HB1 := hid hb1
    have HX1 := hid hx1
    have HOn1 := hid ho1
    have HUp1 := hid (And.intro hF1 hG1)
    have HNn1 := hid (And.intro hn1 (And.intro hx2 hlt1))
    have HU1 := hid k2
    have HLo := hid (show g < w.heap.size ∧ mm < w.heap.size ∧ ∀ k, C k → k < w.heap.size from ⟨HSt0.out.box.lt, HSt0.out.chd.map.lt, fun k hk => (HSt0.out.chd.lt k hk).1⟩)
    have HOut1 := hid (show ∀ k, k < w.heap.size → ¬ (F k ∨ G k) → ¬ (F1 k ∨ G1 k) from fun k hk hn h => by
      rcases h with h | h
      · rcases hF1 k h with h' | h' | h'
        · exact hn (.inl h')
        · exact hn (.inr h')
        · omega
      · rcases hG1 k h with h' | h' | h'
        · exact hn (.inl h')
        · exact hn (.inr h')
        · omega)
    have hrf1 := rf_only HRf.out ho1 HAo.out
    have HRf1 := hid hrf1
    have c1 := hs1.dev
    have hCp := copies_any HD.out S d n s1 F1 wz (HSn.out.on hpd1.below) hpd1.real ⟨k2.down, k2.len, hpd1.ok⟩ hpd1.n0
    clear hpd1 hs1 hb1 hx1 ho1 hF1 hG1 hn1 hx2 hlt1 k1 k2 k3 k5 hrf1 hs1e hmk HTk
    obtain ⟨kc, hkc⟩ : ∃ kc, s1.copies (halN n) = kc := ⟨_, rfl⟩
    have HKc := hid hkc
    rw [hkc] at hCp
    have HCp := hid hCp
    clear hCp hkc
    go_wp2_with fail
    refine HCp.out.mono ?_
    rintro e w4 ⟨rfl, hb4⟩
    have HB4 := hid hb4
    have HPd4 := hid (HPd1.out.on HD.out HO.out hb4)
    have HS4 := hid (HS1.out.below hb4)
    have hs4 := HS4.out
    have c4 := hs4.dev
    have HBk4 := hid (HB1.out.below hb4 HB1.out.lt)
    have hx4 := HX1.out.below hb4 HX1.out.lt
    have HRf4 := hid (HRf1.out.on hb4)
    have HOn4 := hid (HOn1.out.then_below hb4)
    clear hb4 hs4
    by_cases hk2 : kc < 2
    · have hk2i : (kc : Int) < 2 := by omega
      have hdr : Below w4.heap.size w4 w4.drew := (Below.refl _ _).drew
      obtain ⟨hcode, hsums⟩ := root_code HFn.out (by unfold halN; omega) HE.out.1 HE.out.2
      have hpar : (rootSt P).epoch % 2 = (((P.epoch % 2).toNat : Nat) : Int) := by show P.epoch % 2 = _; omega
      have hH1 : 1 + halN n < n := by have := HPd4.out.n0; have := halN_two (n := n); unfold halN; omega
      obtain ⟨e3, u3⟩ := saveR_up HU1.out hcode hpar hH1
      have HSv := hid (pd_save HD.out HO.out (HPd4.out.on HD.out HO.out hdr) HSn.out (by have := HPd4.out.small; omega) (r := rootSt P) (HRf4.out.on hdr) hsums (by have := HE.out.1; show _ ≤ P.epoch; omega) (by have := HE.out.2; show P.epoch ≤ _; omega) e3 u3 (by omega))
      have HDrw := hid (HPd4.out.on HD.out HO.out hdr)
      have d0 : w4.drew.cell? ⟨g, 0, none⟩ = some (.pointer (some ⟨d, 0, none⟩)) := c4
      have d1 : w4.drew.cell? ⟨w.heap.size, 0, none⟩ = some (.int .i64 P.epoch) := Blk.cell hx4 0
      have d2 : w4.drew.cell? ⟨w.heap.size, 1, none⟩ = some (.slice A 7 c) := Blk.cell hx4 1
      have kk0 := And.intro d0 (And.intro d1 d2)
      have HKe := hid (fun (w' : World) (ho : Only (fun k => F1 k ∨ G1 k) w4.drew w') => (show w'.cell? ⟨g, 0, none⟩ = some (.pointer (some ⟨d, 0, none⟩)) ∧ w'.cell? ⟨w.heap.size, 0, none⟩ = some (.int .i64 P.epoch) ∧ w'.cell? ⟨w.heap.size, 1, none⟩ = some (.slice A 7 c) from by
        have hbg := ho.block g HS4.out.box.lt (HOut1.out g HLo.out.1 HOff.out.1)
        have hbx := ho.block w.heap.size hx4.lt HNn1.out.2.1
        exact ⟨(World.cell?_of_block hbg).trans d0, (World.cell?_of_block hbx).trans d1, (World.cell?_of_block hbx).trans d2⟩))
      clear c4 hx4 hdr
      go_upto_region 8 with fail
      go_region_held3 (fun w' => w'.cell? ⟨g, 0, none⟩ = some (.pointer (some ⟨d, 0, none⟩)) ∧ w'.cell? ⟨w.heap.size, 0, none⟩ = some (.int .i64 P.epoch) ∧ w'.cell? ⟨w.heap.size, 1, none⟩ = some (.slice A 7 c)) (first | exact kk0 | exact kk5) (first | (go_at_call 52; refine HSv.out.mono ?_; rintro e w5 ⟨rfl, hst⟩; have kk5 := HKe.out w5 (by obtain ⟨_, _, _, ho, _⟩ := hst; exact ho); have HSt5 := hid hst; clear hst))
      obtain ⟨F5, G5, hpd5, ho5, hF5, hG5, _⟩ := HSt5.out
      have HBk5 := hid (show Blk w5 nb 95 (stL P).toArray from (ho5.block nb (show nb < w4.drew.heap.size from HBk4.out.lt) HNn1.out.1).trans HBk4.out)
      have hs5 : Sto w5 g d p mm P0 ch D C := (HS4.out.below ((Below.refl w4.heap.size w4).drew)).only ho5 (HOut1.out g HLo.out.1 HOff.out.1) (HOut1.out mm HLo.out.2.1 HOff.out.2.1) (fun k hk => HOut1.out k (HLo.out.2.2 k hk) (HOff.out.2.2 k hk))
      have hz4 : w.heap.size ≤ w4.drew.heap.size := HOn4.out.size
      have up1 : ∀ k, F1 k ∨ G1 k ∨ w4.drew.heap.size ≤ k → F k ∨ G k ∨ w.heap.size ≤ k := fun k hk => by
        rcases hk with hk | hk | hk
        · exact HUp1.out.1 k hk
        · exact HUp1.out.2 k hk
        · exact .inr (.inr (by omega))
      have hon5 : Only (fun k => F k ∨ G k) w w5 := (HOn4.out.drew).trans ho5 (fun i hi => by
        rcases up1 i (hi.elim .inl (fun h => .inr (.inl h))) with h | h | h
        · exact .inl (.inl h)
        · exact .inl (.inr h)
        · exact .inr h)
      have hn5 : ¬ (F5 g ∨ G5 g) := fun h => by
        have h1 := HOut1.out g HLo.out.1 HOff.out.1
        have h2 := HLo.out.1
        rcases h with h | h
        · rcases hF5 g h with h' | h' | h'
          · exact h1 (.inl h')
          · exact h1 (.inr h')
          · omega
        · rcases hG5 g h with h' | h' | h'
          · exact h1 (.inl h')
          · exact h1 (.inr h')
          · omega
      have HFin := hid (tk_done HD.out HO.out hs5 HLn.out hpd5 hon5 (fun k hk => up1 k (hF5 k hk)) (fun k hk => up1 k (hG5 k hk)) hn5 HG0.out)
      have HOp := hid (show opDev s (halN n) P = fl (pWrite s1 (halN n) (P.epoch % 2).toNat (bytesOf (rootSt P))) from by
        unfold opDev
        rw [HS1e.out, if_pos (by rw [HKc.out]; exact hk2)])
      have HTh := hid (there_mid hs5.box hs5.len HLn.out)
      have HSzS := hid (show (Tryz.prog.info? 95).map (·.size) = some (stL P).toArray.size from by rw [List.size_toArray]; exact size_of_state HLn.out)
      have HRn := hid (blk_range HBk5.out)
      clear kk0 kk5 d0 d1 d2 hpd5 ho5 hF5 hG5 hs5 hz4 up1 hon5 hn5 e3 u3 hcode hsums hpar
      go_wp2_with (first | (refine wpList_load_mid rfl 95 (.tmp 5) rfl nb 0 rfl (stL P) _ HRn.out Tryz.underlying95 rfl (size_of_state HLn.out) ?_) | (refine wpList_store_mid rfl 95 (.tmp 46) (.tmp 44) rfl g 2 (stL P).toArray rfl rfl HTh.out HSzS.out (all_oneCell_toArray (stL_one _)) ?_))
      go_ret
      rw [HOp.out, HMk.out]
      exact ⟨rfl, HFin.out⟩
    · have hk2i : decide (kc < 2) = false := by simpa using hk2
      have HFin := hid (tk_done HD.out HO.out HS4.out HLn.out HPd4.out HOn4.out HUp1.out.1 HUp1.out.2 (HOut1.out g HLo.out.1 HOff.out.1) HG0.out)
      have HOp := hid (show opDev s (halN n) P = s1 from by
        unfold opDev
        rw [HS1e.out, if_neg (by rw [HKc.out]; exact hk2)])
      have HTh := hid (there_mid HS4.out.box HS4.out.len HLn.out)
      have HSzS := hid (show (Tryz.prog.info? 95).map (·.size) = some (stL P).toArray.size from by rw [List.size_toArray]; exact size_of_state HLn.out)
      have HRn := hid (blk_range HBk4.out)
      clear c4 hx4
      go_wp2_with (first | (refine wpList_load_mid rfl 95 (.tmp 5) rfl nb 0 rfl (stL P) _ HRn.out Tryz.underlying95 rfl (size_of_state HLn.out) ?_) | (refine wpList_store_mid rfl 95 (.tmp 46) (.tmp 44) rfl g 2 (stL P).toArray rfl rfl HTh.out HSzS.out (all_oneCell_toArray (stL_one _)) ?_))
      go_ret
      rw [HOp.out, HMk.out]
      obtain ⟨F', G', hp1, hp2⟩ := HFin.out
      exact ⟨rfl, F', G', ⟨hp1.real, hp1.pr, hp1.below, hp1.sent0, hp1.fn, hp1.gn, hp1.ap, hp1.up.more (by omega), by omega, hp1.n0, hp1.n1⟩, hp2⟩
  ·
    obtain ⟨wz, hwz⟩ : ∃ wz, w3.setCells W1.heap.size 0 (stL P) = wz := ⟨_, rfl⟩
    rw [hwz] at HTk
    rw [hwz]
    obtain ⟨nb, hnb⟩ : ∃ nb, W1.heap.size = nb := ⟨_, rfl⟩
    rw [hnb] at HTk
    rw [hnb]
    clear hwz hnb k3 k5 t3 hn3 k0 k1
    obtain ⟨F1, G1, hpd1, hs1, hb1, hx1, ho1, hF1, hG1, hn1, hx2, hlt1⟩ := HTk.out
    obtain ⟨k1, k2, k3, _, k5⟩ := rd_keeps HFn.out HHd.out HPd.out.up halN_two 7 (Nat.le_refl _)
    obtain ⟨s1, hs1e⟩ : ∃ s1, (rdTo (halN n) P.idx s 7).1 = s1 := ⟨_, rfl⟩
    have HS1e := hid hs1e
    obtain ⟨mk, hmk⟩ : ∃ mk, (rdTo (halN n) P.idx s 7).2 = mk := ⟨_, rfl⟩
    have HMk := hid hmk
    rw [hs1e] at hpd1 k2
    rw [hmk] at hpd1
    have HPd1 := hid hpd1
    have HS1 := hid hs1
    have HB1 := hid hb1
    have HX1 := hid hx1
    have HOn1 := hid ho1
    have HUp1 := hid (And.intro hF1 hG1)
    have HNn1 := hid (And.intro hn1 (And.intro hx2 hlt1))
    have HU1 := hid k2
    have HLo := hid (show g < w.heap.size ∧ mm < w.heap.size ∧ ∀ k, C k → k < w.heap.size from ⟨HSt0.out.box.lt, HSt0.out.chd.map.lt, fun k hk => (HSt0.out.chd.lt k hk).1⟩)
    have HOut1 := hid (show ∀ k, k < w.heap.size → ¬ (F k ∨ G k) → ¬ (F1 k ∨ G1 k) from fun k hk hn h => by
      rcases h with h | h
      · rcases hF1 k h with h' | h' | h'
        · exact hn (.inl h')
        · exact hn (.inr h')
        · omega
      · rcases hG1 k h with h' | h' | h'
        · exact hn (.inl h')
        · exact hn (.inr h')
        · omega)
    have hrf1 := rf_only HRf.out ho1 HAo.out
    have HRf1 := hid hrf1
    have c1 := hs1.dev
    have hCp := copies_any HD.out S d n s1 F1 wz (HSn.out.on hpd1.below) hpd1.real ⟨k2.down, k2.len, hpd1.ok⟩ hpd1.n0
    clear hpd1 hs1 hb1 hx1 ho1 hF1 hG1 hn1 hx2 hlt1 k1 k2 k3 k5 hrf1 hs1e hmk HTk
    obtain ⟨kc, hkc⟩ : ∃ kc, s1.copies (halN n) = kc := ⟨_, rfl⟩
    have HKc := hid hkc
    rw [hkc] at hCp
    have HCp := hid hCp
    clear hCp hkc
    go_wp2_with fail
    refine HCp.out.mono ?_
    rintro e w4 ⟨rfl, hb4⟩
    have HB4 := hid hb4
    have HPd4 := hid (HPd1.out.on HD.out HO.out hb4)
    have HS4 := hid (HS1.out.below hb4)
    have hs4 := HS4.out
    have c4 := hs4.dev
    have HBk4 := hid (HB1.out.below hb4 HB1.out.lt)
    have hx4 := HX1.out.below hb4 HX1.out.lt
    have HRf4 := hid (HRf1.out.on hb4)
    have HOn4 := hid (HOn1.out.then_below hb4)
    clear hb4 hs4
    by_cases hk2 : kc < 2
    · have hk2i : (kc : Int) < 2 := by omega
      have hdr : Below w4.heap.size w4 w4.drew := (Below.refl _ _).drew
      obtain ⟨hcode, hsums⟩ := root_code HFn.out (by unfold halN; omega) HE.out.1 HE.out.2
      have hpar : (rootSt P).epoch % 2 = (((P.epoch % 2).toNat : Nat) : Int) := by show P.epoch % 2 = _; omega
      have hH1 : 1 + halN n < n := by have := HPd4.out.n0; have := halN_two (n := n); unfold halN; omega
      obtain ⟨e3, u3⟩ := saveR_up HU1.out hcode hpar hH1
      have HSv := hid (pd_save HD.out HO.out (HPd4.out.on HD.out HO.out hdr) HSn.out (by have := HPd4.out.small; omega) (r := rootSt P) (HRf4.out.on hdr) hsums (by have := HE.out.1; show _ ≤ P.epoch; omega) (by have := HE.out.2; show P.epoch ≤ _; omega) e3 u3 (by omega))
      have HDrw := hid (HPd4.out.on HD.out HO.out hdr)
      have d0 : w4.drew.cell? ⟨g, 0, none⟩ = some (.pointer (some ⟨d, 0, none⟩)) := c4
      have d1 : w4.drew.cell? ⟨w.heap.size, 0, none⟩ = some (.int .i64 P.epoch) := Blk.cell hx4 0
      have d2 : w4.drew.cell? ⟨w.heap.size, 1, none⟩ = some (.slice A 7 c) := Blk.cell hx4 1
      have kk0 := And.intro d0 (And.intro d1 d2)
      have HKe := hid (fun (w' : World) (ho : Only (fun k => F1 k ∨ G1 k) w4.drew w') => (show w'.cell? ⟨g, 0, none⟩ = some (.pointer (some ⟨d, 0, none⟩)) ∧ w'.cell? ⟨w.heap.size, 0, none⟩ = some (.int .i64 P.epoch) ∧ w'.cell? ⟨w.heap.size, 1, none⟩ = some (.slice A 7 c) from by
        have hbg := ho.block g HS4.out.box.lt (HOut1.out g HLo.out.1 HOff.out.1)
        have hbx := ho.block w.heap.size hx4.lt HNn1.out.2.1
        exact ⟨(World.cell?_of_block hbg).trans d0, (World.cell?_of_block hbx).trans d1, (World.cell?_of_block hbx).trans d2⟩))
      clear c4 hx4 hdr
      go_upto_region 8 with fail
      go_region_held3 (fun w' => w'.cell? ⟨g, 0, none⟩ = some (.pointer (some ⟨d, 0, none⟩)) ∧ w'.cell? ⟨w.heap.size, 0, none⟩ = some (.int .i64 P.epoch) ∧ w'.cell? ⟨w.heap.size, 1, none⟩ = some (.slice A 7 c)) (first | exact kk0 | exact kk5) (first | (go_at_call 52; refine HSv.out.mono ?_; rintro e w5 ⟨rfl, hst⟩; have kk5 := HKe.out w5 (by obtain ⟨_, _, _, ho, _⟩ := hst; exact ho); have HSt5 := hid hst; clear hst))
      obtain ⟨F5, G5, hpd5, ho5, hF5, hG5, _⟩ := HSt5.out
      have HBk5 := hid (show Blk w5 nb 95 (stL P).toArray from (ho5.block nb (show nb < w4.drew.heap.size from HBk4.out.lt) HNn1.out.1).trans HBk4.out)
      have hs5 : Sto w5 g d p mm P0 ch D C := (HS4.out.below ((Below.refl w4.heap.size w4).drew)).only ho5 (HOut1.out g HLo.out.1 HOff.out.1) (HOut1.out mm HLo.out.2.1 HOff.out.2.1) (fun k hk => HOut1.out k (HLo.out.2.2 k hk) (HOff.out.2.2 k hk))
      have hz4 : w.heap.size ≤ w4.drew.heap.size := HOn4.out.size
      have up1 : ∀ k, F1 k ∨ G1 k ∨ w4.drew.heap.size ≤ k → F k ∨ G k ∨ w.heap.size ≤ k := fun k hk => by
        rcases hk with hk | hk | hk
        · exact HUp1.out.1 k hk
        · exact HUp1.out.2 k hk
        · exact .inr (.inr (by omega))
      have hon5 : Only (fun k => F k ∨ G k) w w5 := (HOn4.out.drew).trans ho5 (fun i hi => by
        rcases up1 i (hi.elim .inl (fun h => .inr (.inl h))) with h | h | h
        · exact .inl (.inl h)
        · exact .inl (.inr h)
        · exact .inr h)
      have hn5 : ¬ (F5 g ∨ G5 g) := fun h => by
        have h1 := HOut1.out g HLo.out.1 HOff.out.1
        have h2 := HLo.out.1
        rcases h with h | h
        · rcases hF5 g h with h' | h' | h'
          · exact h1 (.inl h')
          · exact h1 (.inr h')
          · omega
        · rcases hG5 g h with h' | h' | h'
          · exact h1 (.inl h')
          · exact h1 (.inr h')
          · omega
      have HFin := hid (tk_done HD.out HO.out hs5 HLn.out hpd5 hon5 (fun k hk => up1 k (hF5 k hk)) (fun k hk => up1 k (hG5 k hk)) hn5 HG0.out)
      have HOp := hid (show opDev s (halN n) P = fl (pWrite s1 (halN n) (P.epoch % 2).toNat (bytesOf (rootSt P))) from by
        unfold opDev
        rw [HS1e.out, if_pos (by rw [HKc.out]; exact hk2)])
      have HTh := hid (there_mid hs5.box hs5.len HLn.out)
      have HSzS := hid (show (Tryz.prog.info? 95).map (·.size) = some (stL P).toArray.size from by rw [List.size_toArray]; exact size_of_state HLn.out)
      have HRn := hid (blk_range HBk5.out)
      clear kk0 kk5 d0 d1 d2 hpd5 ho5 hF5 hG5 hs5 hz4 up1 hon5 hn5 e3 u3 hcode hsums hpar
      go_wp2_with (first | (refine wpList_load_mid rfl 95 (.tmp 5) rfl nb 0 rfl (stL P) _ HRn.out Tryz.underlying95 rfl (size_of_state HLn.out) ?_) | (refine wpList_store_mid rfl 95 (.tmp 46) (.tmp 44) rfl g 2 (stL P).toArray rfl rfl HTh.out HSzS.out (all_oneCell_toArray (stL_one _)) ?_))
      go_ret
      rw [HOp.out, HMk.out]
      exact ⟨rfl, HFin.out⟩
    · have hk2i : decide (kc < 2) = false := by simpa using hk2
      have HFin := hid (tk_done HD.out HO.out HS4.out HLn.out HPd4.out HOn4.out HUp1.out.1 HUp1.out.2 (HOut1.out g HLo.out.1 HOff.out.1) HG0.out)
      have HOp := hid (show opDev s (halN n) P = s1 from by
        unfold opDev
        rw [HS1e.out, if_neg (by rw [HKc.out]; exact hk2)])
      have HTh := hid (there_mid HS4.out.box HS4.out.len HLn.out)
      have HSzS := hid (show (Tryz.prog.info? 95).map (·.size) = some (stL P).toArray.size from by rw [List.size_toArray]; exact size_of_state HLn.out)
      have HRn := hid (blk_range HBk4.out)
      clear c4 hx4
      go_wp2_with (first | (refine wpList_load_mid rfl 95 (.tmp 5) rfl nb 0 rfl (stL P) _ HRn.out Tryz.underlying95 rfl (size_of_state HLn.out) ?_) | (refine wpList_store_mid rfl 95 (.tmp 46) (.tmp 44) rfl g 2 (stL P).toArray rfl rfl HTh.out HSzS.out (all_oneCell_toArray (stL_one _)) ?_))
      go_ret
      rw [HOp.out, HMk.out]
      obtain ⟨F', G', hp1, hp2⟩ := HFin.out
      exact ⟨rfl, F', G', ⟨hp1.real, hp1.pr, hp1.below, hp1.sent0, hp1.fn, hp1.gn, hp1.ap, hp1.up.more (by omega), by omega, hp1.n0, hp1.n1⟩, hp2⟩
end
end Go.Proofs.YtkhdgacjgccnnaaGreatDoor
