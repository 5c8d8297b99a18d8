/- Put together out of 5 texts. Package page: the root of a state; fits. -/
import Derived.Test.YtkhdgacjgccnnaaGreatDoorGXat
import Derived.Test.YtkhdgacjgccnnaaGreatDoorGXao
namespace Go.Proofs.YtkhdgacjgccnnaaGreatDoor
open Go.RowKit

set_option maxRecDepth 100000 in
set_option maxHeartbeats 4000000 in
theorem rootOf_any (P : PS) (a o : Nat) (t : TypeId) (A B : List Value) (w : World) (h : HoldsP w a t A P B) (hL : P.Len) (ho : A.length = o) :
    Calls Tryz.prog 53 #[.pointer (some ⟨a, o, none⟩)] w fun e w' => ∃ A' c, e = .returned (rtV P.epoch A' 7 c) ∧ Rf w' w'.heap.size A' 7 c P.idx ∧ (∀ ad, A' = some ad → w.heap.size ≤ ad.block) ∧ Below w.heap.size w w' := by
  obtain ⟨W1, hW1⟩ : ∃ W1, w.alloc (.cells #[.int .i64 0, .slice none 0 0] 85) = W1 := ⟨_, rfl⟩
  have hb0 : Below w.heap.size w W1.drew := by rw [← hW1]; exact ((Below.refl _ _).alloc (Nat.le_refl _) _).drew
  have HBk := hid (show Blk W1.drew w.heap.size 85 #[.int .i64 0, .slice none 0 0] from by rw [← hW1]; exact (Blk.new w _ _).drew)
  have HB0 := hid hb0
  have hh : HoldsP W1.drew a t A P B := h.below hb0 h.lt
  have HH := hid hh
  have HCl := hid (cloneR_any (some ⟨a, o + 1, none⟩) 7 7 P.idx W1.drew ((h.idxs hL ho).on hb0) (by omega))
  have HEp := hid (fun (w' : World) (hb : Below W1.drew.heap.size W1.drew w') => (show w'.cell? ⟨a, o, none⟩ = some (.int .i64 P.epoch) from by
    have h2 : HoldsP w' a t A P B := hh.below hb hh.lt
    have := h2.epoch
    rwa [ho] at this))
  have HBc := hid (fun (w' : World) (hb : Below W1.drew.heap.size W1.drew w') => (show w'.cell? ⟨w.heap.size, 0, none⟩ = some (.int .i64 0) ∧ w'.cell? ⟨w.heap.size, 1, none⟩ = some (.slice none 0 0) ∧ w'.frozen? ⟨w.heap.size, 0, none⟩ = false ∧ w'.frozen? ⟨w.heap.size, 1, none⟩ = false from by
    have h2 := HBk.out.below hb HBk.out.lt
    exact ⟨h2.cell 0, h2.cell 1, Blk.free h2 _, Blk.free h2 _⟩))
  have HL7 := hid hL.i
  have HSz1 := hid (show W1.drew.heap.size = w.heap.size + 1 from by rw [← hW1]; simp)
  have c0 := HEp.out _ (Below.refl _ _)
  clear h hL hb0 hh
  go_enter Tryz.func53, Tryz.ntmps53
  go_upto_region 1 with fail
  clear hW1
  go_region_with ((go_at_call 95; refine HCl.out.mono ?_; rintro e w2 ⟨v, rfl, hown, hb2⟩; obtain ⟨g2, cap, rfl, hg2, hown2⟩ := own_someR hown HL7.out (by omega); have c1 := HEp.out w2 hb2; have HO2 := hid hown2; have HB2 := hid (HB0.out.trans (hb2.mono HB0.out.size)); have HG2 := hid (Nat.le_trans HB0.out.size hg2); obtain ⟨k0, k1, f0, f1⟩ := HBc.out w2 hb2; have HBk2 := hid (HBk.out.below hb2 HBk.out.lt); have HSg := hid (show w.heap.size < g2 from by have h1 := HSz1.out; omega); clear hown hb2 hg2 hown2))
  all_goals
    have hbk3 := (HBk2.out.put 0 (.int .i64 P.epoch)).put 1 (.slice (some ⟨g2, 0, none⟩) 7 cap)
    have hg3 : w2.grownBy ((w2.setCell ⟨w.heap.size, 0, none⟩ (.int .i64 P.epoch)).setCell ⟨w.heap.size, 1, none⟩ (.slice (some ⟨g2, 0, none⟩) 7 cap)) (some w.heap.size) := only_put (only_put (only_refl _ _) _ _) _ _
    have ho3 := World.ownsRow.kept HO2.out hg3 (.inr (fun e => by have h1 := HSg.out; have : g2 = w.heap.size := by simpa [Value.ownBlock] using e
                                                                  omega))
    obtain ⟨A3, c3, e3, hrf3, _⟩ := OwnR.form ho3
    rw [HL7.out] at e3 hrf3
    cases e3
    have HRf3 := hid hrf3
    have HB3 := hid (HB2.out.grown hg3 HB2.out.size (fun k hk => by injection hk with hk; omega))
    have HK3 := hid hbk3
    clear hbk3 hg3 ho3 hrf3
    go_wp2
    exact bodyPost_ret_by (results_cell_row (p := 2) rfl _ _ w.heap.size 85 _ (0, 0) _ rfl HK3.out Tryz.underlying85 rfl (by kernel_rfl)) rfl ⟨_, _, rfl, HRf3.out, (fun ad had => by cases had; exact HG2.out), HB3.out⟩
section
variable {Real : World → Nat → DSt → (Nat → Prop) → Prop} {PR : World → Nat → Nat → Nat → Nat → (Nat → Prop) → Prop}
set_option maxRecDepth 100000 in
set_option maxHeartbeats 4000000 in
theorem fits_any (O : PairOk Real PR) (g d p mm n m : Nat) (P Q : PS) (ch : Chg) (D : DataW Unit) (C G : Nat → Prop) (Ap Ai : Option Addr) (a b cp ci fr : Nat) (w : World) (h : Sto w g d p mm P ch D C) (hp : PR w p d n m G) (hL : Q.Len) (ha : a ≤ 1000) (hb : b ≤ 1000) (hfr : fr ≤ 1000) :
    Calls Tryz.prog 48 #[.pointer (some ⟨g, 0, none⟩), .agg (chL Q (.slice Ap a cp) (.slice Ai b ci)).toArray, .int .i64 (fr : Int)] w fun e w' => e = .returned (.bool (decide (a + b ≤ fr) && decide (2 * (Q.used.length + (a + b)) ≤ halN n))) ∧ Below w.heap.size w w' := by
  obtain ⟨H, hH⟩ : ∃ H, halN n = H := ⟨_, rfl⟩
  have HH := hid hH
  have hH2 : (H : Int) ≤ 512 := by rw [← hH]; unfold halN; omega
  rw [hH]
  obtain ⟨W1, hW1⟩ : ∃ W1, w.alloc (.cells (chL Q (.slice Ap a cp) (.slice Ai b ci)).toArray 110) = W1 := ⟨_, rfl⟩
  have hb1 : Below w.heap.size w W1 := by rw [← hW1]; exact (Below.refl _ _).alloc (Nat.le_refl _) _
  have hb1d : Below w.heap.size w W1.drew := hb1.drew
  have hq : HoldsP W1 w.heap.size 110 [] Q [.slice Ap a cp, .slice Ai b ci] := by rw [← hW1]; exact Blk.new w _ _
  have hqd : HoldsP W1.drew w.heap.size 110 [] Q [.slice Ap a cp, .slice Ai b ci] := Blk.drew hq
  have HB1 := hid hb1d
  have HB1u := hid hb1
  have s0 := hq.back hL 0
  have s1 := hq.back hL 1
  simp only [List.length_nil, Nat.zero_add] at s0 s1
  have s2 : W1.cell? ⟨w.heap.size, 527, none⟩ = some (.slice Ap a cp) := s0
  have s3 : W1.cell? ⟨w.heap.size, 528, none⟩ = some (.slice Ai b ci) := s1
  clear s0 s1
  have HUs := hid (fun (w' : World) (hbe : Below W1.drew.heap.size W1.drew w') => used_any Q w.heap.size 0 110 [] [.slice Ap a cp, .slice Ai b ci] w' (Blk.below hqd hbe hqd.lt) hL rfl)
  have HGe := hid (fun (w' : World) (hbe : Below W1.drew.heap.size W1.drew w') => O.geo p d n m G w' (O.kept hp (Kept.of_below (hb1d.trans (hbe.mono hb1d.size)) (O.lt hp))))
  have HPr := hid (fun (w' : World) (hbe : Below W1.drew.heap.size W1.drew w') => (h.below (hb1d.trans (hbe.mono hb1d.size))).prs)
  have hpr := HPr.out _ (Below.refl _ _)
  have HQu := hid (show Q.used.length ≤ 265 from by
    rw [(used_perm Q).length_eq]
    have := refs_le Q hL
    simp only [PS.addrs, List.length_cons, List.length_map]
    omega)
  have hfd := fun W => Tryz.fieldHalf (n : Int) (H : Int) W
  rw [hH] at HGe
  have ha2 : (a : Int) ≤ 1000 := by omega
  have hb2 : (b : Int) ≤ 1000 := by omega
  have hfr2 : (fr : Int) ≤ 1000 := by omega
  clear h hp hL hq hqd hb1 hb1d O
  go_enter Tryz.func48, Tryz.ntmps48
  go_upto_region 2 with fail
  clear hW1
  obtain ⟨U, hU⟩ : ∃ U, Q.used.length = U := ⟨_, rfl⟩
  rw [hU] at HQu HUs
  have HUe := hid hU
  have hUi : (U : Int) ≤ 265 := by have := HQu.out; omega
  have hs1 : IntKind.i64.wrap ((U : Int) + ((a : Int) + (b : Int))) = (U : Int) + ((a : Int) + (b : Int)) := IntWalk.i64_in _ (by omega)
  have hs2 : IntKind.i64.wrap (2 * ((U : Int) + ((a : Int) + (b : Int)))) = 2 * ((U : Int) + ((a : Int) + (b : Int))) := IntWalk.i64_in _ (by omega)
  clear hU
  by_cases h1 : a + b ≤ fr
  · have hd1 : decide ((a : Int) + (b : Int) ≤ (fr : Int)) = true := by simp; omega
    have h1i : (a : Int) + (b : Int) ≤ (fr : Int) := by omega
    go_region_held3 (fun w' => w'.cell? ⟨g, 1, none⟩ = some (.pointer (some ⟨p, 0, none⟩))) (assumption) (first | (go_at_call 86; refine (HUs.out _ (by first | exact hbg | exact Below.refl _ _)).mono ?_; rintro e w2 ⟨gu, nu, cu, rfl, _, rfl, hbu0⟩; have hbu : Below W1.drew.heap.size W1.drew w2 := (by first | exact hbg.trans (hbu0.mono hbg.size) | exact hbu0); have hpr2 := HPr.out w2 hbu; clear hbu0) | (go_at_call 64; refine (HGe.out _ (by first | exact hbu | exact Below.refl _ _)).mono ?_; rintro e w3 ⟨rfl, hbg0⟩; have hbg : Below W1.drew.heap.size W1.drew w3 := (by first | exact hbu.trans (hbg0.mono hbu.size) | exact hbg0); have hpr3 := HPr.out w3 hbg; clear hbg0))
    have e1 : decide (a + b ≤ fr) = true := by simpa using h1
    have e2 : decide (2 * (U + (a + b)) ≤ H) = decide (2 * ((U : Int) + ((a : Int) + (b : Int))) ≤ (H : Int)) := decide_eq_decide.2 (by clear hs1 hs2; omega)
    have HFi := hid (show Ending.returned (.bool (decide (2 * ((U : Int) + ((a : Int) + (b : Int))) ≤ (H : Int)))) = .returned (.bool (decide (a + b ≤ fr) && decide (2 * (Q.used.length + (a + b)) ≤ H))) ∧ Below w.heap.size w w3 from ⟨by rw [HUe.out, e1, Bool.true_and, e2], HB1.out.trans (hbg.mono HB1.out.size)⟩)
    clear e1 e2 hs1 hs2
    go_wp2
    go_ret
    exact HFi.out
  · have hd1 : decide ((a : Int) + (b : Int) ≤ (fr : Int)) = false := by simp; omega
    have h1i : ¬ (a : Int) + (b : Int) ≤ (fr : Int) := by omega
    go_quiet (fail)
    have e1 : decide (a + b ≤ fr) = false := by simpa using h1
    have HFi := hid (show Ending.returned (.bool false) = .returned (.bool (decide (a + b ≤ fr) && decide (2 * (Q.used.length + (a + b)) ≤ H))) ∧ Below w.heap.size w (W1.drewN nq) from ⟨by rw [e1, Bool.false_and], below_drewN HB1u.out nq⟩)
    clear e1 hs1 hs2
    go_wp2
    go_ret
    first | exact HFi.out | exact ⟨rfl, HFi.out.2⟩
end
end Go.Proofs.YtkhdgacjgccnnaaGreatDoor
namespace Go.Proofs.YtkhdgacjgccnnaaGreatDoor
open Go.RowKit

theorem slW_blk {w : World} {g : Nat} {l : List Int} (h : Blk w g 5 (I l).toArray) (hl : l.length = 256) : Sl w w.heap.size (some ⟨g, 0, none⟩) 256 256 l := by
  refine ⟨hl, Nat.le_refl _, by unfold maxLen; omega, (fun h => by cases h), fun ad ha _ => ?_⟩
  cases ha
  refine ⟨h.lt, fun j x hx => ?_⟩
  rw [add0, Blk.cell h]
  simp [I, hx]
theorem Sn.onlyA {w w' : World} {A : Option Addr} {n c : Nat} {l : List Int} {K : Nat → Prop} (h : Sn w w.heap.size A n c l) (ho : Only K w w') (hn : ∀ ad, A = some ad → ¬ K ad.block) : Sn w' w'.heap.size A n c l := by
  refine ⟨h.len, h.cap, h.max, h.nil, fun ad ha h0 => ?_⟩
  obtain ⟨h1, h2⟩ := h.at_ ad ha h0
  refine ⟨Nat.lt_of_lt_of_le h1 ho.size, fun j x hx => ?_⟩
  rw [← h2 j x hx]
  unfold World.cell?
  rw [add_block, ho.block ad.block h1 (hn ad ha)]
theorem Sto.only {w w' : World} {g d p m : Nat} {P : PS} {ch : Chg} {D : DataW Unit} {C K : Nat → Prop} (h : Sto w g d p m P ch D C) (ho : Only K w w') (hg : ¬ K g) (hm : ¬ K m) (hC : ∀ k, C k → ¬ K k) : Sto w' g d p m P ch D C :=
  h.same ho.size (ho.block g h.box.lt hg) (ho.block m h.chd.map.lt hm) (fun k hk => ho.block k (h.chd.lt k hk).1 (hC k hk))
section
variable {Real : World → Nat → DSt → (Nat → Prop) → Prop} {PR : World → Nat → Nat → Nat → Nat → (Nat → Prop) → Prop} {S : Nat → Addr} {w0 w wr w' : World} {d p n m q : Nat} {s s' : DSt} {F G : Nat → Prop}
/-- what lies beside device and pairs has turned -/
theorem Pd.beside (D : DevOk Real) (O : PairOk Real PR) {K : Nat → Prop} (h : Pd Real PR S w0 w d p s n m q F G) (ho : Only K w w') (hF : ∀ k, F k → ¬ K k) (hG : ∀ k, G k → ¬ K k) (hB : ∀ k, K k → w0.heap.size ≤ k) : Pd Real PR S w0 w' d p s n m q F G :=
  ⟨D.kept h.real (ho.kept (D.lt h.real) hF), O.kept h.pr (ho.kept (O.lt h.pr) hG), h.below.trans (ho.below h.below.size hB), h.sent0, h.fn, h.gn, h.ap, h.up, h.small, h.n0, h.n1⟩
/-- while a change is written: the device, the change's state; only the device's blocks, the pairs' and the change's have turned since w -/
def WrAt (Real : World → Nat → DSt → (Nat → Prop) → Prop) (PR : World → Nat → Nat → Nat → Nat → (Nat → Prop) → Prop) (S : Nat → Addr) (w0 w : World) (d p n m : Nat) (F G : Nat → Prop) (cb : Nat) (vp vi : Value) (s : DSt) (Q : PS) (q : Nat) (wr : World) : Prop :=
  ∃ F' G', Pd Real PR S w0 wr d p s n m q F' G' ∧ HoldsP wr cb 110 [] Q [vp, vi] ∧ Only (fun k => F k ∨ G k ∨ k = cb) w wr ∧ (∀ k, F' k → F k ∨ G k ∨ w.heap.size ≤ k) ∧ ∀ k, G' k → F k ∨ G k ∨ w.heap.size ≤ k
variable {cb : Nat} {vp vi : Value} {Q : PS}
theorem WrAt.on (D : DevOk Real) (O : PairOk Real PR) (h : WrAt Real PR S w0 w d p n m F G cb vp vi s Q q wr) (hb : Below wr.heap.size wr w') : WrAt Real PR S w0 w d p n m F G cb vp vi s Q q w' := by
  obtain ⟨F', G', h1, h2, h3, h4, h5⟩ := h
  exact ⟨F', G', h1.on D O hb, h2.below hb h2.lt, h3.then_below hb, h4, h5⟩
theorem WrAt.box (h : WrAt Real PR S w0 w d p n m F G cb vp vi s Q q wr) : HoldsP wr cb 110 [] Q [vp, vi] := by
  obtain ⟨F', G', h1, h2, h3, h4, h5⟩ := h
  exact h2
theorem WrAt.only (h : WrAt Real PR S w0 w d p n m F G cb vp vi s Q q wr) : Only (fun k => F k ∨ G k ∨ k = cb) w wr := by
  obtain ⟨F', G', h1, h2, h3, h4, h5⟩ := h
  exact h3
/-- the change's state is another one -/
theorem WrAt.turn (D : DevOk Real) (O : PairOk Real PR) (h : WrAt Real PR S w0 w d p n m F G cb vp vi s Q q wr) (hc : cb < w.heap.size) (hF : ¬ F cb) (hG : ¬ G cb) (hc0 : w0.heap.size ≤ cb) {Q' : PS} (hg : wr.grownBy w' (some cb)) (hb : HoldsP w' cb 110 [] Q' [vp, vi]) : WrAt Real PR S w0 w d p n m F G cb vp vi s Q' q w' := by
  obtain ⟨F', G', h1, h2, h3, h4, h5⟩ := h
  have ho : Only (fun k => k = cb) wr w' := ⟨hg.os, hg.tape, hg.output, hg.size, fun k hk hn => hg.block k hk (fun e => hn (by injection e))⟩
  refine ⟨F', G', h1.beside D O ho (fun k hk e => ?_) (fun k hk e => ?_) (fun k e => by rw [e]; exact hc0), hb, h3.trans ho (fun i hi => .inl (.inr (.inr hi))), h4, h5⟩
  · subst e
    rcases h4 k hk with h' | h' | h'
    · exact hF h'
    · exact hG h'
    · omega
  · subst e
    rcases h5 k hk with h' | h' | h'
    · exact hF h'
    · exact hG h'
    · omega
/-- a block is written -/
theorem WrAt.write (D : DevOk Real) (O : PairOk Real PR) (h : WrAt Real PR S w0 w d p n m F G cb vp vi s Q q wr) (hc : cb < w.heap.size) (hF : ¬ F cb) (hG : ¬ G cb) {w2 : World} (hb : Below wr.heap.size wr w2) {g2 : Nat} (hg : wr.heap.size ≤ g2) {l : List Int} (hblk : Blk w2 g2 5 (I l).toArray) (hl : l.length = 256) (hby : Byt l) {f : Nat} (hf : f < halN n) (hq : q + 2 ≤ 900000) :
    Calls Tryz.prog 90 #[.pointer (some ⟨p, 0, none⟩), .int .i64 (f : Int), .slice (some ⟨g2, 0, none⟩) 256 256] w2 fun e w3 => e = .returned (.tuple #[refV f (crcOf (nats l)), .nilIface]) ∧ WrAt Real PR S w0 w d p n m F G cb vp vi (pWrite s (halN n) f l) Q (q + 2) w3 := by
  obtain ⟨F', G', h1, h2, h3, h4, h5⟩ := h
  have hlF := D.lt h1.real
  have hlG := O.lt h1.pr
  have hsz := h3.size
  refine (pd_write O (h1.on D O hb) hf (slW_blk hblk hl) (fun ad ha => ?_) hby hq).mono ?_
  · cases ha
    exact ⟨fun hk => by have := hlF g2 hk; omega, fun hk => by have := hlG g2 hk; omega⟩
  · rintro e w3 ⟨rfl, F2, G2, k1, k2, k3, k4, _⟩
    have hcn : ¬ (F' cb ∨ G' cb) := fun hk => by
      rcases hk with hk | hk
      · rcases h4 cb hk with h' | h' | h'
        · exact hF h'
        · exact hG h'
        · omega
      · rcases h5 cb hk with h' | h' | h'
        · exact hF h'
        · exact hG h'
        · omega
    have hbx : HoldsP w2 cb 110 [] Q [vp, vi] := h2.below hb h2.lt
    have hsz2 := hb.size
    have hup : ∀ k, F' k ∨ G' k ∨ w2.heap.size ≤ k → F k ∨ G k ∨ w.heap.size ≤ k := fun k hk => by
      rcases hk with hk | hk | hk
      · exact h4 k hk
      · exact h5 k hk
      · exact .inr (.inr (by omega))
    refine ⟨rfl, F2, G2, k1, (k2.block cb hbx.lt hcn).trans hbx, (h3.then_below hb).trans k2 (fun i hi => ?_), fun k hk => hup k (k3 k hk), fun k hk => hup k (k4 k hk)⟩
    rcases hup i (hi.elim .inl (fun h' => .inr (.inl h'))) with h' | h' | h'
    · exact .inl (.inl h')
    · exact .inl (.inr (.inl h'))
    · exact .inr h'
end
end Go.Proofs.YtkhdgacjgccnnaaGreatDoor
namespace Go.Proofs.YtkhdgacjgccnnaaGreatDoor
open Go.RowKit

theorem Small.set {l : List (Int × Nat)} (h : Small l) (i : Nat) {x : Int × Nat} (hx : 0 ≤ x.1 ∧ x.1 < 65536 ∧ x.2 < 4294967296) : Small (l.set i x) := fun y hy => by
  rcases List.mem_or_eq_of_mem_set hy with hy | rfl
  · exact h y hy
  · exact hx
/-- the first i pages written -/
def wpTo (ch : Chg) (H : Nat) (fr lp : List Nat) (s : DSt) (Q : PS) : Nat → DSt × PS
  | 0 => (s, Q)
  | i + 1 => (pWrite (wpTo ch H fr lp s Q i).1 H (fr.getD i 0) (pageB ((ch (lp.getD i 0)).getD [])), ⟨(wpTo ch H fr lp s Q i).2.epoch, (wpTo ch H fr lp s Q i).2.idx, (wpTo ch H fr lp s Q i).2.pgs.set (lp.getD i 0) ((fr.getD i 0 : Nat), crcOf (nats (pageB ((ch (lp.getD i 0)).getD []))))⟩)
/-- .. the first i indexes -/
def wiTo (H : Nat) (fr li : List Nat) (s : DSt) (Q : PS) : Nat → DSt × PS
  | 0 => (s, Q)
  | i + 1 => (pWrite (wiTo H fr li s Q i).1 H (fr.getD i 0) (indexB (wiTo H fr li s Q i).2.pgs (li.getD i 0)), ⟨(wiTo H fr li s Q i).2.epoch, (wiTo H fr li s Q i).2.idx.set (li.getD i 0) ((fr.getD i 0 : Nat), crcOf (nats (indexB (wiTo H fr li s Q i).2.pgs (li.getD i 0)))), (wiTo H fr li s Q i).2.pgs⟩)
theorem wpTo_next {ch : Chg} {H : Nat} {fr lp : List Nat} {s : DSt} {Q : PS} {i k f : Nat} {l : List Int} (hk : lp[i]? = some k) (hf : fr[i]? = some f) (hl : ch k = some l) :
    wpTo ch H fr lp s Q (i + 1) = (pWrite (wpTo ch H fr lp s Q i).1 H f (pageB l), ⟨(wpTo ch H fr lp s Q i).2.epoch, (wpTo ch H fr lp s Q i).2.idx, (wpTo ch H fr lp s Q i).2.pgs.set k ((f : Int), crcOf (nats (pageB l)))⟩) := by
  have e1 : lp.getD i 0 = k := by simp [List.getD, hk]
  have e2 : fr.getD i 0 = f := by simp [List.getD, hf]
  show (_, _) = _
  rw [e1, e2, hl]
  rfl
theorem wiTo_next {H : Nat} {fr li : List Nat} {s : DSt} {Q : PS} {i k f : Nat} (hk : li[i]? = some k) (hf : fr[i]? = some f) :
    wiTo H fr li s Q (i + 1) = (pWrite (wiTo H fr li s Q i).1 H f (indexB (wiTo H fr li s Q i).2.pgs k), ⟨(wiTo H fr li s Q i).2.epoch, (wiTo H fr li s Q i).2.idx.set k ((f : Int), crcOf (nats (indexB (wiTo H fr li s Q i).2.pgs k))), (wiTo H fr li s Q i).2.pgs⟩) := by
  have e1 : li.getD i 0 = k := by simp [List.getD, hk]
  have e2 : fr.getD i 0 = f := by simp [List.getD, hf]
  show (_, _) = _
  rw [e1, e2]
theorem wpTo_len {ch : Chg} {H : Nat} {fr lp : List Nat} {s : DSt} {Q : PS} (h : Q.Len) : ∀ i, (wpTo ch H fr lp s Q i).2.Len
  | 0 => h
  | i + 1 => ⟨(wpTo_len h i).i, by show (List.set _ _ _).length = 256; rw [List.length_set]; exact (wpTo_len h i).p⟩
theorem wpTo_small {ch : Chg} {H : Nat} {fr lp : List Nat} {s : DSt} {Q : PS} (h : Small Q.pgs) (hf : ∀ f, f ∈ fr → f < 65536) (hc : ∀ k l, ch k = some l → Byt l ∧ l.length ≤ 248) : ∀ i, Small (wpTo ch H fr lp s Q i).2.pgs
  | 0 => h
  | i + 1 => by
    refine (wpTo_small h hf hc i).set _ ⟨by omega, ?_, ?_⟩
    · have : fr.getD i 0 < 65536 := by
        rcases e : fr[i]? with _ | f
        · simp [List.getD, e]
        · simp only [List.getD, e, Option.getD_some]; exact hf f (List.mem_of_getElem? e)
      omega
    · refine crc_nats ?_
      rcases e : ch (lp.getD i 0) with _ | l
      · exact pageB_byt (Nat.zero_le _) (fun _ h => by cases h)
      · exact pageB_byt (hc _ _ e).2 (hc _ _ e).1
theorem wiTo_len {H : Nat} {fr li : List Nat} {s : DSt} {Q : PS} (h : Q.Len) : ∀ i, (wiTo H fr li s Q i).2.Len
  | 0 => h
  | i + 1 => ⟨by show (List.set _ _ _).length = 7; rw [List.length_set]; exact (wiTo_len h i).i, (wiTo_len h i).p⟩
theorem wiTo_pgs {H : Nat} {fr li : List Nat} {s : DSt} {Q : PS} : ∀ i, (wiTo H fr li s Q i).2.pgs = Q.pgs
  | 0 => rfl
  | i + 1 => wiTo_pgs i
end Go.Proofs.YtkhdgacjgccnnaaGreatDoor
namespace Go.Proofs.YtkhdgacjgccnnaaGreatDoor
open Go.RowKit

/-- what lies about a change that is written, none of it among what turns -/
structure WrE (w : World) (g d p mm cb gf a b fn cp ci cf : Nat) (P : PS) (ch : Chg) (D : DataW Unit) (C K : Nat → Prop) (Ap Ai : Option Addr) (lp li fr : List Nat) : Prop where
  sto : Sto w g d p mm P ch D C
  lps : Sn w w.heap.size Ap a cp (natsI lp)
  lis : Sn w w.heap.size Ai b ci (natsI li)
  frs : Sn w w.heap.size (some ⟨gf, 0, none⟩) fn cf (natsI fr)
  og : ¬ K g
  om : ¬ K mm
  oC : ∀ k, C k → ¬ K k
  of_ : ¬ K gf
  op : ∀ ad, Ap = some ad → ¬ K ad.block
  oi : ∀ ad, Ai = some ad → ¬ K ad.block
theorem WrE.at_ {w w' : World} {g d p mm cb gf a b fn cp ci cf : Nat} {P : PS} {ch : Chg} {D : DataW Unit} {C K : Nat → Prop} {Ap Ai : Option Addr} {lp li fr : List Nat} (h : WrE w g d p mm cb gf a b fn cp ci cf P ch D C K Ap Ai lp li fr) (ho : Only K w w') :
    Sto w' g d p mm P ch D C ∧ Sn w' w'.heap.size Ap a cp (natsI lp) ∧ Sn w' w'.heap.size Ai b ci (natsI li) ∧ Sn w' w'.heap.size (some ⟨gf, 0, none⟩) fn cf (natsI fr) :=
  ⟨h.sto.only ho h.og h.om h.oC, h.lps.onlyA ho h.op, h.lis.onlyA ho h.oi, h.frs.onlyA ho (fun ad ha => by cases ha; exact h.of_)⟩
theorem cell_beside {w : World} {cb g i j : Nat} {v : Value} (h : w.cell? ⟨g, i, none⟩ = some v) (hn : g ≠ cb) (u : Value) : (w.setCell ⟨cb, j, none⟩ u).cell? ⟨g, i, none⟩ = some v := by
  rw [← h]
  unfold World.cell?
  rw [Below.heap_setCell w ⟨cb, j, none⟩ u g hn]
section
variable {Real : World → Nat → DSt → (Nat → Prop) → Prop} {PR : World → Nat → Nat → Nat → Nat → (Nat → Prop) → Prop}
set_option maxRecDepth 100000 in
set_option maxHeartbeats 8000000 in
theorem write_any (DD : DevOk Real) (O : PairOk Real PR) (S : Nat → Addr) (w0 w : World) (g d p mm n m q cb gf a b fn cp ci cf : Nat) (P Q : PS) (ch : Chg) (D : DataW Unit) (C F G : Nat → Prop) (Ap Ai : Option Addr) (lp li fr : List Nat) (s : DSt)
    (hE : WrE w g d p mm cb gf a b fn cp ci cf P ch D C (fun k => F k ∨ G k ∨ k = cb) Ap Ai lp li fr) (hW : WrAt Real PR S w0 w d p n m F G cb (.slice Ap a cp) (.slice Ai b ci) s Q q w)
    (hc : cb < w.heap.size ∧ ¬ F cb ∧ ¬ G cb ∧ w0.heap.size ≤ cb) (hQ : Q.Len) (hsm : Small Q.pgs) (hfit : a + b ≤ fn) (hn : fn ≤ 1000) (hf6 : ∀ f, f ∈ fr → f < halN n) (hl6 : ∀ k, k ∈ lp → k < 256 ∧ ∃ l, ch k = some l ∧ 1 ≤ l.length) (hi6 : ∀ k, k ∈ li → k < 7) (hq : q + 2 * (a + b) ≤ 900000) :
    Calls Tryz.prog 50 #[.pointer (some ⟨g, 0, none⟩), .pointer (some ⟨cb, 0, none⟩), .slice (some ⟨gf, 0, none⟩) fn cf] w fun e w' => e = .returned .nilIface ∧ WrAt Real PR S w0 w d p n m F G cb (.slice Ap a cp) (.slice Ai b ci) (wiTo (halN n) (fr.drop a) li (wpTo ch (halN n) fr lp s Q a).1 (wpTo ch (halN n) fr lp s Q a).2 b).1 (wiTo (halN n) (fr.drop a) li (wpTo ch (halN n) fr lp s Q a).1 (wpTo ch (halN n) fr lp s Q a).2 b).2 (q + 2 * (a + b)) w' := by
  have HE := hid hE
  have HW := hid hW
  have HC := hid hc
  have HQL := hid (fun i => wpTo_len (ch := ch) (H := halN n) (fr := fr) (lp := lp) (s := s) hQ i)
  have HSm := hid hsm
  have HF6 := hid hf6
  have HL6 := hid hl6
  have HI6 := hid hi6
  have HQn := hid hq
  have HD := hid DD
  have HO := hid O
  obtain ⟨H, hH⟩ : ∃ H, halN n = H := ⟨_, rfl⟩
  have HH := hid hH
  have HH1 := hid (show H ≤ 512 from by rw [← hH]; unfold halN; omega)
  have HGd := hid hE.sto.chd.good
  have han : (a : Int) ≤ 1000 := by omega
  have hbn : (b : Int) ≤ 1000 := by omega
  have hfn : (fn : Int) ≤ 1000 := by omega
  have hab : a + b ≤ fn := hfit
  have hbx := hW.box
  have s0 := (hbx.back hQ 0)
  simp only [List.length_nil, Nat.zero_add] at s0
  have s0' : w.cell? ⟨cb, 527, none⟩ = some (.slice Ap a cp) := s0
  rw [hH]
  clear hE hW hc hQ hsm hf6 hl6 hi6 hq DD O hbx s0 hfit
  go_enter Tryz.func50, Tryz.ntmps50
  go_wp2_with fail
  go_loopw [17] (fun iv wx => ∃ i : Nat, i ≤ a ∧ iv = .int .i64 (i : Int) ∧ WrAt Real PR S w0 w d p n m F G cb (.slice Ap a cp) (.slice Ai b ci) (wpTo ch H fr lp s Q i).1 (wpTo ch H fr lp s Q i).2 (q + 2 * i) wx) (fun iv _ => a - (intOf iv).toNat)
  case atStart => exact ⟨0, Nat.zero_le _, rfl, HW.out⟩
  case round =>
    rename World => wx
    obtain ⟨i, hi1, rfl, hwr⟩ := hrel
    by_cases hlt : i < a
    · obtain ⟨hst, hlp, hli, hfr⟩ := HE.out.at_ hwr.only
      obtain ⟨ad1, y1, hA1, _, hy1, c1⟩ := hlp.get hlt
      obtain ⟨k, hk, rfl⟩ := natsI_get hy1
      obtain ⟨ad2, y2, hA2, _, hy2, c2⟩ := hfr.get (k := i) (by omega)
      obtain ⟨f, hf, rfl⟩ := natsI_get hy2
      obtain rfl : (⟨gf, 0, none⟩ : Addr) = ad2 := by injection hA2
      rw [add0] at c2
      subst hA1
      obtain ⟨hk6, l, hl, hl1⟩ := HL6.out k (List.mem_of_getElem? hk)
      have hf6 := HF6.out f (List.mem_of_getElem? hf)
      obtain ⟨hby, hl2⟩ := hst.chd.good k l hl
      have hdr : Below wx.heap.size wx wx.drew := (Below.refl _ _).drew
      have hst2 := hst.below hdr
      obtain ⟨A, n', c', _, hlk, hsl, _⟩ := hst2.chd.look hk6 hl
      obtain rfl : l.length = n' := hsl.len
      have HPb := hid (pageBlock_any A l.length c' l wx.drew hsl hl1 hl2)
      have HCe := hid (fun (w2 : World) (hs : Sto w2 g d p mm P ch D C) (hf2 : Sn w2 w2.heap.size (some ⟨gf, 0, none⟩) fn cf (natsI fr)) => (show w2.cell? ⟨g, 1, none⟩ = some (.pointer (some ⟨p, 0, none⟩)) ∧ w2.cell? ⟨gf, i, none⟩ = some (.int .i64 (f : Int)) ∧ w2.cell? ⟨g, 529, none⟩ = some (.map (some mm)) from by
        obtain ⟨ad3, y3, hA3, _, hy3, c3⟩ := hf2.get (k := i) (by omega)
        cases hA3
        rw [add0] at c3
        rw [hy2] at hy3
        cases hy3
        exact ⟨hs.prs, c3, hs.mapc⟩))
      have HCb := hid (fun (w2 : World) (hb : Below wx.drew.heap.size wx.drew w2) => HCe.out w2 (hst2.below hb) (hfr.onlyA (Only.of_below (F := fun _ => False) (hdr.trans (hb.mono hdr.size))) (fun _ _ h => h)))
      have HCn := hid (show g ≠ cb ∧ gf ≠ cb from ⟨fun e => HE.out.og (.inr (.inr e)), fun e => HE.out.of_ (.inr (.inr e))⟩)
      have HCs := hid (fun (w' : World) (h : w'.cell? ⟨g, 1, none⟩ = some (.pointer (some ⟨p, 0, none⟩)) ∧ w'.cell? ⟨gf, i, none⟩ = some (.int .i64 (f : Int)) ∧ w'.cell? ⟨g, 529, none⟩ = some (.map (some mm))) (o : Nat) (u : Value) => (show (w'.setCell ⟨cb, o, none⟩ u).cell? ⟨g, 1, none⟩ = some (.pointer (some ⟨p, 0, none⟩)) ∧ (w'.setCell ⟨cb, o, none⟩ u).cell? ⟨gf, i, none⟩ = some (.int .i64 (f : Int)) ∧ (w'.setCell ⟨cb, o, none⟩ u).cell? ⟨g, 529, none⟩ = some (.map (some mm)) from ⟨cell_beside h.1 HCn.out.1 u, cell_beside h.2.1 HCn.out.2 u, cell_beside h.2.2 HCn.out.1 u⟩))
      have k0 := HCb.out _ (Below.refl _ _)
      obtain ⟨d1, d2, d3⟩ := k0
      have k0 := HCb.out _ (Below.refl _ _)
      have HWr := hid (fun (w2 : World) (g2 : Nat) (hb : Below wx.drew.heap.size wx.drew w2) (hg : wx.drew.heap.size ≤ g2) (hblk : Blk w2 g2 5 (I (pageB l)).toArray) => (hwr.on HD.out HO.out hdr).write HD.out HO.out HC.out.1 HC.out.2.1 HC.out.2.2.1 hb hg hblk (pageB_len hl2) (pageB_byt hl2 hby) hf6 (by have := HQn.out; omega))
      have HLn := hid (wpTo_len (ch := ch) (H := H) (fr := fr) (lp := lp) (s := s) (Q := Q) (by have := HQL.out 0; exact this) i)
      obtain ⟨x, hx⟩ := HLn.out.page hk6
      have HX := hid hx
      have HSt := hid (fun (w3 : World) (hb : HoldsP w3 cb 110 [] (wpTo ch H fr lp s Q i).2 [.slice (some ad1) a cp, .slice Ai b ci]) => (show w3.cell? ⟨cb, 15 + k * 2, none⟩ = some (.int .i64 x.1) ∧ w3.cell? ⟨cb, 15 + k * 2 + 1, none⟩ = some (.int .u32 (x.2 : Int)) ∧ w3.frozen? ⟨cb, 15 + k * 2, none⟩ = false ∧ w3.frozen? ⟨cb, 15 + k * 2 + 1, none⟩ = false from by
        obtain ⟨h1, h2⟩ := hb.page HLn.out hx
        simp only [List.length_nil, Nat.zero_add] at h1 h2
        exact ⟨h1, h2, Blk.free hb _, Blk.free hb _⟩))
      have HNx := hid (wpTo_next (H := H) (s := s) (Q := Q) hk hf hl)
      rw [HH.out] at HWr
      have hk256 : (k : Int) < 256 := by omega
      have hia : (i : Int) < a := by omega
      have hif : (i : Int) < fn := by omega
      clear hst hlp hli hfr hy1 hy2 hwr hst2 hsl hx hk hf hl hdr hby hl1 hl2
      go_upto_region 5 with fail
      go_region_held3 (fun w' => w'.cell? ⟨g, 1, none⟩ = some (.pointer (some ⟨p, 0, none⟩)) ∧ w'.cell? ⟨gf, i, none⟩ = some (.int .i64 (f : Int)) ∧ w'.cell? ⟨g, 529, none⟩ = some (.map (some mm))) (first | exact k0 | exact k2 | exact k3 | exact HCs.out _ (HCs.out _ k3 _ _) _ _ | exact HCs.out _ k3 _ _) (first | (go_at_call 91; refine HPb.out.mono ?_; rintro e w2 ⟨g2, hg2, rfl, hblk, hb2⟩; have k2 := HCb.out w2 hb2; have HW2 := hid (HWr.out w2 g2 hb2 hg2 hblk); clear hg2 hblk hb2) | (go_at_call 90; refine HW2.out.mono ?_; rintro e w3 ⟨rfl, hw3⟩; obtain ⟨s0, s1, s2, s3⟩ := HSt.out w3 hw3.box; have k3 := HCe.out w3 (HE.out.at_ hw3.only).1 (HE.out.at_ hw3.only).2.2.2; have HW3 := hid hw3; clear hw3))
      have hbx := HW3.out.box.putPage HLn.out HX.out ((f : Int), crcOf (nats (pageB l))) (o1 := 15 + k * 2) (o2 := 15 + k * 2 + 1) (by simp) (by simp)
      have HT := hid (HW3.out.turn HD.out HO.out HC.out.1 HC.out.2.1 HC.out.2.2.1 HC.out.2.2.2 (only_put (only_put (only_refl w3 (some cb)) (15 + k * 2) (.int .i64 (f : Int))) (15 + k * 2 + 1) (.int .u32 (crcOf (nats (pageB l)) : Int))) hbx)
      obtain ⟨W4, hW4⟩ : ∃ W4, (w3.setCell ⟨cb, 15 + k * 2, none⟩ (.int .i64 (f : Int))).setCell ⟨cb, 15 + k * 2 + 1, none⟩ (.int .u32 (crcOf (nats (pageB l)) : Int)) = W4 := ⟨_, rfl⟩
      rw [hW4] at HT
      rw [hW4]
      clear hbx hW4 s0 s1 s2 s3 k0 k2 k3 d1 d2 d3
      go_wp2
      go_roundw
      case rel => exact ⟨i + 1, by omega, by go_num, by rw [show q + 2 * (i + 1) = q + 2 * i + 2 by omega, HNx.out]; exact HT.out⟩
      case measure => simp [intOf]; omega
    · have hia : i = a := by omega
      have hnlt : decide (i < a) = false := by simpa using hlt
      obtain rfl := hia
      obtain ⟨x1, hx1⟩ : ∃ x1, wpTo ch H fr lp s Q i = x1 := ⟨_, rfl⟩
      have hL1 : x1.2.Len := by rw [← hx1]; have := HQL.out i; rw [HH.out] at this; exact this
      rw [hx1] at hwr
      have HW1 := hid hwr
      have HL1 := hid hL1
      have HX1 := hid hx1
      have HSm1 := hid (show Small x1.2.pgs from by rw [← hx1]; exact wpTo_small HSm.out (fun f hf => by have h1 := HF6.out f hf; rw [HH.out] at h1; have h2 := HH1.out; omega) HGd.out i)
      obtain ⟨hst, hlp, hli, hfr⟩ := HE.out.at_ hwr.only
      have s0 := (hwr.box.back hL1 0)
      have s1 := (hwr.box.back hL1 1)
      simp only [List.length_nil, Nat.zero_add] at s0 s1
      have s2 : wx.cell? ⟨cb, 527, none⟩ = some (.slice Ap i cp) := s0
      have s3 : wx.cell? ⟨cb, 528, none⟩ = some (.slice Ai b ci) := s1
      have hfc := hfr.cap
      have hfm := hfr.max
      unfold maxLen at hfm
      have hil : (i : Int) ≤ fn := by omega
      have hfc2 : (fn : Int) ≤ cf := by omega
      have hfm2 : (cf : Int) ≤ 9223372036854775807 := by omega
      clear hst hlp hli hfr hwr hL1 hx1 hlt s0 s1
      by_cases hci : cf = i
      · have hb0 : b = 0 := by omega
        go_wp2_with fail
        go_loopw [63] (fun iv wy => ∃ j : Nat, j ≤ b ∧ iv = .int .i64 (j : Int) ∧ WrAt Real PR S w0 w d p n m F G cb (.slice Ap i cp) (.slice Ai b ci) (wiTo H (fr.drop i) li x1.1 x1.2 j).1 (wiTo H (fr.drop i) li x1.1 x1.2 j).2 (q + 2 * i + 2 * j) wy) (fun iv _ => b - (intOf iv).toNat)
        case atStart => exact ⟨0, Nat.zero_le _, rfl, HW1.out⟩
        case round =>
          rename World => wy
          obtain ⟨j, hj1, rfl, hwr⟩ := hrel
          have hjb : j = b := by omega
          have hnj : decide (j < b) = false := by simp; omega
          have HFi := hid (show WrAt Real PR S w0 w d p n m F G cb (.slice Ap i cp) (.slice Ai b ci) (wiTo H (fr.drop i) li (wpTo ch H fr lp s Q i).1 (wpTo ch H fr lp s Q i).2 b).1 (wiTo H (fr.drop i) li (wpTo ch H fr lp s Q i).1 (wpTo ch H fr lp s Q i).2 b).2 (q + 2 * (i + b)) wy from by
            rw [HX1.out, show q + 2 * (i + b) = q + 2 * i + 2 * b by omega]
            have hw2 := hwr
            rw [hjb] at hw2
            exact hw2)
          clear hwr
          go_wp2
          go_ret
          exact ⟨rfl, HFi.out⟩
      · go_wp2_with fail
        obtain ⟨N2, hN2⟩ : ∃ N2, fn - i = N2 := ⟨_, rfl⟩
        rw [hN2]
        go_loopw [63] (fun iv wy => ∃ j : Nat, j ≤ b ∧ iv = .int .i64 (j : Int) ∧ WrAt Real PR S w0 w d p n m F G cb (.slice Ap i cp) (.slice Ai b ci) (wiTo H (fr.drop i) li x1.1 x1.2 j).1 (wiTo H (fr.drop i) li x1.1 x1.2 j).2 (q + 2 * i + 2 * j) wy) (fun iv _ => b - (intOf iv).toNat)
        case atStart => exact ⟨0, Nat.zero_le _, rfl, HW1.out⟩
        case round =>
          rename World => wy
          obtain ⟨j, hj1, rfl, hwr⟩ := hrel
          by_cases hlt : j < b
          · obtain ⟨hst, hlp, hli, hfr⟩ := HE.out.at_ hwr.only
            obtain ⟨ad1, y1, hA1, _, hy1, c1⟩ := hli.get hlt
            obtain ⟨k, hk, rfl⟩ := natsI_get hy1
            obtain ⟨ad2, y2, hA2, _, hy2, c2⟩ := hfr.get (k := i + j) (by omega)
            obtain ⟨f, hf, rfl⟩ := natsI_get hy2
            obtain rfl : (⟨gf, 0, none⟩ : Addr) = ad2 := by injection hA2
            rw [add0] at c2
            subst hA1
            have hk7 := HI6.out k (List.mem_of_getElem? hk)
            have hf6 := HF6.out f (List.mem_of_getElem? hf)
            have hdr : Below wy.heap.size wy wy.drew := (Below.refl _ _).drew
            have hst2 := hst.below hdr
            have hLj := wiTo_len (H := H) (fr := fr.drop i) (li := li) (s := x1.1) HL1.out j
            have hbx2 : HoldsP wy.drew cb 110 [] (wiTo H (fr.drop i) li x1.1 x1.2 j).2 [.slice Ap i cp, .slice (some ad1) b ci] := Blk.drew hwr.box
            have HPb := hid (indexBlock_any (wiTo H (fr.drop i) li x1.1 x1.2 j).2 cb 0 k 110 [] [.slice Ap i cp, .slice (some ad1) b ci] wy.drew hbx2 hLj rfl hk7 (by rw [wiTo_pgs]; exact HSm1.out))
            have HCe := hid (fun (w2 : World) (hs : Sto w2 g d p mm P ch D C) (hf2 : Sn w2 w2.heap.size (some ⟨gf, 0, none⟩) fn cf (natsI fr)) => (show w2.cell? ⟨g, 1, none⟩ = some (.pointer (some ⟨p, 0, none⟩)) ∧ w2.cell? ⟨gf, i + j, none⟩ = some (.int .i64 (f : Int)) from by
              obtain ⟨ad3, y3, hA3, _, hy3, c3⟩ := hf2.get (k := i + j) (by omega)
              cases hA3
              rw [add0] at c3
              rw [hy2] at hy3
              cases hy3
              exact ⟨hs.prs, c3⟩))
            have HCb := hid (fun (w2 : World) (hb : Below wy.drew.heap.size wy.drew w2) => HCe.out w2 (hst2.below hb) (hfr.onlyA (Only.of_below (F := fun _ => False) (hdr.trans (hb.mono hdr.size))) (fun _ _ h => h)))
            have HCn := hid (show g ≠ cb ∧ gf ≠ cb from ⟨fun e => HE.out.og (.inr (.inr e)), fun e => HE.out.of_ (.inr (.inr e))⟩)
            have HCs := hid (fun (w' : World) (h : w'.cell? ⟨g, 1, none⟩ = some (.pointer (some ⟨p, 0, none⟩)) ∧ w'.cell? ⟨gf, i + j, none⟩ = some (.int .i64 (f : Int))) (o : Nat) (u : Value) => (show (w'.setCell ⟨cb, o, none⟩ u).cell? ⟨g, 1, none⟩ = some (.pointer (some ⟨p, 0, none⟩)) ∧ (w'.setCell ⟨cb, o, none⟩ u).cell? ⟨gf, i + j, none⟩ = some (.int .i64 (f : Int)) from ⟨cell_beside h.1 HCn.out.1 u, cell_beside h.2 HCn.out.2 u⟩))
            have k0 := HCb.out _ (Below.refl _ _)
            obtain ⟨d1, d2⟩ := k0
            have k0 := HCb.out _ (Below.refl _ _)
            have HWr := hid (fun (w2 : World) (g2 : Nat) (hb : Below wy.drew.heap.size wy.drew w2) (hg : wy.drew.heap.size ≤ g2) (hblk : Blk w2 g2 5 (I (indexB (wiTo H (fr.drop i) li x1.1 x1.2 j).2.pgs k)).toArray) => (hwr.on HD.out HO.out hdr).write HD.out HO.out HC.out.1 HC.out.2.1 HC.out.2.2.1 hb hg hblk (indexB_len _ _) (indexB_byt _ _) hf6 (by have := HQn.out; omega))
            have HLn := hid hLj
            obtain ⟨x, hx⟩ := hLj.index hk7
            have HX := hid hx
            have HSt := hid (fun (w3 : World) (hb : HoldsP w3 cb 110 [] (wiTo H (fr.drop i) li x1.1 x1.2 j).2 [.slice Ap i cp, .slice (some ad1) b ci]) => (show w3.cell? ⟨cb, 1 + k * 2, none⟩ = some (.int .i64 x.1) ∧ w3.cell? ⟨cb, 1 + k * 2 + 1, none⟩ = some (.int .u32 (x.2 : Int)) ∧ w3.frozen? ⟨cb, 1 + k * 2, none⟩ = false ∧ w3.frozen? ⟨cb, 1 + k * 2 + 1, none⟩ = false from by
              obtain ⟨h1, h2⟩ := hb.index HLn.out hx
              simp only [List.length_nil, Nat.zero_add] at h1 h2
              exact ⟨h1, h2, Blk.free hb _, Blk.free hb _⟩))
            have HNx := hid (wiTo_next (H := H) (s := x1.1) (Q := x1.2) hk (show (fr.drop i)[j]? = some f from by rw [List.getElem?_drop]; exact hf))
            rw [HH.out] at HWr
            have hk7i : (k : Int) < 7 := by omega
            have hjb : (j : Int) < b := by omega
            have hjf : (i : Int) + (j : Int) < fn := by omega
            have hjf2 : (j : Int) < (N2 : Int) := by omega
            have hjf3 : j < N2 := by omega
            clear hst hlp hli hfr hy1 hy2 hwr hst2 hx hk hf hdr hLj hbx2
            go_upto_region 13 with fail
            go_region_held3 (fun w' => w'.cell? ⟨g, 1, none⟩ = some (.pointer (some ⟨p, 0, none⟩)) ∧ w'.cell? ⟨gf, i + j, none⟩ = some (.int .i64 (f : Int))) (first | exact k0 | exact k2 | exact k3 | exact HCs.out _ (HCs.out _ k3 _ _) _ _ | exact HCs.out _ k3 _ _) (first | (go_at_call 92; refine HPb.out.mono ?_; rintro e w2 ⟨g2, hg2, rfl, hblk, hb2⟩; have k2 := HCb.out w2 hb2; have HW2 := hid (HWr.out w2 g2 hb2 hg2 hblk); clear hg2 hblk hb2) | (go_at_call 90; refine HW2.out.mono ?_; rintro e w3 ⟨rfl, hw3⟩; obtain ⟨s0, s1, s2, s3⟩ := HSt.out w3 hw3.box; have k3 := HCe.out w3 (HE.out.at_ hw3.only).1 (HE.out.at_ hw3.only).2.2.2; have HW3 := hid hw3; clear hw3))
            have hbx := HW3.out.box.putIndex HLn.out HX.out ((f : Int), crcOf (nats (indexB (wiTo H (fr.drop i) li x1.1 x1.2 j).2.pgs k))) (o1 := 1 + k * 2) (o2 := 1 + k * 2 + 1) (by simp) (by simp)
            have HT := hid (HW3.out.turn HD.out HO.out HC.out.1 HC.out.2.1 HC.out.2.2.1 HC.out.2.2.2 (only_put (only_put (only_refl w3 (some cb)) (1 + k * 2) (.int .i64 (f : Int))) (1 + k * 2 + 1) (.int .u32 (crcOf (nats (indexB (wiTo H (fr.drop i) li x1.1 x1.2 j).2.pgs k)) : Int))) hbx)
            obtain ⟨W4, hW4⟩ : ∃ W4, (w3.setCell ⟨cb, 1 + k * 2, none⟩ (.int .i64 (f : Int))).setCell ⟨cb, 1 + k * 2 + 1, none⟩ (.int .u32 (crcOf (nats (indexB (wiTo H (fr.drop i) li x1.1 x1.2 j).2.pgs k)) : Int)) = W4 := ⟨_, rfl⟩
            rw [hW4] at HT
            rw [hW4]
            clear hbx hW4 s0 s1 s2 s3 k0 k2 k3 d1 d2
            go_wp2
            go_roundw
            case rel => exact ⟨j + 1, by omega, by go_num, by rw [show q + 2 * i + 2 * (j + 1) = q + 2 * i + 2 * j + 2 by omega, HNx.out]; exact HT.out⟩
            case measure => simp [intOf]; omega
          ·
            have hjb : j = b := by omega
            have hnj : decide (j < b) = false := by simp; omega
            have HFi := hid (show WrAt Real PR S w0 w d p n m F G cb (.slice Ap i cp) (.slice Ai b ci) (wiTo H (fr.drop i) li (wpTo ch H fr lp s Q i).1 (wpTo ch H fr lp s Q i).2 b).1 (wiTo H (fr.drop i) li (wpTo ch H fr lp s Q i).1 (wpTo ch H fr lp s Q i).2 b).2 (q + 2 * (i + b)) wy from by
              rw [HX1.out, show q + 2 * (i + b) = q + 2 * i + 2 * b by omega]
              have hw2 := hwr
              rw [hjb] at hw2
              exact hw2)
            clear hwr
            go_wp2
            go_ret
            exact ⟨rfl, HFi.out⟩
end
end Go.Proofs.YtkhdgacjgccnnaaGreatDoor
namespace Go.Proofs.YtkhdgacjgccnnaaGreatDoor
open Go.RowKit Go.Maps

section
variable {P : PS} {ch : Chg}
def pagesTo (P : PS) (ch : Chg) (i : Nat) : List Nat := (List.range i).filter (thereB P ch)
theorem pagesTo_yes {i : Nat} (h : thereB P ch i = true) : pagesTo P ch (i + 1) = pagesTo P ch i ++ [i] := by
  unfold pagesTo; rw [List.range_succ, List.filter_append]; simp [h]
theorem pagesTo_no {i : Nat} (h : thereB P ch i = false) : pagesTo P ch (i + 1) = pagesTo P ch i := by
  unfold pagesTo; rw [List.range_succ, List.filter_append]; simp [h]
theorem pagesTo_le (P : PS) (ch : Chg) (i : Nat) : (pagesTo P ch i).length ≤ i := by
  have := List.length_filter_le (thereB P ch) (List.range i)
  rwa [List.length_range] at this
set_option maxRecDepth 100000 in
set_option maxHeartbeats 4000000 in
theorem pages_any (g d p mm : Nat) (D : DataW Unit) (C : Nat → Prop) (w : World) (h : Sto w g d p mm P ch D C) :
    Calls Tryz.prog 67 #[.pointer (some ⟨g, 0, none⟩)] w fun e w' => ∃ v, e = .returned v ∧ OwnN w' w.heap.size v (natsI (pagesTo P ch 256)) ∧ Below w.heap.size w w' := by
  obtain ⟨i0, hi, hz0, hz1, hz2⟩ := info_parts Tryz.info3
  have HS := hid h
  clear h
  go_enter Tryz.func67, Tryz.ntmps67
  go_wp2
  go_loopw [5, 3] (fun iv v wx => ∃ i : Nat, i ≤ 256 ∧ iv = .int .i64 (i : Int) ∧ OwnN wx w.heap.size v (natsI (pagesTo P ch i)) ∧ Below w.heap.size w wx) (fun iv _ _ => 256 - (intOf iv).toNat)
  case atStart => exact ⟨0, Nat.zero_le _, rfl, World.ownsRow_nil _ _ _ _, Below.refl _ _⟩
  case round =>
    rename World => wx
    obtain ⟨i, hi1, rfl, hown, hb⟩ := hrel
    have HOw := hid hown
    have HBx := hid hb
    have HSx := hid (HS.out.below hb)
    clear hown hb
    by_cases hlt : i < 256
    · have hi256 : (i : Int) < 256 := by omega
      go_wp2_with fail
      refine (pgThere_any g d p mm P ch D C i _ HSx.out hlt).mono ?_
      obtain ⟨b, hb⟩ : ∃ b, thereB P ch i = b := ⟨_, rfl⟩
      have HBc := hid hb
      rw [hb]
      rintro e w3 ⟨rfl, hb3⟩
      have HB3 := hid (HBx.out.trans (hb3.mono HBx.out.size))
      have HO3 := hid (HOw.out.on hb3)
      clear hb hb3
      cases b
      · have HN := hid (pagesTo_no HBc.out)
        go_wp2
        go_roundw
        case rel => exact ⟨i + 1, by omega, by go_num, by rw [HN.out]; exact HO3.out, HB3.out⟩
        case measure => simp [intOf]; omega
      · obtain ⟨L, hL⟩ : ∃ L, (natsI (pagesTo P ch i)).length = L := ⟨_, rfl⟩
        have HLl := hid (show (natsI (pagesTo P ch i)).length = L ∧ L ≤ 256 from ⟨hL, by rw [← hL, natsI_len]; have := pagesTo_le P ch i; omega⟩)
        have HOl := hid (show w3.ownsRow w.heap.size 3 1 u3 L ((natsI (pagesTo P ch i)).map (Value.int .i64)) from by
          have := HO3.out; unfold OwnN at this; rwa [hL] at this)
        clear hL
        go_wp2_with (at_builtin; refine wpList_append_lies _ rfl _ _ 108 rfl w.heap.size 3 i0 (.int .i64 0) 1 8 Tryz.underlying108 hi hz0 hz1 hz2 rfl (by decide) _ L _ rfl (World.ownsRow.alloc HOl.out _) ⟨w3.heap.size, 0, none⟩ 1 1 [.int .i64 (i : Int)] rfl rfl (cell_one_new _ _ _) ?c2 (by decide) ?c3 ?c4 ?c5 (w3.heap.size + 1) ?c6 ?_)
        case c2 => intro u hu; simp at hu; subst hu; rfl
        case c3 => have := HLl.out.2; unfold maxLen; omega
        case c4 => have := HLl.out.2; omega
        case c5 => have := HB3.out.size; simp; omega
        case c6 => simp
        intro g' cap' w4 hown' hgrow hgv _
        have HO4 := hid (show OwnN w4 w.heap.size (.slice (some ⟨g', 0, none⟩) (L + 1) cap') (natsI (pagesTo P ch (i + 1))) from by
          rw [pagesTo_yes HBc.out]
          unfold natsI
          rw [List.map_append]
          rw [← HLl.out.1] at hown' ⊢
          exact ownN_more hown' HO3.out)
        have HB5 := hid (show Below w.heap.size w w4 from (HB3.out.alloc HB3.out.size (.cells #[.int .i64 (i : Int)] 3)).grown hgrow (by have := HB3.out.size; simp; omega) (fun k hk => (World.ownsRow.lt HO3.out k hk).1))
        clear hown' hgrow hgv
        go_wp2
        go_roundw
        case rel => exact ⟨i + 1, by omega, by go_num, HO4.out, HB5.out⟩
        case measure => simp [intOf]; omega
    · have hnlt : decide (i < 256) = false := by simpa using hlt
      have hie : i = 256 := by omega
      have HF := hid (show OwnN wx w.heap.size u3 (natsI (pagesTo P ch 256)) from by
        have h1 := HOw.out
        rwa [hie] at h1)
      go_wp2
      go_ret
      exact ⟨_, rfl, HF.out, HBx.out⟩
end
end Go.Proofs.YtkhdgacjgccnnaaGreatDoor
