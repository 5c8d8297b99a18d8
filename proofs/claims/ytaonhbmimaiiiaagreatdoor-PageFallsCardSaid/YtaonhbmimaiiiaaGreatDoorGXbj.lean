/- Put together out of 1 texts. Package page's write over a device that is armed: what is carried, what is left where the power goes. -/
import Derived.Test.YtaonhbmimaiiiaaGreatDoorGXbi
namespace Go.Proofs.YtaonhbmimaiiiaaGreatDoor
open Go.RowKit

/-- a device that is armed -/
def RealA (Real : World → Nat → DSt → (Nat → Prop) → Prop) (k : Nat) (w : World) (d : Nat) (s : DSt) (F : Nat → Prop) : Prop := Real w d (s.armed k) F
section
variable {Real : World → Nat → DSt → (Nat → Prop) → Prop} {PR : World → Nat → Nat → Nat → Nat → (Nat → Prop) → Prop} {S : Nat → Addr} {w0 w wr w' : World} {d p n m q k k' : Nat} {s s' : DSt} {F G : Nat → Prop}
theorem paOn (D : DevOk Real) (P : PairOk Real PR) (h : Pd (RealA Real k) PR S w0 w d p s n m q F G) (hb : Below w.heap.size w w') : Pd (RealA Real k) PR S w0 w' d p s n m q F G :=
  ⟨D.kept (s := s.armed k) h.real (Kept.of_below hb (D.lt (s := s.armed k) h.real)), P.kept h.pr (Kept.of_below hb (P.lt h.pr)), h.below.trans (hb.mono h.below.size), h.sent0, h.fn, h.gn, h.ap, h.up, h.small, h.n0, h.n1⟩
theorem paBeside (D : DevOk Real) (O : PairOk Real PR) {K : Nat → Prop} (h : Pd (RealA Real k) PR S w0 w d p s n m q F G) (ho : Only K w w') (hF : ∀ k, F k → ¬ K k) (hG : ∀ k, G k → ¬ K k) (hB : ∀ k, K k → w0.heap.size ≤ k) : Pd (RealA Real k) PR S w0 w' d p s n m q F G :=
  ⟨D.kept (s := s.armed k) h.real (ho.kept (D.lt (s := s.armed k) h.real) hF), O.kept h.pr (ho.kept (O.lt h.pr) hG), h.below.trans (ho.below h.below.size hB), h.sent0, h.fn, h.gn, h.ap, h.up, h.small, h.n0, h.n1⟩
theorem paDev (P : PairOk Real PR) (h : Pd (RealA Real k) PR S w0 w d p s n m q F G) {q' : Nat} (hu : RealUpd Real w d (s'.armed k') F w') (hs : Up s' n q') (hq : q' ≤ 900000) : ∃ F', Pd (RealA Real k') PR S w0 w' d p s' n m q' F' G ∧ Only (fun k => F k ∨ G k) w w' ∧ ∀ k, F' k → F k ∨ G k ∨ w.heap.size ≤ k := by
  obtain ⟨F', hr, ho, hf⟩ := hu
  have hlt := P.lt h.pr
  refine ⟨F', ⟨hr, P.kept h.pr (ho.kept hlt (fun k hg hf' => h.ap k hf' hg)), h.below.trans (ho.below h.below.size h.fn), h.sent0, fun k hk => ?_, h.gn, fun k hk hg => ?_, hs, hq, h.n0, h.n1⟩, ho.mono (fun i hi => .inl (.inl hi)), fun k hk => (hf k hk).elim .inl (fun h' => .inr (.inr h'))⟩
  · rcases hf k hk with h' | h'
    · exact h.fn k h'
    · have := h.below.size; omega
  · rcases hf k hk with h' | h'
    · exact h.ap k h' hg
    · have := hlt k hg; omega
/-- .. as it is with nothing armed -/
theorem pa_of_pd (h : Pd Real PR S w0 w d p s n m q F G) : Pd (RealA Real 0) PR S w0 w d p s n m q F G :=
  ⟨by show Real w d (s.armed 0) F; rw [h.up.armed0]; exact h.real, h.pr, h.below, h.sent0, h.fn, h.gn, h.ap, h.up, h.small, h.n0, h.n1⟩
theorem pd_of_pa (h : Pd (RealA Real 0) PR S w0 w d p s n m q F G) : Pd Real PR S w0 w d p s n m q F G :=
  ⟨by have h1 : Real w d (s.armed 0) F := h.real; rw [h.up.armed0] at h1; exact h1, h.pr, h.below, h.sent0, h.fn, h.gn, h.ap, h.up, h.small, h.n0, h.n1⟩
/-- while a change is written, the device armed -/
def WrB (Real : World → Nat → DSt → (Nat → Prop) → Prop) (PR : World → Nat → Nat → Nat → Nat → (Nat → Prop) → Prop) (S : Nat → Addr) (w0 w : World) (d p n m : Nat) (F G : Nat → Prop) (cb : Nat) (vp vi : Value) (s : DSt) (Q : PS) (q : Nat) (wr : World) : Prop :=
  ∃ k, k ≤ 1000 ∧ WrAt (RealA Real k) PR S w0 w d p n m F G cb vp vi s Q q wr
/-- the power went: the device, of which some of those places were written -/
def WFell (Real : World → Nat → DSt → (Nat → Prop) → Prop) (w : World) (d n q : Nat) (F G : Nat → Prop) (cb : Nat) (K : Nat → Prop) (s : DSt) (w' : World) : Prop :=
  ∃ u F', Real w' d u.fall F' ∧ Pts K s u ∧ Up u n q ∧ Only (fun k => F k ∨ G k ∨ k = cb) w w' ∧ ∀ k, F' k → F k ∨ G k ∨ w.heap.size ≤ k
variable {cb : Nat} {vp vi : Value} {Q : PS}
theorem WrB.on (D : DevOk Real) (O : PairOk Real PR) (h : WrB Real PR S w0 w d p n m F G cb vp vi s Q q wr) (hb : Below wr.heap.size wr w') : WrB Real PR S w0 w d p n m F G cb vp vi s Q q w' := by
  obtain ⟨k, hk, F', G', h1, h2, h3, h4, h5⟩ := h
  exact ⟨k, hk, F', G', paOn D O h1 hb, h2.below hb h2.lt, h3.then_below hb, h4, h5⟩
theorem WrB.box (h : WrB Real PR S w0 w d p n m F G cb vp vi s Q q wr) : HoldsP wr cb 114 [] Q [vp, vi] := by
  obtain ⟨k, hk, h⟩ := h
  exact h.box
theorem WrB.only (h : WrB Real PR S w0 w d p n m F G cb vp vi s Q q wr) : Only (fun k => F k ∨ G k ∨ k = cb) w wr := by
  obtain ⟨k, hk, h⟩ := h
  exact h.only
theorem WrB.turn (D : DevOk Real) (O : PairOk Real PR) (h : WrB Real PR S w0 w d p n m F G cb vp vi s Q q wr) (hc : cb < w.heap.size) (hF : ¬ F cb) (hG : ¬ G cb) (hc0 : w0.heap.size ≤ cb) {Q' : PS} (hg : wr.grownBy w' (some cb)) (hb : HoldsP w' cb 114 [] Q' [vp, vi]) : WrB Real PR S w0 w d p n m F G cb vp vi s Q' q w' := by
  obtain ⟨k, hk, F', G', h1, h2, h3, h4, h5⟩ := h
  have ho : Only (fun k => k = cb) wr w' := ⟨hg.os, hg.tape, hg.output, hg.size, fun k hk hn => hg.block k hk (fun e => hn (by injection e))⟩
  refine ⟨k, hk, F', G', paBeside D O h1 ho (fun k hk e => ?_) (fun k hk e => ?_) (fun k e => by rw [e]; exact hc0), hb, h3.trans ho (fun i hi => .inl (.inr (.inr hi))), h4, h5⟩
  · subst e
    rcases h4 k hk with h' | h' | h'
    · exact hF h'
    · exact hG h'
    · omega
  · subst e
    rcases h5 k hk with h' | h' | h'
    · exact hF h'
    · exact hG h'
    · omega
theorem WFell.turn (D : DevOk Real) {K : Nat → Prop} (h : WFell Real w d n q F G cb K s wr) (hc : cb < w.heap.size) (hF : ¬ F cb) (hG : ¬ G cb) (hg : wr.grownBy w' (some cb)) : WFell Real w d n q F G cb K s w' := by
  obtain ⟨u, F', h1, h2, h3, h4, h5⟩ := h
  have ho : Only (fun k => k = cb) wr w' := ⟨hg.os, hg.tape, hg.output, hg.size, fun k hk hn => hg.block k hk (fun e => hn (by injection e))⟩
  refine ⟨u, F', D.kept h1 (ho.kept (D.lt h1) (fun k hk e => ?_)), h2, h3, h4.trans ho (fun i hi => .inl (.inr (.inr hi))), h5⟩
  subst e
  rcases h5 k hk with h' | h' | h'
  · exact hF h'
  · exact hG h'
  · omega
theorem WFell.more {K : Nat → Prop} {q' : Nat} (h : WFell Real w d n q F G cb K s w') (hq : q ≤ q') : WFell Real w d n q' F G cb K s w' := by
  obtain ⟨u, F', h1, h2, h3, h4⟩ := h
  exact ⟨u, F', h1, h2, h3.more hq, h4⟩
/-- a block is written -/
theorem WrB.write (D : DevOk Real) (O : PairOk Real PR) (OA : PairArm Real PR) {K : Nat → Prop} {s0 : DSt} (h : WrB Real PR S w0 w d p n m F G cb vp vi s Q q wr) (hP : Pts K s0 s) (hc : cb < w.heap.size) (hF : ¬ F cb) (hG : ¬ G cb) {w2 : World} (hb : Below wr.heap.size wr w2) {g2 : Nat} (hg : wr.heap.size ≤ g2) {l : List Int} (hblk : Blk w2 g2 5 (I l).toArray) (hl : l.length = 256) (hby : Byt l) {f : Nat} (hf : f < halN n) (hK : K f ∧ K (f + halN n)) (hq : q + 2 ≤ 900000) :
    Calls Tryz.prog 106 #[.pointer (some ⟨p, 0, none⟩), .int .i64 (f : Int), .slice (some ⟨g2, 0, none⟩) 256 256] w2 fun e w3 => ∃ a z v, e = .returned (.tuple #[.agg #[.int .i64 a, .int .u32 z], v]) ∧ HoldsP w3 cb 114 [] Q [vp, vi] ∧ Only (fun k => F k ∨ G k ∨ k = cb) w w3 ∧ ((v = .nilIface ∧ a = (f : Int) ∧ z = ((crcOf (nats l) : Nat) : Int) ∧ WrB Real PR S w0 w d p n m F G cb vp vi (pWrite s (halN n) f l) Q (q + 2) w3) ∨ (EV S 106 v ∧ WFell Real w d n (q + 2) F G cb K s0 w3)) := by
  obtain ⟨k, hk, F', G', h1, h2, h3, h4, h5⟩ := h
  have hH2 := halN_two (n := n)
  have hlF : ∀ k, F' k → k < wr.heap.size := D.lt h1.real
  have hlG := O.lt h1.pr
  have hsz := h3.size
  have h1' := paOn D O h1 hb
  have hsz2 := hb.size
  refine (OA.write S p d n m f q k s F' G' _ 256 l w0 w2 h1.sent0 h1'.below h1.fn h1'.real h1'.pr h1.ap h1.up (by omega) hk h1.n0 h1.n1 hf (slW_blk hblk hl) (fun ad ha hk => ?_) hby).mono ?_
  · cases ha
    have := hlF g2 hk; omega
  · have hcn : ¬ F' cb := fun hk => by
      rcases h4 cb hk with h' | h' | h'
      · exact hF h'
      · exact hG h'
      · omega
    have hbx : HoldsP w2 cb 114 [] Q [vp, vi] := h2.below hb h2.lt
    have up : ∀ k, F' k ∨ w2.heap.size ≤ k → F k ∨ G k ∨ w.heap.size ≤ k := fun k hk => by
      rcases hk with hk | hk
      · exact h4 k hk
      · exact .inr (.inr (by omega))
    have on : ∀ w3, Only F' w2 w3 → HoldsP w3 cb 114 [] Q [vp, vi] ∧ Only (fun k => F k ∨ G k ∨ k = cb) w w3 := fun w3 ho =>
      ⟨(ho.block cb hbx.lt hcn).trans hbx, (h3.then_below hb).trans ho (fun i hi => by
        rcases h4 i hi with h' | h' | h'
        · exact .inl (.inl h')
        · exact .inl (.inr (.inl h'))
        · exact .inr h')⟩
    have u1 := (h1.up.write (i := f) (by omega) hl hby).2
    have u2 := (u1.write (i := f + halN n) (by omega) hl hby).2
    rintro e w3 ⟨⟨a, z, v, rfl, hv, hz⟩, hu⟩
    rw [armed_wr2 h1.up (by omega) hl hby] at hv hz hu
    by_cases k1 : k = 1
    · simp only [if_pos k1] at hv hz hu
      obtain ⟨F2, r1, r2, r3⟩ := hu
      obtain ⟨o1, o2⟩ := on w3 r2
      exact ⟨a, z, v, rfl, o1, o2, .inr ⟨hv, s, F2, r1, hP, h1.up.more (by omega), o2, fun k hk => up k (r3 k hk)⟩⟩
    · simp only [if_neg k1] at hv hz hu
      by_cases k2 : k = 2
      · simp only [if_pos k2] at hv hz hu
        obtain ⟨F2, r1, r2, r3⟩ := hu
        obtain ⟨o1, o2⟩ := on w3 r2
        exact ⟨a, z, v, rfl, o1, o2, .inr ⟨hv, s.put f l, F2, r1, hP.put f l hK.1, u1.more (by omega), o2, fun k hk => up k (r3 k hk)⟩⟩
      · simp only [if_neg k2] at hv hz hu
        obtain rfl := hv.nil
        obtain ⟨rfl, rfl⟩ := hz trivial
        obtain ⟨o1, o2⟩ := on w3 (by obtain ⟨_, _, r2, _⟩ := hu; exact r2)
        obtain ⟨F2, k1', k2', k3'⟩ := paDev O h1' (s' := pWrite s (halN n) f l) (k' := k - 2) hu u2 (by omega)
        refine ⟨_, _, _, rfl, o1, o2, .inl ⟨rfl, rfl, rfl, k - 2, by omega, F2, G', k1', o1, o2, fun j hj => ?_, h5⟩⟩
        rcases k3' j hj with h' | h' | h'
        · exact h4 j h'
        · exact h5 j h'
        · exact .inr (.inr (by omega))
end
theorem pts_wp {ch : Chg} {H : Nat} {fr lp : List Nat} {s : DSt} {Q : PS} : ∀ i, i ≤ fr.length → Pts (FrAt fr H) s (wpTo ch H fr lp s Q i).1
  | 0, _ => .nil
  | i + 1, h => (pts_wp i (by omega)).pWrite (FrAt.here (getD_mem (by omega))) (FrAt.there (getD_mem (by omega))) _
theorem pts_wi {H a : Nat} {fr li : List Nat} {s s1 : DSt} {Q : PS} (h0 : Pts (FrAt fr H) s s1) : ∀ i, a + i ≤ fr.length → Pts (FrAt fr H) s (wiTo H (fr.drop a) li s1 Q i).1
  | 0, _ => h0
  | i + 1, h => (pts_wi h0 i (by omega)).pWrite (FrAt.here (by rw [getD_drop]; exact getD_mem (by omega))) (FrAt.there (by rw [getD_drop]; exact getD_mem (by omega))) _
section
variable {Real : World → Nat → DSt → (Nat → Prop) → Prop} {PR : World → Nat → Nat → Nat → Nat → (Nat → Prop) → Prop}
set_option maxRecDepth 100000 in
set_option maxHeartbeats 8000000 in
theorem writeA_any (DD : DevOk Real) (O : PairOk Real PR) (OA : PairArm Real PR) (S : Nat → Addr) (w0 w : World) (g d p mm n m q cb gf a b fn cp ci cf : Nat) (P Q : PS) (ch : Chg) (D : DataW Unit) (C F G : Nat → Prop) (Ap Ai : Option Addr) (lp li fr : List Nat) (s : DSt)
    (hE : WrE w g d p mm cb gf a b fn cp ci cf P ch D C (fun k => F k ∨ G k ∨ k = cb) Ap Ai lp li fr) (hW : WrB Real PR S w0 w d p n m F G cb (.slice Ap a cp) (.slice Ai b ci) s Q q w)
    (hc : cb < w.heap.size ∧ ¬ F cb ∧ ¬ G cb ∧ w0.heap.size ≤ cb) (hQ : Q.Len) (hsm : Small Q.pgs) (hfit : a + b ≤ fn) (hn : fn ≤ 1000) (hf6 : ∀ f, f ∈ fr → f < halN n) (hl6 : ∀ k, k ∈ lp → k < 256 ∧ ∃ l, ch k = some l ∧ 1 ≤ l.length) (hi6 : ∀ k, k ∈ li → k < 7) (hq : q + 2 * (a + b) ≤ 900000) :
    Calls Tryz.prog 60 #[.pointer (some ⟨g, 0, none⟩), .pointer (some ⟨cb, 0, none⟩), .slice (some ⟨gf, 0, none⟩) fn cf] w fun e w' => (e = .returned .nilIface ∧ WrB Real PR S w0 w d p n m F G cb (.slice Ap a cp) (.slice Ai b ci) (wiTo (halN n) (fr.drop a) li (wpTo ch (halN n) fr lp s Q a).1 (wpTo ch (halN n) fr lp s Q a).2 b).1 (wiTo (halN n) (fr.drop a) li (wpTo ch (halN n) fr lp s Q a).1 (wpTo ch (halN n) fr lp s Q a).2 b).2 (q + 2 * (a + b)) w') ∨ ∃ v, e = .returned v ∧ EV S 106 v ∧ WFell Real w d n (q + 2 * (a + b)) F G cb (FrAt fr (halN n)) s w' := by
  have HE := hid hE
  have HW := hid hW
  have HC := hid hc
  have HQL := hid (fun i => wpTo_len (ch := ch) (H := halN n) (fr := fr) (lp := lp) (s := s) hQ i)
  have HSm := hid hsm
  have HF6 := hid hf6
  have HL6 := hid hl6
  have HI6 := hid hi6
  have HQn := hid hq
  have HD := hid DD
  have HO := hid O
  have HOA := hid OA
  have HFl := hid (show fn = fr.length from by have := hE.frs.len; rw [natsI_len] at this; omega)
  obtain ⟨H, hH⟩ : ∃ H, halN n = H := ⟨_, rfl⟩
  have HH := hid hH
  have HH1 := hid (show H ≤ 512 from by rw [← hH]; unfold halN; omega)
  have HGd := hid hE.sto.chd.good
  have han : (a : Int) ≤ 1000 := by omega
  have hbn : (b : Int) ≤ 1000 := by omega
  have hfn : (fn : Int) ≤ 1000 := by omega
  have hab : a + b ≤ fn := hfit
  have hbx := hW.box
  have s0 := (hbx.back hQ 0)
  simp only [List.length_nil, Nat.zero_add] at s0
  have s0' : w.cell? ⟨cb, 527, none⟩ = some (.slice Ap a cp) := s0
  rw [hH]
  clear hE hW hc hQ hsm hf6 hl6 hi6 hq DD O OA hbx s0 hfit
  go_enter Tryz.func60, Tryz.ntmps60
  go_wp2_with fail
  go_loopw [17] (fun iv wx => ∃ i : Nat, i ≤ a ∧ iv = .int .i64 (i : Int) ∧ WrB Real PR S w0 w d p n m F G cb (.slice Ap a cp) (.slice Ai b ci) (wpTo ch H fr lp s Q i).1 (wpTo ch H fr lp s Q i).2 (q + 2 * i) wx) (fun iv _ => a - (intOf iv).toNat)
  case atStart => exact ⟨0, Nat.zero_le _, rfl, HW.out⟩
  case round =>
    rename World => wx
    obtain ⟨i, hi1, rfl, hwr⟩ := hrel
    by_cases hlt : i < a
    · obtain ⟨hst, hlp, hli, hfr⟩ := HE.out.at_ hwr.only
      obtain ⟨ad1, y1, hA1, _, hy1, c1⟩ := hlp.get hlt
      obtain ⟨k, hk, rfl⟩ := natsI_get hy1
      obtain ⟨ad2, y2, hA2, _, hy2, c2⟩ := hfr.get (k := i) (by omega)
      obtain ⟨f, hf, rfl⟩ := natsI_get hy2
      obtain rfl : (⟨gf, 0, none⟩ : Addr) = ad2 := by injection hA2
      rw [add0] at c2
      subst hA1
      obtain ⟨hk6, l, hl, hl1⟩ := HL6.out k (List.mem_of_getElem? hk)
      have hf6 := HF6.out f (List.mem_of_getElem? hf)
      obtain ⟨hby, hl2⟩ := hst.chd.good k l hl
      have hdr : Below wx.heap.size wx wx.drew := (Below.refl _ _).drew
      have hst2 := hst.below hdr
      obtain ⟨A, n', c', _, hlk, hsl, _⟩ := hst2.chd.look hk6 hl
      obtain rfl : l.length = n' := hsl.len
      have HPb := hid (pageBlock_any A l.length c' l wx.drew hsl hl1 hl2)
      have HCe := hid (fun (w2 : World) (hs : Sto w2 g d p mm P ch D C) (hf2 : Sn w2 w2.heap.size (some ⟨gf, 0, none⟩) fn cf (natsI fr)) => (show w2.cell? ⟨g, 1, none⟩ = some (.pointer (some ⟨p, 0, none⟩)) ∧ w2.cell? ⟨gf, i, none⟩ = some (.int .i64 (f : Int)) ∧ w2.cell? ⟨g, 529, none⟩ = some (.map (some mm)) from by
        obtain ⟨ad3, y3, hA3, _, hy3, c3⟩ := hf2.get (k := i) (by omega)
        cases hA3
        rw [add0] at c3
        rw [hy2] at hy3
        cases hy3
        exact ⟨hs.prs, c3, hs.mapc⟩))
      have HCb := hid (fun (w2 : World) (hb : Below wx.drew.heap.size wx.drew w2) => HCe.out w2 (hst2.below hb) (hfr.onlyA (Only.of_below (F := fun _ => False) (hdr.trans (hb.mono hdr.size))) (fun _ _ h => h)))
      have HCn := hid (show g ≠ cb ∧ gf ≠ cb from ⟨fun e => HE.out.og (.inr (.inr e)), fun e => HE.out.of_ (.inr (.inr e))⟩)
      have HCs := hid (fun (w' : World) (h : w'.cell? ⟨g, 1, none⟩ = some (.pointer (some ⟨p, 0, none⟩)) ∧ w'.cell? ⟨gf, i, none⟩ = some (.int .i64 (f : Int)) ∧ w'.cell? ⟨g, 529, none⟩ = some (.map (some mm))) (o : Nat) (u : Value) => (show (w'.setCell ⟨cb, o, none⟩ u).cell? ⟨g, 1, none⟩ = some (.pointer (some ⟨p, 0, none⟩)) ∧ (w'.setCell ⟨cb, o, none⟩ u).cell? ⟨gf, i, none⟩ = some (.int .i64 (f : Int)) ∧ (w'.setCell ⟨cb, o, none⟩ u).cell? ⟨g, 529, none⟩ = some (.map (some mm)) from ⟨cell_beside h.1 HCn.out.1 u, cell_beside h.2.1 HCn.out.2 u, cell_beside h.2.2 HCn.out.1 u⟩))
      have k0 := HCb.out _ (Below.refl _ _)
      obtain ⟨d1, d2, d3⟩ := k0
      have k0 := HCb.out _ (Below.refl _ _)
      have HWr := hid (fun (w2 : World) (g2 : Nat) (hb : Below wx.drew.heap.size wx.drew w2) (hg : wx.drew.heap.size ≤ g2) (hblk : Blk w2 g2 5 (I (pageB l)).toArray) => (hwr.on HD.out HO.out hdr).write HD.out HO.out HOA.out (K := FrAt fr (halN n)) (s0 := s) (by rw [HH.out]; exact pts_wp i (by have := HFl.out; omega)) HC.out.1 HC.out.2.1 HC.out.2.2.1 hb hg hblk (pageB_len hl2) (pageB_byt hl2 hby) hf6 ⟨FrAt.here (List.mem_of_getElem? hf), FrAt.there (List.mem_of_getElem? hf)⟩ (by have := HQn.out; omega))
      have HLn := hid (wpTo_len (ch := ch) (H := H) (fr := fr) (lp := lp) (s := s) (Q := Q) (by have := HQL.out 0; exact this) i)
      obtain ⟨x, hx⟩ := HLn.out.page hk6
      have HX := hid hx
      have HSt := hid (fun (w3 : World) (hb : HoldsP w3 cb 114 [] (wpTo ch H fr lp s Q i).2 [.slice (some ad1) a cp, .slice Ai b ci]) => (show w3.cell? ⟨cb, 15 + k * 2, none⟩ = some (.int .i64 x.1) ∧ w3.cell? ⟨cb, 15 + k * 2 + 1, none⟩ = some (.int .u32 (x.2 : Int)) ∧ w3.frozen? ⟨cb, 15 + k * 2, none⟩ = false ∧ w3.frozen? ⟨cb, 15 + k * 2 + 1, none⟩ = false from by
        obtain ⟨h1, h2⟩ := hb.page HLn.out hx
        simp only [List.length_nil, Nat.zero_add] at h1 h2
        exact ⟨h1, h2, Blk.free hb _, Blk.free hb _⟩))
      have HNx := hid (wpTo_next (H := H) (s := s) (Q := Q) hk hf hl)
      rw [HH.out] at HWr
      have hk256 : (k : Int) < 256 := by omega
      have hia : (i : Int) < a := by omega
      have hif : (i : Int) < fn := by omega
      clear hst hlp hli hfr hy1 hy2 hwr hst2 hsl hx hk hf hl hdr hby hl1 hl2
      go_upto_region 5 with fail
      go_region_held3 (fun w' => w'.cell? ⟨g, 1, none⟩ = some (.pointer (some ⟨p, 0, none⟩)) ∧ w'.cell? ⟨gf, i, none⟩ = some (.int .i64 (f : Int)) ∧ w'.cell? ⟨g, 529, none⟩ = some (.map (some mm))) (first | exact k0 | exact k2 | exact k3 | exact HCs.out _ (HCs.out _ k3 _ _) _ _ | exact HCs.out _ k3 _ _) (first | (go_at_call 107; refine HPb.out.mono ?_; rintro e w2 ⟨g2, hg2, rfl, hblk, hb2⟩; have k2 := HCb.out w2 hb2; have HW2 := hid (HWr.out w2 g2 hb2 hg2 hblk); clear hg2 hblk hb2) | (go_at_call 106; refine HW2.out.mono ?_; rintro e w3 ⟨a3, z3, v3, rfl, hbx3, ho3, hw3⟩; obtain ⟨s0, s1, s2, s3⟩ := HSt.out w3 hbx3; have k3 := HCe.out w3 (HE.out.at_ ho3).1 (HE.out.at_ ho3).2.2.2; have HW3 := hid hw3; clear hbx3 ho3 hw3))
      rcases HW3.out with ⟨hv3, ha3, hz3, hw4⟩ | ⟨hv3, hf4⟩
      · have HW4 := hid hw4
        subst hv3 ha3 hz3
        clear hw4 HW3
        have hbx := HW4.out.box.putPage HLn.out HX.out ((f : Int), crcOf (nats (pageB l))) (o1 := 15 + k * 2) (o2 := 15 + k * 2 + 1) (by simp) (by simp)
        have HT := hid (HW4.out.turn HD.out HO.out HC.out.1 HC.out.2.1 HC.out.2.2.1 HC.out.2.2.2 (only_put (only_put (only_refl w3 (some cb)) (15 + k * 2) (.int .i64 (f : Int))) (15 + k * 2 + 1) (.int .u32 (crcOf (nats (pageB l)) : Int))) hbx)
        obtain ⟨W4, hW4⟩ : ∃ W4, (w3.setCell ⟨cb, 15 + k * 2, none⟩ (.int .i64 (f : Int))).setCell ⟨cb, 15 + k * 2 + 1, none⟩ (.int .u32 (crcOf (nats (pageB l)) : Int)) = W4 := ⟨_, rfl⟩
        rw [hW4] at HT
        rw [hW4]
        clear hbx hW4 s0 s1 s2 s3 k0 k2 k3 d1 d2 d3
        go_wp2
        go_roundw
        case rel => exact ⟨i + 1, by omega, by go_num, by rw [show q + 2 * (i + 1) = q + 2 * i + 2 by omega, HNx.out]; exact HT.out⟩
        case measure => simp [intOf]; omega
      · obtain ⟨j3, hj3, hj4, hv4⟩ := hv3.one (by decide)
        have HFe := hid ((hf4.turn HD.out HC.out.1 HC.out.2.1 HC.out.2.2.1 (only_put (only_put (only_refl w3 (some cb)) (15 + k * 2) (.int .i64 a3)) (15 + k * 2 + 1) (.int .u32 z3))).more (q' := q + 2 * (a + b)) (by omega))
        have HEv := hid hv3
        obtain ⟨W4, hW4⟩ : ∃ W4, (w3.setCell ⟨cb, 15 + k * 2, none⟩ (.int .i64 a3)).setCell ⟨cb, 15 + k * 2 + 1, none⟩ (.int .u32 z3) = W4 := ⟨_, rfl⟩
        rw [hW4] at HFe
        rw [hW4]
        subst hv4
        clear hf4 hv3 hj3 hj4 hW4 s0 s1 s2 s3 k0 k2 k3 HW3
        go_wp2
        go_ret
        exact .inr ⟨_, rfl, HEv.out, HFe.out⟩
    · have hia : i = a := by omega
      have hnlt : decide (i < a) = false := by simpa using hlt
      obtain rfl := hia
      obtain ⟨x1, hx1⟩ : ∃ x1, wpTo ch H fr lp s Q i = x1 := ⟨_, rfl⟩
      have hL1 : x1.2.Len := by rw [← hx1]; have := HQL.out i; rw [HH.out] at this; exact this
      rw [hx1] at hwr
      have HW1 := hid hwr
      have HL1 := hid hL1
      have HX1 := hid hx1
      have HSm1 := hid (show Small x1.2.pgs from by rw [← hx1]; exact wpTo_small HSm.out (fun f hf => by have h1 := HF6.out f hf; rw [HH.out] at h1; have h2 := HH1.out; omega) HGd.out i)
      obtain ⟨hst, hlp, hli, hfr⟩ := HE.out.at_ hwr.only
      have s0 := (hwr.box.back hL1 0)
      have s1 := (hwr.box.back hL1 1)
      simp only [List.length_nil, Nat.zero_add] at s0 s1
      have s2 : wx.cell? ⟨cb, 527, none⟩ = some (.slice Ap i cp) := s0
      have s3 : wx.cell? ⟨cb, 528, none⟩ = some (.slice Ai b ci) := s1
      have hfc := hfr.cap
      have hfm := hfr.max
      unfold maxLen at hfm
      have hil : (i : Int) ≤ fn := by omega
      have hfc2 : (fn : Int) ≤ cf := by omega
      have hfm2 : (cf : Int) ≤ 9223372036854775807 := by omega
      clear hst hlp hli hfr hwr hL1 hx1 hlt s0 s1
      by_cases hci : cf = i
      · have hb0 : b = 0 := by omega
        go_wp2_with fail
        go_loopw [63] (fun iv wy => ∃ j : Nat, j ≤ b ∧ iv = .int .i64 (j : Int) ∧ WrB Real PR S w0 w d p n m F G cb (.slice Ap i cp) (.slice Ai b ci) (wiTo H (fr.drop i) li x1.1 x1.2 j).1 (wiTo H (fr.drop i) li x1.1 x1.2 j).2 (q + 2 * i + 2 * j) wy) (fun iv _ => b - (intOf iv).toNat)
        case atStart => exact ⟨0, Nat.zero_le _, rfl, HW1.out⟩
        case round =>
          rename World => wy
          obtain ⟨j, hj1, rfl, hwr⟩ := hrel
          have hjb : j = b := by omega
          have hnj : decide (j < b) = false := by simp; omega
          have HFi := hid (show WrB Real PR S w0 w d p n m F G cb (.slice Ap i cp) (.slice Ai b ci) (wiTo H (fr.drop i) li (wpTo ch H fr lp s Q i).1 (wpTo ch H fr lp s Q i).2 b).1 (wiTo H (fr.drop i) li (wpTo ch H fr lp s Q i).1 (wpTo ch H fr lp s Q i).2 b).2 (q + 2 * (i + b)) wy from by
            rw [HX1.out, show q + 2 * (i + b) = q + 2 * i + 2 * b by omega]
            have hw2 := hwr
            rw [hjb] at hw2
            exact hw2)
          clear hwr
          go_wp2
          go_ret
          exact .inl ⟨rfl, HFi.out⟩
      · go_wp2_with fail
        obtain ⟨N2, hN2⟩ : ∃ N2, fn - i = N2 := ⟨_, rfl⟩
        rw [hN2]
        go_loopw [63] (fun iv wy => ∃ j : Nat, j ≤ b ∧ iv = .int .i64 (j : Int) ∧ WrB Real PR S w0 w d p n m F G cb (.slice Ap i cp) (.slice Ai b ci) (wiTo H (fr.drop i) li x1.1 x1.2 j).1 (wiTo H (fr.drop i) li x1.1 x1.2 j).2 (q + 2 * i + 2 * j) wy) (fun iv _ => b - (intOf iv).toNat)
        case atStart => exact ⟨0, Nat.zero_le _, rfl, HW1.out⟩
        case round =>
          rename World => wy
          obtain ⟨j, hj1, rfl, hwr⟩ := hrel
          by_cases hlt : j < b
          · obtain ⟨hst, hlp, hli, hfr⟩ := HE.out.at_ hwr.only
            obtain ⟨ad1, y1, hA1, _, hy1, c1⟩ := hli.get hlt
            obtain ⟨k, hk, rfl⟩ := natsI_get hy1
            obtain ⟨ad2, y2, hA2, _, hy2, c2⟩ := hfr.get (k := i + j) (by omega)
            obtain ⟨f, hf, rfl⟩ := natsI_get hy2
            obtain rfl : (⟨gf, 0, none⟩ : Addr) = ad2 := by injection hA2
            rw [add0] at c2
            subst hA1
            have hk7 := HI6.out k (List.mem_of_getElem? hk)
            have hf6 := HF6.out f (List.mem_of_getElem? hf)
            have hdr : Below wy.heap.size wy wy.drew := (Below.refl _ _).drew
            have hst2 := hst.below hdr
            have hLj := wiTo_len (H := H) (fr := fr.drop i) (li := li) (s := x1.1) HL1.out j
            have hbx2 : HoldsP wy.drew cb 114 [] (wiTo H (fr.drop i) li x1.1 x1.2 j).2 [.slice Ap i cp, .slice (some ad1) b ci] := Blk.drew hwr.box
            have HPb := hid (indexBlock_any (wiTo H (fr.drop i) li x1.1 x1.2 j).2 cb 0 k 114 [] [.slice Ap i cp, .slice (some ad1) b ci] wy.drew hbx2 hLj rfl hk7 (by rw [wiTo_pgs]; exact HSm1.out))
            have HCe := hid (fun (w2 : World) (hs : Sto w2 g d p mm P ch D C) (hf2 : Sn w2 w2.heap.size (some ⟨gf, 0, none⟩) fn cf (natsI fr)) => (show w2.cell? ⟨g, 1, none⟩ = some (.pointer (some ⟨p, 0, none⟩)) ∧ w2.cell? ⟨gf, i + j, none⟩ = some (.int .i64 (f : Int)) from by
              obtain ⟨ad3, y3, hA3, _, hy3, c3⟩ := hf2.get (k := i + j) (by omega)
              cases hA3
              rw [add0] at c3
              rw [hy2] at hy3
              cases hy3
              exact ⟨hs.prs, c3⟩))
            have HCb := hid (fun (w2 : World) (hb : Below wy.drew.heap.size wy.drew w2) => HCe.out w2 (hst2.below hb) (hfr.onlyA (Only.of_below (F := fun _ => False) (hdr.trans (hb.mono hdr.size))) (fun _ _ h => h)))
            have HCn := hid (show g ≠ cb ∧ gf ≠ cb from ⟨fun e => HE.out.og (.inr (.inr e)), fun e => HE.out.of_ (.inr (.inr e))⟩)
            have HCs := hid (fun (w' : World) (h : w'.cell? ⟨g, 1, none⟩ = some (.pointer (some ⟨p, 0, none⟩)) ∧ w'.cell? ⟨gf, i + j, none⟩ = some (.int .i64 (f : Int))) (o : Nat) (u : Value) => (show (w'.setCell ⟨cb, o, none⟩ u).cell? ⟨g, 1, none⟩ = some (.pointer (some ⟨p, 0, none⟩)) ∧ (w'.setCell ⟨cb, o, none⟩ u).cell? ⟨gf, i + j, none⟩ = some (.int .i64 (f : Int)) from ⟨cell_beside h.1 HCn.out.1 u, cell_beside h.2 HCn.out.2 u⟩))
            have k0 := HCb.out _ (Below.refl _ _)
            obtain ⟨d1, d2⟩ := k0
            have k0 := HCb.out _ (Below.refl _ _)
            have HWr := hid (fun (w2 : World) (g2 : Nat) (hb : Below wy.drew.heap.size wy.drew w2) (hg : wy.drew.heap.size ≤ g2) (hblk : Blk w2 g2 5 (I (indexB (wiTo H (fr.drop i) li x1.1 x1.2 j).2.pgs k)).toArray) => (hwr.on HD.out HO.out hdr).write HD.out HO.out HOA.out (K := FrAt fr (halN n)) (s0 := s) (by rw [HH.out]; exact pts_wi (by rw [← HX1.out]; exact pts_wp i (by have := HFl.out; omega)) j (by have := HFl.out; omega)) HC.out.1 HC.out.2.1 HC.out.2.2.1 hb hg hblk (indexB_len _ _) (indexB_byt _ _) hf6 ⟨FrAt.here (List.mem_of_getElem? hf), FrAt.there (List.mem_of_getElem? hf)⟩ (by have := HQn.out; omega))
            have HLn := hid hLj
            obtain ⟨x, hx⟩ := hLj.index hk7
            have HX := hid hx
            have HSt := hid (fun (w3 : World) (hb : HoldsP w3 cb 114 [] (wiTo H (fr.drop i) li x1.1 x1.2 j).2 [.slice Ap i cp, .slice (some ad1) b ci]) => (show w3.cell? ⟨cb, 1 + k * 2, none⟩ = some (.int .i64 x.1) ∧ w3.cell? ⟨cb, 1 + k * 2 + 1, none⟩ = some (.int .u32 (x.2 : Int)) ∧ w3.frozen? ⟨cb, 1 + k * 2, none⟩ = false ∧ w3.frozen? ⟨cb, 1 + k * 2 + 1, none⟩ = false from by
              obtain ⟨h1, h2⟩ := hb.index HLn.out hx
              simp only [List.length_nil, Nat.zero_add] at h1 h2
              exact ⟨h1, h2, Blk.free hb _, Blk.free hb _⟩))
            have HNx := hid (wiTo_next (H := H) (s := x1.1) (Q := x1.2) hk (show (fr.drop i)[j]? = some f from by rw [List.getElem?_drop]; exact hf))
            rw [HH.out] at HWr
            have hk7i : (k : Int) < 7 := by omega
            have hjb : (j : Int) < b := by omega
            have hjf : (i : Int) + (j : Int) < fn := by omega
            have hjf2 : (j : Int) < (N2 : Int) := by omega
            have hjf3 : j < N2 := by omega
            clear hst hlp hli hfr hy1 hy2 hwr hst2 hx hk hf hdr hLj hbx2
            go_upto_region 13 with fail
            go_region_held3 (fun w' => w'.cell? ⟨g, 1, none⟩ = some (.pointer (some ⟨p, 0, none⟩)) ∧ w'.cell? ⟨gf, i + j, none⟩ = some (.int .i64 (f : Int))) (first | exact k0 | exact k2 | exact k3 | exact HCs.out _ (HCs.out _ k3 _ _) _ _ | exact HCs.out _ k3 _ _) (first | (go_at_call 108; refine HPb.out.mono ?_; rintro e w2 ⟨g2, hg2, rfl, hblk, hb2⟩; have k2 := HCb.out w2 hb2; have HW2 := hid (HWr.out w2 g2 hb2 hg2 hblk); clear hg2 hblk hb2) | (go_at_call 106; refine HW2.out.mono ?_; rintro e w3 ⟨a3, z3, v3, rfl, hbx3, ho3, hw3⟩; obtain ⟨s0, s1, s2, s3⟩ := HSt.out w3 hbx3; have k3 := HCe.out w3 (HE.out.at_ ho3).1 (HE.out.at_ ho3).2.2.2; have HW3 := hid hw3; clear hbx3 ho3 hw3))
            rcases HW3.out with ⟨hv3, ha3, hz3, hw4⟩ | ⟨hv3, hf4⟩
            · have HW4 := hid hw4
              subst hv3 ha3 hz3
              clear hw4 HW3
              have hbx := HW4.out.box.putIndex HLn.out HX.out ((f : Int), crcOf (nats (indexB (wiTo H (fr.drop i) li x1.1 x1.2 j).2.pgs k))) (o1 := 1 + k * 2) (o2 := 1 + k * 2 + 1) (by simp) (by simp)
              have HT := hid (HW4.out.turn HD.out HO.out HC.out.1 HC.out.2.1 HC.out.2.2.1 HC.out.2.2.2 (only_put (only_put (only_refl w3 (some cb)) (1 + k * 2) (.int .i64 (f : Int))) (1 + k * 2 + 1) (.int .u32 (crcOf (nats (indexB (wiTo H (fr.drop i) li x1.1 x1.2 j).2.pgs k)) : Int))) hbx)
              obtain ⟨W4, hW4⟩ : ∃ W4, (w3.setCell ⟨cb, 1 + k * 2, none⟩ (.int .i64 (f : Int))).setCell ⟨cb, 1 + k * 2 + 1, none⟩ (.int .u32 (crcOf (nats (indexB (wiTo H (fr.drop i) li x1.1 x1.2 j).2.pgs k)) : Int)) = W4 := ⟨_, rfl⟩
              rw [hW4] at HT
              rw [hW4]
              clear hbx hW4 s0 s1 s2 s3 k0 k2 k3 d1 d2
              go_wp2
              go_roundw
              case rel => exact ⟨j + 1, by omega, by go_num, by rw [show q + 2 * i + 2 * (j + 1) = q + 2 * i + 2 * j + 2 by omega, HNx.out]; exact HT.out⟩
              case measure => simp [intOf]; omega
            · obtain ⟨j3, hj3, hj4, hv4⟩ := hv3.one (by decide)
              have HFe := hid ((hf4.turn HD.out HC.out.1 HC.out.2.1 HC.out.2.2.1 (only_put (only_put (only_refl w3 (some cb)) (1 + k * 2) (.int .i64 a3)) (1 + k * 2 + 1) (.int .u32 z3))).more (q' := q + 2 * (i + b)) (by omega))
              have HEv := hid hv3
              obtain ⟨W4, hW4⟩ : ∃ W4, (w3.setCell ⟨cb, 1 + k * 2, none⟩ (.int .i64 a3)).setCell ⟨cb, 1 + k * 2 + 1, none⟩ (.int .u32 z3) = W4 := ⟨_, rfl⟩
              rw [hW4] at HFe
              rw [hW4]
              subst hv4
              clear hf4 hv3 hj3 hj4 hW4 s0 s1 s2 s3 k0 k2 k3 HW3
              go_wp2
              go_ret
              exact .inr ⟨_, rfl, HEv.out, HFe.out⟩
          ·
            have hjb : j = b := by omega
            have hnj : decide (j < b) = false := by simp; omega
            have HFi := hid (show WrB Real PR S w0 w d p n m F G cb (.slice Ap i cp) (.slice Ai b ci) (wiTo H (fr.drop i) li (wpTo ch H fr lp s Q i).1 (wpTo ch H fr lp s Q i).2 b).1 (wiTo H (fr.drop i) li (wpTo ch H fr lp s Q i).1 (wpTo ch H fr lp s Q i).2 b).2 (q + 2 * (i + b)) wy from by
              rw [HX1.out, show q + 2 * (i + b) = q + 2 * i + 2 * b by omega]
              have hw2 := hwr
              rw [hjb] at hw2
              exact hw2)
            clear hwr
            go_wp2
            go_ret
            exact .inl ⟨rfl, HFi.out⟩
end
end Go.Proofs.YtaonhbmimaiiiaaGreatDoor
