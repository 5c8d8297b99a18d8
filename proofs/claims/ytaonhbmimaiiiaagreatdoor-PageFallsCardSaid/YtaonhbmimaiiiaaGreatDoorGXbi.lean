/- Put together out of 2 texts. Package page over plain values: a commit, or an Open, whose power goes: what is there then. -/
import Derived.Test.YtaonhbmimaiiiaaGreatDoorGXbh
import Derived.Test.YtaonhbmimaiiiaaGreatDoorGXbc
import Derived.Test.YtaonhbmimaiiiaaGreatDoorGXan
namespace Go.Proofs.YtaonhbmimaiiiaaGreatDoor

section
variable {s u v t : DSt} {n q q' H p k i : Nat} {l : List Int} {P P' : PS} {cont cont' : Cont} {ch : Chg}
theorem crash_write (b : BSt) (h : b.pend = false) (l : List Int) (k : Bool) : ((b.write l).crash k).read = b.read ∨ ((b.write l).crash k).read = (0, l) := by
  obtain ⟨a1, a2, a3, a4, a5, a6⟩ := b
  simp only at h
  subst h
  cases k
  · exact .inl rfl
  · exact .inr rfl
/-- l is written over the block p, or its partner, or none of both -/
structure Over (t u : DSt) (l : List Int) (p H : Nat) : Prop where
  out : ∀ j, j ≠ p → j ≠ p + H → u.blks[j]? = t.blks[j]?
  at_ : ∀ j b, j = p ∨ j = p + H → t.blks[j]? = some b → u.blks[j]? = some b ∨ u.blks[j]? = some (b.write l)
  clean : Clean t → Clean u
theorem over_nil (t : DSt) (l : List Int) (p H : Nat) : Over t t l p H := ⟨fun _ _ _ => rfl, fun _ _ _ h => .inl h, id⟩
theorem over_put (t : DSt) (l : List Int) (p H : Nat) : Over t (t.put p l) l p H := by
  refine ⟨fun j h1 _ => put_else (fun e => h1 e.symm), fun j b _ hb => ?_, fun h => h.put p l⟩
  by_cases e : p = j
  · subst e; exact .inr (put_at hb)
  · exact .inl ((put_else e).trans hb)
theorem over_two (t : DSt) (l : List Int) (p : Nat) {H : Nat} (hH : 0 < H) : Over t (pWrite t H p l) l p H := by
  refine ⟨fun j h1 h2 => pWrite_else (fun e => h1 e.symm) (fun e => h2 e.symm), fun j b hj hb => ?_, fun h => h.pWrite H p l⟩
  rcases hj with rfl | rfl
  · exact .inr ((put_else (by omega)).trans (put_at hb))
  · exact .inr (put_at ((put_else (by omega)).trans hb))
/-- .. and fallen -/
theorem Over.crash (h : Over t u l p H) (hc : Calm t) (picks : List Int) : (∀ j, j ≠ p → j ≠ p + H → (u.crash picks).blks[j]? = t.blks[j]?) ∧ ∀ j b, j = p ∨ j = p + H → t.blks[j]? = some b → ∃ x, (u.crash picks).blks[j]? = some x ∧ (x.read = b.read ∨ x.read = (0, l)) := by
  refine ⟨fun j h1 h2 => ?_, fun j b hj hb => ?_⟩
  · have e := h.out j h1 h2
    rw [crash_at (fun b hb => hc.at_ (by rw [← e]; exact hb)), e]
  · rcases h.at_ j b hj hb with h1 | h1
    · exact ⟨_, crash_get h1 picks, .inl (by rw [crash_calm (hc.at_ hb)])⟩
    · exact ⟨_, crash_get h1 picks, crash_write b (hc.at_ hb) l _⟩
theorem root_is (hu : Up v n q) (hi : i < n) {b : BSt} (hb : v.blks[i]? = some b) : v.root i = readR b.read.2 := up_root hu hi hb
/-- a root is laid over: it is there, or all is as it was -/
theorem Stays.over (h : Stays t n q P cont) (ho : Over t u (bytesOf (rootSt P')) p (halN n)) (up : Up u n q') (hq : q ≤ q') (hc : (rootSt P').code = 0) (hs : Sums (rootSt P').refs) (hp : (rootSt P').epoch % 2 = (p : Int)) (hF : Fine (halN n) P' cont') (hd : Held t (halN n) P' cont') (hlt : rootSt P = rootSt P' ∨ P.epoch < P'.epoch) (he : P'.epoch ≤ (q' : Int)) (picks : List Int) :
    (Stays (u.crash picks) n q' P cont ∧ rootSt P ≠ rootSt P') ∨ Stays (u.crash picks) n q' P' cont' := by
  obtain ⟨o1, o2⟩ := ho.crash h.calm picks
  have hH := halN_two (n := n)
  have h2 := h.fine.apart.two
  have uv := up.crash picks
  have hp1 : p ≤ 1 := by omega
  have hpos := (RSt.fine hc).1
  have hpos' : 1 ≤ P'.epoch := hpos
  have hr' := readR_bytes hc hs
  have held : ∀ {Q : PS} {c : Cont}, Fine (halN n) Q c → Held t (halN n) Q c → Held (u.crash picks) (halN n) Q c := fun hF hd =>
    hd.same hF (fun f f2 f3 _ => ⟨o1 f (by omega) (by omega), o1 _ (by omega) (by omega)⟩)
  -- each of the four reads as it did, or has the root
  have hrd : ∀ i, i = 0 ∨ i = halN n ∨ i = 1 ∨ i = 1 + halN n → ((u.crash picks).blks[i]?).map BSt.read = (t.blks[i]?).map BSt.read ∨ ((i = p ∨ i = p + halN n) ∧ (u.crash picks).root i = some (rootSt P')) := fun i hi => by
    by_cases e : i = p ∨ i = p + halN n
    · obtain ⟨b, hb⟩ := h.up.at_ (i := i) (by omega)
      obtain ⟨x, hx, hr⟩ := o2 i b e hb
      rcases hr with hr | hr
      · left; rw [hx, hb, Option.map_some, Option.map_some, hr]
      · right; exact ⟨e, by rw [root_is uv (by omega) hx, hr]; exact hr'⟩
    · left; rw [o1 i (fun h => e (.inl h)) (fun h => e (.inr h))]
  have hdn : (u.crash picks).down = t.down := by rw [h.up.down]; rfl
  have hln : (u.crash picks).blks.length = t.blks.length := by rw [uv.len, h.up.len]
  by_cases hsome : (u.crash picks).root p = some (rootSt P') ∨ (u.crash picks).root (p + halN n) = some (rootSt P')
  · right
    refine ⟨hF, held hF hd, ⟨fun i hi => ?_, fun _ => by rw [show ((rootSt P').epoch % 2).toNat = p by omega]; exact hsome, fun h0 => by omega⟩, (ho.clean h.clean).crash picks, calmCrash _ _, uv, by omega, he, fun h0 => by omega⟩
    rcases hrd i hi with e | ⟨_, e⟩
    · rw [root_same hdn hln e]
      intro x hx
      rcases h.roots.under i hi x hx with h3 | h3
      · rcases hlt with h4 | h4
        · exact .inl (h3.trans h4)
        · right; rw [h3]; exact h4
      · right
        rcases hlt with h4 | h4
        · rw [← h4]; exact h3
        · exact Int.lt_trans h3 h4
    · rw [e]; exact under_self _
  · left
    have hsm : ∀ i, i = 0 ∨ i = halN n ∨ i = 1 ∨ i = 1 + halN n → ((u.crash picks).blks[i]?).map BSt.read = (t.blks[i]?).map BSt.read := fun i hi => by
      rcases hrd i hi with e | ⟨e1, e⟩
      · exact e
      · exfalso
        rcases e1 with rfl | rfl
        · exact hsome (.inl e)
        · exact hsome (.inr e)
    refine ⟨⟨h.fine, held h.fine h.held, h.roots.same hdn hln hsm, (ho.clean h.clean).crash picks, calmCrash _ _, uv, h.ep0, by have := h.ep1; omega, h.new⟩, fun e => hsome ?_⟩
    have h5 := h.roots.here' (p := p) (by rw [e]; omega) (by rw [e]; exact hp)
    rw [root_same hdn hln (hsm p (by omega)), root_same hdn hln (hsm (p + halN n) (by omega)), ← e]
    exact h5
/-- written elsewhere, and flushed -/
theorem Stays.ptsFl {K : Nat → Prop} (h : Stays s n q P cont) (hu : Pts K s u) (hK : ∀ j, K j → 2 ≤ j ∧ j ≠ halN n ∧ j ≠ 1 + halN n ∧ ∀ f, 2 ≤ f → f < halN n → P.addrs.contains (f : Int) = true → j ≠ f ∧ j ≠ f + halN n) (up : Up (fl u) n q') (hq : q ≤ q') : Stays (fl u) n q' P cont := by
  have hep := h.ep1
  refine ⟨h.fine, (h.held.same h.fine (fun f h2 h3 hm => ⟨hu.else_ (fun hk => (((hK f hk).2.2.2) f h2 h3 hm).1 rfl), hu.else_ (fun hk => (((hK _ hk).2.2.2) f h2 h3 hm).2 rfl)⟩)).fl, ?_, (hu.clean h.clean).fl, calm_fl _, up, h.ep0, by omega, h.new⟩
  refine h.roots.same (by rw [up.down, h.up.down]) (by rw [up.len, h.up.len]) (fun i hi => ?_)
  rw [fl_read, hu.else_ (fun hk => by have := hK i hk; omega)]
/-- what the device has, where the power goes in a commit -/
inductive CFall (s : DSt) (P : PS) (ch : Chg) (H : Nat) : DSt → Prop
  | pts {u : DSt} (hu : Pts (FrAt (freeOf P H) H) s u) : CFall s P ch H u
  | root {u : DSt} (hu : Over (fl (commitTo P ch s H).1) u (bytesOf (rootSt (commitTo P ch s H).2)) ((commitTo P ch s H).2.epoch % 2).toNat H) : CFall s P ch H u
theorem com_pts (hfit : (pagesOf P ch).length + (indexesOf P ch).length ≤ (freeOf P H).length) (hc : ∀ k l, ch k = some l → Byt l ∧ l.length ≤ 248) : Pts (FrAt (freeOf P H) H) s (commitTo P ch s H).1 := by
  rw [com_dev]
  exact Pts.pWrites .nil (fun x hx => ⟨FrAt.here (ws_addr hfit hc hx).1, FrAt.there (ws_addr hfit hc hx).1⟩)
theorem cfall_stays (h : Stays s n q P cont) (hu : CFall s P ch (halN n) u) (up : Up u n q') (hq : q + 1 ≤ q') (hq2 : q ≤ 800000) (hc : ∀ k l, ch k = some l → Byt l ∧ l.length ≤ 248) (hoff : ∀ k, 256 ≤ k → ch k = none) (hf : fitsB P ch (halN n) = true) (picks : List Int) :
    Stays (u.crash picks) n q' P cont ∨ Stays (u.crash picks) n q' (commitTo P ch s (halN n)).2 (contC cont ch) := by
  rcases hu with hu | hu
  · exact .inl (h.pts hu (fun j hj => free_apart h.fine hj) up (by omega) picks)
  · have hfit : (pagesOf P ch).length + (indexesOf P ch).length ≤ (freeOf P (halN n)).length := by
      unfold fitsB at hf
      simp only [Bool.and_eq_true, decide_eq_true_eq] at hf
      exact hf.1
    have hH2 := halN_two (n := n)
    have hH : halN n ≤ 512 := by unfold halN; omega
    have hep := commitTo_epoch P ch s (halN n)
    have he0 := h.ep0
    have he1 := h.ep1
    have hF2 := com_fine (s := s) h.fine hH hc hoff hf
    have hd2 := (com_held h.fine h.held h.up.len hH2 hc hf).fl
    obtain ⟨hcode, hsums⟩ := root_code hF2 hH (by omega) (by omega)
    have hp : (rootSt (commitTo P ch s (halN n)).2).epoch % 2 = ((((commitTo P ch s (halN n)).2.epoch % 2).toNat : Nat) : Int) := by show (commitTo P ch s (halN n)).2.epoch % 2 = _; omega
    have u1 := pWrites_up (H := halN n) (wsOf P ch (halN n) s) s q h.up hH2 (fun x hx => by
      have := ws_addr hfit hc hx
      exact ⟨(freeOf_is this.1).1, this.2⟩)
    rw [← com_dev] at u1
    have hst := (h.ptsFl (com_pts hfit hc) (fun j hj => free_apart h.fine hj) (q' := q + 2 * (wsOf P ch (halN n) s).length + 1) u1.flush.2 (by omega))
    have hst2 : Stays (fl (commitTo P ch s (halN n)).1) n (q + 2 * (wsOf P ch (halN n) s).length + 1) P cont := hst
    have hup2 : Up u n (q' + (q + 2 * (wsOf P ch (halN n) s).length + 1)) := up.more (by omega)
    rcases hst2.over hu hup2 (by omega) hcode hsums hp hF2 hd2 (.inr (by omega)) (by omega) picks with ⟨k, _⟩ | k
    · exact .inl ⟨k.fine, k.held, k.roots, k.clean, k.calm, up.crash picks, k.ep0, by omega, k.new⟩
    · exact .inr ⟨k.fine, k.held, k.roots, k.clean, k.calm, up.crash picks, k.ep0, by omega, k.new⟩
/-- the device behind an Open, armed -/
def openA (v : DSt) (P : PS) (H j : Nat) : DSt := if 0 < P.epoch ∧ v.copies H < 2 then (saveR (v.armed j) H (rootSt P)).2 else v.armed j
theorem openA_stays (h : Stays v n q P cont) (h3 : 300 ≤ n) (hq : q ≤ 800000) (j : Nat) (picks : List Int) : Stays ((openA v P (halN n) j).crash picks) n (q + 3) P cont := by
  have hH2 := halN_two (n := n)
  have h2 := h.fine.apart.two
  have hH : halN n ≤ 512 := by unfold halN; omega
  have hep := h.ep1
  unfold openA
  by_cases hc : 0 < P.epoch ∧ v.copies (halN n) < 2
  · rw [if_pos hc]
    obtain ⟨hcode, hsums⟩ := root_code h.fine hH (by omega) (by omega)
    have hp : (rootSt P).epoch % 2 = (((P.epoch % 2).toNat : Nat) : Int) := by show P.epoch % 2 = _; omega
    have hl := bytesOf_len (RSt.fine hcode).2.2.2
    have hy := bytesOf_byt (rootSt P)
    have u1 := (h.up.write (i := (P.epoch % 2).toNat) (by omega) hl hy).2
    have u2 := (u1.write (i := (P.epoch % 2).toNat + halN n) (by omega) hl hy).2
    have fin : ∀ u, Over v u (bytesOf (rootSt P)) (P.epoch % 2).toNat (halN n) → Up u n (q + 3) → Stays (u.crash picks) n (q + 3) P cont := fun u ho up => by
      rcases h.over (P' := P) ho up (by omega) hcode hsums hp h.fine h.held (.inl rfl) (by omega) picks with ⟨_, k⟩ | k
      · exact absurd rfl k
      · exact k
    rw [armed_save h.up (by omega) hcode hp]
    by_cases k1 : j = 1
    · simp only [if_pos k1]
      exact fin v (over_nil _ _ _ _) (h.up.more (by omega))
    · simp only [if_neg k1]
      by_cases k2 : j = 2
      · simp only [if_pos k2]
        exact fin (v.put _ _) (over_put _ _ _ _) (u1.more (by omega))
      · simp only [if_neg k2]
        by_cases k3 : j = 3
        · simp only [if_pos k3]
          exact fin (pWrite v _ _ _) (over_two _ _ _ (by omega)) (u2.more (by omega))
        · simp only [if_neg k3]
          have hrs := h.roots.save h.up hH2 h2 hcode hsums hp (.inl rfl)
          have hs : Stays (fl (pWrite v (halN n) (P.epoch % 2).toNat (bytesOf (rootSt P)))) n (q + 3) P cont :=
            ⟨h.fine, (h.held.root_ h.fine (by omega)).fl, hrs.1, (h.clean.pWrite _ _ _).fl, calm_fl _, u2.flush.2, h.ep0, by omega, h.new⟩
          exact hs.crash picks
  · rw [if_neg hc]
    exact (h.more (by omega)).crash picks
/-- opened, the power on: both copies of the root are there -/
theorem stays_keeps0 (h : Stays v n q P cont) (h0 : P.epoch = 0) : Keeps v n q P cont := ⟨h.fine, h.held, h.roots, fun h1 => by have : (rootSt P).epoch = P.epoch := rfl; omega, h.clean, h.ep0, h.ep1, h.new⟩
theorem has_le (r : RSt) (o : Option RSt) : has r o ≤ 1 := by unfold has; split <;> omega
theorem has_one {r : RSt} {o : Option RSt} (h : has r o = 1) : o = some r := by
  unfold has at h
  split at h
  · assumption
  · cases h
theorem stays_keeps (h : Stays v n q P cont) (h0 : 0 < P.epoch) (h3 : 300 ≤ n) (hq : q ≤ 800000) : Keeps (opDev v (halN n) P) n (q + 10) P cont ∧ Calm (opDev v (halN n) P) ∧ Up (opDev v (halN n) P) n (q + 10) := by
  have hH2 := halN_two (n := n)
  have h2 := h.fine.apart.two
  have hH : halN n ≤ 512 := by unfold halN; omega
  have hep := h.ep1
  obtain ⟨_, _, _, k4, _⟩ := rd_keeps h.fine h.held h.up halN_two 7 (Nat.le_refl _)
  have e := k4 h.clean
  unfold opDev
  rw [e]
  have hp : (rootSt P).epoch % 2 = (((P.epoch % 2).toNat : Nat) : Int) := by show P.epoch % 2 = _; omega
  by_cases hc : v.copies (halN n) < 2
  · simp only [if_pos hc]
    obtain ⟨hcode, hsums⟩ := root_code h.fine hH (by omega) (by omega)
    have hl := bytesOf_len (RSt.fine hcode).2.2.2
    have hy := bytesOf_byt (rootSt P)
    have u1 := (h.up.write (i := (P.epoch % 2).toNat) (by omega) hl hy).2
    have u2 := (u1.write (i := (P.epoch % 2).toNat + halN n) (by omega) hl hy).2
    have hrs := h.roots.save h.up hH2 h2 hcode hsums hp (.inl rfl)
    exact ⟨⟨h.fine, (h.held.root_ h.fine (by omega)).fl, hrs.1, hrs.2, (h.clean.pWrite _ _ _).fl, h.ep0, by omega, h.new⟩, calm_fl _, u2.flush.2.more (by omega)⟩
  · simp only [if_neg hc]
    have hcp := h.roots.copies h0 hp
    have a1 := has_le (rootSt P) (v.root (P.epoch % 2).toNat)
    have a2 := has_le (rootSt P) (v.root ((P.epoch % 2).toNat + halN n))
    exact ⟨⟨h.fine, h.held, h.roots, fun _ => show v.root (P.epoch % 2).toNat = some (rootSt P) ∧ v.root ((P.epoch % 2).toNat + halN n) = some (rootSt P) from ⟨has_one (by omega), has_one (by omega)⟩, h.clean, h.ep0, by omega, h.new⟩, h.calm, h.up.more (by omega)⟩
end
end Go.Proofs.YtaonhbmimaiiiaaGreatDoor
namespace Go.Proofs.YtaonhbmimaiiiaaGreatDoor
open Go.RowKit

theorem Up.armed_okN {s : DSt} {n q k : Nat} (h : Up s n q) (hk : k ≤ 1000) : (s.armed k).okN q := ⟨h.okN.1, h.okN.2.1, by show k ≤ _; omega, h.okN.2.2.2⟩
theorem Up.armed_ok {s : DSt} {n q k : Nat} (h : Up s n q) (hq : q ≤ 1000000) (hk : k ≤ 1000) : (s.armed k).ok := (h.armed_okN hk).ok hq
theorem Up.fall_ok {s : DSt} {n q : Nat} (h : Up s n q) (hq : q ≤ 1000000) : s.fall.ok := DSt.okN.ok (s := s.fall) ⟨h.okN.1, h.okN.2.1, Nat.zero_le _, h.okN.2.2.2⟩ hq
/-- what the pairs' calls keep over a device that is armed -/
structure PairArm (Real : World → Nat → DSt → (Nat → Prop) → Prop) (PR : World → Nat → Nat → Nat → Nat → (Nat → Prop) → Prop) : Prop where
  read : ∀ (S : Nat → Addr) (p d n m i z q k : Nat) (s : DSt) (F G : Nat → Prop) (w : World), Sent5 w S → Real w d (s.armed k) F → PR w p d n m G → Up s n q → q ≤ 900000 → k ≤ 1000 → 300 ≤ n → n ≤ 6000 → i < halN n → s.right i z = true →
    Calls Tryz.prog 78 #[.pointer (some ⟨p, 0, none⟩), refV i z] w fun e w' => ∃ A c, e = .returned (.tuple #[.slice A 256 c, .nilIface]) ∧ Sl w' w'.heap.size A 256 c (s.read (i : Int)).2 ∧ Below w.heap.size w w' ∧ ∀ ad, A = some ad → w.heap.size ≤ ad.block
  write : ∀ (S : Nat → Addr) (p d n m i q k : Nat) (s : DSt) (F G : Nat → Prop) (A : Option Addr) (c : Nat) (l : List Int) (w0 w : World), Sent5 w0 S → Below w0.heap.size w0 w → (∀ k, F k → w0.heap.size ≤ k) → Real w d (s.armed k) F → PR w p d n m G → (∀ k, F k → ¬ G k) → Up s n q → q ≤ 900000 → k ≤ 1000 → 300 ≤ n → n ≤ 6000 → i < halN n → Sl w w.heap.size A 256 c l → (∀ ad, A = some ad → ¬ F ad.block) → Byt l →
    Calls Tryz.prog 106 #[.pointer (some ⟨p, 0, none⟩), .int .i64 (i : Int), .slice A 256 c] w fun e w' => (∃ a z v, e = .returned (.tuple #[.agg #[.int .i64 a, .int .u32 z], v]) ∧ EV S (wr2 (s.armed k) i (halN n) l).1 v ∧ ((wr2 (s.armed k) i (halN n) l).1 = 0 → a = (i : Int) ∧ z = ((crcOf (nats l) : Nat) : Int))) ∧ RealUpd Real w d (wr2 (s.armed k) i (halN n) l).2 F w'
section
variable {Real : World → Nat → DSt → (Nat → Prop) → Prop}
set_option maxRecDepth 100000 in
set_option maxHeartbeats 4000000 in
theorem prWriteArm2_any (D : DevOk Real) (S : Nat → Addr) (p d n m i q : Nat) (s : DSt) (F G : Nat → Prop) (A : Option Addr) (c : Nat) (l : List Int) (w0 w : World) (hS : Sent5 w0 S) (hB0 : Below w0.heap.size w0 w) (hF0 : ∀ k, F k → w0.heap.size ≤ k) (hr : Real w d s F) (h : PrReal w p d n m G) (hap : ∀ k, F k → ¬ G k) (ho : s.okN q) (hq : q ≤ 900000) (h0 : 300 ≤ n) (h1 : n ≤ 6000) (hi : i < halN n) (hl : Sl w w.heap.size A 256 c l) (hA : ∀ ad, A = some ad → ¬ F ad.block) (hb : Byt l) :
    Calls Tryz.prog 106 #[.pointer (some ⟨p, 0, none⟩), .int .i64 (i : Int), .slice A 256 c] w fun e w' => (∃ a z v, e = .returned (.tuple #[.agg #[.int .i64 a, .int .u32 z], v]) ∧ EV S (wr2 s i (halN n) l).1 v ∧ ((wr2 s i (halN n) l).1 = 0 → a = (i : Int) ∧ z = ((crcOf (nats l) : Nat) : Int))) ∧ RealUpd Real w d (wr2 s i (halN n) l).2 F w' := by
  obtain ⟨⟨c1, s1⟩, e1⟩ : ∃ x, s.write (i : Int) l = x := ⟨_, rfl⟩
  obtain ⟨⟨c2, s2⟩, e2⟩ : ∃ x, s1.write ((i + halN n : Nat) : Int) l = x := ⟨_, rfl⟩
  have ho1 : s1.okN (q + 1) := by have := okN_write (i := (i : Int)) ho hb; rw [e1] at this; exact this
  obtain ⟨R, hR⟩ : ∃ R, wr2 s i (halN n) l = R := ⟨_, rfl⟩
  have HW := hid (show R = if c1 ≠ 0 then (c1, s1) else (c2, s2) from by rw [← hR]; unfold wr2; rw [e1]; simp only; rw [e2])
  rw [hR]
  clear hR
  have HE1 := hid e1
  have HE2 := hid e2
  have HU := hid (ho.ok (by omega))
  have HU1 := hid (ho1.ok (by omega))
  have HD := hid D
  have HS := hid hS
  have HB0 := hid hB0
  have HF0 := hid hF0
  have HR := hid hr
  have HP := hid h
  have HAp := hid hap
  have HL := hid hl
  have HA := hid hA
  have HY := hid hb
  have HFl := hid (D.lt hr)
  have hPa := h.on ((Below.refl _ _).alloc (Nat.le_refl _) (.cells #[.int .i64 0, .int .u32 0] 99))
  have HPc := hid (prPartner_ok p d n m i G _ hPa h0 h1 hi)
  generalize halN n = H at *
  clear hS hB0 hF0 hr h hap ho ho1 hq hl hA hb e1 e2 D hPa
  go_enter Tryz.func106, Tryz.ntmps106
  go_wp2_with fail
  refine HPc.out.mono ?_
  rintro e w1 ⟨rfl, hbe⟩
  have HBk := hid ((Blk.new w 99 #[.int .i64 0, .int .u32 0]).below hbe (by simp))
  have HB1 := hid (show Below w.heap.size w w1 from ((Below.refl _ _).alloc (Nat.le_refl _) _).trans (hbe.mono (by simp)))
  have HSz := hid (show w.heap.size < w1.heap.size from by have := hbe.size; simp at this; omega)
  clear hbe
  go_wp2
  go_loopw [26] (fun v wr => ∃ (s' : DSt) (F' : Nat → Prop), ((v = .int .i64 0 ∧ s' = s) ∨ (v = .int .i64 1 ∧ s' = s1 ∧ c1 = 0) ∨ (v = .int .i64 2 ∧ s' = s2 ∧ c1 = 0 ∧ c2 = 0)) ∧ Real wr d s' F' ∧ Only F w1 wr ∧ (∀ k, F' k → F k ∨ w1.heap.size ≤ k)) (fun v _ => 2 - (intOf v).toNat)
  case atStart => exact ⟨s, F, .inl ⟨rfl, rfl⟩, HD.out.kept HR.out (Kept.of_below HB1.out HFl.out), Only.refl _ _, fun k hk => .inl hk⟩
  case round =>
    obtain ⟨s', F', hv, hr', ho', hf'⟩ := hrel
    have HR' := hid hr'
    have HO' := hid ho'
    have HF' := hid hf'
    clear hr' ho' hf'
    have hp1 : PrReal wr p d n m G := (HP.out.on HB1.out).kept (HO'.out.kept (HP.out.on HB1.out).lt (fun k hg hf => HAp.out k hf hg))
    obtain ⟨c0, _, _, _⟩ := hp1.cells
    have HLr := hid (show Sl wr wr.heap.size A 256 c l from (HL.out.on HB1.out).only HO'.out (fun ad ha _ => HA.out ad ha))
    have HBr := hid (show Below w0.heap.size w0 wr from ((HB0.out.trans (HB1.out.mono HB0.out.size))).trans (HO'.out.below (by have := HB0.out.size; have := HSz.out; omega) HF0.out))
    have HAf := hid (show ∀ ad, A = some ad → 0 < 256 → ¬ F' ad.block from fun ad ha _ hf => by
      rcases HF'.out _ hf with h1 | h1
      · exact HA.out ad ha h1
      · have := (HL.out.at_ ad ha (by omega)).1; have := HSz.out; omega)
    clear hp1
    -- what a write leaves, and the answer's box
    have HNext := hid (fun (w2 : World) (s2' : DSt) (F2 : Nat → Prop) (hr2 : Real w2 d s2' F2) (ho2 : Only F' wr w2) (hf2 : ∀ k, F2 k → F' k ∨ wr.heap.size ≤ k) =>
      (show Real w2 d s2' F2 ∧ Only F w1 w2 ∧ ∀ k, F2 k → F k ∨ w1.heap.size ≤ k from
        ⟨hr2, HO'.out.trans ho2 (fun k hk => HF'.out k hk), fun k hk => (hf2 k hk).elim (HF'.out k) (fun h => .inr (by have := HO'.out.size; omega))⟩))
    have HEnd := hid (fun (w2 : World) (s2' : DSt) (F2 : Nat → Prop) (hn : Real w2 d s2' F2 ∧ Only F w1 w2 ∧ ∀ k, F2 k → F k ∨ w1.heap.size ≤ k) (u v : Value) =>
      (show RealUpd Real w d s2' F ((w2.setCell ⟨w.heap.size, 0, none⟩ u).setCell ⟨w.heap.size, 1, none⟩ v) from by
        have hne : ∀ k, F2 k → k ≠ w.heap.size := fun k hk e => by
          rcases hn.2.2 k hk with hf | hf
          · have := HFl.out k hf; omega
          · have := HSz.out; omega
        refine ⟨F2, HD.out.kept hn.1 ⟨fun k hk => (Below.heap_setCell _ ⟨w.heap.size, 1, none⟩ _ k (hne k hk)).trans (Below.heap_setCell _ ⟨w.heap.size, 0, none⟩ _ k (hne k hk)), by simp [World.setCell]⟩, ?_, fun k hk => (hn.2.2 k hk).imp id (fun h => by have := HSz.out; omega)⟩
        exact ((Only.of_below HB1.out).trans hn.2.1 (fun k hk => .inl hk)).trans (((Only.refl (fun k => k = w.heap.size) w2).put (p := ⟨w.heap.size, 0, none⟩) rfl _).put (p := ⟨w.heap.size, 1, none⟩) rfl _) (fun k hk => .inr (Nat.le_of_eq hk.symm))))
    have HBox := hid (fun (w2 : World) (ho2 : Only F w1 w2) => (show Blk w2 w.heap.size 99 #[.int .i64 0, .int .u32 0] from HBk.out.same (ho2.block _ HSz.out (fun hf => by have := HFl.out _ hf; omega))))
    have x0 := fun W => Tryz.idx0 (i : Int) ((i : Int) + (H : Int)) W
    have x1 := fun W => Tryz.idx1 (i : Int) ((i : Int) + (H : Int)) W
    rcases hv with ⟨rfl, rfl⟩ | ⟨rfl, rfl, hc1⟩ | ⟨rfl, rfl, hc1, hc2⟩
    · go_wp2_with fail
      refine (HD.out.write S d s' F' (i : Int) A 256 c l wr (HS.out.on HBr.out) HR'.out HU.out HLr.out HAf.out HY.out (by omega)).mono ?_
      rw [HE1.out]
      rintro e w2 ⟨⟨v, hv, rfl⟩, F2, hr2, ho2, hf2⟩
      have hn := HNext.out w2 s1 F2 hr2 ho2 hf2
      have HN := hid hn
      by_cases hc : c1 = 0
      · have HC := hid hc
        have hv2 : v = .nilIface := by simp only [hc] at hv; exact hv.nil
        subst hv2
        clear hr2 ho2 hf2 hv c0 hc hn
        go_wp2
        go_roundw
        case rel => exact ⟨s1, F2, .inr (.inl ⟨rfl, rfl, HC.out⟩), HN.out.1, HN.out.2.1, HN.out.2.2⟩
        case measure => simp [intOf]
      · have hbk := HBox.out w2 hn.2.1
        have fr := fun i => hbk.free i
        have b0 := hbk.cell 0
        have b1 := hbk.cell 1
        simp at b0 b1
        have HK4 := (hbk.put 0 (.int .i64 0)).put 1 (.int .u32 0)
        have m0 := HK4.cell 0
        have m1 := HK4.cell 1
        simp at m0 m1
        have HV := hid (show EV S R.1 v from by rw [HW.out, if_pos hc]; exact hv)
        have HNz := hid (show R.1 ≠ 0 from by rw [HW.out, if_pos hc]; exact hc)
        have HEn := hid (show RealUpd Real w d R.2 F ((w2.setCell ⟨w.heap.size, 0, none⟩ (.int .i64 0)).setCell ⟨w.heap.size, 1, none⟩ (.int .u32 0)) from by rw [HW.out, if_pos hc]; exact HEnd.out w2 s1 F2 hn _ _)
        obtain ⟨j, rfl⟩ := hv.is hc
        clear hr2 ho2 hf2 hv c0 hc hn hbk HK4
        go_wp2
        exact bodyPost_ret (v := .tuple #[.agg #[.int .i64 0, .int .u32 0], .iface 307 (.pointer (some (S j)))]) (by simp [results, Tryz.results106, go_sem, m0, m1]) rfl ⟨⟨0, 0, _, rfl, HV.out, fun h => absurd h HNz.out⟩, HEn.out⟩
    · go_wp2_with fail
      refine (HD.out.write S d s' F' ((i + H : Nat) : Int) A 256 c l wr (HS.out.on HBr.out) HR'.out HU1.out HLr.out HAf.out HY.out (by omega)).mono ?_
      rw [HE2.out]
      rintro e w2 ⟨⟨v, hv, rfl⟩, F2, hr2, ho2, hf2⟩
      have hn := HNext.out w2 s2 F2 hr2 ho2 hf2
      have HN := hid hn
      by_cases hc : c2 = 0
      · have HC := hid hc
        have HC1 := hid hc1
        have hv2 : v = .nilIface := by simp only [hc] at hv; exact hv.nil
        subst hv2
        clear hr2 ho2 hf2 hv c0 hc hn hc1
        go_wp2
        go_roundw
        case rel => exact ⟨s2, F2, .inr (.inr ⟨rfl, rfl, HC1.out, HC.out⟩), HN.out.1, HN.out.2.1, HN.out.2.2⟩
        case measure => simp [intOf]
      · have hbk := HBox.out w2 hn.2.1
        have fr := fun i => hbk.free i
        have b0 := hbk.cell 0
        have b1 := hbk.cell 1
        simp at b0 b1
        have HK4 := (hbk.put 0 (.int .i64 0)).put 1 (.int .u32 0)
        have m0 := HK4.cell 0
        have m1 := HK4.cell 1
        simp at m0 m1
        have HV := hid (show EV S R.1 v from by rw [HW.out, if_neg (by rw [hc1]; simp)]; exact hv)
        have HNz := hid (show R.1 ≠ 0 from by rw [HW.out, if_neg (by rw [hc1]; simp)]; exact hc)
        have HEn := hid (show RealUpd Real w d R.2 F ((w2.setCell ⟨w.heap.size, 0, none⟩ (.int .i64 0)).setCell ⟨w.heap.size, 1, none⟩ (.int .u32 0)) from by rw [HW.out, if_neg (by rw [hc1]; simp)]; exact HEnd.out w2 s2 F2 hn _ _)
        obtain ⟨j, rfl⟩ := hv.is hc
        clear hr2 ho2 hf2 hv c0 hc hn hbk HK4 hc1
        go_wp2
        exact bodyPost_ret (v := .tuple #[.agg #[.int .i64 0, .int .u32 0], .iface 307 (.pointer (some (S j)))]) (by simp [results, Tryz.results106, go_sem, m0, m1]) rfl ⟨⟨0, 0, _, rfl, HV.out, fun h => absurd h HNz.out⟩, HEn.out⟩
    · go_wp2_with fail
      refine (sum_any A 256 c _ l _ HLr.out HY.out).mono ?_
      rintro e w2 ⟨rfl, rfl⟩
      have hbk := HBox.out wr HO'.out
      have fr := fun i => hbk.free i
      have b0 := hbk.cell 0
      have b1 := hbk.cell 1
      simp at b0 b1
      have HK4 := (hbk.put 0 (.int .i64 (i : Int))).put 1 (.int .u32 ((crcOf (nats l) : Nat) : Int))
      have m0 := HK4.cell 0
      have m1 := HK4.cell 1
      simp at m0 m1
      have HV := hid (show EV S R.1 .nilIface from by rw [HW.out, if_neg (by rw [hc1]; simp)]; simp only [hc2]; exact .fine)
      have HEn := hid (show RealUpd Real w d R.2 F ((wr.setCell ⟨w.heap.size, 0, none⟩ (.int .i64 (i : Int))).setCell ⟨w.heap.size, 1, none⟩ (.int .u32 ((crcOf (nats l) : Nat) : Int))) from by rw [HW.out, if_neg (by rw [hc1]; simp)]; exact HEnd.out wr s' F' ⟨HR'.out, HO'.out, HF'.out⟩ _ _)
      clear c0 hbk HK4 hc1 hc2
      go_wp2
      exact bodyPost_ret (v := .tuple #[.agg #[.int .i64 (i : Int), .int .u32 ((crcOf (nats l) : Nat) : Int)], .nilIface]) (by simp [results, Tryz.results106, go_sem, m0, m1]) rfl ⟨⟨_, _, _, rfl, HV.out, fun _ => ⟨rfl, rfl⟩⟩, HEn.out⟩
set_option maxHeartbeats 1000000 in
theorem prRightA_any (D : DevOk Real) (S : Nat → Addr) (p d n m i z q k : Nat) (s : DSt) (F G : Nat → Prop) (w : World) (hS : Sent5 w S) (hr : Real w d (s.armed k) F) (hk : k ≤ 1000) (h : PrReal w p d n m G) (hu : Up s n q) (hq : q ≤ 900000) (hi : i < n) :
    Calls Tryz.prog 124 #[.pointer (some ⟨p, 0, none⟩), .int .i64 (i : Int), .int .u32 (z : Int)] w (RightOut S w s i z) := by
  obtain ⟨c0, _, _, _⟩ := h.cells
  obtain ⟨b, hb⟩ := hu.at_ hi
  have HS := hid hS
  have HR := hid hr
  have HO := hid (hu.armed_ok (by omega) hk)
  have HE := hid (hu.read hi hb)
  have HRt := hid (right_eq hu hi hb z)
  have HBo := hid (hu.okN.1 b (List.mem_of_getElem? hb))
  clear hS hr h hu hb
  unfold RightOut
  rw [HE.out, HRt.out]
  obtain ⟨⟨code, y⟩, hxy⟩ : ∃ x, b.read = x := ⟨_, rfl⟩
  have HXY := hid hxy
  have HC := hid (show code = 0 ∨ code = 107 from by have := read_code b; rwa [hxy] at this)
  have HOk := hid (show code = 0 → y.length = 256 ∧ Byt y from fun h0 => by
    have := read_ok HBo.out (by rw [hxy]; exact h0)
    rwa [hxy] at this)
  rw [hxy]
  clear hxy
  go_enter Tryz.func124, Tryz.ntmps124
  go_wp2_with fail
  refine (D.read S d (s.armed k) F _ _ HS.out HR.out HO.out).mono ?_
  rw [show (s.armed k).read (i : Int) = s.read (i : Int) from rfl, HE.out, HXY.out]
  rintro e w1 ⟨B, kB, cb, v, rfl, hv, hb, hbl, hfr⟩
  have HB := hid hb
  have HBl := hid hbl
  have HFr := hid hfr
  have hv1 : w1.cell? ⟨5, 0, none⟩ = some (.iface 307 (.pointer (some (S 6)))) := (HS.out.on hbl) 6 (by decide)
  clear hbl hb hfr c0
  rcases HC.out with hc | hc
  · subst hc
    obtain rfl := hv.nil
    obtain ⟨hy1, hy2⟩ := HOk.out rfl
    obtain rfl : kB = 256 := by rw [← HB.out.len, hy1]
    have HY := hid hy2
    clear hy1 hy2 hv
    by_cases hsum : crcOf (nats y) = z
    · have q1 : (((crcOf (nats y) : Nat) : Int) != (z : Int)) = false := by simp [hsum]
      have HT := hid (show (((0 : Int) == 0) && (crcOf (nats y) == z)) = true by simp [hsum])
      clear hsum
      go_wp2_with fail
      refine (sum_any B 256 cb _ y _ HB.out HY.out).mono ?_
      rintro e w2 ⟨rfl, rfl⟩
      go_wp2
      go_ret2
      exact .inl ⟨HT.out, B, cb, rfl, HB.out, HY.out, HBl.out, HFr.out⟩
    · have q1 : (((crcOf (nats y) : Nat) : Int) != (z : Int)) = true := by simp; omega
      have HT := hid (show (((0 : Int) == 0) && (crcOf (nats y) == z)) = false by simp [hsum])
      clear hsum
      go_wp2_with fail
      refine (sum_any B 256 cb _ y _ HB.out HY.out).mono ?_
      rintro e w2 ⟨rfl, rfl⟩
      go_wp2_with fail
      go_region
      go_wp2
      go_ret2
      exact .inr ⟨HT.out, rfl, HBl.out.drew⟩
  · subst hc
    obtain rfl := ev_io hv
    clear hv
    go_wp2
    go_ret2
    exact .inr ⟨by simp, rfl, HBl.out⟩
set_option maxHeartbeats 2000000 in
theorem prReadA_any (D : DevOk Real) (S : Nat → Addr) (p d n m i z q k : Nat) (s : DSt) (F G : Nat → Prop) (w : World) (hS : Sent5 w S) (hr : Real w d (s.armed k) F) (h : PrReal w p d n m G) (hu : Up s n q) (hq : q ≤ 900000) (hk : k ≤ 1000) (h0 : 300 ≤ n) (h1 : n ≤ 6000) (hi : i < halN n) (ht : s.right i z = true) :
    Calls Tryz.prog 78 #[.pointer (some ⟨p, 0, none⟩), refV i z] w fun e w' => ∃ A c, e = .returned (.tuple #[.slice A 256 c, .nilIface]) ∧ Sl w' w'.heap.size A 256 c (s.read (i : Int)).2 ∧ Below w.heap.size w w' ∧ ∀ ad, A = some ad → w.heap.size ≤ ad.block := by
  have HB0 := hid (show Below w.heap.size w (w.alloc (.cells #[.int .i64 (i : Int), .int .u32 (z : Int)] 99)) from (Below.refl _ _).alloc (Nat.le_refl _) _)
  have HK0 := hid (Blk.new w 99 #[.int .i64 (i : Int), .int .u32 (z : Int)])
  have hlt : i < n := by have := half_facts h0; omega
  have HPa := hid (fun (w' : World) (hb : Below w.heap.size w w') => prPartner_ok p d n m i G w' (h.on hb) h0 h1 hi)
  have HRi := hid (fun (w' : World) (hb : Below w.heap.size w w') => prRightA_any D S p d n m i z q k s F G w' (hS.on hb) (D.kept hr (Kept.of_below hb (D.lt hr))) hk (h.on hb) hu hq hlt)
  have HT := hid ht
  have HSe := hid (fun (w' : World) (hb : Below w.heap.size w w') => (show w'.cell? ⟨5, 0, none⟩ = some (.iface 307 (.pointer (some (S 6)))) from (hS.on hb) 6 (by decide)))
  have q1 := fun W => Tryz.neqSame (S 6) W
  have q2 := fun v W => Tryz.neqNil v W
  clear hS hr h hu hq hk h0 h1 hi ht hlt D
  go_enter Tryz.func78, Tryz.ntmps78
  go_wp2_with fail
  refine (HPa.out _ HB0.out).mono ?_
  rintro e w1 ⟨rfl, hb⟩
  have HB1 := hid (HB0.out.trans (hb.mono HB0.out.size))
  have hk := HK0.out.below hb HK0.out.lt
  have HK1 := hid hk
  have b0 := hk.cell 0
  have b1 := hk.cell 1
  simp at b0 b1
  clear hb hk
  go_wp2_with fail
  refine (HRi.out _ HB1.out).mono ?_
  rintro e w2 (⟨ht, A, c, rfl, hl, _, hb, hA⟩ | ⟨ht, rfl, hb⟩)
  · have HB2 := hid (HB1.out.trans (hb.mono HB1.out.size))
    have HL := hid hl
    have HA := hid (show ∀ ad, A = some ad → w.heap.size ≤ ad.block from fun ad ha => Nat.le_trans HB1.out.size (hA ad ha))
    have he := HSe.out _ HB2.out
    clear ht hl hb hA b0 b1
    go_wp2
    go_ret2
    exact ⟨A, c, rfl, HL.out, HB2.out, HA.out⟩
  · rw [HT.out] at ht; cases ht
end
theorem prArm {Real : World → Nat → DSt → (Nat → Prop) → Prop} (D : DevOk Real) : PairArm Real PrReal where
  read := fun S p d n m i z q k s F G w h1 h2 h3 h4 h5 h6 h7 h8 h9 h10 => prReadA_any D S p d n m i z q k s F G w h1 h2 h3 h4 h5 h6 h7 h8 h9 h10
  write := fun S p d n m i q k s F G A c l w0 w h1 h2 h3 h4 h5 h6 h7 h8 h9 h10 h11 h12 h13 h14 h15 => prWriteArm2_any D S p d n m i q (s.armed k) F G A c l w0 w h1 h2 h3 h4 h5 h6 (h7.armed_okN h9) h8 h10 h11 h12 h13 h14 h15
end Go.Proofs.YtaonhbmimaiiiaaGreatDoor
