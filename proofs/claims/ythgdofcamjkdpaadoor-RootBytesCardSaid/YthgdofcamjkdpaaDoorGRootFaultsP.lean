/- Roots saved one behind another, and faults laid on their blocks. -/
import Derived.Test.YthgdofcamjkdpaaDoorGRootHalfW
namespace Go.Proofs.YthgdofcamjkdpaaDoor
open Go.RowKit

/-- a block of the k-th save's: blank, where there was none -/
def Was (f : Nat → RSt) (k : Nat) (b : BSt) : Prop := (k = 0 ∧ b = blank) ∨ (1 ≤ k ∧ ∃ e, b = cl (bytesOf (f k)) e)
/-- behind i saves -/
structure Saved (f : Nat → RSt) (s : DSt) (n H q i : Nat) : Prop where
  up : Up s n q
  calm : Calm s
  four : ∃ a b c d, Four s H ((i + 1) % 2) a b c d ∧ Was f (i - 1) a ∧ Was f (i - 1) b ∧ Was f i c ∧ Was f i d
theorem saved_new (f : Nat → RSt) {n H : Nat} (hn : n ≤ 6000) (hH : 1 + H < n) : Saved f (DSt.new n) n H 0 0 :=
  ⟨up_new hn, calm_new _, blank, blank, blank, blank, four_new hH (by omega), .inl ⟨rfl, rfl⟩, .inl ⟨rfl, rfl⟩, .inl ⟨rfl, rfl⟩, .inl ⟨rfl, rfl⟩⟩
theorem Saved.save {f : Nat → RSt} {s : DSt} {n H q i : Nat} (h : Saved f s n H q i) (hH : 1 + H < n) (h1 : 2 ≤ H) (hc : (f (i + 1)).code = 0) (he : (f (i + 1)).epoch = ((i + 1 : Nat) : Int)) : ∃ s', saveR s H (f (i + 1)) = (0, s') ∧ Saved f s' n H (q + 3) (i + 1) := by
  obtain ⟨a, b, c, d, hf, _, _, hw3, hw4⟩ := h.four
  obtain ⟨s', e1, u1, k1, f1⟩ := hf.save h.up hH h1 (by omega) h.calm hc (by rw [he]; omega)
  have f2 := f1.swap (by omega)
  rw [show 1 - (i + 1) % 2 = (i + 1 + 1) % 2 by omega] at f2
  exact ⟨s', e1, u1, k1, _, _, _, _, f2, hw3, hw4, .inr ⟨by omega, _, rfl⟩, .inr ⟨by omega, _, rfl⟩⟩
section
variable {s : DSt} {H p n q at0 : Nat} {a b c d : BSt} {l : List Int} {e : Bool} {at' : Int} {bits : Nat}
theorem up_spoil (u : Up s n q) (i : Int) (at' : Int) (bits : Nat) : Up (s.spoil i at' bits).2 n q := by
  refine ⟨?_, ?_, by rw [spoil_len]; exact u.len, okN_spoil u.okN⟩
  · unfold DSt.spoil; split <;> exact u.arm
  · unfold DSt.spoil; split <;> exact u.down
theorem up_fail (u : Up s n q) (i : Int) : Up (s.fail i).2 n q := by
  refine ⟨?_, ?_, by rw [fail_len]; exact u.len, okN_fail u.okN⟩
  · unfold DSt.fail; split <;> exact u.arm
  · unfold DSt.fail; split <;> exact u.down
theorem four_spoil1 (h : Four s H p (cl l e) b c d) (hH : 2 ≤ H) (hp : p ≤ 1) (h0 : 0 ≤ at') (h1 : at' ≤ 252) (hz : bits ≠ 0) : Four (s.spoil (p : Int) at' bits).2 H p ((cl l e).spoil at' bits) b c d := by
  rw [spoil_yes h.here.a ⟨rfl, rfl⟩ h0 h1 hz]
  exact ⟨h.here.turn1 (by omega) _, ⟨(turn_else (by omega)).trans h.there.a, (turn_else (by omega)).trans h.there.c⟩⟩
theorem four_spoil2 (h : Four s H p a (cl l e) c d) (hH : 2 ≤ H) (hp : p ≤ 1) (h0 : 0 ≤ at') (h1 : at' ≤ 252) (hz : bits ≠ 0) : Four (s.spoil ((p + H : Nat) : Int) at' bits).2 H p a ((cl l e).spoil at' bits) c d := by
  rw [spoil_yes h.here.c ⟨rfl, rfl⟩ h0 h1 hz]
  exact ⟨h.here.turn2 (by omega) _, ⟨(turn_else (by omega)).trans h.there.a, (turn_else (by omega)).trans h.there.c⟩⟩
theorem four_fail1 (h : Four s H p (cl l e) b c d) (hH : 2 ≤ H) (hp : p ≤ 1) : Four (s.fail (p : Int)).2 H p (cl l e).failed b c d := by
  rw [fail_yes h.here.a ⟨rfl, rfl⟩]
  exact ⟨h.here.turn1 (by omega) _, ⟨(turn_else (by omega)).trans h.there.a, (turn_else (by omega)).trans h.there.c⟩⟩
theorem four_fail2 (h : Four s H p a (cl l e) c d) (hH : 2 ≤ H) (hp : p ≤ 1) : Four (s.fail ((p + H : Nat) : Int)).2 H p a (cl l e).failed c d := by
  rw [fail_yes h.here.c ⟨rfl, rfl⟩]
  exact ⟨h.here.turn2 (by omega) _, ⟨(turn_else (by omega)).trans h.there.a, (turn_else (by omega)).trans h.there.c⟩⟩
theorem Four.back (h : Four s H (1 - p) c d a b) (hp : p ≤ 1) : Four s H p a b c d := by
  have := h.swap (by omega)
  rwa [show 1 - (1 - p) = p by omega] at this
theorem read_failed : readR (cl l e).failed.read.2 = none := readR_short (b := []) (by simp)
theorem read_spoilt {r : RSt} (hc : r.code = 0) (h0 : 0 ≤ at') (h1 : at' ≤ 252) (hz : bits ≠ 0) (hz2 : bits < 4294967296) : readR ((cl (bytesOf r) e).spoil at' bits).read.2 = none :=
  readR_turned (RSt.fine hc).2.2.2 at' bits (turned_other (bytesOf_byt r) (bytesOf_len (RSt.fine hc).2.2.2) h0 h1 hz hz2).1
theorem readR_cl {r : RSt} (hc : r.code = 0) (hs : Sums r.refs) : readR (cl (bytesOf r) e).read.2 = some r := readR_bytes hc hs
/-- the newest is r, x lies in the other pair -/
theorem found {r x : RSt} (u : Up s n q) (h : Four s H p a b c d) (hH : 1 + H < n) (hp : p ≤ 1) (h0 : 0 < r.epoch) (he : r.epoch % 2 = (p : Int)) (hx : x.epoch < r.epoch)
    (ra : readR a.read.2 = some r ∨ readR a.read.2 = none) (rb : readR b.read.2 = some r ∨ readR b.read.2 = none) (hr : readR a.read.2 = some r ∨ readR b.read.2 = some r) (rc : readR c.read.2 = some x ∨ readR c.read.2 = none) (rd : readR d.read.2 = some x ∨ readR d.read.2 = none) :
    s.newest H = r ∧ s.copies H = has r (readR a.read.2) + has r (readR b.read.2) := by
  have hn : s.newest H = r := loads u h hH hp h0 (by rcases ra with e | e <;> rw [e]; exact under_self _; exact under_none _) (by rcases rb with e | e <;> rw [e]; exact under_self _; exact under_none _) (by rcases rc with e | e <;> rw [e]; exact under_less hx; exact under_none _) (by rcases rd with e | e <;> rw [e]; exact under_less hx; exact under_none _) (by rcases hr with e | e; exact .inl e; exact .inr (.inl e))
  exact ⟨hn, copied u h hH hp h0 he hn⟩
/-- both of the newer are gone -/
theorem found_other {x : RSt} (u : Up s n q) (h : Four s H p a b c d) (hH : 1 + H < n) (hp : p ≤ 1) (h0 : 0 < x.epoch) (he : x.epoch % 2 = ((1 - p : Nat) : Int))
    (ra : readR a.read.2 = none) (rb : readR b.read.2 = none) (rc : readR c.read.2 = some x) (rd : readR d.read.2 = some x) :
    s.newest H = x ∧ s.copies H = 2 := by
  have h' := h.swap hp
  have hn : s.newest H = x := loads u h' hH (by omega) h0 (by rw [rc]; exact under_self _) (by rw [rd]; exact under_self _) (by rw [ra]; exact under_none _) (by rw [rb]; exact under_none _) (.inl rc)
  refine ⟨hn, ?_⟩
  rw [copied u h' hH (by omega) h0 he hn, rc, rd, has_self]
end
/-- what each of the five faults leaves -/
structure Aft (s : DSt) (n q : Nat) (r : RSt) (k : Nat) : Prop where
  up : Up s n q
  new : s.newest 100 = r
  copies : s.copies 100 = k
section
variable {s : DSt} {q p : Nat} {r x : RSt} {e1 e2 e3 e4 : Bool} {at' : Int} {bits : Nat}
structure Struck (s : DSt) (q p : Nat) (r x : RSt) (at' : Int) (bits : Nat) : Prop where
  up : Up s 400 q
  hp : p ≤ 1
  four : ∃ e1 e2 e3 e4, Four s 100 p (cl (bytesOf r) e1) (cl (bytesOf r) e2) (cl (bytesOf x) e3) (cl (bytesOf x) e4)
  rc : r.code = 0
  xc : x.code = 0
  rs : Sums r.refs
  xs : Sums x.refs
  re : r.epoch % 2 = (p : Int)
  xe : x.epoch % 2 = ((1 - p : Nat) : Int)
  lt : x.epoch < r.epoch
  h0 : 0 ≤ at'
  h1 : at' ≤ 252
  hz : bits ≠ 0
  hz2 : bits < 4294967296
theorem Struck.fault0 (h : Struck s q p r x at' bits) : Aft (s.spoil (p : Int) at' bits).2 400 q r 1 := by
  obtain ⟨e1, e2, e3, e4, f⟩ := h.four
  have f1 := four_spoil1 f (by omega) h.hp h.h0 h.h1 h.hz
  have u1 := up_spoil h.up (p : Int) at' bits
  have rd1 := read_spoilt (e := e1) h.rc h.h0 h.h1 h.hz h.hz2
  have rd2 := readR_cl (e := e2) h.rc h.rs
  obtain ⟨hn, hc⟩ := found u1 f1 (by omega) h.hp (by have := (RSt.fine h.rc).1; omega) h.re h.lt (.inr rd1) (.inl rd2) (.inr rd2) (.inl (readR_cl h.xc h.xs)) (.inl (readR_cl h.xc h.xs))
  exact ⟨u1, hn, by rw [hc, rd1, rd2, has_self, has_none]⟩
theorem Struck.fault1 (h : Struck s q p r x at' bits) : Aft (s.fail ((p + 100 : Nat) : Int)).2 400 q r 1 := by
  obtain ⟨e1, e2, e3, e4, f⟩ := h.four
  have f1 := four_fail2 f (by omega) h.hp
  have u1 := up_fail h.up ((p + 100 : Nat) : Int)
  have rd1 := readR_cl (e := e1) h.rc h.rs
  have rd2 := read_failed (l := bytesOf r) (e := e2)
  obtain ⟨hn, hc⟩ := found u1 f1 (by omega) h.hp (by have := (RSt.fine h.rc).1; omega) h.re h.lt (.inl rd1) (.inr rd2) (.inl rd1) (.inl (readR_cl h.xc h.xs)) (.inl (readR_cl h.xc h.xs))
  exact ⟨u1, hn, by rw [hc, rd1, rd2, has_self, has_none]⟩
theorem Struck.fault2 (h : Struck s q p r x at' bits) : Aft ((s.spoil (p : Int) at' bits).2.fail ((1 - p : Nat) : Int)).2 400 q r 1 := by
  obtain ⟨e1, e2, e3, e4, f⟩ := h.four
  have hp := h.hp
  have f1 := four_spoil1 f (by omega) h.hp h.h0 h.h1 h.hz
  have f2 := (four_fail1 (f1.swap hp) (by omega) (by omega)).back hp
  have u1 := up_fail (up_spoil h.up (p : Int) at' bits) ((1 - p : Nat) : Int)
  have rd1 := read_spoilt (e := e1) h.rc h.h0 h.h1 h.hz h.hz2
  have rd2 := readR_cl (e := e2) h.rc h.rs
  obtain ⟨hn, hc⟩ := found u1 f2 (by omega) h.hp (by have := (RSt.fine h.rc).1; omega) h.re h.lt (.inr rd1) (.inl rd2) (.inr rd2) (.inr read_failed) (.inl (readR_cl h.xc h.xs))
  exact ⟨u1, hn, by rw [hc, rd1, rd2, has_self, has_none]⟩
theorem Struck.fault3 (h : Struck s q p r x at' bits) : Aft ((s.fail ((1 - p : Nat) : Int)).2.spoil ((1 - p + 100 : Nat) : Int) at' bits).2 400 q r 2 := by
  obtain ⟨e1, e2, e3, e4, f⟩ := h.four
  have hp := h.hp
  have f1 := four_fail1 (f.swap hp) (by omega) (by omega)
  have f2 := (four_spoil2 f1 (by omega) (by omega) h.h0 h.h1 h.hz).back hp
  have u1 := up_spoil (up_fail h.up ((1 - p : Nat) : Int)) ((1 - p + 100 : Nat) : Int) at' bits
  have rd1 := readR_cl (e := e1) h.rc h.rs
  have rd2 := readR_cl (e := e2) h.rc h.rs
  obtain ⟨hn, hc⟩ := found u1 f2 (by omega) h.hp (by have := (RSt.fine h.rc).1; omega) h.re h.lt (.inl rd1) (.inl rd2) (.inl rd1) (.inr read_failed) (.inr (read_spoilt h.xc h.h0 h.h1 h.hz h.hz2))
  exact ⟨u1, hn, by rw [hc, rd1, rd2, has_self]⟩
theorem Struck.fault4 (h : Struck s q p r x at' bits) : Aft ((s.spoil (p : Int) at' bits).2.spoil ((p + 100 : Nat) : Int) (252 - at') bits).2 400 q x 2 := by
  obtain ⟨e1, e2, e3, e4, f⟩ := h.four
  have hp := h.hp
  have h0 := h.h0
  have h1 := h.h1
  have f1 := four_spoil1 f (by omega) h.hp h.h0 h.h1 h.hz
  have f2 := four_spoil2 (at' := 252 - at') f1 (by omega) h.hp (by omega) (by omega) h.hz
  have u1 := up_spoil (up_spoil h.up (p : Int) at' bits) ((p + 100 : Nat) : Int) (252 - at') bits
  have rd1 := read_spoilt (e := e1) h.rc h.h0 h.h1 h.hz h.hz2
  have rd2 := read_spoilt (e := e2) (at' := 252 - at') h.rc (by omega) (by omega) h.hz h.hz2
  obtain ⟨hn, hc⟩ := found_other u1 f2 (by omega) h.hp (by have := (RSt.fine h.xc).1; omega) h.xe rd1 rd2 (readR_cl h.xc h.xs) (readR_cl h.xc h.xs)
  exact ⟨u1, hn, hc⟩
end
section
variable {Real : World → Nat → DSt → (Nat → Prop) → Prop} {w0 w : World} {d n q : Nat} {s : DSt} {F : Nat → Prop}
end
end Go.Proofs.YthgdofcamjkdpaaDoor
