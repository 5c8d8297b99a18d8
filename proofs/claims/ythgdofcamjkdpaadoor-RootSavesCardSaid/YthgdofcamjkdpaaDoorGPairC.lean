/- Two blocks of a device, a pair, behind each step; the chapter's example. -/
import Derived.Test.YthgdofcamjkdpaaDoorGPairB
namespace Go.Proofs.YthgdofcamjkdpaaDoor
open Go.RowKit

/-- blocks i and j are a and c -/
structure At (s : DSt) (i j : Nat) (a c : BSt) : Prop where
  a : s.blks[i]? = some a
  c : s.blks[j]? = some c
/-- written and flushed -/
def cl (l : List Int) (e : Bool) : BSt := ⟨l, l, false, false, false, e⟩
theorem flush_write (b : BSt) (l : List Int) : (b.write l).flush = cl l b.ever := rfl
theorem flush_cl (l : List Int) (e : Bool) : (cl l e).flush = cl l e := rfl
theorem read_cl (l : List Int) (e : Bool) : (cl l e).read = (0, l) := rfl
theorem read_write (b : BSt) (l : List Int) : (b.write l).read = (0, l) := rfl
theorem right_of {b : BSt} {l : List Int} (h : b.read = (0, l)) : b.right (crcOf (nats l)) = true := by unfold BSt.right; rw [h]; simp
theorem right_failed (l : List Int) (e : Bool) (z : Nat) : (cl l e).failed.right z = false := rfl
theorem right_spoilt {l : List Int} (hl : Byt l) (h256 : l.length = 256) (e : Bool) {at' : Int} {bits : Nat} (h0 : 0 ≤ at') (h1 : at' ≤ 252) (hb : bits ≠ 0) (hb2 : bits < 4294967296) : ((cl l e).spoil at' bits).right (crcOf (nats l)) = false := by
  have e1 : ((cl l e).spoil at' bits).read = (0, turned l at' bits) := rfl
  unfold BSt.right
  rw [e1]
  simp [(turned_other hl h256 h0 h1 hb hb2).2]
section
variable {s : DSt} {n q i j H z : Nat} {a c : BSt} {l : List Int}
theorem At.new (hi : i < n) (hj : j < n) : At (DSt.new n) i j blank blank := ⟨new_at hi, new_at hj⟩
theorem At.write (h : At s i (i + H) a c) (hH : 0 < H) (l : List Int) : At (pWrite s H i l) i (i + H) (a.write l) (c.write l) := by
  unfold pWrite
  exact ⟨(put_else (by omega)).trans (put_at h.a), put_at ((put_else (by omega)).trans h.c)⟩
theorem At.fl (h : At s i j a c) : At (fl s) i j a.flush c.flush := ⟨fl_at h.a, fl_at h.c⟩
theorem At.put1 (h : At s i j a c) (hij : i ≠ j) (l : List Int) : At (s.put i l) i j (a.write l) c := ⟨put_at h.a, (put_else hij).trans h.c⟩
theorem At.put2 (h : At s i j a c) (hij : i ≠ j) (l : List Int) : At (s.put j l) i j a (c.write l) := ⟨(put_else (Ne.symm hij)).trans h.a, put_at h.c⟩
theorem spoil_yes {b : BSt} (hb : s.blks[i]? = some b) (hf : b.pend = false ∧ b.fault = false) {at' : Int} {bits : Nat} (h0 : 0 ≤ at') (h1 : at' ≤ 252) (hz : bits ≠ 0) : s.spoil (i : Int) at' bits = (true, s.turn (i : Int) (BSt.spoil at' bits)) := by
  unfold DSt.spoil
  rw [if_pos ⟨by rw [DSt.free_at hb, hf.1, hf.2]; rfl, h0, h1, hz⟩]
theorem fail_yes {b : BSt} (hb : s.blks[i]? = some b) (hf : b.pend = false ∧ b.fault = false) : s.fail (i : Int) = (true, s.turn (i : Int) BSt.failed) := by
  unfold DSt.fail
  rw [if_pos (by rw [DSt.free_at hb, hf.1, hf.2]; rfl)]
theorem At.turn1 (h : At s i j a c) (hij : i ≠ j) (f : BSt → BSt) : At (s.turn (i : Int) f) i j (f a) c := ⟨turn_at h.a, (turn_else hij).trans h.c⟩
theorem At.turn2 (h : At s i j a c) (hij : i ≠ j) (f : BSt → BSt) : At (s.turn (j : Int) f) i j a (f c) := ⟨(turn_else (Ne.symm hij)).trans h.a, turn_at h.c⟩
theorem pRead_one (u : Up s n q) (hi : i < n) (h : At s i (i + H) a c) (ha : a.right z = true) : pRead s H i z = (0, a.read.2, s, 0) := by
  unfold pRead
  rw [u.right hi h.a, if_pos ha, u.read hi h.a]
theorem pRead_two (u : Up s n q) (hi : i + H < n) (h : At s i (i + H) a c) (ha : a.right z = false) (hc : c.right z = true) : pRead s H i z = (0, c.read.2, s.put i c.read.2, 1) := by
  unfold pRead
  rw [u.right (by omega) h.a, if_neg (by rw [ha]; decide), u.right hi h.c, if_pos hc, u.read hi h.c]
theorem pRead_no (u : Up s n q) (hi : i + H < n) (h : At s i (i + H) a c) (ha : a.right z = false) (hc : c.right z = false) : pRead s H i z = (107, [], s, 0) := by
  unfold pRead
  rw [u.right (by omega) h.a, if_neg (by rw [ha]; decide), u.right hi h.c, if_neg (by rw [hc]; decide)]
theorem pMend_both (u : Up s n q) (hi : i + H < n) (h : At s i (i + H) a c) (ha : a.right z = true) (hc : c.right z = true) : pMend s H i z = (0, 0, s) := by
  unfold pMend
  rw [u.right (by omega) h.a, if_pos ha, u.right hi h.c, if_pos hc]
theorem pMend_two (u : Up s n q) (hi : i + H < n) (h : At s i (i + H) a c) (ha : a.right z = true) (hc : c.right z = false) : pMend s H i z = (0, 1, s.put (i + H) a.read.2) := by
  unfold pMend
  rw [u.right (by omega) h.a, if_pos ha, u.right hi h.c, if_neg (by rw [hc]; decide), u.read (by omega) h.a]
theorem pMend_one (u : Up s n q) (hi : i + H < n) (h : At s i (i + H) a c) (ha : a.right z = false) (hc : c.right z = true) : pMend s H i z = (0, 1, s.put i c.read.2) := by
  unfold pMend
  rw [u.right (by omega) h.a, if_neg (by rw [ha]; decide), u.right hi h.c, if_pos hc, u.read hi h.c]
theorem pMend_no (u : Up s n q) (hi : i + H < n) (h : At s i (i + H) a c) (ha : a.right z = false) (hc : c.right z = false) : pMend s H i z = (107, 0, s) := by
  unfold pMend
  rw [u.right (by omega) h.a, if_neg (by rw [ha]; decide), u.right hi h.c, if_neg (by rw [hc]; decide)]
theorem faulted_at (u : Up s n q) (hi : i < n) {b : BSt} (hb : s.blks[i]? = some b) : s.faulted (i : Int) = b.fault := by
  unfold DSt.faulted
  rw [u.inB hi, Int.toNat_natCast, hb]; rfl
end
section
variable {Real : World → Nat → DSt → (Nat → Prop) → Prop} {PR : World → Nat → Nat → Nat → Nat → (Nat → Prop) → Prop}
end
end Go.Proofs.YthgdofcamjkdpaaDoor
