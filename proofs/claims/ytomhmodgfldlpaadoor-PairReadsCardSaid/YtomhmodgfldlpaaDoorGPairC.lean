/- Two blocks of a device, a pair, behind each step; the chapter's example. -/
import Derived.Test.YtomhmodgfldlpaaDoorGPairB
namespace Go.Proofs.YtomhmodgfldlpaaDoor
open Go.RowKit

/-- blocks i and j are a and c -/
structure At (s : DSt) (i j : Nat) (a c : BSt) : Prop where
  a : s.blks[i]? = some a
  c : s.blks[j]? = some c
/-- written and flushed -/
def cl (l : List Int) (e : Bool) : BSt := ⟨l, l, false, false, false, e⟩
theorem flush_write (b : BSt) (l : List Int) : (b.write l).flush = cl l b.ever := rfl
theorem flush_cl (l : List Int) (e : Bool) : (cl l e).flush = cl l e := rfl
theorem read_cl (l : List Int) (e : Bool) : (cl l e).read = (0, l) := rfl
theorem read_write (b : BSt) (l : List Int) : (b.write l).read = (0, l) := rfl
theorem right_of {b : BSt} {l : List Int} (h : b.read = (0, l)) : b.right (crcOf (nats l)) = true := by unfold BSt.right; rw [h]; simp
theorem right_failed (l : List Int) (e : Bool) (z : Nat) : (cl l e).failed.right z = false := rfl
theorem right_spoilt {l : List Int} (hl : Byt l) (h256 : l.length = 256) (e : Bool) {at' : Int} {bits : Nat} (h0 : 0 ≤ at') (h1 : at' ≤ 252) (hb : bits ≠ 0) (hb2 : bits < 4294967296) : ((cl l e).spoil at' bits).right (crcOf (nats l)) = false := by
  have e1 : ((cl l e).spoil at' bits).read = (0, turned l at' bits) := rfl
  unfold BSt.right
  rw [e1]
  simp [(turned_other hl h256 h0 h1 hb hb2).2]
section
variable {s : DSt} {n q i j H z : Nat} {a c : BSt} {l : List Int}
theorem At.new (hi : i < n) (hj : j < n) : At (DSt.new n) i j blank blank := ⟨new_at hi, new_at hj⟩
theorem At.write (h : At s i (i + H) a c) (hH : 0 < H) (l : List Int) : At (pWrite s H i l) i (i + H) (a.write l) (c.write l) := by
  unfold pWrite
  exact ⟨(put_else (by omega)).trans (put_at h.a), put_at ((put_else (by omega)).trans h.c)⟩
theorem At.fl (h : At s i j a c) : At (fl s) i j a.flush c.flush := ⟨fl_at h.a, fl_at h.c⟩
theorem At.put1 (h : At s i j a c) (hij : i ≠ j) (l : List Int) : At (s.put i l) i j (a.write l) c := ⟨put_at h.a, (put_else hij).trans h.c⟩
theorem At.put2 (h : At s i j a c) (hij : i ≠ j) (l : List Int) : At (s.put j l) i j a (c.write l) := ⟨(put_else (Ne.symm hij)).trans h.a, put_at h.c⟩
theorem spoil_yes {b : BSt} (hb : s.blks[i]? = some b) (hf : b.pend = false ∧ b.fault = false) {at' : Int} {bits : Nat} (h0 : 0 ≤ at') (h1 : at' ≤ 252) (hz : bits ≠ 0) : s.spoil (i : Int) at' bits = (true, s.turn (i : Int) (BSt.spoil at' bits)) := by
  unfold DSt.spoil
  rw [if_pos ⟨by rw [DSt.free_at hb, hf.1, hf.2]; rfl, h0, h1, hz⟩]
theorem fail_yes {b : BSt} (hb : s.blks[i]? = some b) (hf : b.pend = false ∧ b.fault = false) : s.fail (i : Int) = (true, s.turn (i : Int) BSt.failed) := by
  unfold DSt.fail
  rw [if_pos (by rw [DSt.free_at hb, hf.1, hf.2]; rfl)]
theorem At.turn1 (h : At s i j a c) (hij : i ≠ j) (f : BSt → BSt) : At (s.turn (i : Int) f) i j (f a) c := ⟨turn_at h.a, (turn_else hij).trans h.c⟩
theorem At.turn2 (h : At s i j a c) (hij : i ≠ j) (f : BSt → BSt) : At (s.turn (j : Int) f) i j a (f c) := ⟨(turn_else (Ne.symm hij)).trans h.a, turn_at h.c⟩
theorem pRead_one (u : Up s n q) (hi : i < n) (h : At s i (i + H) a c) (ha : a.right z = true) : pRead s H i z = (0, a.read.2, s, 0) := by
  unfold pRead
  rw [u.right hi h.a, if_pos ha, u.read hi h.a]
theorem pRead_two (u : Up s n q) (hi : i + H < n) (h : At s i (i + H) a c) (ha : a.right z = false) (hc : c.right z = true) : pRead s H i z = (0, c.read.2, s.put i c.read.2, 1) := by
  unfold pRead
  rw [u.right (by omega) h.a, if_neg (by rw [ha]; decide), u.right hi h.c, if_pos hc, u.read hi h.c]
theorem pRead_no (u : Up s n q) (hi : i + H < n) (h : At s i (i + H) a c) (ha : a.right z = false) (hc : c.right z = false) : pRead s H i z = (107, [], s, 0) := by
  unfold pRead
  rw [u.right (by omega) h.a, if_neg (by rw [ha]; decide), u.right hi h.c, if_neg (by rw [hc]; decide)]
theorem pMend_both (u : Up s n q) (hi : i + H < n) (h : At s i (i + H) a c) (ha : a.right z = true) (hc : c.right z = true) : pMend s H i z = (0, 0, s) := by
  unfold pMend
  rw [u.right (by omega) h.a, if_pos ha, u.right hi h.c, if_pos hc]
theorem pMend_two (u : Up s n q) (hi : i + H < n) (h : At s i (i + H) a c) (ha : a.right z = true) (hc : c.right z = false) : pMend s H i z = (0, 1, s.put (i + H) a.read.2) := by
  unfold pMend
  rw [u.right (by omega) h.a, if_pos ha, u.right hi h.c, if_neg (by rw [hc]; decide), u.read (by omega) h.a]
theorem pMend_one (u : Up s n q) (hi : i + H < n) (h : At s i (i + H) a c) (ha : a.right z = false) (hc : c.right z = true) : pMend s H i z = (0, 1, s.put i c.read.2) := by
  unfold pMend
  rw [u.right (by omega) h.a, if_neg (by rw [ha]; decide), u.right hi h.c, if_pos hc, u.read hi h.c]
theorem pMend_no (u : Up s n q) (hi : i + H < n) (h : At s i (i + H) a c) (ha : a.right z = false) (hc : c.right z = false) : pMend s H i z = (107, 0, s) := by
  unfold pMend
  rw [u.right (by omega) h.a, if_neg (by rw [ha]; decide), u.right hi h.c, if_neg (by rw [hc]; decide)]
theorem faulted_at (u : Up s n q) (hi : i < n) {b : BSt} (hb : s.blks[i]? = some b) : s.faulted (i : Int) = b.fault := by
  unfold DSt.faulted
  rw [u.inB hi, Int.toNat_natCast, hb]; rfl
end
section
variable {Real : World → Nat → DSt → (Nat → Prop) → Prop} {PR : World → Nat → Nat → Nat → Nat → (Nat → Prop) → Prop}
set_option maxRecDepth 100000 in
set_option maxHeartbeats 4000000 in
theorem firstP_any (D : DevOk Real) (P : PairOk Real PR) (S : Nat → Addr) (w : World) (hS : Sent5 w S) :
    Calls Tryd.prog 8 #[] w (Yes w) := by
  have HS := hid hS
  have HD := hid D
  have HP := hid P
  have hl7 : Byt (padB [7]) := padB_byt (fun x hx => by simp at hx; omega)
  have hn7 : (padB [7]).length = 256 := padB_len (by simp)
  have H7 := hid hl7
  have N7 := hid hn7
  obtain ⟨l, hl⟩ : ∃ l, padB [7] = l := ⟨_, rfl⟩
  have HL := hid hl
  rw [hl] at H7 N7
  obtain ⟨z, hz⟩ : ∃ z, crcOf (nats l) = z := ⟨_, rfl⟩
  have HZ := hid hz
  have HZl := hid (show z < 4294967296 from hz ▸ crc_nats H7.out)
  clear hS D P hl7 hn7 hl hz
  go_enter Tryd.func8, Tryd.ntmps8
  go_wp2_with fail
  refine (pk_opened HD.out HP.out 400 _ HS.out (by omega) (by omega)).mono ?_
  rintro e w1 ⟨p, d, rfl, hk⟩
  have HK1 := hid hk
  clear hk
  go_wp2_with fail
  have hb : Below w1.heap.size w1 (w1.alloc (.cells (I [7]).toArray 5)) := (Below.refl _ _).alloc (Nat.le_refl _) _
  refine (pk_block HD.out HP.out (HK1.out.on HD.out HP.out hb) (k := 1) (c := 1) (l := [7]) (by simpa using Sl.lit w1 [7] (by simp)) (by omega)).mono ?_
  rintro e w2 ⟨A2, c2, rfl, hk, _⟩
  rw [HL.out] at hk
  have HK2 := hid hk
  clear hk hb
  go_wp2_with fail
  refine (pk_write HP.out (i := 3) (by decide) H7.out (by omega) HK2.out).mono ?_
  rw [HZ.out]
  rintro e w3 ⟨rfl, hk⟩
  have HK3 := hid (hk.box HD.out HP.out 3 z)
  clear hk
  have HT1 := hid ((At.new (n := 400) (i := 3) (j := 103) (by omega) (by omega)).write (H := 100) (by omega) l)
  have hh : halN 400 = 100 := by decide
  rw [hh] at HK3
  go_wp2_with fail
  generalize hw4 : (w3.alloc (.cells #[.int .i64 3, .int .u32 (z : Int)] 32)) = w4 at HK3 ⊢
  obtain ⟨g, hg⟩ : ∃ g, w3.heap.size = g := ⟨_, rfl⟩
  rw [hg] at HK3 ⊢
  clear hg hw4
  refine (pk_flush HD.out HP.out HK3.out (by omega)).mono ?_
  rintro e w5 ⟨rfl, hk⟩
  have HK5 := hid hk
  have HT2 := hid (HT1.out.fl)
  rw [flush_write] at HT2
  obtain ⟨s2, hs2⟩ : ∃ s2, fl (pWrite (DSt.new 400) 100 3 l) = s2 := ⟨_, rfl⟩
  rw [hs2] at HK5 HT2
  have HSp := hid (show s2.spoil 3 0 1 = (true, s2.turn 3 (BSt.spoil 0 1)) from spoil_yes (at' := 0) (bits := 1) HT2.out.a ⟨rfl, rfl⟩ (by omega) (by omega) (by omega))
  clear hk hs2
  go_wp2_with fail
  refine (pk_spoil HD.out HP.out HK5.out 3 0 1 (by omega)).mono ?_
  rw [HSp.out]
  rintro e w6 ⟨rfl, hk⟩
  have HK6 := hid hk
  have HT3 := hid (show At (s2.turn 3 (BSt.spoil 0 1)) 3 (3 + 100) ((cl l blank.ever).spoil 0 1) (cl l blank.ever) from HT2.out.turn1 (by omega) (BSt.spoil 0 1))
  obtain ⟨k0, k1⟩ := hk.cells List.mem_cons_self
  obtain ⟨s3, hs3⟩ : ∃ s, s2.turn 3 (BSt.spoil 0 1) = s := ⟨_, rfl⟩
  rw [hs3] at HK6 HT3
  have HR := hid (pRead_two (z := z) HK6.out.up (by omega) HT3.out (by rw [← HZ.out]; exact right_spoilt H7.out N7.out _ (by omega) (by omega) (by omega) (by omega)) (by rw [← HZ.out]; exact right_of (read_cl _ _)))
  rw [read_cl] at HR
  clear hk hs3
  go_wp2_with fail
  refine (pk_read HP.out HK6.out (i := 3) (by decide) HZl.out (by omega) (by omega) N7.out HR.out).mono ?_
  rintro e w7 ⟨A7, c7, rfl, hk⟩
  have HK7 := hid hk
  clear hk k0 k1
  go_wp2_with fail
  have hb : Below w7.heap.size w7 (w7.alloc (.cells (I [7]).toArray 5)) := (Below.refl _ _).alloc (Nat.le_refl _) _
  refine (pk_block HD.out HP.out (HK7.out.on HD.out HP.out hb) (k := 1) (c := 1) (l := [7]) (by simpa using Sl.lit w7 [7] (by simp)) (by omega)).mono ?_
  rintro e w8 ⟨A8, c8, rfl, hk, _⟩
  rw [HL.out] at hk
  have HK8 := hid hk
  clear hk hb
  go_wp2_with fail
  refine (pk_same HD.out HP.out HK8.out (List.mem_cons_of_mem _ List.mem_cons_self) List.mem_cons_self).mono ?_
  rw [same_self]
  rintro e w9 ⟨rfl, hk⟩
  have HK9 := hid hk
  clear hk
  go_wp2_with fail
  refine (pk_mended HD.out HP.out HK9.out).mono ?_
  rintro e w10 ⟨rfl, hk⟩
  have HB := hid hk.below
  clear hk
  go_wp2
  go_ret
  exact ⟨rfl, HB.out⟩
end
end Go.Proofs.YtomhmodgfldlpaaDoor
