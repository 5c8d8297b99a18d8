/- The walk of DevFaults, for whatever keeps the device's calls. -/
import Derived.Test.YtjhdddccdffndaaDoorGDevIf
import Derived.Test.YtjhdddccdffndaaDoorGNumber
import Derived.Test.YtjhdddccdffndaaDoorGRefA
namespace Go.Proofs.YtjhdddccdffndaaDoor
open Go.RowKit

/-- three blocks, the second one x; the others were never faulted; the power is there -/
structure One (s : DSt) (x : BSt) (m : Nat) : Prop where
  blk : ∃ a c, s.blks = [a, x, c] ∧ a.ever = false ∧ c.ever = false
  arm : s.arm = 0
  down : s.down = false
  ok : s.okN m
theorem One.at_ {s : DSt} {x : BSt} {m : Nat} (h : One s x m) : s.blks[1]? = some x := by
  obtain ⟨a, c, e, _⟩ := h.blk
  rw [e]; rfl
theorem One.inb {s : DSt} {x : BSt} {m : Nat} (h : One s x m) : s.inB ((1 : Nat) : Int) = true := by
  obtain ⟨a, c, e, _⟩ := h.blk
  unfold DSt.inB; rw [e]; rfl
theorem One.pow {s : DSt} {x : BSt} {m : Nat} (h : One s x m) : s.power = (0, s) := by
  unfold DSt.power; rw [if_neg (by rw [h.down]; decide), if_pos h.arm]
theorem one_new : One (DSt.new 3) blank 0 := ⟨⟨blank, blank, rfl, rfl, rfl⟩, rfl, rfl, okN_new (by omega)⟩
theorem One.turn {s : DSt} {x : BSt} {m : Nat} (h : One s x m) (f : BSt → BSt) (hok : (s.turn ((1 : Nat) : Int) f).okN m) : One (s.turn ((1 : Nat) : Int) f) (f x) m := by
  obtain ⟨a, c, e, ha, hc⟩ := h.blk
  refine ⟨⟨a, c, ?_, ha, hc⟩, h.arm, h.down, hok⟩
  unfold DSt.turn
  show s.blks.modify 1 f = _
  rw [e]; rfl
theorem One.write {s : DSt} {x : BSt} {m : Nat} (h : One s x m) {l : List Int} (hl : l.length = 256) (hb : Byt l) : ∃ s', s.write ((1 : Nat) : Int) l = (0, s') ∧ One s' (x.write l) (m + 1) := by
  have hok := okN_write (i := ((1 : Nat) : Int)) h.ok hb
  have e : s.write ((1 : Nat) : Int) l = (0, { s.turn ((1 : Nat) : Int) (BSt.write l) with calls := s.calls + 1 }) := by
    unfold DSt.write
    rw [h.pow, if_pos rfl]
    unfold DSt.write1
    rw [if_neg (by rw [h.inb]; decide), if_neg (by omega)]
  rw [e] at hok
  refine ⟨_, e, ?_⟩
  obtain ⟨a, c, eb, ha, hc⟩ := h.blk
  refine ⟨⟨a, c, ?_, ha, hc⟩, h.arm, h.down, hok⟩
  show s.blks.modify 1 (BSt.write l) = _
  rw [eb]; rfl
theorem flush_ever (b : BSt) : b.flush.ever = b.ever := by unfold BSt.flush; split <;> rfl
theorem One.flush {s : DSt} {x : BSt} {m : Nat} (h : One s x m) : ∃ s', s.flush = (0, s') ∧ One s' x.flush (m + 1) := by
  have hok := okN_flush h.ok
  have e : s.flush = s.flush1 := by unfold DSt.flush; rw [h.pow, if_pos rfl]
  rw [e] at hok
  refine ⟨_, e, ?_⟩
  obtain ⟨a, c, eb, ha, hc⟩ := h.blk
  refine ⟨⟨a.flush, c.flush, ?_, by rw [flush_ever]; exact ha, by rw [flush_ever]; exact hc⟩, h.arm, h.down, hok⟩
  show s.blks.map BSt.flush = _
  rw [eb]; rfl
theorem One.free {s : DSt} {x : BSt} {m : Nat} (h : One s x m) : s.free ((1 : Nat) : Int) = (!x.pend && !x.fault) := DSt.free_at h.at_
theorem One.spoil {s : DSt} {x : BSt} {m : Nat} (h : One s x m) {at' : Int} {bits : Nat} (hf : x.pend = false ∧ x.fault = false) (ha : 0 ≤ at' ∧ at' ≤ 252) (hb : bits ≠ 0) : ∃ s', s.spoil ((1 : Nat) : Int) at' bits = (true, s') ∧ One s' (x.spoil at' bits) m := by
  have hok := okN_spoil (i := ((1 : Nat) : Int)) (at' := at') (bits := bits) h.ok
  have e : s.spoil ((1 : Nat) : Int) at' bits = (true, s.turn ((1 : Nat) : Int) (BSt.spoil at' bits)) := by
    unfold DSt.spoil
    rw [if_pos ⟨by rw [h.free, hf.1, hf.2]; rfl, ha.1, ha.2, hb⟩]
  rw [e] at hok
  exact ⟨_, e, h.turn _ hok⟩
theorem One.spoilNot {s : DSt} {x : BSt} {m : Nat} (h : One s x m) {at' : Int} {bits : Nat} (hf : x.pend = true ∨ x.fault = true ∨ bits = 0) : s.spoil ((1 : Nat) : Int) at' bits = (false, s) := by
  refine DSt.spoil_not ?_
  rcases hf with hf | hf | hf
  · exact .inl (by rw [h.free, hf]; rfl)
  · exact .inl (by rw [h.free, hf]; simp)
  · exact .inr (.inr (.inr hf))
theorem One.fail {s : DSt} {x : BSt} {m : Nat} (h : One s x m) (hf : x.pend = false ∧ x.fault = false) : ∃ s', s.fail ((1 : Nat) : Int) = (true, s') ∧ One s' x.failed m := by
  have hok := okN_fail (i := ((1 : Nat) : Int)) h.ok
  have e : s.fail ((1 : Nat) : Int) = (true, s.turn ((1 : Nat) : Int) BSt.failed) := by
    unfold DSt.fail
    rw [if_pos (by rw [h.free, hf.1, hf.2]; rfl)]
  rw [e] at hok
  exact ⟨_, e, h.turn _ hok⟩
theorem One.failNot {s : DSt} {x : BSt} {m : Nat} (h : One s x m) (hf : x.pend = true ∨ x.fault = true) : s.fail ((1 : Nat) : Int) = (false, s) := by
  unfold DSt.fail
  rw [if_neg]
  rw [h.free]
  rcases hf with hf | hf <;> simp [hf]
theorem One.read {s : DSt} {x : BSt} {m : Nat} (h : One s x m) : s.read ((1 : Nat) : Int) = x.read := by
  unfold DSt.read
  rw [if_neg (by rw [h.down]; decide), if_neg (by rw [h.inb]; decide), Int.toNat_natCast, h.at_]
  rfl
theorem One.faulted {s : DSt} {x : BSt} {m : Nat} (h : One s x m) : s.faulted ((1 : Nat) : Int) = x.fault := by
  unfold DSt.faulted
  rw [h.inb, Int.toNat_natCast, h.at_]
  rfl
theorem One.ever {s : DSt} {x : BSt} {m : Nat} (h : One s x m) : s.everN = if x.ever = true then 1 else 0 := by
  obtain ⟨a, c, eb, ha, hc⟩ := h.blk
  unfold DSt.everN
  rw [eb]
  rcases hx : x.ever with _ | _ <;> simp [ha, hc, hx]
set_option maxRecDepth 100000 in
set_option maxHeartbeats 2000000 in
theorem devFaults_none {Real : World → Nat → DSt → (Nat → Prop) → Prop} (D : DevOk Real) (S : Nat → Addr) (at' again : Int) (bits more b : Nat) (w : World) (hS : Sent5 w S) (hbits : bits < 4294967296) (hb0 : bits = 0) (hmore : more < 4294967296) (hb8 : b < 256) :
    Calls Tryd.prog 4 #[.int .i64 at', .int .i64 again, .int .u32 (bits : Int), .int .u32 (more : Int), .bool false, .int .u8 (b : Int)] w (Yes w) := by
  have HS := hid hS
  have HD := hid D
  have HBt := hid hbits
  have HMo := hid hmore
  have hbi : (b : Int) < 256 := by omega
  have hbz : ((bits : Int) != 0) = false := by subst hb0; decide
  have HB0 := hid hb0
  clear hb0
  clear hS D hbits hmore hb8
  go_enter Tryd.func4, Tryd.ntmps4
  go_wp2_with fail
  refine (first_any HD.out S _ HS.out).mono ?_
  rintro e w1 ⟨rfl, hb⟩
  have HB1 := hid hb
  clear hb
  go_wp2_with fail
  refine (number_any at' 253 _ (by omega) (by omega)).mono ?_
  rintro e w' ⟨rfl, rfl⟩
  obtain ⟨qa, hqa⟩ : ∃ q : Nat, at' % 253 = (q : Int) := ⟨(at' % 253).toNat, by omega⟩
  have hqal : (qa : Int) < 253 := by omega
  rw [hqa]
  clear hqa
  go_wp2_with fail
  refine (number_any again 253 _ (by omega) (by omega)).mono ?_
  rintro e w' ⟨rfl, rfl⟩
  obtain ⟨qb, hqb⟩ : ∃ q : Nat, again % 253 = (q : Int) := ⟨(again % 253).toNat, by omega⟩
  have hqbl : (qb : Int) < 253 := by omega
  rw [hqb]
  clear hqb
  go_wp2_with fail
  refine (dv_new HD.out 3 HS.out HB1.out (by omega) (by omega)).mono ?_
  rintro e w2 ⟨p, F2, rfl, hd, _, _⟩
  have HDv2 := hid hd
  clear hd
  have HO0 := hid one_new
  go_wp2_with fail
  refine (dv_whole HD.out b HDv2.out).mono ?_
  rintro e w3 ⟨A3, c3, rfl, hd, ha, _⟩
  have HDv3 := hid hd
  have HA3 := hid ha
  clear hd ha
  obtain ⟨s1, he1, ho1⟩ := HO0.out.write (full_len b) (full_byt (b := b) (by omega))
  have HE1 := hid he1
  have HO1 := hid ho1
  clear he1 ho1
  go_wp2_with fail
  refine (dv_write0 HD.out (i := ((1 : Nat) : Int)) HDv3.out HS.out HO0.out.ok (by omega) HA3.out (full_byt (by omega)) (by omega) HE1.out).mono ?_
  rintro e w4 ⟨rfl, F4, hd⟩
  have HDv4 := hid hd
  clear hd
  have HE2 := hid (HO1.out.spoilNot (at' := (qa : Int)) (bits := bits) (.inl rfl))
  go_wp2_with fail
  refine (dv_spoil HD.out (i := ((1 : Nat) : Int)) HDv4.out HS.out HO1.out.ok (by omega) HBt.out HE2.out).mono ?_
  rintro e w5 ⟨rfl, F5, hd⟩
  have HDv5 := hid hd
  clear hd
  obtain ⟨s2, he3, ho3⟩ := HO1.out.flush
  have HE3 := hid he3
  have HO3 := hid ho3
  clear he3 ho3
  go_wp2_with fail
  refine (dv_flush0 HD.out HDv5.out HS.out HO1.out.ok (by omega) HE3.out).mono ?_
  rintro e w6 ⟨rfl, F6, hd⟩
  have HDv6 := hid hd
  clear hd
  have HE4 := hid (HO3.out.spoilNot (at' := (qa : Int)) (bits := bits) (.inr (.inr HB0.out)))
  go_wp2_with fail
  refine (dv_spoil HD.out (i := ((1 : Nat) : Int)) HDv6.out HS.out HO3.out.ok (by omega) HBt.out HE4.out).mono ?_
  rintro e w7 ⟨rfl, F7, hd⟩
  have HDv7 := hid hd
  clear hd
  go_wp2_with fail
  refine (dv_faulted HD.out (i := ((1 : Nat) : Int)) (b := false) HDv7.out HO3.out.ok (by omega) HO3.out.faulted).mono ?_
  rintro e w8 ⟨rfl, hd, _⟩
  have HDv8 := hid hd
  clear hd
  go_wp2_with fail
  refine (dv_ever HD.out (q := 0) HDv8.out HO3.out.ok (by omega) (HO3.out.ever.trans rfl)).mono ?_
  rintro e w9 ⟨rfl, hd, _⟩
  have HF := hid hd.below
  clear hd
  go_wp2
  go_ret
  exact ⟨rfl, HF.out⟩
set_option maxRecDepth 100000 in
set_option maxHeartbeats 2000000 in
theorem devFaults_fail {Real : World → Nat → DSt → (Nat → Prop) → Prop} (D : DevOk Real) (S : Nat → Addr) (at' again : Int) (bits more b : Nat) (w : World) (hS : Sent5 w S) (hbits : bits < 4294967296) (hmore : more < 4294967296) (hb8 : b < 256) :
    Calls Tryd.prog 4 #[.int .i64 at', .int .i64 again, .int .u32 (bits : Int), .int .u32 (more : Int), .bool true, .int .u8 (b : Int)] w (Yes w) := by
  have HS := hid hS
  have HD := hid D
  have HBt := hid hbits
  have HMo := hid hmore
  have hbi : (b : Int) < 256 := by omega
  clear hS D hbits hmore hb8
  go_enter Tryd.func4, Tryd.ntmps4
  go_wp2_with fail
  refine (first_any HD.out S _ HS.out).mono ?_
  rintro e w1 ⟨rfl, hb⟩
  have HB1 := hid hb
  clear hb
  go_wp2_with fail
  refine (number_any at' 253 _ (by omega) (by omega)).mono ?_
  rintro e w' ⟨rfl, rfl⟩
  obtain ⟨qa, hqa⟩ : ∃ q : Nat, at' % 253 = (q : Int) := ⟨(at' % 253).toNat, by omega⟩
  have hqal : (qa : Int) < 253 := by omega
  rw [hqa]
  clear hqa
  go_wp2_with fail
  refine (number_any again 253 _ (by omega) (by omega)).mono ?_
  rintro e w' ⟨rfl, rfl⟩
  obtain ⟨qb, hqb⟩ : ∃ q : Nat, again % 253 = (q : Int) := ⟨(again % 253).toNat, by omega⟩
  have hqbl : (qb : Int) < 253 := by omega
  rw [hqb]
  clear hqb
  go_wp2_with fail
  refine (dv_new HD.out 3 HS.out HB1.out (by omega) (by omega)).mono ?_
  rintro e w2 ⟨p, F2, rfl, hd, _, _⟩
  have HDv2 := hid hd
  clear hd
  have HO0 := hid one_new
  go_wp2_with fail
  refine (dv_whole HD.out b HDv2.out).mono ?_
  rintro e w3 ⟨A3, c3, rfl, hd, ha, _⟩
  have HDv3 := hid hd
  have HA3 := hid ha
  clear hd ha
  obtain ⟨s1, he1, ho1⟩ := HO0.out.write (full_len b) (full_byt (b := b) (by omega))
  have HE1 := hid he1
  have HO1 := hid ho1
  clear he1 ho1
  go_wp2_with fail
  refine (dv_write0 HD.out (i := ((1 : Nat) : Int)) HDv3.out HS.out HO0.out.ok (by omega) HA3.out (full_byt (by omega)) (by omega) HE1.out).mono ?_
  rintro e w4 ⟨rfl, F4, hd⟩
  have HDv4 := hid hd
  clear hd
  have HE2 := hid (HO1.out.spoilNot (at' := (qa : Int)) (bits := bits) (.inl rfl))
  go_wp2_with fail
  refine (dv_spoil HD.out (i := ((1 : Nat) : Int)) HDv4.out HS.out HO1.out.ok (by omega) HBt.out HE2.out).mono ?_
  rintro e w5 ⟨rfl, F5, hd⟩
  have HDv5 := hid hd
  clear hd
  obtain ⟨s2, he3, ho3⟩ := HO1.out.flush
  have HE3 := hid he3
  have HO3 := hid ho3
  clear he3 ho3
  go_wp2_with fail
  refine (dv_flush0 HD.out HDv5.out HS.out HO1.out.ok (by omega) HE3.out).mono ?_
  rintro e w6 ⟨rfl, F6, hd⟩
  have HDv6 := hid hd
  clear hd
  obtain ⟨s3, he4, ho4⟩ := HO3.out.fail ⟨rfl, rfl⟩
  have HE4 := hid he4
  have HO4 := hid ho4
  clear he4 ho4
  go_wp2_with fail
  refine (dv_fail HD.out (i := ((1 : Nat) : Int)) HDv6.out HS.out HO3.out.ok (by omega) HE4.out).mono ?_
  rintro e w7 ⟨rfl, F7, hd⟩
  have HDv7 := hid hd
  clear hd
  have HE5 := hid (HO4.out.faulted)
  go_wp2_with fail
  refine (dv_faulted HD.out (i := ((1 : Nat) : Int)) (b := true) HDv7.out HO4.out.ok (by omega) HE5.out).mono ?_
  rintro e w8 ⟨rfl, hd, _⟩
  have HDv8 := hid hd
  clear hd
  go_wp2_with fail
  refine (dv_read HD.out (i := ((1 : Nat) : Int)) (code := 107) (l := []) HDv8.out HO4.out.ok (by omega) (HO4.out.read.trans (by rfl))).mono ?_
  rintro e w9 ⟨A9, n9, c9, v9, rfl, hv9, hs9, hd, _⟩
  have HDv9 := hid hd
  have HL9 := hid hs9
  obtain ⟨j9, h9⟩ := hv9.is (by decide)
  subst h9
  clear hd hs9 hv9
  have HE6 := hid (HO4.out.spoilNot (at' := (qb : Int)) (bits := more) (.inr (.inl rfl)))
  go_wp2_with fail
  refine (dv_spoil HD.out (i := ((1 : Nat) : Int)) HDv9.out HS.out HO4.out.ok (by omega) HMo.out HE6.out).mono ?_
  rintro e w10 ⟨rfl, F10, hd⟩
  have HDv10 := hid hd
  clear hd
  have HE7 := hid (HO4.out.failNot (.inr rfl))
  go_wp2_with fail
  refine (dv_fail HD.out (i := ((1 : Nat) : Int)) HDv10.out HS.out HO4.out.ok (by omega) HE7.out).mono ?_
  rintro e w11 ⟨rfl, F11, hd⟩
  have HDv11 := hid hd
  clear hd
  go_wp2_with fail
  have hm8 : (b + 1) % 256 < 256 := Nat.mod_lt _ (by omega)
  refine (dv_whole HD.out ((b + 1) % 256) HDv11.out).mono ?_
  rintro e w12 ⟨A12, c12, rfl, hd, ha, _⟩
  have HDv12 := hid hd
  have HA12 := hid ha
  clear hd ha
  obtain ⟨s4, he8, ho8⟩ := HO4.out.write (full_len ((b + 1) % 256)) (full_byt (b := (b + 1) % 256) hm8)
  have HE8 := hid he8
  have HO8 := hid ho8
  clear he8 ho8
  go_wp2_with fail
  refine (dv_write0 HD.out (i := ((1 : Nat) : Int)) HDv12.out HS.out HO4.out.ok (by omega) HA12.out (full_byt hm8) (by omega) HE8.out).mono ?_
  rintro e w13 ⟨rfl, F13, hd⟩
  have HDv13 := hid hd
  clear hd
  go_wp2_with fail
  refine (dv_faulted HD.out (i := ((1 : Nat) : Int)) (b := true) HDv13.out HO8.out.ok (by omega) HO8.out.faulted).mono ?_
  rintro e w14 ⟨rfl, hd, _⟩
  have HDv14 := hid hd
  clear hd
  obtain ⟨s5, he9, ho9⟩ := HO8.out.flush
  have HE9 := hid he9
  have HO9 := hid ho9
  clear he9 ho9
  go_wp2_with fail
  refine (dv_flush0 HD.out HDv14.out HS.out HO8.out.ok (by omega) HE9.out).mono ?_
  rintro e w15 ⟨rfl, F15, hd⟩
  have HDv15 := hid hd
  clear hd
  go_wp2_with fail
  refine (dv_faulted HD.out (i := ((1 : Nat) : Int)) (b := false) HDv15.out HO9.out.ok (by omega) HO9.out.faulted).mono ?_
  rintro e w16 ⟨rfl, hd, _⟩
  have HDv16 := hid hd
  clear hd
  go_wp2_with fail
  refine (dv_read HD.out (i := ((1 : Nat) : Int)) (code := 0) (l := full ((b + 1) % 256)) HDv16.out HO9.out.ok (by omega) (HO9.out.read.trans (by rfl))).mono ?_
  rintro e w17 ⟨A17, n17, c17, v17, rfl, hv17, hs17, hd, _⟩
  have HDv17 := hid hd
  have HL17 := hid hs17
  obtain rfl := hv17.nil
  clear hd hs17 hv17
  go_wp2_with fail
  refine (dv_whole HD.out ((b + 1) % 256) HDv17.out).mono ?_
  rintro e w18 ⟨A18, c18, rfl, hd, ha, hb⟩
  have HDv18 := hid hd
  have HA18 := hid ha
  have HL18 := hid (HL17.out.on hb)
  clear hd ha hb
  go_wp2_with fail
  refine (same_any _ _ _ _ _ _ _ _ _ _ _ HL18.out HA18.out.1).mono ?_
  rintro e w19 ⟨rfl, k19, rfl⟩
  have hsame : sameB (full ((b + 1) % 256)) (full ((b + 1) % 256)) = true := same_self _
  rw [hsame]
  clear hsame
  have HDv19 := hid (HDv18.out.drewN HD.out k19)
  go_wp2_with fail
  refine (dv_ever HD.out (q := 1) HDv19.out HO9.out.ok (by omega) (HO9.out.ever.trans rfl)).mono ?_
  rintro e w20 ⟨rfl, hd, _⟩
  have HF := hid hd.below
  clear hd
  go_wp2
  go_ret
  exact ⟨rfl, HF.out⟩
theorem spoiled_read (at' : Int) (bits b : Nat) : (BSt.spoil at' bits ((BSt.write (full b) blank).flush)).read = (0, turned (full b) at' bits) := by
  generalize full b = l
  unfold BSt.write blank BSt.flush BSt.settle BSt.spoil BSt.read
  simp only [if_true, Bool.false_eq_true, if_false]
set_option maxRecDepth 100000 in
set_option maxHeartbeats 2000000 in
theorem devFaults_spoil {Real : World → Nat → DSt → (Nat → Prop) → Prop} (D : DevOk Real) (S : Nat → Addr) (at' again : Int) (bits more b : Nat) (w : World) (hS : Sent5 w S) (hbits : bits < 4294967296) (hb0 : bits ≠ 0) (hmore : more < 4294967296) (hb8 : b < 256) :
    Calls Tryd.prog 4 #[.int .i64 at', .int .i64 again, .int .u32 (bits : Int), .int .u32 (more : Int), .bool false, .int .u8 (b : Int)] w (Yes w) := by
  have HS := hid hS
  have HD := hid D
  have HBt := hid hbits
  have HMo := hid hmore
  have hbi : (b : Int) < 256 := by omega
  have hbz : ((bits : Int) != 0) = true := by rw [bne_iff_ne]; omega
  have HB0 := hid hb0
  clear hb0
  clear hS D hbits hmore hb8
  go_enter Tryd.func4, Tryd.ntmps4
  go_wp2_with fail
  refine (first_any HD.out S _ HS.out).mono ?_
  rintro e w1 ⟨rfl, hb⟩
  have HB1 := hid hb
  clear hb
  go_wp2_with fail
  refine (number_any at' 253 _ (by omega) (by omega)).mono ?_
  rintro e w' ⟨rfl, rfl⟩
  obtain ⟨qa, hqa⟩ : ∃ q : Nat, at' % 253 = (q : Int) := ⟨(at' % 253).toNat, by omega⟩
  have hqal : (qa : Int) < 253 := by omega
  rw [hqa]
  clear hqa
  go_wp2_with fail
  refine (number_any again 253 _ (by omega) (by omega)).mono ?_
  rintro e w' ⟨rfl, rfl⟩
  obtain ⟨qb, hqb⟩ : ∃ q : Nat, again % 253 = (q : Int) := ⟨(again % 253).toNat, by omega⟩
  have hqbl : (qb : Int) < 253 := by omega
  rw [hqb]
  clear hqb
  go_wp2_with fail
  refine (dv_new HD.out 3 HS.out HB1.out (by omega) (by omega)).mono ?_
  rintro e w2 ⟨p, F2, rfl, hd, _, _⟩
  have HDv2 := hid hd
  clear hd
  have HO0 := hid one_new
  go_wp2_with fail
  refine (dv_whole HD.out b HDv2.out).mono ?_
  rintro e w3 ⟨A3, c3, rfl, hd, ha, _⟩
  have HDv3 := hid hd
  have HA3 := hid ha
  clear hd ha
  obtain ⟨s1, he1, ho1⟩ := HO0.out.write (full_len b) (full_byt (b := b) (by omega))
  have HE1 := hid he1
  have HO1 := hid ho1
  clear he1 ho1
  go_wp2_with fail
  refine (dv_write0 HD.out (i := ((1 : Nat) : Int)) HDv3.out HS.out HO0.out.ok (by omega) HA3.out (full_byt (by omega)) (by omega) HE1.out).mono ?_
  rintro e w4 ⟨rfl, F4, hd⟩
  have HDv4 := hid hd
  clear hd
  have HE2 := hid (HO1.out.spoilNot (at' := (qa : Int)) (bits := bits) (.inl rfl))
  go_wp2_with fail
  refine (dv_spoil HD.out (i := ((1 : Nat) : Int)) HDv4.out HS.out HO1.out.ok (by omega) HBt.out HE2.out).mono ?_
  rintro e w5 ⟨rfl, F5, hd⟩
  have HDv5 := hid hd
  clear hd
  obtain ⟨s2, he3, ho3⟩ := HO1.out.flush
  have HE3 := hid he3
  have HO3 := hid ho3
  clear he3 ho3
  go_wp2_with fail
  refine (dv_flush0 HD.out HDv5.out HS.out HO1.out.ok (by omega) HE3.out).mono ?_
  rintro e w6 ⟨rfl, F6, hd⟩
  have HDv6 := hid hd
  clear hd
  obtain ⟨s3, he4, ho4⟩ := HO3.out.spoil (at' := (qa : Int)) (bits := bits) ⟨rfl, rfl⟩ ⟨by omega, by omega⟩ HB0.out
  have HE4 := hid he4
  have HO4 := hid ho4
  clear he4 ho4
  go_wp2_with fail
  refine (dv_spoil HD.out (i := ((1 : Nat) : Int)) HDv6.out HS.out HO3.out.ok (by omega) HBt.out HE4.out).mono ?_
  rintro e w7 ⟨rfl, F7, hd⟩
  have HDv7 := hid hd
  clear hd
  have HE5 := hid (HO4.out.faulted)
  go_wp2_with fail
  refine (dv_faulted HD.out (i := ((1 : Nat) : Int)) (b := true) HDv7.out HO4.out.ok (by omega) HE5.out).mono ?_
  rintro e w8 ⟨rfl, hd, _⟩
  have HDv8 := hid hd
  clear hd
  go_wp2_with fail
  refine (dv_read2 HD.out (i := ((1 : Nat) : Int)) (code := 0) (l := (turned (full b) (qa : Int) bits)) HDv8.out HO4.out.ok (by omega) (HO4.out.read.trans (spoiled_read _ _ _))).mono ?_
  rintro e w9 ⟨A9, n9, c9, v9, rfl, hv9, hs9, hd, _⟩
  have HDv9 := hid hd
  have HL9 := hid hs9
  obtain rfl := hv9.nil
  clear hd hs9 hv9
  have HE6 := hid (HO4.out.spoilNot (at' := (qb : Int)) (bits := more) (.inr (.inl rfl)))
  go_wp2_with fail
  refine (dv_spoil2 HD.out (i := ((1 : Nat) : Int)) HDv9.out HS.out HO4.out.ok (by omega) HMo.out HE6.out).mono ?_
  rintro e w10 ⟨rfl, F10, hd, hk⟩
  have HDv10 := hid hd
  have HL10 := hid (hk _ _ _ _ HL9.out)
  clear hd hk
  have HE7 := hid (HO4.out.failNot (.inr rfl))
  go_wp2_with fail
  refine (dv_fail2 HD.out (i := ((1 : Nat) : Int)) HDv10.out HS.out HO4.out.ok (by omega) HE7.out).mono ?_
  rintro e w11a ⟨rfl, F11, hd, hk⟩
  have HDv11a := hid hd
  have HL11 := hid (hk _ _ _ _ HL10.out)
  clear hd hk
  go_wp2_with fail
  refine (dv_whole HD.out b HDv11a.out).mono ?_
  rintro e w11b ⟨A11, c11, rfl, hd, ha, hb⟩
  have HDv11b := hid hd
  have HA11 := hid ha
  have HL11b := hid (HL11.out.on hb)
  clear hd ha hb
  go_wp2_with fail
  refine (refTurned_any A11 256 c11 bits (qa : Int) (full b) _ HA11.out.1 (full_byt (by omega)) (by omega) (by omega)).mono ?_
  rintro e w11c ⟨v11, rfl, hown, hb, hlen⟩
  obtain ⟨A11c, c11c, rfl, hs11, _⟩ := hown.form
  rw [hlen] at hs11 ⊢
  have HDv11c := hid (HDv11b.out.on HD.out hb)
  have HL11c := hid (HL11b.out.on hb)
  have HS11 := hid hs11
  clear hown hb hlen hs11
  go_wp2_with fail
  refine (same_any _ _ _ _ _ _ _ _ _ _ _ HL11c.out.1 HS11.out).mono ?_
  rintro e w11 ⟨rfl, k11, rfl⟩
  have hsame11 : sameB (turned (full b) (qa : Int) bits) (turned (full b) (qa : Int) bits) = true := same_self _
  rw [hsame11]
  clear hsame11
  have HDv11 := hid (HDv11c.out.drewN HD.out k11)
  go_wp2_with fail
  have hm8 : (b + 1) % 256 < 256 := Nat.mod_lt _ (by omega)
  refine (dv_whole HD.out ((b + 1) % 256) HDv11.out).mono ?_
  rintro e w12 ⟨A12, c12, rfl, hd, ha, _⟩
  have HDv12 := hid hd
  have HA12 := hid ha
  clear hd ha
  obtain ⟨s4, he8, ho8⟩ := HO4.out.write (full_len ((b + 1) % 256)) (full_byt (b := (b + 1) % 256) hm8)
  have HE8 := hid he8
  have HO8 := hid ho8
  clear he8 ho8
  go_wp2_with fail
  refine (dv_write0 HD.out (i := ((1 : Nat) : Int)) HDv12.out HS.out HO4.out.ok (by omega) HA12.out (full_byt hm8) (by omega) HE8.out).mono ?_
  rintro e w13 ⟨rfl, F13, hd⟩
  have HDv13 := hid hd
  clear hd
  go_wp2_with fail
  refine (dv_faulted HD.out (i := ((1 : Nat) : Int)) (b := true) HDv13.out HO8.out.ok (by omega) HO8.out.faulted).mono ?_
  rintro e w14 ⟨rfl, hd, _⟩
  have HDv14 := hid hd
  clear hd
  obtain ⟨s5, he9, ho9⟩ := HO8.out.flush
  have HE9 := hid he9
  have HO9 := hid ho9
  clear he9 ho9
  go_wp2_with fail
  refine (dv_flush0 HD.out HDv14.out HS.out HO8.out.ok (by omega) HE9.out).mono ?_
  rintro e w15 ⟨rfl, F15, hd⟩
  have HDv15 := hid hd
  clear hd
  go_wp2_with fail
  refine (dv_faulted HD.out (i := ((1 : Nat) : Int)) (b := false) HDv15.out HO9.out.ok (by omega) HO9.out.faulted).mono ?_
  rintro e w16 ⟨rfl, hd, _⟩
  have HDv16 := hid hd
  clear hd
  go_wp2_with fail
  refine (dv_read HD.out (i := ((1 : Nat) : Int)) (code := 0) (l := full ((b + 1) % 256)) HDv16.out HO9.out.ok (by omega) (HO9.out.read.trans (by rfl))).mono ?_
  rintro e w17 ⟨A17, n17, c17, v17, rfl, hv17, hs17, hd, _⟩
  have HDv17 := hid hd
  have HL17 := hid hs17
  obtain rfl := hv17.nil
  clear hd hs17 hv17
  go_wp2_with fail
  refine (dv_whole HD.out ((b + 1) % 256) HDv17.out).mono ?_
  rintro e w18 ⟨A18, c18, rfl, hd, ha, hb⟩
  have HDv18 := hid hd
  have HA18 := hid ha
  have HL18 := hid (HL17.out.on hb)
  clear hd ha hb
  go_wp2_with fail
  refine (same_any _ _ _ _ _ _ _ _ _ _ _ HL18.out HA18.out.1).mono ?_
  rintro e w19 ⟨rfl, k19, rfl⟩
  have hsame : sameB (full ((b + 1) % 256)) (full ((b + 1) % 256)) = true := same_self _
  rw [hsame]
  clear hsame
  have HDv19 := hid (HDv18.out.drewN HD.out k19)
  go_wp2_with fail
  refine (dv_ever HD.out (q := 1) HDv19.out HO9.out.ok (by omega) (HO9.out.ever.trans rfl)).mono ?_
  rintro e w20 ⟨rfl, hd, _⟩
  have HF := hid hd.below
  clear hd
  go_wp2
  go_ret
  exact ⟨rfl, HF.out⟩
theorem devFaults_any {Real : World → Nat → DSt → (Nat → Prop) → Prop} (D : DevOk Real) (S : Nat → Addr) (at' again : Int) (bits more b : Nat) (fail : Bool) (w : World) (hS : Sent5 w S) (hbits : bits < 4294967296) (hmore : more < 4294967296) (hb8 : b < 256) :
    Calls Tryd.prog 4 #[.int .i64 at', .int .i64 again, .int .u32 (bits : Int), .int .u32 (more : Int), .bool fail, .int .u8 (b : Int)] w (Yes w) := by
  cases fail
  · by_cases h0 : bits = 0
    · exact devFaults_none D S at' again bits more b w hS hbits h0 hmore hb8
    · exact devFaults_spoil D S at' again bits more b w hS hbits h0 hmore hb8
  · exact devFaults_fail D S at' again bits more b w hS hbits hmore hb8
end Go.Proofs.YtjhdddccdffndaaDoor
