/- Put together out of 4 texts. What a device in memory has to keep, call by call; a device carried along a walk. -/
import Derived.Test.YtkhdgacjgccnnaaGreatDoorGXab
import Derived.Test.YtkhdgacjgccnnaaGreatDoorGXaa
import Derived.Deep.RegionHeld3
import Derived.RegionTactic
import Derived.Test.YtkhdgacjgccnnaaGreatDoorProg
import Derived.Maps.OwnSet
namespace Go.Proofs.YtkhdgacjgccnnaaGreatDoor
open Go.RowKit

/-- what a call that turns the device leaves -/
def RealUpd (Real : World → Nat → DSt → (Nat → Prop) → Prop) (w : World) (p : Nat) (s : DSt) (F : Nat → Prop) (w' : World) : Prop := ∃ F', Real w' p s F' ∧ Only F w w' ∧ ∀ k, F' k → F k ∨ w.heap.size ≤ k
/-- what a call that reads bytes leaves -/
def RealRead (S : Nat → Addr) (w : World) (r : Int × List Int) (e : Ending) (w' : World) : Prop := ∃ A n c v, e = .returned (.tuple #[.slice A n c, v]) ∧ EV S r.1 v ∧ Sl w' w'.heap.size A n c r.2 ∧ Below w.heap.size w w' ∧ ∀ ad, A = some ad → w.heap.size ≤ ad.block
/-- the device's calls, of whatever it is in memory -/
structure DevOk (Real : World → Nat → DSt → (Nat → Prop) → Prop) : Prop where
  kept : ∀ {w w' : World} {p : Nat} {s : DSt} {F : Nat → Prop}, Real w p s F → Kept F w w' → Real w' p s F
  lt : ∀ {w : World} {p : Nat} {s : DSt} {F : Nat → Prop}, Real w p s F → ∀ k, F k → k < w.heap.size
  bad : ∀ (S : Nat → Addr) (n : Int) (w : World), Sent5 w S → (n < 1 ∨ 6000 < n) → Calls Tryz.prog 12 #[.int .i64 n] w fun e w' => (∃ v, EV S 103 v ∧ e = .returned (.tuple #[.pointer none, v])) ∧ Below w.heap.size w w'
  new : ∀ (n : Nat) (w : World), 0 < n → n ≤ 6000 → Calls Tryz.prog 12 #[.int .i64 (n : Int)] w fun e w' => ∃ p F, e = .returned (.tuple #[.pointer (some ⟨p, 0, none⟩), .nilIface]) ∧ Real w' p (DSt.new n) F ∧ Below w.heap.size w w' ∧ ∀ k, F k → w.heap.size ≤ k
  read : ∀ (S : Nat → Addr) (p : Nat) (s : DSt) (F : Nat → Prop) (i : Int) (w : World), Sent5 w S → Real w p s F → s.ok → Calls Tryz.prog 65 #[.pointer (some ⟨p, 0, none⟩), .int .i64 i] w (RealRead S w (s.read i))
  write : ∀ (S : Nat → Addr) (p : Nat) (s : DSt) (F : Nat → Prop) (i : Int) (A : Option Addr) (n c : Nat) (l : List Int) (w : World), Sent5 w S → Real w p s F → s.ok → Sl w w.heap.size A n c l → (∀ ad, A = some ad → 0 < n → ¬ F ad.block) → Byt l → n ≤ 1000 →
    Calls Tryz.prog 126 #[.pointer (some ⟨p, 0, none⟩), .int .i64 i, .slice A n c] w fun e w' => (∃ v, EV S (s.write i l).1 v ∧ e = .returned v) ∧ RealUpd Real w p (s.write i l).2 F w'
  flush : ∀ (S : Nat → Addr) (p : Nat) (s : DSt) (F : Nat → Prop) (w : World), Sent5 w S → Real w p s F → s.ok → Calls Tryz.prog 51 #[.pointer (some ⟨p, 0, none⟩)] w fun e w' => (∃ v, EV S s.flush.1 v ∧ e = .returned v) ∧ RealUpd Real w p s.flush.2 F w'
  blocks : ∀ (p : Nat) (s : DSt) (F : Nat → Prop) (w : World), Real w p s F → s.ok → Calls Tryz.prog 58 #[.pointer (some ⟨p, 0, none⟩)] w (Quiet w (.int .i64 (s.blks.length : Int)))

end Go.Proofs.YtkhdgacjgccnnaaGreatDoor
namespace Go.Proofs.YtkhdgacjgccnnaaGreatDoor
open Go.RowKit

def DSt.okN (s : DSt) (m : Nat) : Prop := (∀ b, b ∈ s.blks → b.ok) ∧ s.calls ≤ m ∧ s.arm ≤ 9223372036854775807 ∧ s.blks.length ≤ 6000
theorem DSt.okN.ok {s : DSt} {m : Nat} (h : s.okN m) (hm : m ≤ 1000000) : s.ok := ⟨h.1, Nat.le_trans h.2.1 hm, h.2.2⟩
theorem DSt.okN.more {s : DSt} {m n : Nat} (h : s.okN m) (hm : m ≤ n) : s.okN n := ⟨h.1, Nat.le_trans h.2.1 hm, h.2.2⟩
theorem blank_ok : blank.ok := by
  have h : Byt (List.replicate 256 (0 : Int)) := fun x hx => by rw [List.eq_of_mem_replicate hx]; omega
  exact ⟨h, List.length_replicate, h, List.length_replicate⟩
theorem okN_new {n m : Nat} (h : n ≤ 6000) : (DSt.new n).okN m := by
  refine ⟨fun b hb => ?_, Nat.zero_le _, Nat.zero_le _, by unfold DSt.new; simpa using h⟩
  unfold DSt.new at hb
  rw [List.eq_of_mem_replicate hb]
  exact blank_ok
theorem okN_power {s : DSt} {m : Nat} (h : s.okN m) : s.power.2.okN m := by
  unfold DSt.power
  split
  · exact h
  · split
    · exact h
    · split
      · exact ⟨h.1, h.2.1, Nat.zero_le _, h.2.2.2⟩
      · exact ⟨h.1, h.2.1, by have := h.2.2.1; show s.arm - 1 ≤ _; omega, h.2.2.2⟩
theorem okN_turn {s : DSt} {m : Nat} {i : Int} {f : BSt → BSt} (h : s.okN m) (hf : ∀ b, b.ok → (f b).ok) : (s.turn i f).okN m := by
  refine ⟨fun b hb => ?_, h.2.1, h.2.2.1, by rw [DSt.turn_len]; exact h.2.2.2⟩
  obtain ⟨j, hj⟩ := List.getElem?_of_mem hb
  simp only [DSt.turn, List.getElem?_modify] at hj
  obtain ⟨y, hy, rfl⟩ := Option.map_eq_some_iff.1 hj
  have := h.1 y (List.mem_of_getElem? hy)
  split
  · exact hf y this
  · exact this
theorem okN_write {s : DSt} {m : Nat} {i : Int} {l : List Int} (h : s.okN m) (hl : Byt l) : (s.write i l).2.okN (m + 1) := by
  have hp := okN_power h
  unfold DSt.write
  split
  · unfold DSt.write1
    split
    · exact hp.more (by omega)
    · split
      · exact hp.more (by omega)
      · rename_i h2
        have h3 : l.length = 256 := by omega
        have ht := okN_turn (i := i) hp (f := BSt.write l) (fun b hb => ⟨hb.1, hb.2.1, hl, h3⟩)
        exact ⟨ht.1, by have := hp.2.1; show s.power.2.calls + 1 ≤ m + 1; omega, ht.2.2⟩
  · exact hp.more (by omega)
theorem ok_settle {b : BSt} (h : b.ok) : b.settle.ok := ⟨h.2.2.1, h.2.2.2, h.2.2.1, h.2.2.2⟩
theorem okN_flush {s : DSt} {m : Nat} (h : s.okN m) : s.flush.2.okN (m + 1) := by
  have hp := okN_power h
  unfold DSt.flush
  split
  · refine ⟨fun b hb => ?_, by have := hp.2.1; show s.power.2.calls + 1 ≤ m + 1; omega, hp.2.2.1, by simpa [DSt.flush1] using hp.2.2.2⟩
    obtain ⟨y, hy, rfl⟩ := List.mem_map.1 hb
    have := hp.1 y hy
    unfold BSt.flush
    split
    · exact ok_settle this
    · exact this
  · exact hp.more (by omega)
theorem okN_fail {s : DSt} {m : Nat} {i : Int} (h : s.okN m) : (s.fail i).2.okN m := by
  unfold DSt.fail
  split
  · exact okN_turn h (fun b hb => hb)
  · exact h
theorem fail_len (s : DSt) (i : Int) : (s.fail i).2.blks.length = s.blks.length := by
  unfold DSt.fail
  split
  · exact DSt.turn_len _ _ _
  · rfl
theorem EV.nil {S : Nat → Addr} {v : Value} (h : EV S 0 v) : v = .nilIface := by
  generalize hc : (0 : Int) = c at h
  rcases h with _ | ⟨j, hj⟩
  · rfl
  · omega
theorem EV.one {S : Nat → Addr} {c : Int} {v : Value} (h : EV S c v) (hc : c ≠ 0) : ∃ j : Nat, j < 24 ∧ c = 101 + (j : Int) ∧ v = .iface 261 (.pointer (some (S j))) := by
  rcases h with _ | ⟨j, hj⟩
  · exact absurd rfl hc
  · exact ⟨j, hj, rfl, rfl⟩
theorem EV.is {S : Nat → Addr} {c : Int} {v : Value} (h : EV S c v) (hc : c ≠ 0) : ∃ j : Nat, v = .iface 261 (.pointer (some (S j))) := by
  obtain ⟨j, _, _, hv⟩ := h.one hc
  exact ⟨j, hv⟩
end Go.Proofs.YtkhdgacjgccnnaaGreatDoor
namespace Go.Proofs.YtkhdgacjgccnnaaGreatDoor
open Go.RowKit

end Go.Proofs.YtkhdgacjgccnnaaGreatDoor
namespace Go.Proofs.YtkhdgacjgccnnaaGreatDoor
open Go.RowKit

/-- behind w0: the device at p is s, in blocks F that are new since w0; the errors lie where they lay -/
structure Dv (Real : World → Nat → DSt → (Nat → Prop) → Prop) (S : Nat → Addr) (w0 w : World) (p : Nat) (s : DSt) (F : Nat → Prop) : Prop where
  real : Real w p s F
  below : Below w0.heap.size w0 w
  sent : Sent5 w S
  new : ∀ k, F k → w0.heap.size ≤ k
variable {Real : World → Nat → DSt → (Nat → Prop) → Prop} {S : Nat → Addr} {w0 : World}
theorem Dv.upd {w w' : World} {p : Nat} {s t : DSt} {F : Nat → Prop} (h : Dv Real S w0 w p s F) (hS : Sent5 w0 S) (hu : RealUpd Real w p t F w') : ∃ F', Dv Real S w0 w' p t F' := by
  obtain ⟨F', hr, ho, hf⟩ := hu
  have hb := h.below.trans (ho.below h.below.size h.new)
  exact ⟨F', hr, hb, hS.on hb, fun k hk => by
    rcases hf k hk with h' | h'
    · exact h.new k h'
    · have := h.below.size; omega⟩
theorem Dv.on {w w' : World} {p : Nat} {s : DSt} {F : Nat → Prop} (D : DevOk Real) (h : Dv Real S w0 w p s F) (hb : Below w.heap.size w w') : Dv Real S w0 w' p s F :=
  ⟨D.kept h.real (Kept.of_below hb (D.lt h.real)), h.below.trans (hb.mono h.below.size), h.sent.on hb, h.new⟩
theorem Dv.drewN {w : World} {p : Nat} {s : DSt} {F : Nat → Prop} (D : DevOk Real) (h : Dv Real S w0 w p s F) (k : Nat) : Dv Real S w0 (w.drewN k) p s F :=
  ⟨D.kept h.real (Kept.drewN F w k), below_drewN h.below k, h.sent.drewN k, h.new⟩
/-- new bytes, beside the device -/
def Arg (w : World) (F : Nat → Prop) (A : Option Addr) (n c : Nat) (l : List Int) : Prop := Sl w w.heap.size A n c l ∧ ∀ ad, A = some ad → 0 < n → ¬ F ad.block
/-- bytes beside the device stay beside it, and stay -/
theorem Arg.upd {w w' : World} {F F' : Nat → Prop} {A : Option Addr} {n c : Nat} {l : List Int} (h : Arg w F A n c l) (ho : Only F w w') (hf : ∀ k, F' k → F k ∨ w.heap.size ≤ k) : Arg w' F' A n c l :=
  ⟨h.1.only ho h.2, fun ad ha h0 hk => by
    rcases hf _ hk with h' | h'
    · exact h.2 ad ha h0 h'
    · have := (h.1.at_ ad ha h0).1; omega⟩
theorem Arg.on {w w' : World} {F : Nat → Prop} {A : Option Addr} {n c : Nat} {l : List Int} (h : Arg w F A n c l) (hb : Below w.heap.size w w') : Arg w' F A n c l := ⟨h.1.on hb, h.2⟩
theorem Sn.more {w : World} {B B' n c : Nat} {A : Option Addr} {l : List Int} (h : Sn w B A n c l) (hb : B ≤ B') : Sn w B' A n c l := ⟨h.len, h.cap, h.max, h.nil, fun ad ha h0 => ⟨Nat.lt_of_lt_of_le (h.at_ ad ha h0).1 hb, (h.at_ ad ha h0).2⟩⟩
end Go.Proofs.YtkhdgacjgccnnaaGreatDoor
namespace Go.Proofs.YtkhdgacjgccnnaaGreatDoor
open Go.RowKit

theorem of_u32 (a : Nat) (ha : a < 4294967296) : (BitVec.ofInt 32 (a : Int)).toNat = a := by
  rw [BitVec.ofInt_natCast, BitVec.toNat_ofNat]; exact Nat.mod_eq_of_lt (by omega)
theorem xor_u32 (a b : Nat) (ha : a < 4294967296) (hb : b < 4294967296) : bits .xor .u32 (a : Int) (b : Int) = ((a ^^^ b : Nat) : Int) := by
  show IntKind.u32.wrap ((BitVec.ofInt 32 (a : Int) ^^^ BitVec.ofInt 32 (b : Int)).toNat : Int) = _
  have := Nat.xor_lt_two_pow (n := 32) ha hb
  rw [BitVec.toNat_xor, of_u32 a ha, of_u32 b hb, IntKind.wrap_u32]
  omega
theorem and1_u32 (a : Nat) (ha : a < 4294967296) : bits .and .u32 (a : Int) 1 = ((a % 2 : Nat) : Int) := by
  show IntKind.u32.wrap ((BitVec.ofInt 32 (a : Int) &&& BitVec.ofInt 32 ((1 : Nat) : Int)).toNat : Int) = _
  rw [BitVec.toNat_and, of_u32 a ha, of_u32 1 (by omega), IntKind.wrap_u32, Nat.and_two_pow_sub_one_eq_mod a 1]
  omega
theorem poly_u32 (a : Nat) (ha : a < 4294967296) : bits .xor .u32 (a : Int) 2197175160 = ((a ^^^ 2197175160 : Nat) : Int) := xor_u32 a 2197175160 ha (by omega)

theorem shs_next {k z e : Nat} (hk : k < 8) (h : shs (8 - k) z = e) : shs (8 - (k + 1)) (sh z) = e := by
  rw [show 8 - k = (8 - (k + 1)) + 1 by omega] at h
  exact h
set_option maxRecDepth 100000 in
set_option maxHeartbeats 1000000 in
theorem through_any (s c : Nat) (w : World) (hs : s < 4294967296) (hc : c < 256) :
    Calls Tryz.prog 157 #[.int .u32 (s : Int), .int .u8 (c : Int)] w fun e w' => e = .returned (.int .u32 ((stp s c : Nat) : Int)) ∧ w = w' := by
  have hx : s ^^^ c < 4294967296 := Nat.xor_lt_two_pow (n := 32) hs (by omega)
  have HX := hid (xor_u32 s c hs (by omega))
  have HB := hid hx

  clear hx hs
  go_enter Tryz.func157, Tryz.ntmps157
  go_wp2
  go_loop [0, 10] (fun v i => ∃ k z : Nat, k ≤ 8 ∧ i = .int .i64 (k : Int) ∧ z < 4294967296 ∧ v = .int .u32 (z : Int) ∧ shs (8 - k) z = stp s c) (fun _ i => 8 - (intOf i).toNat)
  case atStart => exact ⟨0, s ^^^ c, by omega, rfl, HB.out, by rw [HX.out], rfl⟩
  case round =>
    obtain ⟨k, z, hk, rfl, hz, rfl, he⟩ := hrel
    have HE := hid he
    clear he

    have HA := hid (and1_u32 z hz)
    have HP := hid (poly_u32 (z / 2) (by omega))
    have HZ := hid (sh_lt hz)
    clear hz
    by_cases hlt : k < 8
    · have HN := hid (shs_next hlt HE.out)
      have HD := hid (show ((z : Int) / 2) = ((z / 2 : Nat) : Int) by omega)
      rcases Nat.mod_two_eq_zero_or_one z with hp | hp
      · have ht : (bits .and .u32 (z : Int) 1 == 1) = false := by rw [HA.out, hp]; rfl
        have HS := hid (show sh z = z / 2 by unfold sh; rw [if_neg (by omega)])
        clear hp
        go_wp2
        go_round
        case rel => exact ⟨k + 1, sh z, by omega, by go_num, HZ.out, by rw [HS.out, HD.out], HN.out⟩
        case measure => simp [intOf]; omega
      · have ht : (bits .and .u32 (z : Int) 1 == 1) = true := by rw [HA.out, hp]; rfl
        have HS := hid (show sh z = z / 2 ^^^ 2197175160 by unfold sh; rw [if_pos hp])
        clear hp
        go_wp2
        go_round
        case rel => exact ⟨k + 1, sh z, by omega, by go_num, HZ.out, by rw [HS.out, HD.out, HP.out], HN.out⟩
        case measure => simp [intOf]; omega
    · have HF := hid (show z = stp s c by have := HE.out; rw [show 8 - k = 0 by omega] at this; exact this)
      go_wp2
      go_ret
      rw [HF.out]
      exact ⟨rfl, rfl⟩
/-- a byte of the list, as a natural number -/
theorem byt_nat {l : List Int} (h : Byt l) {k : Nat} {x : Int} (hx : l[k]? = some x) : ∃ c : Nat, x = (c : Int) ∧ c < 256 := ⟨x.toNat, by have := h.at_ hx; omega, by have := h.at_ hx; omega⟩
theorem runc_at {l : List Int} {k c z e : Nat} (hx : l[k]? = some (c : Int)) (he : runc z (nats (l.drop k)) = e) : runc (stp z c) (nats (l.drop (k + 1))) = e := by
  rw [drop_at hx] at he
  exact he
theorem not_u32 (a : Nat) (ha : a < 4294967296) : bits .xor .u32 IntKind.u32.max (a : Int) = ((a ^^^ 4294967295 : Nat) : Int) := by
  have e : IntKind.u32.max = ((4294967295 : Nat) : Int) := by decide
  rw [e, xor_u32 4294967295 a (by omega) ha, Nat.xor_comm]
theorem ret_u32 {a b : Int} (h : a = b) : Ending.returned (.int .u32 a) = .returned (.int .u32 b) := by rw [h]
theorem crc_lt {l : List Nat} (hl : Bts l) : crcOf l < 4294967296 := Nat.xor_lt_two_pow (n := 32) (runc_lt hl (by decide)) (by decide)

set_option maxRecDepth 100000 in
set_option maxHeartbeats 1000000 in
theorem sum_any (A : Option Addr) (n c B : Nat) (l : List Int) (w : World) (h : Sl w B A n c l) (hb : Byt l) :
    Calls Tryz.prog 127 #[.slice A n c] w fun e w' => e = .returned (.int .u32 ((crcOf (nats l) : Nat) : Int)) ∧ w = w' := by
  have hmx : n ≤ 9223372036854775807 := by have := h.cap; have := h.max; unfold maxLen at this; omega
  have HS := hid h
  have HY := hid hb
  clear h hb
  go_enter Tryz.func127, Tryz.ntmps127
  go_wp2
  go_loop [3, 8] (fun v i => ∃ k z : Nat, k ≤ n ∧ i = .int .i64 (k : Int) ∧ z < 4294967296 ∧ v = .int .u32 (z : Int) ∧ runc z (nats (l.drop k)) = runc 4294967295 (nats l)) (fun _ i => n - (intOf i).toNat)
  case atStart => exact ⟨0, 4294967295, by omega, rfl, by omega, rfl, rfl⟩
  case round =>
    obtain ⟨k, z, hk, rfl, hz, rfl, he⟩ := hrel
    have HE := hid he
    have HZ := hid hz
    clear he hz
    by_cases hlt : k < n
    · obtain ⟨ad, x, rfl, hbl, hx, hc⟩ := HS.out.get hlt
      obtain ⟨y, rfl, hy⟩ := byt_nat HY.out hx
      have HN := hid (runc_at hx HE.out)
      have HL := hid (stp_lt HZ.out hy)
      clear hx hbl
      go_wp2_with (go_at_call 157; refine (through_any z y _ HZ.out hy).mono ?_; rintro e w' ⟨rfl, rfl⟩)
      go_round
      case rel => exact ⟨k + 1, stp z y, by omega, by go_num, HL.out, rfl, HN.out⟩
      case measure => simp [intOf]; omega
    · have HF := hid (show z = runc 4294967295 (nats l) by have := HE.out; rwa [List.drop_eq_nil_of_le (by have := HS.out.len; omega)] at this)
      have HT := hid (not_u32 z HZ.out)
      go_wp2
      go_ret
      exact ⟨ret_u32 (by rw [HT.out, HF.out]; rfl), rfl⟩
end Go.Proofs.YtkhdgacjgccnnaaGreatDoor
namespace Go.Proofs.YtkhdgacjgccnnaaGreatDoor
open Go.RowKit

/-- a geometry: B blocks, halves of H -/
structure Gm (B H : Int) : Prop where
  h0 : 0 ≤ H
  hB : 2 * H ≤ B
  b : B ≤ 6000
def prt (H i : Int) : Int := if 0 ≤ i ∧ i < H then i + H else if H ≤ i ∧ i < 2 * H then i - H else 0
def mirB (H i : Int) : Bool := decide (0 ≤ i ∧ i < 2 * H)
def datB (B H i : Int) : Bool := decide (2 * H ≤ i ∧ i < B)
def thB (B i : Int) : Bool := decide (0 ≤ i ∧ i < B)
def hal (n : Int) : Int := min (n / 4) 512
abbrev gv (B H : Int) : Value := .agg #[.int .i64 B, .int .i64 H]

/-- the ways of a block: none; one of the first half; of the second half; data -/
theorem ways (B H i : Int) (hg : Gm B H) :
    (¬ 0 ≤ i ∧ thB B i = false ∧ prt H i = 0 ∧ mirB H i = false ∧ datB B H i = false) ∨
    (0 ≤ i ∧ i < H ∧ thB B i = true ∧ prt H i = i + H ∧ mirB H i = true ∧ datB B H i = false) ∨
    (H ≤ i ∧ i < 2 * H ∧ thB B i = true ∧ prt H i = i - H ∧ mirB H i = true ∧ datB B H i = false) ∨
    (2 * H ≤ i ∧ i < B ∧ thB B i = true ∧ prt H i = 0 ∧ mirB H i = false ∧ datB B H i = true) ∨
    (B ≤ i ∧ thB B i = false ∧ prt H i = 0 ∧ mirB H i = false ∧ datB B H i = false) := by
  obtain ⟨h0, hB, hb⟩ := hg
  unfold thB prt mirB datB
  by_cases h1 : 0 ≤ i
  · by_cases h2 : i < H
    · exact .inr (.inl ⟨h1, h2, by simp; omega, by rw [if_pos ⟨h1, h2⟩], by simp; omega, by simp; omega⟩)
    · by_cases h3 : i < 2 * H
      · exact .inr (.inr (.inl ⟨by omega, h3, by simp; omega, by rw [if_neg (by omega), if_pos ⟨by omega, h3⟩], by simp; omega, by simp; omega⟩))
      · by_cases h4 : i < B
        · exact .inr (.inr (.inr (.inl ⟨by omega, h4, by simp; omega, by rw [if_neg (by omega), if_neg (by omega)], by simp; omega, by simp; omega⟩)))
        · exact .inr (.inr (.inr (.inr ⟨by omega, by simp; omega, by rw [if_neg (by omega), if_neg (by omega)], by simp; omega, by simp; omega⟩)))
  · exact .inl ⟨h1, by simp; omega, by rw [if_neg (by omega), if_neg (by omega)], by simp; omega, by simp; omega⟩

theorem halfOf_any (B H : Int) (w : World) (hg : Gm B H) :
    Calls Tryz.prog 129 #[gv B H] w fun e w' => e = .returned (.int .i64 H) ∧ Below w.heap.size w w' := by
  obtain ⟨h0, hB, hb⟩ := hg
  go_enter Tryz.func129, Tryz.ntmps129
  go_wp2
  go_ret
  exact ⟨by congr 2, (Below.refl _ _).alloc (Nat.le_refl _) _⟩
theorem there_any (B H i : Int) (w : World) (hg : Gm B H) :
    Calls Tryz.prog 130 #[gv B H, .int .i64 i] w fun e w' => e = .returned (.bool (thB B i)) ∧ Below w.heap.size w w' := by
  obtain ⟨h0, hB, hb⟩ := hg
  have hc : (decide (0 ≤ i) = false ∧ thB B i = false) ∨ (decide (0 ≤ i) = true ∧ decide (i < B) = false ∧ thB B i = false) ∨ (decide (0 ≤ i) = true ∧ decide (i < B) = true ∧ thB B i = true) := by
    unfold thB
    by_cases h1 : 0 ≤ i
    · by_cases h2 : i < B
      · exact .inr (.inr ⟨by simpa using h1, by simpa using h2, by simp; omega⟩)
      · exact .inr (.inl ⟨by simpa using h1, by simpa using h2, by simp; omega⟩)
    · exact .inl ⟨by simpa using h1, by simp; omega⟩
  rcases hc with ⟨c1, c2⟩ | ⟨c1, c2, c3⟩ | ⟨c1, c2, c3⟩
  · rw [c2]; clear c2
    go_enter Tryz.func130, Tryz.ntmps130
    go_wp2
    go_ret
    exact ⟨rfl, (Below.refl _ _).alloc (Nat.le_refl _) _⟩
  all_goals
    rw [c3]; clear c3
    go_enter Tryz.func130, Tryz.ntmps130
    go_wp2
    go_ret
    exact ⟨rfl, (Below.refl _ _).alloc (Nat.le_refl _) _⟩

set_option maxHeartbeats 1000000 in
theorem partner_any (B H i : Int) (w : World) (hg : Gm B H) :
    Calls Tryz.prog 97 #[gv B H, .int .i64 i] w fun e w' => e = .returned (.tuple #[.int .i64 (prt H i), .bool (mirB H i)]) ∧ Below w.heap.size w w' := by
  have HG := hid hg
  have hw := ways B H i hg
  obtain ⟨h0, hB, hb⟩ := hg
  rcases hw with ⟨h1, t, p, m, _⟩ | ⟨h1, h2, t, p, m, _⟩ | ⟨h1, h2, t, p, m, _⟩ | ⟨h1, h2, t, p, m, _⟩ | ⟨h1, t, p, m, _⟩
  all_goals
    rw [p, m]
    have HT := hid t
    clear t p m
    first
      | (have g1 : decide (i < H) = true := (by simp; omega)
         have g2 : decide (i < B - H) = true := (by simp; omega))
      | (have g1 : decide (i < H) = false := (by simp; omega)
         have g2 : decide (H ≤ i) = true := (by simp; omega)
         first
           | have g3 : decide (i - H < H) = true := (by simp; omega)
           | have g3 : decide (i - H < H) = false := (by simp; omega))
      | skip
    go_enter Tryz.func97, Tryz.ntmps97
    go_wp2_with fail
    refine (halfOf_any B H _ HG.out).mono ?_
    rintro e w1 ⟨rfl, hb1⟩
    have HB1 := hid (show Below w.heap.size w w1 from ((Below.refl _ _).alloc (Nat.le_refl _) _).trans (hb1.mono (by simp)))
    obtain ⟨k1, k2⟩ : w1.cell? ⟨w.heap.size, 0, none⟩ = some (.int .i64 B) ∧ w1.cell? ⟨w.heap.size, 1, none⟩ = some (.int .i64 H) :=
      ⟨((Blk.new w _ _).below hb1 (by simp)).cell 0, ((Blk.new w _ _).below hb1 (by simp)).cell 1⟩
    have HBk := hid ((Blk.new w 125 #[.int .i64 B, .int .i64 H]).below hb1 (by simp))
    clear hb1
    go_wp2_with fail
    refine (there_any B H i _ HG.out).mono ?_
    rintro e w2 ⟨rfl, hb2⟩
    rw [HT.out]
    have HB2 := hid (HB1.out.trans (hb2.mono HB1.out.size))
    have k3 := (HBk.out.below hb2 HBk.out.lt).cell 0
    clear hb2 k1 k2
    go_wp2
    go_ret2
    exact ⟨rfl, HB2.out⟩

theorem of_ok (n : Int) (w : World) (h1 : 300 ≤ n) (h2 : n ≤ 6000) :
    Calls Tryz.prog 57 #[.int .i64 n] w fun e w' => e = .returned (.tuple #[gv n (hal n), .nilIface]) ∧ Below w.heap.size w w' := by
  have g1 : decide (n < 300) = false := by simp; omega
  have g2 : decide (6000 < n) = false := by simp; omega
  rcases Int.lt_or_le 512 (n / 4) with g3 | g3
  all_goals
    first
      | rw [show hal n = 512 by unfold hal; omega]
      | rw [show hal n = n / 4 by unfold hal; omega]
    go_enter Tryz.func57, Tryz.ntmps57
    go_wp2
    first
      | exact bodyPost_ret (v := .tuple #[.agg #[.int .i64 n, .int .i64 512], .nilIface]) (by simp [results, Tryz.results57, go_sem]) rfl ⟨rfl, (Below.refl _ _).alloc (Nat.le_refl _) _⟩
      | exact bodyPost_ret (v := .tuple #[.agg #[.int .i64 n, .int .i64 (n / 4)], .nilIface]) (by simp [results, Tryz.results57, go_sem]) rfl ⟨rfl, (Below.refl _ _).alloc (Nat.le_refl _) _⟩
end Go.Proofs.YtkhdgacjgccnnaaGreatDoor
namespace Go.Proofs.YtkhdgacjgccnnaaGreatDoor
open Go.RowKit Go.Maps

def amB (l : List Int) (m : Int) : Bool := decide (m ∈ l)
def pairB (H : Int) (l : List Int) : Bool := l.any fun x => mirB H x && amB l (prt H x)
theorem mir_iff {H x : Int} : mirB H x = true ↔ 0 ≤ x ∧ x < 2 * H := by unfold mirB; simp
theorem prt_mir {H x : Int} (h : mirB H x = true) : mirB H (prt H x) = true ∧ prt H (prt H x) = x ∧ prt H x ≠ x ∧ 0 ≤ prt H x ∧ prt H x < 2 * H := by
  obtain ⟨h0, h1⟩ := mir_iff.1 h
  by_cases h2 : x < H
  · have e : prt H x = x + H := by unfold prt; rw [if_pos ⟨h0, h2⟩]
    rw [e]
    exact ⟨mir_iff.2 (by omega), by unfold prt; rw [if_neg (by omega), if_pos (by omega)]; omega, by omega, by omega, by omega⟩
  · have e : prt H x = x - H := by unfold prt; rw [if_neg (by omega), if_pos (by omega)]
    rw [e]
    exact ⟨mir_iff.2 (by omega), by unfold prt; rw [if_pos (by omega)]; omega, by omega, by omega, by omega⟩
def NoPair (H : Int) (l : List Int) : Prop := ∀ x, x ∈ l → mirB H x = true → prt H x ∉ l
theorem NoPair.nil (H : Int) : NoPair H [] := fun x h => by cases h
theorem NoPair.more {H x : Int} {l : List Int} (h : NoPair H l) (hx : mirB H x = true → prt H x ∉ l) : NoPair H (l ++ [x]) := by
  intro y hy hm hp
  rcases List.mem_append.1 hy with hy | hy
  · rcases List.mem_append.1 hp with hp | hp
    · exact h y hy hm hp
    · simp at hp
      have := prt_mir hm
      have hmx : mirB H x = true := hp ▸ this.1
      exact hx hmx (by rw [← hp, this.2.1]; exact hy)
  · simp at hy
    subst hy
    rcases List.mem_append.1 hp with hp | hp
    · exact hx hm hp
    · simp at hp
      exact (prt_mir hm).2.2.1 hp
theorem NoPair.no {H : Int} {l : List Int} (h : NoPair H l) : pairB H l = false := by
  unfold pairB
  rw [List.any_eq_false]
  intro x hx hc
  simp only [Bool.and_eq_true, amB, decide_eq_true_eq] at hc
  exact h x hx hc.1 hc.2
/-- the blocks that were met, as a map's datum -/
structure Met (H : Int) (D : DataW Unit) (l : List Int) : Prop where
  isMap : IsMap D
  has : ∀ z : Int, Maps.has D (.int .i64 z) = (amB l z && mirB H z)
theorem Met.nil (H : Int) : Met H (.map []) [] := ⟨⟨_, rfl⟩, fun z => by simp [amB, Maps.has]⟩
theorem Met.more {H x : Int} {D : DataW Unit} {l : List Int} (h : Met H D l) (hm : mirB H x = true) : Met H (D.put (.int .i64 x) (.agg [])) (l ++ [x]) := by
  refine ⟨IsMap.put h.isMap _ _, fun z => ?_⟩
  by_cases e : z = x
  · subst e
    rw [has_put_same h.isMap (show WideAt.IsKeyLit (.int .i64 z) from trivial), hm]
    simp [amB]
  · rw [has_put_other (by intro e'; apply e; simpa using e'), h.has]
    have : amB (l ++ [x]) z = amB l z := by simp [amB, e]
    rw [this]
theorem Met.skip {H x : Int} {D : DataW Unit} {l : List Int} (h : Met H D l) (hm : mirB H x = false) : Met H D (l ++ [x]) := by
  refine ⟨h.isMap, fun z => ?_⟩
  rw [h.has]
  by_cases e : z = x
  · subst e; rw [hm]; simp
  · have : amB (l ++ [x]) z = amB l z := by simp [amB, e]
    rw [this]
theorem hal_gm {n : Int} (h1 : 300 ≤ n) (h2 : n ≤ 6000) : Gm n (hal n) := by unfold hal; exact ⟨by omega, by omega, h2⟩
end Go.Proofs.YtkhdgacjgccnnaaGreatDoor
