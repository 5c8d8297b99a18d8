/- What a device in memory has to keep, call by call; a device carried along a walk. -/
import Derived.Test.YtfdabbpfphnbhaaDoorGDevBase
import Derived.Test.YtfdabbpfphnbhaaDoorGBase
import Derived.Test.YtfdabbpfphnbhaaDoorGSee
import Derived.Deep.RegionHeld3
import Derived.RegionTactic
namespace Go.Proofs.YtfdabbpfphnbhaaDoor
open Go.RowKit

/-- what a call that turns the device leaves -/
def RealUpd (Real : World → Nat → DSt → (Nat → Prop) → Prop) (w : World) (p : Nat) (s : DSt) (F : Nat → Prop) (w' : World) : Prop := ∃ F', Real w' p s F' ∧ Only F w w' ∧ ∀ k, F' k → F k ∨ w.heap.size ≤ k
/-- what a call that reads bytes leaves -/
def RealRead (S : Nat → Addr) (w : World) (r : Int × List Int) (e : Ending) (w' : World) : Prop := ∃ A n c v, e = .returned (.tuple #[.slice A n c, v]) ∧ EV S r.1 v ∧ Sl w' w'.heap.size A n c r.2 ∧ Below w.heap.size w w' ∧ ∀ ad, A = some ad → w.heap.size ≤ ad.block
/-- the device's calls, of whatever it is in memory -/
structure DevOk (Real : World → Nat → DSt → (Nat → Prop) → Prop) : Prop where
  kept : ∀ {w w' : World} {p : Nat} {s : DSt} {F : Nat → Prop}, Real w p s F → Kept F w w' → Real w' p s F
  lt : ∀ {w : World} {p : Nat} {s : DSt} {F : Nat → Prop}, Real w p s F → ∀ k, F k → k < w.heap.size
  bad : ∀ (S : Nat → Addr) (n : Int) (w : World), Sent5 w S → (n < 1 ∨ 6000 < n) → Calls Tryd.prog 27 #[.int .i64 n] w fun e w' => (∃ v, EV S 103 v ∧ e = .returned (.tuple #[.pointer none, v])) ∧ Below w.heap.size w w'
  new : ∀ (n : Nat) (w : World), 0 < n → n ≤ 6000 → Calls Tryd.prog 27 #[.int .i64 (n : Int)] w fun e w' => ∃ p F, e = .returned (.tuple #[.pointer (some ⟨p, 0, none⟩), .nilIface]) ∧ Real w' p (DSt.new n) F ∧ Below w.heap.size w w' ∧ ∀ k, F k → w.heap.size ≤ k
  read : ∀ (S : Nat → Addr) (p : Nat) (s : DSt) (F : Nat → Prop) (i : Int) (w : World), Sent5 w S → Real w p s F → s.ok → Calls Tryd.prog 20 #[.pointer (some ⟨p, 0, none⟩), .int .i64 i] w (RealRead S w (s.read i))
  write : ∀ (S : Nat → Addr) (p : Nat) (s : DSt) (F : Nat → Prop) (i : Int) (A : Option Addr) (n c : Nat) (l : List Int) (w : World), Sent5 w S → Real w p s F → s.ok → Sl w w.heap.size A n c l → (∀ ad, A = some ad → 0 < n → ¬ F ad.block) → Byt l → n ≤ 1000 →
    Calls Tryd.prog 44 #[.pointer (some ⟨p, 0, none⟩), .int .i64 i, .slice A n c] w fun e w' => (∃ v, EV S (s.write i l).1 v ∧ e = .returned v) ∧ RealUpd Real w p (s.write i l).2 F w'
  flush : ∀ (S : Nat → Addr) (p : Nat) (s : DSt) (F : Nat → Prop) (w : World), Sent5 w S → Real w p s F → s.ok → Calls Tryd.prog 18 #[.pointer (some ⟨p, 0, none⟩)] w fun e w' => (∃ v, EV S s.flush.1 v ∧ e = .returned v) ∧ RealUpd Real w p s.flush.2 F w'
  spoil : ∀ (p : Nat) (s : DSt) (F : Nat → Prop) (i at' : Int) (bits : Nat) (w : World), Real w p s F → s.ok → bits < 4294967296 → Calls Tryd.prog 19 #[.pointer (some ⟨p, 0, none⟩), .int .i64 i, .int .i64 at', .int .u32 (bits : Int)] w fun e w' => e = .returned (.bool (s.spoil i at' bits).1) ∧ RealUpd Real w p (s.spoil i at' bits).2 F w'
  fail : ∀ (p : Nat) (s : DSt) (F : Nat → Prop) (i : Int) (w : World), Real w p s F → s.ok → Calls Tryd.prog 26 #[.pointer (some ⟨p, 0, none⟩), .int .i64 i] w fun e w' => e = .returned (.bool (s.fail i).1) ∧ RealUpd Real w p (s.fail i).2 F w'
  faulted : ∀ (p : Nat) (s : DSt) (F : Nat → Prop) (i : Int) (w : World), Real w p s F → s.ok → Calls Tryd.prog 47 #[.pointer (some ⟨p, 0, none⟩), .int .i64 i] w (Quiet w (.bool (s.faulted i)))
  blocks : ∀ (p : Nat) (s : DSt) (F : Nat → Prop) (w : World), Real w p s F → s.ok → Calls Tryd.prog 42 #[.pointer (some ⟨p, 0, none⟩)] w (Quiet w (.int .i64 (s.blks.length : Int)))

/-- a block of one byte -/
def full (b : Nat) : List Int := List.replicate 256 (b : Int)
theorem full_len (b : Nat) : (full b).length = 256 := List.length_replicate
theorem full_byt {b : Nat} (h : b < 256) : Byt (full b) := fun x hx => by rw [List.eq_of_mem_replicate hx]; omega
end Go.Proofs.YtfdabbpfphnbhaaDoor
namespace Go.Proofs.YtfdabbpfphnbhaaDoor
open Go.RowKit

def DSt.okN (s : DSt) (m : Nat) : Prop := (∀ b, b ∈ s.blks → b.ok) ∧ s.calls ≤ m ∧ s.arm ≤ 9223372036854775807 ∧ s.blks.length ≤ 6000
theorem DSt.okN.ok {s : DSt} {m : Nat} (h : s.okN m) (hm : m ≤ 1000000) : s.ok := ⟨h.1, Nat.le_trans h.2.1 hm, h.2.2⟩
theorem DSt.okN.more {s : DSt} {m n : Nat} (h : s.okN m) (hm : m ≤ n) : s.okN n := ⟨h.1, Nat.le_trans h.2.1 hm, h.2.2⟩
theorem blank_ok : blank.ok := by
  have h : Byt (List.replicate 256 (0 : Int)) := fun x hx => by rw [List.eq_of_mem_replicate hx]; omega
  exact ⟨h, List.length_replicate, h, List.length_replicate⟩
theorem okN_new {n m : Nat} (h : n ≤ 6000) : (DSt.new n).okN m := by
  refine ⟨fun b hb => ?_, Nat.zero_le _, Nat.zero_le _, by unfold DSt.new; simpa using h⟩
  unfold DSt.new at hb
  rw [List.eq_of_mem_replicate hb]
  exact blank_ok
theorem okN_power {s : DSt} {m : Nat} (h : s.okN m) : s.power.2.okN m := by
  unfold DSt.power
  split
  · exact h
  · split
    · exact h
    · split
      · exact ⟨h.1, h.2.1, Nat.zero_le _, h.2.2.2⟩
      · exact ⟨h.1, h.2.1, by have := h.2.2.1; show s.arm - 1 ≤ _; omega, h.2.2.2⟩
theorem okN_turn {s : DSt} {m : Nat} {i : Int} {f : BSt → BSt} (h : s.okN m) (hf : ∀ b, b.ok → (f b).ok) : (s.turn i f).okN m := by
  refine ⟨fun b hb => ?_, h.2.1, h.2.2.1, by rw [DSt.turn_len]; exact h.2.2.2⟩
  obtain ⟨j, hj⟩ := List.getElem?_of_mem hb
  simp only [DSt.turn, List.getElem?_modify] at hj
  obtain ⟨y, hy, rfl⟩ := Option.map_eq_some_iff.1 hj
  have := h.1 y (List.mem_of_getElem? hy)
  split
  · exact hf y this
  · exact this
theorem okN_write {s : DSt} {m : Nat} {i : Int} {l : List Int} (h : s.okN m) (hl : Byt l) : (s.write i l).2.okN (m + 1) := by
  have hp := okN_power h
  unfold DSt.write
  split
  · unfold DSt.write1
    split
    · exact hp.more (by omega)
    · split
      · exact hp.more (by omega)
      · rename_i h2
        have h3 : l.length = 256 := by omega
        have ht := okN_turn (i := i) hp (f := BSt.write l) (fun b hb => ⟨hb.1, hb.2.1, hl, h3⟩)
        exact ⟨ht.1, by have := hp.2.1; show s.power.2.calls + 1 ≤ m + 1; omega, ht.2.2⟩
  · exact hp.more (by omega)
theorem ok_settle {b : BSt} (h : b.ok) : b.settle.ok := ⟨h.2.2.1, h.2.2.2, h.2.2.1, h.2.2.2⟩
theorem okN_flush {s : DSt} {m : Nat} (h : s.okN m) : s.flush.2.okN (m + 1) := by
  have hp := okN_power h
  unfold DSt.flush
  split
  · refine ⟨fun b hb => ?_, by have := hp.2.1; show s.power.2.calls + 1 ≤ m + 1; omega, hp.2.2.1, by simpa [DSt.flush1] using hp.2.2.2⟩
    obtain ⟨y, hy, rfl⟩ := List.mem_map.1 hb
    have := hp.1 y hy
    unfold BSt.flush
    split
    · exact ok_settle this
    · exact this
  · exact hp.more (by omega)
theorem okN_arm {s : DSt} {m : Nat} {n : Int} (h : s.okN m) (hn : n ≤ 9223372036854775807) : (s.setArm n).okN m := ⟨h.1, h.2.1, by show n.toNat ≤ _; omega, h.2.2.2⟩
theorem okN_crash {s : DSt} {m : Nat} {picks : List Int} (h : s.okN m) : (s.crash picks).okN m := by
  refine ⟨fun b hb => ?_, h.2.1, Nat.zero_le _, by simpa [DSt.crash] using h.2.2.2⟩
  obtain ⟨j, hj⟩ := List.getElem?_of_mem hb
  simp only [DSt.crash, List.getElem?_mapIdx] at hj
  obtain ⟨y, hy, rfl⟩ := Option.map_eq_some_iff.1 hj
  have := h.1 y (List.mem_of_getElem? hy)
  unfold crashAt BSt.crash
  split
  · split
    · exact ok_settle this
    · exact this
  · exact this
theorem okN_spoil {s : DSt} {m : Nat} {i at' : Int} {bits : Nat} (h : s.okN m) : (s.spoil i at' bits).2.okN m := by
  unfold DSt.spoil
  split
  · exact okN_turn h (fun b hb => ⟨turned_byt hb.1 _ _, by unfold BSt.spoil; rw [turned_len]; exact hb.2.1, hb.2.2⟩)
  · exact h
theorem okN_fail {s : DSt} {m : Nat} {i : Int} (h : s.okN m) : (s.fail i).2.okN m := by
  unfold DSt.fail
  split
  · exact okN_turn h (fun b hb => hb)
  · exact h
theorem okN_raw {s : DSt} {m : Nat} {i : Int} {l : List Int} (h : s.okN m) (hl : Byt l) : (s.raw i l).2.okN m := by
  unfold DSt.raw
  split
  · rename_i h2
    exact okN_turn h (fun b _ => ⟨hl, h2.2, hl, h2.2⟩)
  · exact h
/-- how many blocks there are stays -/
theorem write_len (s : DSt) (i : Int) (l : List Int) : (s.write i l).2.blks.length = s.blks.length := by
  unfold DSt.write
  split
  · unfold DSt.write1
    split
    · rw [s.power_blks.1]
    · split
      · rw [s.power_blks.1]
      · show (s.power.2.turn i (BSt.write l)).blks.length = _
        rw [DSt.turn_len, s.power_blks.1]
  · rw [s.power_blks.1]
theorem flush_len (s : DSt) : s.flush.2.blks.length = s.blks.length := by
  unfold DSt.flush
  split
  · show (s.power.2.blks.map BSt.flush).length = _
    rw [List.length_map, s.power_blks.1]
  · rw [s.power_blks.1]
theorem crash_len (s : DSt) (picks : List Int) : (s.crash picks).blks.length = s.blks.length := by simp [DSt.crash]
theorem spoil_len (s : DSt) (i at' : Int) (bits : Nat) : (s.spoil i at' bits).2.blks.length = s.blks.length := by
  unfold DSt.spoil
  split
  · exact DSt.turn_len _ _ _
  · rfl
theorem fail_len (s : DSt) (i : Int) : (s.fail i).2.blks.length = s.blks.length := by
  unfold DSt.fail
  split
  · exact DSt.turn_len _ _ _
  · rfl
theorem raw_len (s : DSt) (i : Int) (l : List Int) : (s.raw i l).2.blks.length = s.blks.length := by
  unfold DSt.raw
  split
  · exact DSt.turn_len _ _ _
  · rfl
theorem EV.nil {S : Nat → Addr} {v : Value} (h : EV S 0 v) : v = .nilIface := by
  generalize hc : (0 : Int) = c at h
  rcases h with _ | ⟨j, hj⟩
  · rfl
  · omega
theorem EV.one {S : Nat → Addr} {c : Int} {v : Value} (h : EV S c v) (hc : c ≠ 0) : ∃ j : Nat, j < 24 ∧ c = 101 + (j : Int) ∧ v = .iface 118 (.pointer (some (S j))) := by
  rcases h with _ | ⟨j, hj⟩
  · exact absurd rfl hc
  · exact ⟨j, hj, rfl, rfl⟩
theorem EV.is {S : Nat → Addr} {c : Int} {v : Value} (h : EV S c v) (hc : c ≠ 0) : ∃ j : Nat, v = .iface 118 (.pointer (some (S j))) := by
  obtain ⟨j, _, _, hv⟩ := h.one hc
  exact ⟨j, hv⟩
/-- a new device of which a block was written, and that fell -/
theorem new_write {n : Nat} {i : Int} {l : List Int} (h0 : 0 ≤ i) (hi : i < n) (hl : l.length = 256) : (DSt.new n).write i l = (0, { (DSt.new n).turn i (BSt.write l) with calls := 1 }) := by
  have hb : (DSt.new n).inB i = true := by unfold DSt.inB DSt.new; simp [h0, hi]
  have hp : (DSt.new n).power = (0, DSt.new n) := rfl
  unfold DSt.write
  rw [hp, if_pos rfl]
  unfold DSt.write1
  rw [if_neg (by rw [hb]; decide), if_neg (by omega)]
  rfl
end Go.Proofs.YtfdabbpfphnbhaaDoor
namespace Go.Proofs.YtfdabbpfphnbhaaDoor
open Go.RowKit

theorem new_get {n i : Nat} (hi : i < n) : (DSt.new n).blks[i]? = some blank := by unfold DSt.new; rw [List.getElem?_replicate, if_pos hi]
theorem crash_none_read {n : Nat} {i : Nat} {l : List Int} (hi : i < n) : (({ (DSt.new n).turn (i : Int) (BSt.write l) with calls := 1 } : DSt).crash []).read (i : Int) = (0, full 0) := by
  unfold DSt.read
  have hin : (({ (DSt.new n).turn (i : Int) (BSt.write l) with calls := 1 } : DSt).crash []).inB (i : Int) = true := by
    unfold DSt.inB
    rw [crash_len]
    show (decide _ && decide ((i : Int) < (((DSt.new n).turn (i : Int) (BSt.write l)).blks.length : Nat))) = true
    rw [DSt.turn_len]
    have : (DSt.new n).blks.length = n := by unfold DSt.new; exact List.length_replicate
    rw [this]
    simp [hi]
  rw [if_neg (by show ¬ false = true; decide), if_neg (by rw [hin]; decide)]
  have hx : (({ (DSt.new n).turn (i : Int) (BSt.write l) with calls := 1 } : DSt).crash []).blks[i]? = some ({ blank with next := l, pend := false }) := by
    have h1 : ((DSt.new n).turn (i : Int) (BSt.write l)).blks[i]? = some (BSt.write l blank) := turn_at (new_get hi)
    show (((DSt.new n).turn (i : Int) (BSt.write l)).blks.mapIdx _)[i]? = _
    rw [List.getElem?_mapIdx, h1]
    have hk : ∀ r, keepP [] r = false := fun r => by unfold keepP; rw [List.getElem?_nil]; rfl
    simp only [Option.map_some, crashAt, hk]
    rfl
  rw [Int.toNat_natCast, hx]
  rfl
end Go.Proofs.YtfdabbpfphnbhaaDoor
namespace Go.Proofs.YtfdabbpfphnbhaaDoor
open Go.RowKit

/-- behind w0: the device at p is s, in blocks F that are new since w0; the errors lie where they lay -/
structure Dv (Real : World → Nat → DSt → (Nat → Prop) → Prop) (S : Nat → Addr) (w0 w : World) (p : Nat) (s : DSt) (F : Nat → Prop) : Prop where
  real : Real w p s F
  below : Below w0.heap.size w0 w
  sent : Sent5 w S
  new : ∀ k, F k → w0.heap.size ≤ k
variable {Real : World → Nat → DSt → (Nat → Prop) → Prop} {S : Nat → Addr} {w0 : World}
theorem Dv.upd {w w' : World} {p : Nat} {s t : DSt} {F : Nat → Prop} (h : Dv Real S w0 w p s F) (hS : Sent5 w0 S) (hu : RealUpd Real w p t F w') : ∃ F', Dv Real S w0 w' p t F' := by
  obtain ⟨F', hr, ho, hf⟩ := hu
  have hb := h.below.trans (ho.below h.below.size h.new)
  exact ⟨F', hr, hb, hS.on hb, fun k hk => by
    rcases hf k hk with h' | h'
    · exact h.new k h'
    · have := h.below.size; omega⟩
theorem Dv.on {w w' : World} {p : Nat} {s : DSt} {F : Nat → Prop} (D : DevOk Real) (h : Dv Real S w0 w p s F) (hb : Below w.heap.size w w') : Dv Real S w0 w' p s F :=
  ⟨D.kept h.real (Kept.of_below hb (D.lt h.real)), h.below.trans (hb.mono h.below.size), h.sent.on hb, h.new⟩
theorem Dv.drewN {w : World} {p : Nat} {s : DSt} {F : Nat → Prop} (D : DevOk Real) (h : Dv Real S w0 w p s F) (k : Nat) : Dv Real S w0 (w.drewN k) p s F :=
  ⟨D.kept h.real (Kept.drewN F w k), below_drewN h.below k, h.sent.drewN k, h.new⟩
theorem dv_new (D : DevOk Real) (n : Nat) {w : World} (hS : Sent5 w0 S) (hb : Below w0.heap.size w0 w) (h0 : 0 < n) (hn : n ≤ 6000) : Calls Tryd.prog 27 #[.int .i64 (n : Int)] w fun e w' => ∃ p F, e = .returned (.tuple #[.pointer (some ⟨p, 0, none⟩), .nilIface]) ∧ Dv Real S w0 w' p (DSt.new n) F ∧ Below w.heap.size w w' ∧ ∀ k, F k → w.heap.size ≤ k :=
  (D.new n w h0 hn).mono fun e w' ⟨p, F, he, hr, hb', hF⟩ => ⟨p, F, he, ⟨hr, hb.trans (hb'.mono hb.size), hS.on (hb.trans (hb'.mono hb.size)), fun k hk => by have := hF k hk; have := hb.size; omega⟩, hb', hF⟩
/-- new bytes, beside the device -/
def Arg (w : World) (F : Nat → Prop) (A : Option Addr) (n c : Nat) (l : List Int) : Prop := Sl w w.heap.size A n c l ∧ ∀ ad, A = some ad → 0 < n → ¬ F ad.block
theorem dv_write (D : DevOk Real) {w : World} {p n c m : Nat} {s s' : DSt} {F : Nat → Prop} {i : Int} {A : Option Addr} {l : List Int} {code : Int} (h : Dv Real S w0 w p s F) (hS : Sent5 w0 S) (hok : s.okN m) (hm : m ≤ 1000) (ha : Arg w F A n c l) (hy : Byt l) (hn : n ≤ 1000) (he : s.write i l = (code, s')) :
    Calls Tryd.prog 44 #[.pointer (some ⟨p, 0, none⟩), .int .i64 i, .slice A n c] w fun e w' => (∃ v, EV S code v ∧ e = .returned v) ∧ ∃ F', Dv Real S w0 w' p s' F' :=
  (D.write S p s F i A n c l w h.sent h.real (hok.ok (by omega)) ha.1 ha.2 hy hn).mono fun e w' ⟨hv, hu⟩ => by
    rw [he] at hv hu
    exact ⟨hv, h.upd hS hu⟩
theorem dv_write0 (D : DevOk Real) {w : World} {p n c m : Nat} {s s' : DSt} {F : Nat → Prop} {i : Int} {A : Option Addr} {l : List Int} (h : Dv Real S w0 w p s F) (hS : Sent5 w0 S) (hok : s.okN m) (hm : m ≤ 1000) (ha : Arg w F A n c l) (hy : Byt l) (hn : n ≤ 1000) (he : s.write i l = (0, s')) :
    Calls Tryd.prog 44 #[.pointer (some ⟨p, 0, none⟩), .int .i64 i, .slice A n c] w fun e w' => e = .returned .nilIface ∧ ∃ F', Dv Real S w0 w' p s' F' :=
  (dv_write D h hS hok hm ha hy hn he).mono fun e w' ⟨⟨v, hv, h1⟩, h2⟩ => by
    obtain rfl := hv.nil
    exact ⟨h1, h2⟩
theorem dv_flush (D : DevOk Real) {w : World} {p m : Nat} {s s' : DSt} {F : Nat → Prop} {code : Int} (h : Dv Real S w0 w p s F) (hS : Sent5 w0 S) (hok : s.okN m) (hm : m ≤ 1000) (he : s.flush = (code, s')) :
    Calls Tryd.prog 18 #[.pointer (some ⟨p, 0, none⟩)] w fun e w' => (∃ v, EV S code v ∧ e = .returned v) ∧ ∃ F', Dv Real S w0 w' p s' F' :=
  (D.flush S p s F w h.sent h.real (hok.ok (by omega))).mono fun e w' ⟨hv, hu⟩ => by
    rw [he] at hv hu
    exact ⟨hv, h.upd hS hu⟩
theorem dv_flush0 (D : DevOk Real) {w : World} {p m : Nat} {s s' : DSt} {F : Nat → Prop} (h : Dv Real S w0 w p s F) (hS : Sent5 w0 S) (hok : s.okN m) (hm : m ≤ 1000) (he : s.flush = (0, s')) :
    Calls Tryd.prog 18 #[.pointer (some ⟨p, 0, none⟩)] w fun e w' => e = .returned .nilIface ∧ ∃ F', Dv Real S w0 w' p s' F' :=
  (dv_flush D h hS hok hm he).mono fun e w' ⟨⟨v, hv, h1⟩, h2⟩ => by
    obtain rfl := hv.nil
    exact ⟨h1, h2⟩
theorem dv_spoil (D : DevOk Real) {w : World} {p m : Nat} {s s' : DSt} {F : Nat → Prop} {i at' : Int} {bits : Nat} {b : Bool} (h : Dv Real S w0 w p s F) (hS : Sent5 w0 S) (hok : s.okN m) (hm : m ≤ 1000) (hb : bits < 4294967296) (he : s.spoil i at' bits = (b, s')) :
    Calls Tryd.prog 19 #[.pointer (some ⟨p, 0, none⟩), .int .i64 i, .int .i64 at', .int .u32 (bits : Int)] w fun e w' => e = .returned (.bool b) ∧ ∃ F', Dv Real S w0 w' p s' F' :=
  (D.spoil p s F i at' bits w h.real (hok.ok (by omega)) hb).mono fun e w' ⟨hv, hu⟩ => by
    rw [he] at hv hu
    exact ⟨hv, h.upd hS hu⟩
theorem dv_fail (D : DevOk Real) {w : World} {p m : Nat} {s s' : DSt} {F : Nat → Prop} {i : Int} {b : Bool} (h : Dv Real S w0 w p s F) (hS : Sent5 w0 S) (hok : s.okN m) (hm : m ≤ 1000) (he : s.fail i = (b, s')) :
    Calls Tryd.prog 26 #[.pointer (some ⟨p, 0, none⟩), .int .i64 i] w fun e w' => e = .returned (.bool b) ∧ ∃ F', Dv Real S w0 w' p s' F' :=
  (D.fail p s F i w h.real (hok.ok (by omega))).mono fun e w' ⟨hv, hu⟩ => by
    rw [he] at hv hu
    exact ⟨hv, h.upd hS hu⟩
theorem dv_read (D : DevOk Real) {w : World} {p m : Nat} {s : DSt} {F : Nat → Prop} {i : Int} {code : Int} {l : List Int} (h : Dv Real S w0 w p s F) (hok : s.okN m) (hm : m ≤ 1000) (he : s.read i = (code, l)) :
    Calls Tryd.prog 20 #[.pointer (some ⟨p, 0, none⟩), .int .i64 i] w fun e w' => ∃ A n c v, e = .returned (.tuple #[.slice A n c, v]) ∧ EV S code v ∧ Sl w' w'.heap.size A n c l ∧ Dv Real S w0 w' p s F ∧ Below w.heap.size w w' :=
  (D.read S p s F i w h.sent h.real (hok.ok (by omega))).mono fun e w' hr => by
    obtain ⟨A, n, c, v, h1, h2, h3, h4, _⟩ := hr
    rw [he] at h2 h3
    exact ⟨A, n, c, v, h1, h2, h3, h.on D h4, h4⟩
theorem dv_faulted (D : DevOk Real) {w : World} {p m : Nat} {s : DSt} {F : Nat → Prop} {i : Int} {b : Bool} (h : Dv Real S w0 w p s F) (hok : s.okN m) (hm : m ≤ 1000) (he : s.faulted i = b) :
    Calls Tryd.prog 47 #[.pointer (some ⟨p, 0, none⟩), .int .i64 i] w fun e w' => e = .returned (.bool b) ∧ Dv Real S w0 w' p s F ∧ Below w.heap.size w w' :=
  (D.faulted p s F i w h.real (hok.ok (by omega))).mono fun e w' hq => by
    obtain ⟨h1, k, rfl⟩ := hq
    rw [he] at h1
    exact ⟨h1, h.drewN D k, below_drewN (Below.refl _ _) k⟩
/-- bytes beside the device stay beside it, and stay -/
theorem Arg.upd {w w' : World} {F F' : Nat → Prop} {A : Option Addr} {n c : Nat} {l : List Int} (h : Arg w F A n c l) (ho : Only F w w') (hf : ∀ k, F' k → F k ∨ w.heap.size ≤ k) : Arg w' F' A n c l :=
  ⟨h.1.only ho h.2, fun ad ha h0 hk => by
    rcases hf _ hk with h' | h'
    · exact h.2 ad ha h0 h'
    · have := (h.1.at_ ad ha h0).1; omega⟩
theorem Arg.on {w w' : World} {F : Nat → Prop} {A : Option Addr} {n c : Nat} {l : List Int} (h : Arg w F A n c l) (hb : Below w.heap.size w w') : Arg w' F A n c l := ⟨h.1.on hb, h.2⟩
/-- a call that turns the device: the device, and that each bytes beside it stay -/
def Upd2 (Real : World → Nat → DSt → (Nat → Prop) → Prop) (S : Nat → Addr) (w0 w : World) (F : Nat → Prop) (w' : World) (p : Nat) (t : DSt) : Prop := ∃ F', Dv Real S w0 w' p t F' ∧ ∀ A n c l, Arg w F A n c l → Arg w' F' A n c l
theorem Dv.upd2 {w w' : World} {p : Nat} {s t : DSt} {F : Nat → Prop} (h : Dv Real S w0 w p s F) (hS : Sent5 w0 S) (hu : RealUpd Real w p t F w') : Upd2 Real S w0 w F w' p t := by
  obtain ⟨F', hr, ho, hf⟩ := hu
  have hb := h.below.trans (ho.below h.below.size h.new)
  exact ⟨F', ⟨hr, hb, hS.on hb, fun k hk => by
    rcases hf k hk with h' | h'
    · exact h.new k h'
    · have := h.below.size; omega⟩, fun A n c l ha => ha.upd ho hf⟩
theorem dv_spoil2 (D : DevOk Real) {w : World} {p m : Nat} {s s' : DSt} {F : Nat → Prop} {i at' : Int} {bits : Nat} {b : Bool} (h : Dv Real S w0 w p s F) (hS : Sent5 w0 S) (hok : s.okN m) (hm : m ≤ 1000) (hb : bits < 4294967296) (he : s.spoil i at' bits = (b, s')) :
    Calls Tryd.prog 19 #[.pointer (some ⟨p, 0, none⟩), .int .i64 i, .int .i64 at', .int .u32 (bits : Int)] w fun e w' => e = .returned (.bool b) ∧ Upd2 Real S w0 w F w' p s' :=
  (D.spoil p s F i at' bits w h.real (hok.ok (by omega)) hb).mono fun e w' ⟨hv, hu⟩ => by
    rw [he] at hv hu
    exact ⟨hv, h.upd2 hS hu⟩
theorem dv_fail2 (D : DevOk Real) {w : World} {p m : Nat} {s s' : DSt} {F : Nat → Prop} {i : Int} {b : Bool} (h : Dv Real S w0 w p s F) (hS : Sent5 w0 S) (hok : s.okN m) (hm : m ≤ 1000) (he : s.fail i = (b, s')) :
    Calls Tryd.prog 26 #[.pointer (some ⟨p, 0, none⟩), .int .i64 i] w fun e w' => e = .returned (.bool b) ∧ Upd2 Real S w0 w F w' p s' :=
  (D.fail p s F i w h.real (hok.ok (by omega))).mono fun e w' ⟨hv, hu⟩ => by
    rw [he] at hv hu
    exact ⟨hv, h.upd2 hS hu⟩
theorem dv_read2 (D : DevOk Real) {w : World} {p m : Nat} {s : DSt} {F : Nat → Prop} {i : Int} {code : Int} {l : List Int} (h : Dv Real S w0 w p s F) (hok : s.okN m) (hm : m ≤ 1000) (he : s.read i = (code, l)) :
    Calls Tryd.prog 20 #[.pointer (some ⟨p, 0, none⟩), .int .i64 i] w fun e w' => ∃ A n c v, e = .returned (.tuple #[.slice A n c, v]) ∧ EV S code v ∧ Arg w' F A n c l ∧ Dv Real S w0 w' p s F ∧ Below w.heap.size w w' :=
  (D.read S p s F i w h.sent h.real (hok.ok (by omega))).mono fun e w' hr => by
    obtain ⟨A, n, c, v, h1, h2, h3, h4, h5⟩ := hr
    rw [he] at h2 h3
    exact ⟨A, n, c, v, h1, h2, ⟨h3, fun ad ha _ hF => by have := D.lt h.real _ hF; have := h5 ad ha; omega⟩, h.on D h4, h4⟩
theorem Sn.more {w : World} {B B' n c : Nat} {A : Option Addr} {l : List Int} (h : Sn w B A n c l) (hb : B ≤ B') : Sn w B' A n c l := ⟨h.len, h.cap, h.max, h.nil, fun ad ha h0 => ⟨Nat.lt_of_lt_of_le (h.at_ ad ha h0).1 hb, (h.at_ ad ha h0).2⟩⟩
/-- a call that turns the device leaves others, that lie beside it, as they are -/
def Upd3 (Real : World → Nat → DSt → (Nat → Prop) → Prop) (S : Nat → Addr) (w0 w : World) (F : Nat → Prop) (w' : World) (p : Nat) (t : DSt) : Prop := ∃ F', Dv Real S w0 w' p t F' ∧ ∀ q u G, Dv Real S w0 w q u G → (∀ k, G k → ¬ F k) → Dv Real S w0 w' q u G ∧ ∀ k, G k → ¬ F' k
theorem Dv.upd3 {w w' : World} {p : Nat} {s t : DSt} {F : Nat → Prop} (D : DevOk Real) (h : Dv Real S w0 w p s F) (hS : Sent5 w0 S) (hu : RealUpd Real w p t F w') : Upd3 Real S w0 w F w' p t := by
  obtain ⟨F', hr, ho, hf⟩ := hu
  have hb := h.below.trans (ho.below h.below.size h.new)
  refine ⟨F', ⟨hr, hb, hS.on hb, fun k hk => by
    rcases hf k hk with h' | h'
    · exact h.new k h'
    · have := h.below.size; omega⟩, fun q u G hg hd => ⟨⟨D.kept hg.real (ho.kept (D.lt hg.real) hd), hb, hS.on hb, hg.new⟩, fun k hk hk' => ?_⟩⟩
  rcases hf k hk' with h' | h'
  · exact hd k hk h'
  · have := D.lt hg.real k hk; omega
theorem dv_write3 (D : DevOk Real) {w : World} {p n c m : Nat} {s s' : DSt} {F : Nat → Prop} {i : Int} {A : Option Addr} {l : List Int} (h : Dv Real S w0 w p s F) (hS : Sent5 w0 S) (hok : s.okN m) (hm : m ≤ 1000) (ha : Arg w F A n c l) (hy : Byt l) (hn : n ≤ 1000) (he : s.write i l = (0, s')) :
    Calls Tryd.prog 44 #[.pointer (some ⟨p, 0, none⟩), .int .i64 i, .slice A n c] w fun e w' => e = .returned .nilIface ∧ Upd3 Real S w0 w F w' p s' :=
  (D.write S p s F i A n c l w h.sent h.real (hok.ok (by omega)) ha.1 ha.2 hy hn).mono fun e w' ⟨⟨v, hv, h1⟩, hu⟩ => by
    rw [he] at hv hu
    obtain rfl := EV.nil hv
    exact ⟨h1, h.upd3 D hS hu⟩
theorem dv_flush3 (D : DevOk Real) {w : World} {p m : Nat} {s s' : DSt} {F : Nat → Prop} (h : Dv Real S w0 w p s F) (hS : Sent5 w0 S) (hok : s.okN m) (hm : m ≤ 1000) (he : s.flush = (0, s')) :
    Calls Tryd.prog 18 #[.pointer (some ⟨p, 0, none⟩)] w fun e w' => e = .returned .nilIface ∧ Upd3 Real S w0 w F w' p s' :=
  (D.flush S p s F w h.sent h.real (hok.ok (by omega))).mono fun e w' ⟨⟨v, hv, h1⟩, hu⟩ => by
    rw [he] at hv hu
    obtain rfl := EV.nil hv
    exact ⟨h1, h.upd3 D hS hu⟩
theorem dv_fail3 (D : DevOk Real) {w : World} {p m : Nat} {s s' : DSt} {F : Nat → Prop} {i : Int} {b : Bool} (h : Dv Real S w0 w p s F) (hS : Sent5 w0 S) (hok : s.okN m) (hm : m ≤ 1000) (he : s.fail i = (b, s')) :
    Calls Tryd.prog 26 #[.pointer (some ⟨p, 0, none⟩), .int .i64 i] w fun e w' => e = .returned (.bool b) ∧ Upd3 Real S w0 w F w' p s' :=
  (D.fail p s F i w h.real (hok.ok (by omega))).mono fun e w' ⟨hv, hu⟩ => by
    rw [he] at hv hu
    exact ⟨hv, h.upd3 D hS hu⟩
end Go.Proofs.YtfdabbpfphnbhaaDoor
