/- Put together out of 6 texts. Blocks kept twice, over the plain device: what Write, Read and Mend answer, and what they leave. -/
import Derived.Test.YtkhdgacjgccnnaaGreatDoorGXac
import Derived.Test.YtkhdgacjgccnnaaGreatDoorGXab
import Derived.Test.YtkhdgacjgccnnaaGreatDoorProg
import Derived.Test.YtkhdgacjgccnnaaGreatDoorGXaa
namespace Go.Proofs.YtkhdgacjgccnnaaGreatDoor

/-- a device of n blocks that is up, with nothing armed; m calls at the most -/
structure Up (s : DSt) (n m : Nat) : Prop where
  arm : s.arm = 0
  down : s.down = false
  len : s.blks.length = n
  okN : s.okN m
theorem Up.ok {s : DSt} {n m : Nat} (h : Up s n m) (hm : m ≤ 1000000) : s.ok := h.okN.ok hm
theorem Up.more {s : DSt} {n m k : Nat} (h : Up s n m) (hk : m ≤ k) : Up s n k := ⟨h.arm, h.down, h.len, h.okN.more hk⟩
theorem Up.at_ {s : DSt} {n m i : Nat} (h : Up s n m) (hi : i < n) : ∃ b, s.blks[i]? = some b := ⟨_, List.getElem?_eq_getElem (by rw [h.len]; exact hi)⟩
theorem Up.inB {s : DSt} {n m i : Nat} (h : Up s n m) (hi : i < n) : s.inB (i : Int) = true := by
  rw [DSt.in_iff, h.len]; omega
theorem Up.power {s : DSt} {n m : Nat} (h : Up s n m) : s.power = (0, s) := by
  unfold DSt.power; rw [if_neg (by rw [h.down]; decide), if_pos h.arm]
theorem up_new {n : Nat} (h : n ≤ 6000) : Up (DSt.new n) n 0 := ⟨rfl, rfl, by simp [DSt.new], okN_new h⟩
theorem new_at {n i : Nat} (h : i < n) : (DSt.new n).blks[i]? = some blank := by
  unfold DSt.new; rw [List.getElem?_replicate, if_pos h]
theorem Up.read {s : DSt} {n m i : Nat} {b : BSt} (h : Up s n m) (hi : i < n) (hb : s.blks[i]? = some b) : s.read (i : Int) = b.read := by
  unfold DSt.read
  rw [if_neg (by rw [h.down]; decide), if_neg (by rw [h.inB hi]; decide), Int.toNat_natCast, hb]; rfl

/-- a block is written -/
def DSt.put (s : DSt) (i : Nat) (l : List Int) : DSt := { s.turn (i : Int) (BSt.write l) with calls := s.calls + 1 }
theorem put_at {s : DSt} {i : Nat} {l : List Int} {b : BSt} (h : s.blks[i]? = some b) : (s.put i l).blks[i]? = some (b.write l) := turn_at h
theorem turn_else {s : DSt} {i j : Nat} {f : BSt → BSt} (h : i ≠ j) : (s.turn (i : Int) f).blks[j]? = s.blks[j]? := by
  unfold DSt.turn
  show (s.blks.modify i f)[j]? = _
  rw [List.getElem?_modify]
  cases s.blks[j]? <;> simp [h]
theorem put_else {s : DSt} {i j : Nat} {l : List Int} (h : i ≠ j) : (s.put i l).blks[j]? = s.blks[j]? := turn_else h
theorem Up.write {s : DSt} {n m i : Nat} {l : List Int} (h : Up s n m) (hi : i < n) (hl : l.length = 256) (hb : Byt l) : s.write (i : Int) l = (0, s.put i l) ∧ Up (s.put i l) n (m + 1) := by
  have e : s.write (i : Int) l = (0, s.put i l) := by
    unfold DSt.write
    rw [h.power, if_pos rfl]
    unfold DSt.write1
    rw [if_neg (by rw [h.inB hi]; decide), if_neg (by omega)]
    rfl
  have ho := okN_write (i := (i : Int)) h.okN hb
  rw [e] at ho
  exact ⟨e, h.arm, h.down, by show (s.turn _ _).blks.length = n; rw [DSt.turn_len]; exact h.len, ho⟩
def fl (s : DSt) : DSt := { s with blks := s.blks.map BSt.flush, calls := s.calls + 1 }
theorem Up.flush {s : DSt} {n m : Nat} (h : Up s n m) : s.flush = (0, fl s) ∧ Up (fl s) n (m + 1) := by
  have e : s.flush = (0, fl s) := by unfold DSt.flush; rw [h.power, if_pos rfl]; rfl
  have ho := okN_flush h.okN
  rw [e] at ho
  exact ⟨e, h.arm, h.down, by show (s.blks.map _).length = n; rw [List.length_map]; exact h.len, ho⟩
theorem fl_at {s : DSt} {i : Nat} {b : BSt} (h : s.blks[i]? = some b) : (fl s).blks[i]? = some b.flush := by
  unfold fl; simp [h]
theorem Up.fail {s : DSt} {n m : Nat} (h : Up s n m) (i : Int) : Up (s.fail i).2 n m := by
  refine ⟨?_, ?_, by rw [fail_len]; exact h.len, okN_fail h.okN⟩
  · unfold DSt.fail; split <;> exact h.arm
  · unfold DSt.fail; split <;> exact h.down

/-- half of the mirrored blocks -/
def halN (n : Nat) : Nat := min (n / 4) 512
theorem halN_two {n : Nat} : 2 * halN n ≤ n := by unfold halN; omega
/-- it can be read, and has that sum -/
def BSt.right (b : BSt) (z : Nat) : Bool := (b.read.1 == 0) && (crcOf (nats b.read.2) == z)
def DSt.right (s : DSt) (i z : Nat) : Bool := ((s.read (i : Int)).1 == 0) && (crcOf (nats (s.read (i : Int)).2) == z)
theorem Up.right {s : DSt} {n m i : Nat} {b : BSt} (h : Up s n m) (hi : i < n) (hb : s.blks[i]? = some b) (z : Nat) : s.right i z = b.right z := by
  unfold DSt.right BSt.right; rw [h.read hi hb]
def pWrite (s : DSt) (H i : Nat) (l : List Int) : DSt := (s.put i l).put (i + H) l
/-- Read: the error's number, the bytes, the device, how many were written -/
def pRead (s : DSt) (H i z : Nat) : Int × List Int × DSt × Nat :=
  if s.right i z = true then (0, (s.read (i : Int)).2, s, 0) else if s.right (i + H) z = true then (0, (s.read ((i + H : Nat) : Int)).2, s.put i (s.read ((i + H : Nat) : Int)).2, 1) else (107, [], s, 0)
/-! What a block is that was written last with l: pending; flushed and sound; turned; unreadable. -/
inductive St (l : List Int) (b : BSt) : Prop
  | pend (h : b.pend = true) (hn : b.next = l)
  | sound (h : b.pend = false) (hf : b.fault = false) (hl : b.fail = false) (hh : b.has = l)
  | spoilt (at' : Int) (bits : Nat) (h : b.pend = false) (hf : b.fault = true) (hl : b.fail = false) (h0 : 0 ≤ at') (h1 : at' ≤ 252) (hb : bits ≠ 0) (hb2 : bits < 4294967296) (hh : b.has = turned l at' bits)
  | failed (h : b.pend = false) (hf : b.fault = true) (hl : b.fail = true)
/-- it reads as what was written -/
def BSt.good (l : List Int) (b : BSt) : Bool := (b.read.1 == 0) && sameB b.read.2 l
theorem St.write {l : List Int} {b : BSt} (k : List Int) (_ : St l b) : St k (b.write k) := .pend rfl rfl
theorem st_write (b : BSt) (k : List Int) : St k (b.write k) := .pend rfl rfl
theorem St.flush {l : List Int} {b : BSt} (h : St l b) : St l b.flush := by
  unfold BSt.flush
  rcases h with ⟨h, hn⟩ | ⟨h, hf, hl, hh⟩ | ⟨a, z, h, hf, hl, h0, h1, hb, hb2, hh⟩ | ⟨h, hf, hl⟩
  · rw [if_pos h]; exact .sound rfl rfl rfl hn
  · rw [if_neg (by rw [h]; decide)]; exact .sound h hf hl hh
  · rw [if_neg (by rw [h]; decide)]; exact .spoilt a z h hf hl h0 h1 hb hb2 hh
  · rw [if_neg (by rw [h]; decide)]; exact .failed h hf hl
/-- turned bytes are others, and so is their sum -/
theorem turned_other {l : List Int} (hl : Byt l) (h256 : l.length = 256) {at' : Int} {bits : Nat} (h0 : 0 ≤ at') (h1 : at' ≤ 252) (hb : bits ≠ 0) (hb2 : bits < 4294967296) : turned l at' bits ≠ l ∧ crcOf (nats (turned l at' bits)) ≠ crcOf (nats l) := by
  have hne : turned l at' bits ≠ l := by
    intro he
    obtain ⟨p, rfl⟩ : ∃ p : Nat, at' = (p : Int) := ⟨at'.toNat, by omega⟩
    have hz : ∀ j, j < 4 → byteOf bits j = 0 := by
      intro j hj
      have hx : l[p + j]? = some (l[p + j]'(by omega)) := List.getElem?_eq_getElem (by omega)
      have hv := hl.at_ hx
      have hg := turns_get l p bits 4 (p + j)
      have e1 : turned l (p : Int) bits = turns l p bits 4 := by
        unfold turned
        rw [if_neg (by omega), Int.toNat_natCast]
      rw [← e1, he, hx] at hg
      simp only [Option.map_some, Option.some.injEq] at hg
      rw [if_pos ⟨by omega, by omega⟩] at hg
      rw [show p + j - p = j by omega] at hg
      obtain ⟨a, ha⟩ : ∃ a : Nat, l[p + j]'(by omega) = (a : Int) := ⟨(l[p + j]'(by omega)).toNat, by omega⟩
      rw [ha, Int.toNat_natCast] at hg
      have h2 : a = a ^^^ byteOf bits j := by omega
      have h3 := congrArg (a ^^^ ·) h2
      simp only [← Nat.xor_assoc, Nat.xor_self, Nat.zero_xor] at h3
      exact h3.symm
    have z0 := hz 0 (by omega)
    have z1 := hz 1 (by omega)
    have z2 := hz 2 (by omega)
    have z3 := hz 3 (by omega)
    simp only [byteOf, Nat.pow_zero, Nat.pow_one, Nat.div_one] at z0 z1 z2 z3
    have : (256 : Nat) ^ 2 = 65536 := by decide
    have : (256 : Nat) ^ 3 = 16777216 := by decide
    omega
  exact ⟨hne, fun he => hne (turned_tell hl at' bits he)⟩
theorem St.good {l : List Int} {b : BSt} (h : St l b) (hl : Byt l) (h256 : l.length = 256) : b.good l = b.right (crcOf (nats l)) := by
  unfold BSt.good BSt.right
  rcases h with ⟨h, hn⟩ | ⟨h, hf, hfl, hh⟩ | ⟨a, z, h, hf, hfl, h0, h1, hb, hb2, hh⟩ | ⟨h, hf, hfl⟩
  · have e : b.read = (0, l) := by unfold BSt.read; rw [if_pos h, hn]
    rw [e]; simp [same_self]
  · have e : b.read = (0, l) := by unfold BSt.read; rw [if_neg (by rw [h]; decide), if_neg (by rw [hfl]; decide), hh]
    rw [e]; simp [same_self]
  · have e : b.read = (0, turned l a z) := by unfold BSt.read; rw [if_neg (by rw [h]; decide), if_neg (by rw [hfl]; decide), hh]
    have ht := turned_other hl h256 h0 h1 hb hb2
    rw [e]; simp [sameB, ht.1, ht.2]
  · have e : b.read = (107, []) := by unfold BSt.read; rw [if_neg (by rw [h]; decide), if_pos hfl]
    rw [e]; rfl
/-- .. and what is right is what was written -/
theorem St.right {l : List Int} {b : BSt} (h : St l b) (hl : Byt l) (h256 : l.length = 256) (hr : b.right (crcOf (nats l)) = true) : b.read = (0, l) := by
  rw [← h.good hl h256] at hr
  unfold BSt.good at hr
  simp only [Bool.and_eq_true, beq_iff_eq, sameB, decide_eq_true_eq] at hr
  exact Prod.ext hr.1 hr.2
end Go.Proofs.YtkhdgacjgccnnaaGreatDoor
namespace Go.Proofs.YtkhdgacjgccnnaaGreatDoor
open Go.RowKit

/-- what a call of the pairs leaves: of the device and of the pairs; only their blocks have turned, and what is new -/
def PrUpd (Real : World → Nat → DSt → (Nat → Prop) → Prop) (PR : World → Nat → Nat → Nat → Nat → (Nat → Prop) → Prop) (w : World) (d p : Nat) (s' : DSt) (n m' : Nat) (F G : Nat → Prop) (Q : (Nat → Prop) → (Nat → Prop) → Prop) (w' : World) : Prop :=
  ∃ F' G', Real w' d s' F' ∧ PR w' p d n m' G' ∧ Only (fun k => F k ∨ G k) w w' ∧ (∀ k, F' k → F k ∨ G k ∨ w.heap.size ≤ k) ∧ (∀ k, G' k → F k ∨ G k ∨ w.heap.size ≤ k) ∧ (∀ k, F' k → ¬ G' k) ∧ Q F' G'
abbrev refV (i z : Nat) : Value := .agg #[.int .i64 (i : Int), .int .u32 (z : Int)]
/-- the pairs' calls, of whatever they are in memory: 'PR w p d n m G': at p, over the device at d of n blocks; m were mended; in blocks G -/
structure PairOk (Real : World → Nat → DSt → (Nat → Prop) → Prop) (PR : World → Nat → Nat → Nat → Nat → (Nat → Prop) → Prop) : Prop where
  kept : ∀ {w w' : World} {p d n m : Nat} {G : Nat → Prop}, PR w p d n m G → Kept G w w' → PR w' p d n m G
  lt : ∀ {w : World} {p d n m : Nat} {G : Nat → Prop}, PR w p d n m G → ∀ k, G k → k < w.heap.size
  open_ : ∀ (S : Nat → Addr) (d : Nat) (s : DSt) (F : Nat → Prop) (w : World), Sent5 w S → Real w d s F → s.ok → 300 ≤ s.blks.length → Calls Tryz.prog 34 #[.pointer (some ⟨d, 0, none⟩)] w fun e w' => ∃ p G, e = .returned (.tuple #[.pointer (some ⟨p, 0, none⟩), .nilIface]) ∧ PR w' p d s.blks.length 0 G ∧ Below w.heap.size w w' ∧ ∀ k, G k → w.heap.size ≤ k
  geo : ∀ (p d n m : Nat) (G : Nat → Prop) (w : World), PR w p d n m G → Calls Tryz.prog 64 #[.pointer (some ⟨p, 0, none⟩)] w fun e w' => e = .returned (gv (n : Int) (halN n : Int)) ∧ Below w.heap.size w w'
  write : ∀ (S : Nat → Addr) (p d n m i q : Nat) (s : DSt) (F G : Nat → Prop) (A : Option Addr) (c : Nat) (l : List Int) (w0 w : World), Sent5 w0 S → Below w0.heap.size w0 w → (∀ k, F k → w0.heap.size ≤ k) → Real w d s F → PR w p d n m G → (∀ k, F k → ¬ G k) → Up s n q → q ≤ 900000 → 300 ≤ n → n ≤ 6000 → i < halN n → Sl w w.heap.size A 256 c l → (∀ ad, A = some ad → ¬ F ad.block ∧ ¬ G ad.block) → Byt l →
    Calls Tryz.prog 90 #[.pointer (some ⟨p, 0, none⟩), .int .i64 (i : Int), .slice A 256 c] w fun e w' => e = .returned (.tuple #[refV i (crcOf (nats l)), .nilIface]) ∧ PrUpd Real PR w d p (pWrite s (halN n) i l) n m F G (fun _ _ => True) w'
  writeBad : ∀ (S : Nat → Addr) (p d n m q : Nat) (i : Int) (s : DSt) (F G : Nat → Prop) (A : Option Addr) (c : Nat) (l : List Int) (w : World), Sent5 w S → Real w d s F → PR w p d n m G → (∀ k, F k → ¬ G k) → Up s n q → q ≤ 900000 → 300 ≤ n → n ≤ 6000 → (i < 0 ∨ (halN n : Int) ≤ i) → Sl w w.heap.size A 256 c l →
    Calls Tryz.prog 90 #[.pointer (some ⟨p, 0, none⟩), .int .i64 i, .slice A 256 c] w fun e w' => (∃ a z v, EV S 103 v ∧ e = .returned (.tuple #[.agg #[.int .i64 a, .int .u32 z], v])) ∧ PrUpd Real PR w d p s n m F G (fun _ _ => True) w'
  read : ∀ (S : Nat → Addr) (p d n m i z q : Nat) (s : DSt) (F G : Nat → Prop) (w : World), Sent5 w S → Real w d s F → PR w p d n m G → (∀ k, F k → ¬ G k) → Up s n q → q ≤ 900000 → m ≤ 1000 → 300 ≤ n → n ≤ 6000 → i < halN n → z < 4294967296 →
    Calls Tryz.prog 101 #[.pointer (some ⟨p, 0, none⟩), refV i z] w fun e w' => ∃ A k c v, e = .returned (.tuple #[.slice A k c, v]) ∧ EV S (pRead s (halN n) i z).1 v ∧ ((pRead s (halN n) i z).1 = 0 → Sl w' w'.heap.size A k c (pRead s (halN n) i z).2.1) ∧
      PrUpd Real PR w d p (pRead s (halN n) i z).2.2.1 n (m + (pRead s (halN n) i z).2.2.2) F G (fun F' G' => (pRead s (halN n) i z).1 = 0 → ∀ ad, A = some ad → w.heap.size ≤ ad.block ∧ ¬ F' ad.block ∧ ¬ G' ad.block) w'
  readBad : ∀ (S : Nat → Addr) (p d n m q : Nat) (i : Int) (z : Nat) (s : DSt) (F G : Nat → Prop) (w : World), Sent5 w S → Real w d s F → PR w p d n m G → (∀ k, F k → ¬ G k) → Up s n q → q ≤ 900000 → 300 ≤ n → n ≤ 6000 → (i < 0 ∨ (halN n : Int) ≤ i) → z < 4294967296 →
    Calls Tryz.prog 101 #[.pointer (some ⟨p, 0, none⟩), .agg #[.int .i64 i, .int .u32 (z : Int)]] w fun e w' => (∃ A k c v, e = .returned (.tuple #[.slice A k c, v]) ∧ EV S 103 v) ∧ PrUpd Real PR w d p s n m F G (fun _ _ => True) w'

/-- behind w0: the device at d is s, in blocks F; the pairs at p are over it, in blocks G; nothing is in both; both are new since w0 -/
structure Pd (Real : World → Nat → DSt → (Nat → Prop) → Prop) (PR : World → Nat → Nat → Nat → Nat → (Nat → Prop) → Prop) (S : Nat → Addr) (w0 w : World) (d p : Nat) (s : DSt) (n m q : Nat) (F G : Nat → Prop) : Prop where
  real : Real w d s F
  pr : PR w p d n m G
  below : Below w0.heap.size w0 w
  sent0 : Sent5 w0 S
  fn : ∀ k, F k → w0.heap.size ≤ k
  gn : ∀ k, G k → w0.heap.size ≤ k
  ap : ∀ k, F k → ¬ G k
  up : Up s n q
  small : q ≤ 900000
  n0 : 300 ≤ n
  n1 : n ≤ 6000
section
variable {Real : World → Nat → DSt → (Nat → Prop) → Prop} {PR : World → Nat → Nat → Nat → Nat → (Nat → Prop) → Prop} {S : Nat → Addr} {w0 w w' : World} {d p n m q : Nat} {s s' : DSt} {F G : Nat → Prop}
theorem Pd.sent (h : Pd Real PR S w0 w d p s n m q F G) : Sent5 w S := h.sent0.on h.below
theorem Pd.ok (h : Pd Real PR S w0 w d p s n m q F G) : s.ok := h.up.ok (by have := h.small; omega)
theorem Pd.on (D : DevOk Real) (P : PairOk Real PR) (h : Pd Real PR S w0 w d p s n m q F G) (hb : Below w.heap.size w w') : Pd Real PR S w0 w' d p s n m q F G :=
  ⟨D.kept h.real (Kept.of_below hb (D.lt h.real)), P.kept h.pr (Kept.of_below hb (P.lt h.pr)), h.below.trans (hb.mono h.below.size), h.sent0, h.fn, h.gn, h.ap, h.up, h.small, h.n0, h.n1⟩
/-- the device was turned by a call of its own -/
theorem Pd.dev (P : PairOk Real PR) (h : Pd Real PR S w0 w d p s n m q F G) {q' : Nat} (hu : RealUpd Real w d s' F w') (hs : Up s' n q') (hq : q' ≤ 900000) : ∃ F', Pd Real PR S w0 w' d p s' n m q' F' G ∧ Only (fun k => F k ∨ G k) w w' ∧ ∀ k, F' k → F k ∨ G k ∨ w.heap.size ≤ k := by
  obtain ⟨F', hr, ho, hf⟩ := hu
  have hlt := P.lt h.pr
  refine ⟨F', ⟨hr, P.kept h.pr (ho.kept hlt (fun k hg hf' => h.ap k hf' hg)), h.below.trans (ho.below h.below.size h.fn), h.sent0, fun k hk => ?_, h.gn, fun k hk hg => ?_, hs, hq, h.n0, h.n1⟩, ho.mono (fun i hi => .inl (.inl hi)), fun k hk => (hf k hk).elim .inl (fun h' => .inr (.inr h'))⟩
  · rcases hf k hk with h' | h'
    · exact h.fn k h'
    · have := h.below.size; omega
  · rcases hf k hk with h' | h'
    · exact h.ap k h' hg
    · have := hlt k hg; omega
/-- .. by a call of the pairs -/
theorem Pd.prs (h : Pd Real PR S w0 w d p s n m q F G) {q' m' : Nat} {Q : (Nat → Prop) → (Nat → Prop) → Prop} (hu : PrUpd Real PR w d p s' n m' F G Q w') (hs : Up s' n q') (hq : q' ≤ 900000) :
    ∃ F' G', Pd Real PR S w0 w' d p s' n m' q' F' G' ∧ Only (fun k => F k ∨ G k) w w' ∧ (∀ k, F' k → F k ∨ G k ∨ w.heap.size ≤ k) ∧ (∀ k, G' k → F k ∨ G k ∨ w.heap.size ≤ k) ∧ Q F' G' := by
  obtain ⟨F', G', hr, hp, ho, hf, hg, hap, hQ⟩ := hu
  have hsz := h.below.size
  have hfg : ∀ k, F k ∨ G k ∨ w.heap.size ≤ k → w0.heap.size ≤ k := fun k hk => by
    rcases hk with h' | h' | h'
    · exact h.fn k h'
    · exact h.gn k h'
    · omega
  exact ⟨F', G', ⟨hr, hp, h.below.trans (ho.below hsz (fun k hk => hfg k (hk.elim .inl (fun h' => .inr (.inl h'))))), h.sent0, fun k hk => hfg k (hf k hk), fun k hk => hfg k (hg k hk), hap, hs, hq, h.n0, h.n1⟩, ho, hf, hg, hQ⟩
/-- bytes that lie elsewhere stay -/
theorem Sl.beside {A : Option Addr} {k c : Nat} {l : List Int} (h : Sl w w.heap.size A k c l) (hn : ∀ ad, A = some ad → 0 < k → ¬ F ad.block ∧ ¬ G ad.block) (ho : Only (fun k => F k ∨ G k) w w') : Sl w' w'.heap.size A k c l := by
  refine ⟨h.len, h.cap, h.max, h.nil, fun ad ha h0 => ?_⟩
  obtain ⟨h1, h2⟩ := h.at_ ad ha h0
  refine ⟨Nat.lt_of_lt_of_le h1 ho.size, fun j x hx => ?_⟩
  have hb := ho.block ad.block h1 (fun hc => hc.elim (hn ad ha h0).1 (hn ad ha h0).2)
  rw [← h2 j x hx]
  unfold World.cell?
  rw [add_block, hb]
end
end Go.Proofs.YtkhdgacjgccnnaaGreatDoor
namespace Go.Proofs.YtkhdgacjgccnnaaGreatDoor
open Go.RowKit

end Go.Proofs.YtkhdgacjgccnnaaGreatDoor
namespace Go.Proofs.YtkhdgacjgccnnaaGreatDoor
open Go.RowKit

section
variable {Real : World → Nat → DSt → (Nat → Prop) → Prop} {PR : World → Nat → Nat → Nat → Nat → (Nat → Prop) → Prop}
/-! each step of a play -/
variable {S : Nat → Addr} {w0 w : World} {d p n m q : Nat} {s : DSt} {F G : Nat → Prop}
/-- what a step leaves -/
def Stepped (Real : World → Nat → DSt → (Nat → Prop) → Prop) (PR : World → Nat → Nat → Nat → Nat → (Nat → Prop) → Prop) (S : Nat → Addr) (w0 w : World) (d p : Nat) (s' : DSt) (n m' q' : Nat) (F G : Nat → Prop) (Q : (Nat → Prop) → (Nat → Prop) → Prop) (w' : World) : Prop :=
  ∃ F' G', Pd Real PR S w0 w' d p s' n m' q' F' G' ∧ Only (fun k => F k ∨ G k) w w' ∧ (∀ k, F' k → F k ∨ G k ∨ w.heap.size ≤ k) ∧ (∀ k, G' k → F k ∨ G k ∨ w.heap.size ≤ k) ∧ Q F' G'
theorem pd_flush (D : DevOk Real) (P : PairOk Real PR) (h : Pd Real PR S w0 w d p s n m q F G) (hq : q + 1 ≤ 900000) :
    Calls Tryz.prog 51 #[.pointer (some ⟨d, 0, none⟩)] w fun e w' => e = .returned .nilIface ∧ Stepped Real PR S w0 w d p (fl s) n m (q + 1) F G (fun _ _ => True) w' := by
  obtain ⟨he, hu⟩ := h.up.flush
  refine (D.flush S d s F w h.sent h.real h.ok).mono ?_
  rintro e w' ⟨⟨v, hv, rfl⟩, hupd⟩
  rw [he] at hv hupd
  obtain ⟨F', h1, h2, h3⟩ := h.dev P hupd hu hq
  exact ⟨by rw [hv.nil], F', G, h1, h2, h3, fun k hk => .inr (.inl hk), trivial⟩
theorem crc_nats {l : List Int} (h : Byt l) : crcOf (nats l) < 4294967296 := crc_lt (nats_bts h)
theorem pd_write (P : PairOk Real PR) (h : Pd Real PR S w0 w d p s n m q F G) {i : Nat} (hi : i < halN n) {A : Option Addr} {c : Nat} {l : List Int} (hl : Sl w w.heap.size A 256 c l) (hA : ∀ ad, A = some ad → ¬ F ad.block ∧ ¬ G ad.block) (hb : Byt l) (hq : q + 2 ≤ 900000) :
    Calls Tryz.prog 90 #[.pointer (some ⟨p, 0, none⟩), .int .i64 (i : Int), .slice A 256 c] w fun e w' => e = .returned (.tuple #[refV i (crcOf (nats l)), .nilIface]) ∧ Stepped Real PR S w0 w d p (pWrite s (halN n) i l) n m (q + 2) F G (fun _ _ => True) w' := by
  have h2 := halN_two (n := n)
  obtain ⟨_, u1⟩ := h.up.write (i := i) (by omega) hl.len hb
  obtain ⟨_, u2⟩ := u1.write (i := i + halN n) (by omega) hl.len hb
  refine (P.write S p d n m i q s F G A c l w0 w h.sent0 h.below h.fn h.real h.pr h.ap h.up h.small h.n0 h.n1 hi hl hA hb).mono ?_
  rintro e w' ⟨rfl, hupd⟩
  exact ⟨rfl, h.prs hupd u2 hq⟩
theorem up_pRead (h : Up s n q) {i z : Nat} (hi : i < halN n) : Up (pRead s (halN n) i z).2.2.1 n (q + 1) := by
  have h2 := halN_two (n := n)
  unfold pRead
  split
  · exact h.more (Nat.le_succ _)
  · split
    · rename_i hr
      obtain ⟨b, hb⟩ := h.at_ (i := i + halN n) (by omega)
      have e := h.read (by omega) hb
      have ho := h.okN.1 b (List.mem_of_getElem? hb)
      have h0 : b.read.1 = 0 := by
        rw [h.right (by omega) hb] at hr
        unfold BSt.right at hr
        simp only [Bool.and_eq_true, beq_iff_eq] at hr
        exact hr.1
      have hl : b.read.2.length = 256 ∧ Byt b.read.2 := by
        unfold BSt.read at h0 ⊢
        split
        · exact ⟨ho.2.2.2, ho.2.2.1⟩
        · split
          · rename_i h3 h4; rw [if_neg h3, if_pos h4] at h0; cases h0
          · exact ⟨ho.2.1, ho.1⟩
      rw [e]
      exact (h.write (by omega) hl.1 hl.2).2
    · exact h.more (Nat.le_succ _)
theorem pd_read (P : PairOk Real PR) (h : Pd Real PR S w0 w d p s n m q F G) {i z : Nat} (hi : i < halN n) (hz : z < 4294967296) (hq : q + 1 ≤ 900000) (hm : m ≤ 1000) :
    Calls Tryz.prog 101 #[.pointer (some ⟨p, 0, none⟩), refV i z] w fun e w' => ∃ A k c v, e = .returned (.tuple #[.slice A k c, v]) ∧ EV S (pRead s (halN n) i z).1 v ∧ ((pRead s (halN n) i z).1 = 0 → Sl w' w'.heap.size A k c (pRead s (halN n) i z).2.1) ∧
      Stepped Real PR S w0 w d p (pRead s (halN n) i z).2.2.1 n (m + (pRead s (halN n) i z).2.2.2) (q + 1) F G (fun F' G' => (pRead s (halN n) i z).1 = 0 → ∀ ad, A = some ad → w.heap.size ≤ ad.block ∧ ¬ F' ad.block ∧ ¬ G' ad.block) w' := by
  refine (P.read S p d n m i z q s F G w h.sent h.real h.pr h.ap h.up h.small hm h.n0 h.n1 hi hz).mono ?_
  rintro e w' ⟨A, k, c, v, he, hv, hl, hupd⟩
  exact ⟨A, k, c, v, he, hv, hl, h.prs hupd (up_pRead h.up hi) hq⟩
end
end Go.Proofs.YtkhdgacjgccnnaaGreatDoor
namespace Go.Proofs.YtkhdgacjgccnnaaGreatDoor
open Go.RowKit

/-- something that lies beside the device and the pairs, in blocks B, and stays while these do -/
structure Kd where
  C : World → Prop
  B : Nat → Prop
  keeps : ∀ {w w' : World}, C w → (∀ g, B g → g < w.heap.size) → Kept B w w' → C w'
/-- it is there, and beside these blocks -/
def Kd.P (K : Kd) (w : World) (F G : Nat → Prop) : Prop := K.C w ∧ ∀ g, K.B g → g < w.heap.size ∧ ¬ F g ∧ ¬ G g
/-- a boxed ref -/
def Kd.ref (g : Nat) (i z : Int) : Kd where
  C w := Blk w g 91 #[.int .i64 i, .int .u32 z]
  B k := k = g
  keeps h _ hk := h.same (hk.1 g rfl)
/-- bytes -/
def Kd.byt (A : Option Addr) (k c : Nat) (l : List Int) : Kd where
  C w := Sl w w.heap.size A k c l
  B g := ∃ ad, A = some ad ∧ 0 < k ∧ ad.block = g
  keeps := by
    intro w w' h _ hk
    refine ⟨h.len, h.cap, h.max, h.nil, fun ad ha h0 => ?_⟩
    obtain ⟨h1, h2⟩ := h.at_ ad ha h0
    refine ⟨Nat.lt_of_lt_of_le h1 hk.2, fun j x hx => ?_⟩
    rw [← h2 j x hx]
    unfold World.cell?
    rw [add_block, hk.1 ad.block ⟨ad, ha, h0, rfl⟩]
theorem Kd.kept {K : Kd} {w w' : World} {F G F' G' : Nat → Prop} (h : K.P w F G) (ho : Only (fun k => F k ∨ G k) w w') (hn : ∀ g, g < w.heap.size → ¬ F g → ¬ G g → ¬ F' g ∧ ¬ G' g) : K.P w' F' G' := by
  refine ⟨K.keeps h.1 (fun g hg => (h.2 g hg).1) (ho.kept (fun g hg => (h.2 g hg).1) (fun g hg hc => hc.elim (h.2 g hg).2.1 (h.2 g hg).2.2)), fun g hg => ?_⟩
  obtain ⟨h1, h2, h3⟩ := h.2 g hg
  exact ⟨Nat.lt_of_lt_of_le h1 ho.size, hn g h1 h2 h3⟩
def Pk (Real : World → Nat → DSt → (Nat → Prop) → Prop) (PR : World → Nat → Nat → Nat → Nat → (Nat → Prop) → Prop) (S : Nat → Addr) (w0 w : World) (d p : Nat) (s : DSt) (n m q : Nat) (ks : List Kd) : Prop :=
  ∃ F G, Pd Real PR S w0 w d p s n m q F G ∧ ∀ K, K ∈ ks → K.P w F G
section
variable {Real : World → Nat → DSt → (Nat → Prop) → Prop} {PR : World → Nat → Nat → Nat → Nat → (Nat → Prop) → Prop} {S : Nat → Addr} {w0 w w' : World} {d p n m q m' q' : Nat} {s s' : DSt} {ks : List Kd}
theorem Pk.below (h : Pk Real PR S w0 w d p s n m q ks) : Below w0.heap.size w0 w := by obtain ⟨F, G, h, _⟩ := h; exact h.below
theorem Pk.sent (h : Pk Real PR S w0 w d p s n m q ks) : Sent5 w S := by obtain ⟨F, G, h, _⟩ := h; exact h.sent
theorem Pk.up (h : Pk Real PR S w0 w d p s n m q ks) : Up s n q := by obtain ⟨F, G, h, _⟩ := h; exact h.up
theorem Pk.less {ls : List Kd} (h : Pk Real PR S w0 w d p s n m q ks) (hl : ∀ K, K ∈ ls → K ∈ ks) : Pk Real PR S w0 w d p s n m q ls := by
  obtain ⟨F, G, h, hk⟩ := h; exact ⟨F, G, h, fun K hK => hk K (hl K hK)⟩
theorem Pk.step' {F G : Nat → Prop} {Q : (Nat → Prop) → (Nat → Prop) → Prop} (hk : ∀ K, K ∈ ks → K.P w F G) (h : Stepped Real PR S w0 w d p s' n m' q' F G Q w') : ∃ F' G', Pd Real PR S w0 w' d p s' n m' q' F' G' ∧ (∀ K, K ∈ ks → K.P w' F' G') ∧ Q F' G' := by
  obtain ⟨F', G', h1, ho, hf, hg, hQ⟩ := h
  refine ⟨F', G', h1, fun K hK => Kd.kept (hk K hK) ho (fun g hlt h2 h3 => ⟨fun h4 => ?_, fun h4 => ?_⟩), hQ⟩
  · rcases hf g h4 with h5 | h5 | h5
    · exact h2 h5
    · exact h3 h5
    · omega
  · rcases hg g h4 with h5 | h5 | h5
    · exact h2 h5
    · exact h3 h5
    · omega
theorem Pk.step {F G : Nat → Prop} {Q : (Nat → Prop) → (Nat → Prop) → Prop} (hk : ∀ K, K ∈ ks → K.P w F G) (h : Stepped Real PR S w0 w d p s' n m' q' F G Q w') : Pk Real PR S w0 w' d p s' n m' q' ks := by
  obtain ⟨F', G', h1, h2, _⟩ := Pk.step' hk h
  exact ⟨F', G', h1, h2⟩
theorem Pk.on (D : DevOk Real) (P : PairOk Real PR) (h : Pk Real PR S w0 w d p s n m q ks) (hb : Below w.heap.size w w') : Pk Real PR S w0 w' d p s n m q ks := by
  obtain ⟨F, G, h, hk⟩ := h
  exact ⟨F, G, h.on D P hb, fun K hK => Kd.kept (hk K hK) (Only.of_below hb) (fun g _ h2 h3 => ⟨h2, h3⟩)⟩
theorem Pk.box (D : DevOk Real) (P : PairOk Real PR) (h : Pk Real PR S w0 w d p s n m q ks) (i z : Int) : Pk Real PR S w0 (w.alloc (.cells #[.int .i64 i, .int .u32 z] 91)) d p s n m q (Kd.ref w.heap.size i z :: ks) := by
  obtain ⟨F, G, h, hk⟩ := h
  have hb : Below w.heap.size w (w.alloc (.cells #[.int .i64 i, .int .u32 z] 91)) := (Below.refl _ _).alloc (Nat.le_refl _) _
  refine ⟨F, G, h.on D P hb, fun K hK => ?_⟩
  rcases List.mem_cons.1 hK with rfl | hK
  · exact ⟨Blk.new w _ _, fun g hg => by
      obtain rfl : g = w.heap.size := hg
      exact ⟨by simp, fun hf => Nat.lt_irrefl _ (D.lt h.real _ hf), fun hf => Nat.lt_irrefl _ (P.lt h.pr _ hf)⟩⟩
  · exact Kd.kept (hk K hK) (Only.of_below hb) (fun g _ h2 h3 => ⟨h2, h3⟩)
theorem Pk.cells {g : Nat} {i z : Int} (h : Pk Real PR S w0 w d p s n m q ks) (hK : Kd.ref g i z ∈ ks) : w.cell? ⟨g, 0, none⟩ = some (.int .i64 i) ∧ w.cell? ⟨g, 1, none⟩ = some (.int .u32 z) := by
  obtain ⟨F, G, h, hk⟩ := h
  have h1 : Blk w g 91 #[.int .i64 i, .int .u32 z] := (hk _ hK).1
  exact ⟨h1.cell 0, h1.cell 1⟩
theorem Pk.bytes {A : Option Addr} {k c : Nat} {l : List Int} (h : Pk Real PR S w0 w d p s n m q ks) (hK : Kd.byt A k c l ∈ ks) : Sl w w.heap.size A k c l := by
  obtain ⟨F, G, h, hk⟩ := h
  exact (hk _ hK).1
/-- bytes made since -/
theorem Pk.more (D : DevOk Real) (P : PairOk Real PR) {A : Option Addr} {k c : Nat} {l : List Int} (h : Pk Real PR S w0 w d p s n m q ks) (hb : Below w.heap.size w w') (hl : Sl w' w'.heap.size A k c l) (hn : ∀ ad, A = some ad → w.heap.size ≤ ad.block) : Pk Real PR S w0 w' d p s n m q (Kd.byt A k c l :: ks) := by
  obtain ⟨F, G, h, hk⟩ := h
  refine ⟨F, G, h.on D P hb, fun K hK => ?_⟩
  rcases List.mem_cons.1 hK with rfl | hK
  · refine ⟨hl, fun g hg => ?_⟩
    obtain ⟨ad, ha, h0, rfl⟩ := hg
    exact ⟨(hl.at_ ad ha h0).1, fun hf => by have := D.lt h.real _ hf; have := hn ad ha; omega, fun hf => by have := P.lt h.pr _ hf; have := hn ad ha; omega⟩
  · exact Kd.kept (hk K hK) (Only.of_below hb) (fun g _ h2 h3 => ⟨h2, h3⟩)

end
end Go.Proofs.YtkhdgacjgccnnaaGreatDoor
namespace Go.Proofs.YtkhdgacjgccnnaaGreatDoor
open Go.RowKit

/-- blocks i and j are a and c -/
structure At (s : DSt) (i j : Nat) (a c : BSt) : Prop where
  a : s.blks[i]? = some a
  c : s.blks[j]? = some c
/-- written and flushed -/
def cl (l : List Int) (e : Bool) : BSt := ⟨l, l, false, false, false, e⟩
theorem flush_write (b : BSt) (l : List Int) : (b.write l).flush = cl l b.ever := rfl
theorem read_write (b : BSt) (l : List Int) : (b.write l).read = (0, l) := rfl
theorem right_of {b : BSt} {l : List Int} (h : b.read = (0, l)) : b.right (crcOf (nats l)) = true := by unfold BSt.right; rw [h]; simp
section
variable {s : DSt} {n q i j H z : Nat} {a c : BSt} {l : List Int}
theorem At.new (hi : i < n) (hj : j < n) : At (DSt.new n) i j blank blank := ⟨new_at hi, new_at hj⟩
theorem At.write (h : At s i (i + H) a c) (hH : 0 < H) (l : List Int) : At (pWrite s H i l) i (i + H) (a.write l) (c.write l) := by
  unfold pWrite
  exact ⟨(put_else (by omega)).trans (put_at h.a), put_at ((put_else (by omega)).trans h.c)⟩
theorem At.fl (h : At s i j a c) : At (fl s) i j a.flush c.flush := ⟨fl_at h.a, fl_at h.c⟩
theorem At.put1 (h : At s i j a c) (hij : i ≠ j) (l : List Int) : At (s.put i l) i j (a.write l) c := ⟨put_at h.a, (put_else hij).trans h.c⟩
theorem pRead_one (u : Up s n q) (hi : i < n) (h : At s i (i + H) a c) (ha : a.right z = true) : pRead s H i z = (0, a.read.2, s, 0) := by
  unfold pRead
  rw [u.right hi h.a, if_pos ha, u.read hi h.a]
theorem pRead_two (u : Up s n q) (hi : i + H < n) (h : At s i (i + H) a c) (ha : a.right z = false) (hc : c.right z = true) : pRead s H i z = (0, c.read.2, s.put i c.read.2, 1) := by
  unfold pRead
  rw [u.right (by omega) h.a, if_neg (by rw [ha]; decide), u.right hi h.c, if_pos hc, u.read hi h.c]
end
section
variable {Real : World → Nat → DSt → (Nat → Prop) → Prop} {PR : World → Nat → Nat → Nat → Nat → (Nat → Prop) → Prop}
end
end Go.Proofs.YtkhdgacjgccnnaaGreatDoor
