/- What package pair has to keep, call by call, over a device in memory; the two carried along a walk. -/
import Derived.Test.YthgdofcamjkdpaaDoorGPairSpec
import Derived.Test.YthgdofcamjkdpaaDoorGCrcA
import Derived.Test.YthgdofcamjkdpaaDoorGGeoB
import Derived.Test.YthgdofcamjkdpaaDoorGNumber
namespace Go.Proofs.YthgdofcamjkdpaaDoor
open Go.RowKit

/-- what a call of the pairs leaves: of the device and of the pairs; only their blocks have turned, and what is new -/
def PrUpd (Real : World → Nat → DSt → (Nat → Prop) → Prop) (PR : World → Nat → Nat → Nat → Nat → (Nat → Prop) → Prop) (w : World) (d p : Nat) (s' : DSt) (n m' : Nat) (F G : Nat → Prop) (Q : (Nat → Prop) → (Nat → Prop) → Prop) (w' : World) : Prop :=
  ∃ F' G', Real w' d s' F' ∧ PR w' p d n m' G' ∧ Only (fun k => F k ∨ G k) w w' ∧ (∀ k, F' k → F k ∨ G k ∨ w.heap.size ≤ k) ∧ (∀ k, G' k → F k ∨ G k ∨ w.heap.size ≤ k) ∧ (∀ k, F' k → ¬ G' k) ∧ Q F' G'
abbrev refV (i z : Nat) : Value := .agg #[.int .i64 (i : Int), .int .u32 (z : Int)]
/-- the pairs' calls, of whatever they are in memory: 'PR w p d n m G': at p, over the device at d of n blocks; m were mended; in blocks G -/
structure PairOk (Real : World → Nat → DSt → (Nat → Prop) → Prop) (PR : World → Nat → Nat → Nat → Nat → (Nat → Prop) → Prop) : Prop where
  kept : ∀ {w w' : World} {p d n m : Nat} {G : Nat → Prop}, PR w p d n m G → Kept G w w' → PR w' p d n m G
  lt : ∀ {w : World} {p d n m : Nat} {G : Nat → Prop}, PR w p d n m G → ∀ k, G k → k < w.heap.size
  open_ : ∀ (S : Nat → Addr) (d : Nat) (s : DSt) (F : Nat → Prop) (w : World), Sent5 w S → Real w d s F → s.ok → 300 ≤ s.blks.length → Calls Tryd.prog 28 #[.pointer (some ⟨d, 0, none⟩)] w fun e w' => ∃ p G, e = .returned (.tuple #[.pointer (some ⟨p, 0, none⟩), .nilIface]) ∧ PR w' p d s.blks.length 0 G ∧ Below w.heap.size w w' ∧ ∀ k, G k → w.heap.size ≤ k
  write : ∀ (S : Nat → Addr) (p d n m i q : Nat) (s : DSt) (F G : Nat → Prop) (A : Option Addr) (c : Nat) (l : List Int) (w0 w : World), Sent5 w0 S → Below w0.heap.size w0 w → (∀ k, F k → w0.heap.size ≤ k) → Real w d s F → PR w p d n m G → (∀ k, F k → ¬ G k) → Up s n q → q ≤ 1000 → 300 ≤ n → n ≤ 6000 → i < halN n → Sl w w.heap.size A 256 c l → (∀ ad, A = some ad → ¬ F ad.block ∧ ¬ G ad.block) → Byt l →
    Calls Tryd.prog 29 #[.pointer (some ⟨p, 0, none⟩), .int .i64 (i : Int), .slice A 256 c] w fun e w' => e = .returned (.tuple #[refV i (crcOf (nats l)), .nilIface]) ∧ PrUpd Real PR w d p (pWrite s (halN n) i l) n m F G (fun _ _ => True) w'
  writeBad : ∀ (S : Nat → Addr) (p d n m q : Nat) (i : Int) (s : DSt) (F G : Nat → Prop) (A : Option Addr) (c : Nat) (l : List Int) (w : World), Sent5 w S → Real w d s F → PR w p d n m G → (∀ k, F k → ¬ G k) → Up s n q → q ≤ 1000 → 300 ≤ n → n ≤ 6000 → (i < 0 ∨ (halN n : Int) ≤ i) → Sl w w.heap.size A 256 c l →
    Calls Tryd.prog 29 #[.pointer (some ⟨p, 0, none⟩), .int .i64 i, .slice A 256 c] w fun e w' => (∃ a z v, EV S 103 v ∧ e = .returned (.tuple #[.agg #[.int .i64 a, .int .u32 z], v])) ∧ PrUpd Real PR w d p s n m F G (fun _ _ => True) w'

/-- behind w0: the device at d is s, in blocks F; the pairs at p are over it, in blocks G; nothing is in both; both are new since w0 -/
structure Pd (Real : World → Nat → DSt → (Nat → Prop) → Prop) (PR : World → Nat → Nat → Nat → Nat → (Nat → Prop) → Prop) (S : Nat → Addr) (w0 w : World) (d p : Nat) (s : DSt) (n m q : Nat) (F G : Nat → Prop) : Prop where
  real : Real w d s F
  pr : PR w p d n m G
  below : Below w0.heap.size w0 w
  sent0 : Sent5 w0 S
  fn : ∀ k, F k → w0.heap.size ≤ k
  gn : ∀ k, G k → w0.heap.size ≤ k
  ap : ∀ k, F k → ¬ G k
  up : Up s n q
  small : q ≤ 1000
  n0 : 300 ≤ n
  n1 : n ≤ 6000
section
variable {Real : World → Nat → DSt → (Nat → Prop) → Prop} {PR : World → Nat → Nat → Nat → Nat → (Nat → Prop) → Prop} {S : Nat → Addr} {w0 w w' : World} {d p n m q : Nat} {s s' : DSt} {F G : Nat → Prop}
theorem Pd.sent (h : Pd Real PR S w0 w d p s n m q F G) : Sent5 w S := h.sent0.on h.below
theorem Pd.ok (h : Pd Real PR S w0 w d p s n m q F G) : s.ok := h.up.ok (by have := h.small; omega)
theorem Pd.on (D : DevOk Real) (P : PairOk Real PR) (h : Pd Real PR S w0 w d p s n m q F G) (hb : Below w.heap.size w w') : Pd Real PR S w0 w' d p s n m q F G :=
  ⟨D.kept h.real (Kept.of_below hb (D.lt h.real)), P.kept h.pr (Kept.of_below hb (P.lt h.pr)), h.below.trans (hb.mono h.below.size), h.sent0, h.fn, h.gn, h.ap, h.up, h.small, h.n0, h.n1⟩
/-- the device was turned by a call of its own -/
theorem Pd.dev (P : PairOk Real PR) (h : Pd Real PR S w0 w d p s n m q F G) {q' : Nat} (hu : RealUpd Real w d s' F w') (hs : Up s' n q') (hq : q' ≤ 1000) : ∃ F', Pd Real PR S w0 w' d p s' n m q' F' G ∧ Only (fun k => F k ∨ G k) w w' ∧ ∀ k, F' k → F k ∨ G k ∨ w.heap.size ≤ k := by
  obtain ⟨F', hr, ho, hf⟩ := hu
  have hlt := P.lt h.pr
  refine ⟨F', ⟨hr, P.kept h.pr (ho.kept hlt (fun k hg hf' => h.ap k hf' hg)), h.below.trans (ho.below h.below.size h.fn), h.sent0, fun k hk => ?_, h.gn, fun k hk hg => ?_, hs, hq, h.n0, h.n1⟩, ho.mono (fun i hi => .inl (.inl hi)), fun k hk => (hf k hk).elim .inl (fun h' => .inr (.inr h'))⟩
  · rcases hf k hk with h' | h'
    · exact h.fn k h'
    · have := h.below.size; omega
  · rcases hf k hk with h' | h'
    · exact h.ap k h' hg
    · have := hlt k hg; omega
/-- .. by a call of the pairs -/
theorem Pd.prs (h : Pd Real PR S w0 w d p s n m q F G) {q' m' : Nat} {Q : (Nat → Prop) → (Nat → Prop) → Prop} (hu : PrUpd Real PR w d p s' n m' F G Q w') (hs : Up s' n q') (hq : q' ≤ 1000) :
    ∃ F' G', Pd Real PR S w0 w' d p s' n m' q' F' G' ∧ Only (fun k => F k ∨ G k) w w' ∧ (∀ k, F' k → F k ∨ G k ∨ w.heap.size ≤ k) ∧ (∀ k, G' k → F k ∨ G k ∨ w.heap.size ≤ k) ∧ Q F' G' := by
  obtain ⟨F', G', hr, hp, ho, hf, hg, hap, hQ⟩ := hu
  have hsz := h.below.size
  have hfg : ∀ k, F k ∨ G k ∨ w.heap.size ≤ k → w0.heap.size ≤ k := fun k hk => by
    rcases hk with h' | h' | h'
    · exact h.fn k h'
    · exact h.gn k h'
    · omega
  exact ⟨F', G', ⟨hr, hp, h.below.trans (ho.below hsz (fun k hk => hfg k (hk.elim .inl (fun h' => .inr (.inl h'))))), h.sent0, fun k hk => hfg k (hf k hk), fun k hk => hfg k (hg k hk), hap, hs, hq, h.n0, h.n1⟩, ho, hf, hg, hQ⟩
/-- bytes that lie elsewhere stay -/
theorem Sl.beside {A : Option Addr} {k c : Nat} {l : List Int} (h : Sl w w.heap.size A k c l) (hn : ∀ ad, A = some ad → 0 < k → ¬ F ad.block ∧ ¬ G ad.block) (ho : Only (fun k => F k ∨ G k) w w') : Sl w' w'.heap.size A k c l := by
  refine ⟨h.len, h.cap, h.max, h.nil, fun ad ha h0 => ?_⟩
  obtain ⟨h1, h2⟩ := h.at_ ad ha h0
  refine ⟨Nat.lt_of_lt_of_le h1 ho.size, fun j x hx => ?_⟩
  have hb := ho.block ad.block h1 (fun hc => hc.elim (hn ad ha h0).1 (hn ad ha h0).2)
  rw [← h2 j x hx]
  unfold World.cell?
  rw [add_block, hb]
end
end Go.Proofs.YthgdofcamjkdpaaDoor
