/- The play: a device and the document's device, side by side, step by step. -/
import Derived.Test.YtndbanfkiaockaaDoorGDevIf
import Derived.Test.YtndbanfkiaockaaDoorGRefB
namespace Go.Proofs.YtndbanfkiaockaaDoor
open Go.RowKit

/-- behind w0: the device at p is s, in blocks F; the document's device at x is t, in blocks G; nothing is in both; both are new since w0 -/
structure Pl (Real : World → Nat → DSt → (Nat → Prop) → Prop) (S : Nat → Addr) (w0 w : World) (p x : Nat) (s t : DSt) (F G : Nat → Prop) : Prop where
  real : Real w p s F
  ref : RefDev w x t G
  below : Below w0.heap.size w0 w
  sent0 : Sent w0 S
  fn : ∀ k, F k → w0.heap.size ≤ k
  gn : ∀ k, G k → w0.heap.size ≤ k
  ap : ∀ k, F k → ¬ G k
/-- .. and since wr, where they lay in F0 and G0, only these have turned, and what is new -/
structure Rn (Real : World → Nat → DSt → (Nat → Prop) → Prop) (S : Nat → Addr) (w0 wr w : World) (F0 G0 : Nat → Prop) (p x : Nat) (s t : DSt) (F G : Nat → Prop) : Prop where
  pl : Pl Real S w0 w p x s t F G
  only : Only (fun k => F0 k ∨ G0 k) wr w
  f0 : ∀ k, F k → F0 k ∨ wr.heap.size ≤ k
  g0 : ∀ k, G k → G0 k ∨ wr.heap.size ≤ k
/-- bytes that lie beside both -/
def Bt (w : World) (F G : Nat → Prop) (A : Option Addr) (n c : Nat) (l : List Int) : Prop := Sl w w.heap.size A n c l ∧ ∀ ad, A = some ad → 0 < n → ¬ F ad.block ∧ ¬ G ad.block
section
variable {Real : World → Nat → DSt → (Nat → Prop) → Prop} {S : Nat → Addr} {w0 wr w w' : World} {F0 G0 F G : Nat → Prop} {p x : Nat} {s t s' t' : DSt}
theorem Pl.sent (h : Pl Real S w0 w p x s t F G) : Sent w S := h.sent0.on h.below
theorem Pl.on (D : DevOk Real) (h : Pl Real S w0 w p x s t F G) (hb : Below w.heap.size w w') : Pl Real S w0 w' p x s t F G :=
  ⟨D.kept h.real (Kept.of_below hb (D.lt h.real)), h.ref.kept (Kept.of_below hb h.ref.lt), h.below.trans (hb.mono h.below.size), h.sent0, h.fn, h.gn, h.ap⟩
theorem Pl.d (h : Pl Real S w0 w p x s t F G) (hu : RealUpd Real w p s' F w') : ∃ F', Pl Real S w0 w' p x s' t F' G ∧ Only F w w' ∧ ∀ k, F' k → F k ∨ w.heap.size ≤ k := by
  obtain ⟨F', hr, ho, hf⟩ := hu
  have hlt := h.ref.lt
  refine ⟨F', ⟨hr, h.ref.kept (ho.kept hlt (fun k hg hf' => h.ap k hf' hg)), h.below.trans (ho.below h.below.size h.fn), h.sent0, fun k hk => ?_, h.gn, fun k hk hg => ?_⟩, ho, hf⟩
  · rcases hf k hk with h' | h'
    · exact h.fn k h'
    · have := h.below.size; omega
  · rcases hf k hk with h' | h'
    · exact h.ap k h' hg
    · have := hlt k hg; omega
theorem Pl.r (D : DevOk Real) (h : Pl Real S w0 w p x s t F G) (hu : RefUpd w x t' G w') : ∃ G', Pl Real S w0 w' p x s t' F G' ∧ Only G w w' ∧ ∀ k, G' k → G k ∨ w.heap.size ≤ k := by
  obtain ⟨G', hr, ho, hf⟩ := hu
  have hlt := D.lt h.real
  refine ⟨G', ⟨D.kept h.real (ho.kept hlt (fun k hg hf' => h.ap k hg hf')), hr, h.below.trans (ho.below h.below.size h.gn), h.sent0, h.fn, fun k hk => ?_, fun k hk hg => ?_⟩, ho, hf⟩
  · rcases hf k hk with h' | h'
    · exact h.gn k h'
    · have := h.below.size; omega
  · rcases hf k hg with h' | h'
    · exact h.ap k hk h'
    · have := hlt k hk; omega
theorem Rn.start (h : Pl Real S w0 w p x s t F G) : Rn Real S w0 w w F G p x s t F G := ⟨h, Only.refl _ _, fun _ h => .inl h, fun _ h => .inl h⟩
theorem Rn.on (D : DevOk Real) (h : Rn Real S w0 wr w F0 G0 p x s t F G) (hb : Below w.heap.size w w') : Rn Real S w0 wr w' F0 G0 p x s t F G :=
  ⟨h.pl.on D hb, h.only.then_below hb, h.f0, h.g0⟩
theorem Rn.d (h : Rn Real S w0 wr w F0 G0 p x s t F G) (hu : RealUpd Real w p s' F w') : ∃ F', Rn Real S w0 wr w' F0 G0 p x s' t F' G := by
  obtain ⟨F', hp, ho, hf⟩ := h.pl.d hu
  have hs := h.only.size
  refine ⟨F', hp, h.only.trans ho (fun k hk => ?_), fun k hk => ?_, h.g0⟩
  · rcases h.f0 k hk with h' | h'
    · exact .inl (.inl h')
    · exact .inr h'
  · rcases hf k hk with h' | h'
    · exact h.f0 k h'
    · exact .inr (by omega)
theorem Rn.r (D : DevOk Real) (h : Rn Real S w0 wr w F0 G0 p x s t F G) (hu : RefUpd w x t' G w') : ∃ G', Rn Real S w0 wr w' F0 G0 p x s t' F G' := by
  obtain ⟨G', hp, ho, hf⟩ := h.pl.r D hu
  have hs := h.only.size
  refine ⟨G', hp, h.only.trans ho (fun k hk => ?_), h.f0, fun k hk => ?_⟩
  · rcases h.g0 k hk with h' | h'
    · exact .inl (.inr h')
    · exact .inr h'
  · rcases hf k hk with h' | h'
    · exact h.g0 k h'
    · exact .inr (by omega)
theorem Rn.cell (h : Rn Real S w0 wr w F0 G0 p x s t F G) {a : Addr} {v : Value} (hc : wr.cell? a = some v) (hf : ¬ F0 a.block) (hg : ¬ G0 a.block) : w.cell? a = some v :=
  (World.cell?_of_block (h.only.block _ (World.block_lt_of_cell? wr _ hc) (fun hk => hk.elim hf hg))).trans hc
theorem Rn.sl (h : Rn Real S w0 wr w F0 G0 p x s t F G) {A : Option Addr} {n c : Nat} {l : List Int} (hl : Bt wr F0 G0 A n c l) : Bt w F G A n c l := by
  refine ⟨⟨hl.1.len, hl.1.cap, hl.1.max, hl.1.nil, fun ad ha hn => ⟨Nat.lt_of_lt_of_le (hl.1.at_ ad ha hn).1 h.only.size, fun j y hy => ?_⟩⟩, fun ad ha hn => ?_⟩
  · exact h.cell ((hl.1.at_ ad ha hn).2 j y hy) (by rw [add_block]; exact (hl.2 ad ha hn).1) (by rw [add_block]; exact (hl.2 ad ha hn).2)
  · have hlt := (hl.1.at_ ad ha hn).1
    exact ⟨fun hk => by rcases h.f0 _ hk with h' | h'; · exact (hl.2 ad ha hn).1 h'
                        · omega, fun hk => by rcases h.g0 _ hk with h' | h'; · exact (hl.2 ad ha hn).2 h'
                                              · omega⟩
/-- what came in lies beside both -/
theorem Pl.bytes (h : Pl Real S w0 w p x s t F G) {A : Option Addr} {n c : Nat} {l : List Int} (hl : Sl w0 w0.heap.size A n c l) : Bt w F G A n c l :=
  ⟨(hl.below h.below).more h.below.size, fun ad ha hn => by
    have hlt := (hl.at_ ad ha hn).1
    exact ⟨fun hk => by have := h.fn _ hk; omega, fun hk => by have := h.gn _ hk; omega⟩⟩
theorem Pl.picks (h : Pl Real S w0 w p x s t F G) {A : Option Addr} {n c : Nat} {l : List Int} (hl : Sn w0 w0.heap.size A n c l) : Sn w w.heap.size A n c l ∧ ∀ ad, A = some ad → 0 < n → ¬ F ad.block ∧ ¬ G ad.block :=
  ⟨(hl.below h.below).more h.below.size, fun ad ha hn => by
    have hlt := (hl.at_ ad ha hn).1
    exact ⟨fun hk => by have := h.fn _ hk; omega, fun hk => by have := h.gn _ hk; omega⟩⟩
theorem Bt.on {A : Option Addr} {n c : Nat} {l : List Int} (h : Bt w F G A n c l) (hb : Below w.heap.size w w') : Bt w' F G A n c l := ⟨(h.1.below hb).more hb.size, h.2⟩

/-! ### The calls -/
theorem rn_whole (D : DevOk Real) (b : Nat) (h : Rn Real S w0 wr w F0 G0 p x s t F G) : Calls Tryd.prog 15 #[.int .u8 (b : Int)] w fun e w' => ∃ A c, e = .returned (.slice A 256 c) ∧ Rn Real S w0 wr w' F0 G0 p x s t F G ∧ Bt w' F G A 256 c (full b) :=
  (whole_any b w).mono fun e w' hm => by
    obtain ⟨A, c, he, hs, hb, hn, _⟩ := hm.get
    exact ⟨A, c, he, h.on D hb, hs, fun ad ha _ => ⟨fun hF => by have := D.lt h.pl.real _ hF; have := hn ad ha; omega, fun hG => by have := h.pl.ref.lt _ hG; have := hn ad ha; omega⟩⟩
theorem rn_write (D : DevOk Real) {m n c : Nat} {i : Int} {A : Option Addr} {l : List Int} (h : Rn Real S w0 wr w F0 G0 p x s t F G) (hok : s.okN m) (hm : m ≤ 1000) (ha : Bt w F G A n c l) (hy : Byt l) (hn : n ≤ 1000) :
    Calls Tryd.prog 14 #[.pointer (some ⟨p, 0, none⟩), .int .i64 i, .slice A n c] w fun e w' => ∃ v, e = .returned v ∧ EV S (s.write i l).1 v ∧ ∃ F', Rn Real S w0 wr w' F0 G0 p x (s.write i l).2 t F' G :=
  (D.write S p s F i A n c l w h.pl.sent.five h.pl.real (hok.ok (by omega)) ha.1 (fun ad ha' hn' => (ha.2 ad ha' hn').1) hy hn).mono fun _ _ ⟨⟨v, hv, he⟩, hu⟩ => ⟨v, he, hv, h.d hu⟩
theorem rn_writeR (D : DevOk Real) {m n c : Nat} {i : Int} {A : Option Addr} {l : List Int} (h : Rn Real S w0 wr w F0 G0 p x s t F G) (hok : t.okN m) (hm : m ≤ 1000) (ha : Bt w F G A n c l) (hn : n ≤ 1000) :
    Calls Tryd.prog 16 #[.pointer (some ⟨x, 0, none⟩), .int .i64 i, .slice A n c] w fun e w' => e = .returned (.int .i64 (t.write i l).1) ∧ ∃ G', Rn Real S w0 wr w' F0 G0 p x s (t.write i l).2 F G' :=
  (refWrite_any x t G i A n c l w h.pl.ref (hok.ok (by omega)) ha.1 (fun ad ha' hn' => (ha.2 ad ha' hn').2) (by omega)).mono fun _ _ ⟨he, hu⟩ => ⟨he, h.r D hu⟩
theorem rn_flush (D : DevOk Real) {m : Nat} (h : Rn Real S w0 wr w F0 G0 p x s t F G) (hok : s.okN m) (hm : m ≤ 1000) :
    Calls Tryd.prog 17 #[.pointer (some ⟨p, 0, none⟩)] w fun e w' => ∃ v, e = .returned v ∧ EV S s.flush.1 v ∧ ∃ F', Rn Real S w0 wr w' F0 G0 p x s.flush.2 t F' G :=
  (D.flush S p s F w h.pl.sent.five h.pl.real (hok.ok (by omega))).mono fun _ _ ⟨⟨v, hv, he⟩, hu⟩ => ⟨v, he, hv, h.d hu⟩
theorem rn_flushR (D : DevOk Real) {m : Nat} (h : Rn Real S w0 wr w F0 G0 p x s t F G) (hok : t.okN m) (hm : m ≤ 1000) :
    Calls Tryd.prog 18 #[.pointer (some ⟨x, 0, none⟩)] w fun e w' => e = .returned (.int .i64 t.flush.1) ∧ ∃ G', Rn Real S w0 wr w' F0 G0 p x s t.flush.2 F G' :=
  (refFlush_any x t G w h.pl.ref (hok.ok (by omega))).mono fun _ _ ⟨he, hu⟩ => ⟨he, h.r D hu⟩
theorem rn_arm (D : DevOk Real) {m : Nat} {n : Int} (h : Rn Real S w0 wr w F0 G0 p x s t F G) (hok : s.okN m) (hm : m ≤ 1000) :
    Calls Tryd.prog 19 #[.pointer (some ⟨p, 0, none⟩), .int .i64 n] w fun e w' => e = .returned (.tuple #[]) ∧ ∃ F', Rn Real S w0 wr w' F0 G0 p x (s.setArm n) t F' G :=
  (D.arm p s F n w h.pl.real (hok.ok (by omega))).mono fun _ _ ⟨he, hu⟩ => ⟨he, h.d hu⟩
theorem rn_armR (D : DevOk Real) {n : Int} (h : Rn Real S w0 wr w F0 G0 p x s t F G) :
    Calls Tryd.prog 20 #[.pointer (some ⟨x, 0, none⟩), .int .i64 n] w fun e w' => e = .returned (.tuple #[]) ∧ ∃ G', Rn Real S w0 wr w' F0 G0 p x s (t.setArm n) F G' :=
  (refSetArm_any x t G n w h.pl.ref).mono fun _ _ ⟨he, hu⟩ => ⟨he, h.r D hu⟩
theorem rn_crash (D : DevOk Real) {m n c : Nat} {A : Option Addr} {picks : List Int} (h : Rn Real S w0 wr w F0 G0 p x s t F G) (hok : s.okN m) (hm : m ≤ 1000) (hp : Sn w0 w0.heap.size A n c picks) (hn : n ≤ 1000) :
    Calls Tryd.prog 21 #[.pointer (some ⟨p, 0, none⟩), .slice A n c] w fun e w' => e = .returned (.tuple #[]) ∧ ∃ F', Rn Real S w0 wr w' F0 G0 p x (s.crash picks) t F' G := by
  obtain ⟨h1, h2⟩ := h.pl.picks hp
  exact (D.crash p s F A n c picks w h.pl.real (hok.ok (by omega)) h1 (fun ad ha hn' => (h2 ad ha hn').1) hn).mono fun _ _ ⟨he, hu⟩ => ⟨he, h.d hu⟩
theorem rn_crashR (D : DevOk Real) {m n c : Nat} {A : Option Addr} {picks : List Int} (h : Rn Real S w0 wr w F0 G0 p x s t F G) (hok : t.okN m) (hm : m ≤ 1000) (hp : Sn w0 w0.heap.size A n c picks) (hn : n ≤ 1000) :
    Calls Tryd.prog 22 #[.pointer (some ⟨x, 0, none⟩), .slice A n c] w fun e w' => e = .returned (.tuple #[]) ∧ ∃ G', Rn Real S w0 wr w' F0 G0 p x s (t.crash picks) F G' := by
  obtain ⟨h1, h2⟩ := h.pl.picks hp
  exact (refCrash_any x t G A n c picks w h.pl.ref (hok.ok (by omega)) h1 (fun ad ha hn' => (h2 ad ha hn').2) (by omega)).mono fun _ _ ⟨he, hu⟩ => ⟨he, h.r D hu⟩
theorem rn_spoil (D : DevOk Real) {m b : Nat} {i at' : Int} (h : Rn Real S w0 wr w F0 G0 p x s t F G) (hok : s.okN m) (hm : m ≤ 1000) (hb : b < 4294967296) :
    Calls Tryd.prog 23 #[.pointer (some ⟨p, 0, none⟩), .int .i64 i, .int .i64 at', .int .u32 (b : Int)] w fun e w' => e = .returned (.bool (s.spoil i at' b).1) ∧ ∃ F', Rn Real S w0 wr w' F0 G0 p x (s.spoil i at' b).2 t F' G :=
  (D.spoil p s F i at' b w h.pl.real (hok.ok (by omega)) hb).mono fun _ _ ⟨he, hu⟩ => ⟨he, h.d hu⟩
theorem rn_spoilR (D : DevOk Real) {m b : Nat} {i at' : Int} (h : Rn Real S w0 wr w F0 G0 p x s t F G) (hok : t.okN m) (hm : m ≤ 1000) :
    Calls Tryd.prog 24 #[.pointer (some ⟨x, 0, none⟩), .int .i64 i, .int .i64 at', .int .u32 (b : Int)] w fun e w' => e = .returned (.bool (t.spoil i at' b).1) ∧ ∃ G', Rn Real S w0 wr w' F0 G0 p x s (t.spoil i at' b).2 F G' :=
  (refSpoil_any x t G i at' b w h.pl.ref (hok.ok (by omega))).mono fun _ _ ⟨he, hu⟩ => ⟨he, h.r D hu⟩
theorem rn_fail (D : DevOk Real) {m : Nat} {i : Int} (h : Rn Real S w0 wr w F0 G0 p x s t F G) (hok : s.okN m) (hm : m ≤ 1000) :
    Calls Tryd.prog 25 #[.pointer (some ⟨p, 0, none⟩), .int .i64 i] w fun e w' => e = .returned (.bool (s.fail i).1) ∧ ∃ F', Rn Real S w0 wr w' F0 G0 p x (s.fail i).2 t F' G :=
  (D.fail p s F i w h.pl.real (hok.ok (by omega))).mono fun _ _ ⟨he, hu⟩ => ⟨he, h.d hu⟩
theorem rn_failR (D : DevOk Real) {i : Int} (h : Rn Real S w0 wr w F0 G0 p x s t F G) :
    Calls Tryd.prog 26 #[.pointer (some ⟨x, 0, none⟩), .int .i64 i] w fun e w' => e = .returned (.bool (t.fail i).1) ∧ ∃ G', Rn Real S w0 wr w' F0 G0 p x s (t.fail i).2 F G' :=
  (refFail_any x t G i w h.pl.ref).mono fun _ _ ⟨he, hu⟩ => ⟨he, h.r D hu⟩
theorem rn_raw (D : DevOk Real) {m n c : Nat} {i : Int} {A : Option Addr} {l : List Int} (h : Rn Real S w0 wr w F0 G0 p x s t F G) (hok : s.okN m) (hm : m ≤ 1000) (ha : Bt w F G A n c l) (hy : Byt l) (hn : n ≤ 1000) :
    Calls Tryd.prog 27 #[.pointer (some ⟨p, 0, none⟩), .int .i64 i, .slice A n c] w fun e w' => e = .returned (.bool (s.raw i l).1) ∧ ∃ F', Rn Real S w0 wr w' F0 G0 p x (s.raw i l).2 t F' G :=
  (D.raw p s F i A n c l w h.pl.real (hok.ok (by omega)) ha.1 (fun ad ha' hn' => (ha.2 ad ha' hn').1) hy hn).mono fun _ _ ⟨he, hu⟩ => ⟨he, h.d hu⟩
theorem rn_rawR (D : DevOk Real) {n c : Nat} {i : Int} {A : Option Addr} {l : List Int} (h : Rn Real S w0 wr w F0 G0 p x s t F G) (ha : Bt w F G A n c l) (hn : n ≤ 1000) :
    Calls Tryd.prog 28 #[.pointer (some ⟨x, 0, none⟩), .int .i64 i, .slice A n c] w fun e w' => e = .returned (.bool (t.raw i l).1) ∧ ∃ G', Rn Real S w0 wr w' F0 G0 p x s (t.raw i l).2 F G' :=
  (refRaw_any x t G i A n c l w h.pl.ref ha.1 (by omega)).mono fun _ _ ⟨he, hu⟩ => ⟨he, h.r D hu⟩
end
end Go.Proofs.YtndbanfkiaockaaDoor
