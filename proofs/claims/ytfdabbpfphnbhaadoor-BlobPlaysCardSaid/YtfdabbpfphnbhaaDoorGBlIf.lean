/- What package blob has to keep, call by call, over a device in memory; the two carried along a walk, with what lies beside them. -/
import Derived.Test.YtfdabbpfphnbhaaDoorGBlSpec
import Derived.Test.YtfdabbpfphnbhaaDoorGNumber
namespace Go.Proofs.YtfdabbpfphnbhaaDoor
open Go.RowKit

/-- refs that lie in memory: where, which sum -/
structure RefSl (w : World) (B : Nat) (A : Option Addr) (n c : Nat) (l : List RefS) : Prop where
  len : l.length = n
  cap : n ≤ c
  max : c ≤ maxLen
  nil : A = none → c = 0
  at_ : ∀ ad, A = some ad → 0 < n → ad.block < B ∧ ∀ j x, l[j]? = some x → w.cell? (ad.add (j * 2)) = some (.int .i64 x.1) ∧ w.cell? (ad.add (j * 2 + 1)) = some (.int .u32 (x.2 : Int))
theorem RefSl.empty (w : World) (B : Nat) : RefSl w B none 0 0 [] := ⟨rfl, Nat.le_refl _, by unfold maxLen; omega, fun _ => rfl, fun _ h => by cases h⟩
/-- what a call of the area leaves: of the device and of the area -/
def ArUpd (Real : World → Nat → DSt → (Nat → Prop) → Prop) (AR : World → Nat → Nat → Nat → ASt → (Nat → Prop) → Prop) (w : World) (d g : Nat) (s' : DSt) (n : Nat) (a' : ASt) (F G : Nat → Prop) (w' : World) : Prop :=
  ∃ F' G', Real w' d s' F' ∧ AR w' g d n a' G' ∧ Only (fun k => F k ∨ G k) w w' ∧ (∀ k, F' k → F k ∨ G k ∨ w.heap.size ≤ k) ∧ (∀ k, G' k → F k ∨ G k ∨ w.heap.size ≤ k) ∧ (∀ k, F' k → ¬ G' k)
/-- the device and the area, as a call finds them -/
structure Bd (Real : World → Nat → DSt → (Nat → Prop) → Prop) (AR : World → Nat → Nat → Nat → ASt → (Nat → Prop) → Prop) (S : Nat → Addr) (w0 w : World) (d g : Nat) (s : DSt) (n : Nat) (a : ASt) (q : Nat) (F G : Nat → Prop) : Prop where
  real : Real w d s F
  ar : AR w g d n a G
  below : Below w0.heap.size w0 w
  sent0 : Sent w0 S
  fn : ∀ k, F k → w0.heap.size ≤ k
  gn : ∀ k, G k → w0.heap.size ≤ k
  ap : ∀ k, F k → ¬ G k
  up : Up s n q
  small : q ≤ 900000
  n0 : 300 ≤ n
  n1 : n ≤ 6000
  ok : a.ok n
theorem Bd.sent {Real : World → Nat → DSt → (Nat → Prop) → Prop} {AR : World → Nat → Nat → Nat → ASt → (Nat → Prop) → Prop} {S : Nat → Addr} {w0 w : World} {d g n q : Nat} {s : DSt} {a : ASt} {F G : Nat → Prop} (h : Bd Real AR S w0 w d g s n a q F G) : Sent w S := h.sent0.on h.below
theorem Bd.dok {Real : World → Nat → DSt → (Nat → Prop) → Prop} {AR : World → Nat → Nat → Nat → ASt → (Nat → Prop) → Prop} {S : Nat → Addr} {w0 w : World} {d g n q : Nat} {s : DSt} {a : ASt} {F G : Nat → Prop} (h : Bd Real AR S w0 w d g s n a q F G) : s.ok := h.up.ok (by have := h.small; omega)
/-- the area's calls, of whatever it is in memory: 'AR w g d n a G': at g, over the device at d of n blocks, it is a, in the blocks G -/
structure AreaOk (Real : World → Nat → DSt → (Nat → Prop) → Prop) (AR : World → Nat → Nat → Nat → ASt → (Nat → Prop) → Prop) : Prop where
  kept : ∀ {w w' : World} {g d n : Nat} {a : ASt} {G : Nat → Prop}, AR w g d n a G → Kept G w w' → AR w' g d n a G
  lt : ∀ {w : World} {g d n : Nat} {a : ASt} {G : Nat → Prop}, AR w g d n a G → ∀ k, G k → k < w.heap.size
  open_ : ∀ (S : Nat → Addr) (d n q : Nat) (s : DSt) (F : Nat → Prop) (A : Option Addr) (k c : Nat) (l : List RefS) (w : World), Sent w S → Real w d s F → Up s n q → q ≤ 900000 → 300 ≤ n → n ≤ 6000 → RefSl w w.heap.size A k c l → k ≤ 6000 → (∀ r, r ∈ l → -9223372036854775808 ≤ r.1 ∧ r.1 ≤ 9223372036854775807) →
    Calls Tryd.prog 28 #[.pointer (some ⟨d, 0, none⟩), .slice A k c] w fun e w' => Below w.heap.size w w' ∧ ((opensA n l = true ∧ ∃ g G, e = .returned (.tuple #[.pointer (some ⟨g, 0, none⟩), .nilIface]) ∧ AR w' g d n (openA' n l) G ∧ ∀ k, G k → w.heap.size ≤ k) ∨ (opensA n l = false ∧ ∃ v, EV S 103 v ∧ e = .returned (.tuple #[.pointer none, v])))
  put : ∀ (S : Nat → Addr) (d g n q : Nat) (s : DSt) (a : ASt) (F G : Nat → Prop) (A : Option Addr) (m c : Nat) (l : List Int) (w0 w : World), Bd Real AR S w0 w d g s n a q F G → q + 1 ≤ 900000 → m ≤ 256 → Sl w w.heap.size A m c l → (∀ ad, A = some ad → 0 < m → ¬ F ad.block ∧ ¬ G ad.block) → Byt l →
    Calls Tryd.prog 11 #[.pointer (some ⟨g, 0, none⟩), .slice A m c] w fun e w' => (∃ k, IsNext n a k ∧ e = .returned (.tuple #[.agg #[.int .i64 (k : Int), .int .u32 (crcOf (nats (padB l)) : Int)], .nilIface]) ∧ ArUpd Real AR w d g (s.put k (padB l)) n (a.put k) F G w') ∨
      (NoRoom n a ∧ (∃ x z v, EV S 105 v ∧ e = .returned (.tuple #[.agg #[.int .i64 x, .int .u32 z], v])) ∧ ArUpd Real AR w d g s n a F G w')
  putLong : ∀ (S : Nat → Addr) (d g n q : Nat) (s : DSt) (a : ASt) (F G : Nat → Prop) (A : Option Addr) (m c : Nat) (w0 w : World), Bd Real AR S w0 w d g s n a q F G → 256 < m → m ≤ 9223372036854775807 →
    Calls Tryd.prog 11 #[.pointer (some ⟨g, 0, none⟩), .slice A m c] w fun e w' => (∃ x z v, EV S 103 v ∧ e = .returned (.tuple #[.agg #[.int .i64 x, .int .u32 z], v])) ∧ ArUpd Real AR w d g s n a F G w'
  low : ∀ (S : Nat → Addr) (d g n q : Nat) (s : DSt) (a : ASt) (F G : Nat → Prop) (A : Option Addr) (m c : Nat) (l : List Int) (below : Int) (w0 w : World), Bd Real AR S w0 w d g s n a q F G → q + 1 ≤ 900000 → m ≤ 256 → Sl w w.heap.size A m c l → (∀ ad, A = some ad → 0 < m → ¬ F ad.block ∧ ¬ G ad.block) → Byt l → -9223372036854775808 ≤ below → below ≤ 9223372036854775807 →
    Calls Tryd.prog 15 #[.pointer (some ⟨g, 0, none⟩), .slice A m c, .int .i64 below] w fun e w' => (∃ k, IsLow n a k ∧ (k : Int) < below ∧ (∃ z : Int, e = .returned (.tuple #[.agg #[.int .i64 (k : Int), .int .u32 z], .bool true, .nilIface]) ∧ z = (crcOf (nats (padB l)) : Int)) ∧ ArUpd Real AR w d g (s.put k (padB l)) n (a.took k) F G w') ∨
      ((∀ k, IsLow n a k → below ≤ (k : Int)) ∧ (∃ z, e = .returned (.tuple #[.agg #[.int .i64 0, .int .u32 z], .bool false, .nilIface])) ∧ ArUpd Real AR w d g s n a F G w')
  lowLong : ∀ (S : Nat → Addr) (d g n q : Nat) (s : DSt) (a : ASt) (F G : Nat → Prop) (A : Option Addr) (m c : Nat) (below : Int) (w0 w : World), Bd Real AR S w0 w d g s n a q F G → 256 < m → m ≤ 9223372036854775807 → -9223372036854775808 ≤ below → below ≤ 9223372036854775807 →
    Calls Tryd.prog 15 #[.pointer (some ⟨g, 0, none⟩), .slice A m c, .int .i64 below] w fun e w' => (∃ x z b v, EV S 103 v ∧ e = .returned (.tuple #[.agg #[.int .i64 x, .int .u32 z], .bool b, v])) ∧ ArUpd Real AR w d g s n a F G w'
  get : ∀ (S : Nat → Addr) (d g n q : Nat) (s : DSt) (a : ASt) (F G : Nat → Prop) (k z : Nat) (w0 w : World), Bd Real AR S w0 w d g s n a q F G → k ≤ 6000 → z < 4294967296 →
    Calls Tryd.prog 21 #[.pointer (some ⟨g, 0, none⟩), .agg #[.int .i64 (k : Int), .int .u32 (z : Int)]] w fun e w' => Below w.heap.size w w' ∧ ∃ A m c v, e = .returned (.tuple #[.slice A m c, v]) ∧ EV S (getA s n (k : Int) z).1 v ∧ ((getA s n (k : Int) z).1 = 0 → Sl w' w'.heap.size A m c (getA s n (k : Int) z).2 ∧ ∀ ad, A = some ad → w.heap.size ≤ ad.block)
  good : ∀ (S : Nat → Addr) (d g n q : Nat) (s : DSt) (a : ASt) (F G : Nat → Prop) (k z : Nat) (w0 w : World), Bd Real AR S w0 w d g s n a q F G → k ≤ 6000 → z < 4294967296 →
    Calls Tryd.prog 23 #[.pointer (some ⟨g, 0, none⟩), .agg #[.int .i64 (k : Int), .int .u32 (z : Int)]] w fun e w' => e = .returned (.bool ((getA s n (k : Int) z).1 == 0)) ∧ Below w.heap.size w w'
  drop : ∀ (S : Nat → Addr) (d g n q : Nat) (s : DSt) (a : ASt) (F G : Nat → Prop) (k z : Nat) (w0 w : World), Bd Real AR S w0 w d g s n a q F G → k ≤ 6000 → z < 4294967296 →
    Calls Tryd.prog 17 #[.pointer (some ⟨g, 0, none⟩), .agg #[.int .i64 (k : Int), .int .u32 (z : Int)]] w fun e w' => e = .returned (.bool (a.use k)) ∧ ArUpd Real AR w d g s n (if a.use k = true then a.drop k else a) F G w'
  done : ∀ (S : Nat → Addr) (d g n q : Nat) (s : DSt) (a : ASt) (F G : Nat → Prop) (w0 w : World), Bd Real AR S w0 w d g s n a q F G →
    Calls Tryd.prog 16 #[.pointer (some ⟨g, 0, none⟩)] w fun e w' => e = .returned (.tuple #[]) ∧ ArUpd Real AR w d g s n a.done F G w'
  used : ∀ (S : Nat → Addr) (d g n q : Nat) (s : DSt) (a : ASt) (F G : Nat → Prop) (w0 w : World), Bd Real AR S w0 w d g s n a q F G →
    Calls Tryd.prog 24 #[.pointer (some ⟨g, 0, none⟩)] w fun e w' => Below w.heap.size w w' ∧ ∃ A m c, e = .returned (.slice A m c) ∧ Sn w' w'.heap.size A m c (usedA n a) ∧ ∀ ad, A = some ad → w.heap.size ≤ ad.block
  left : ∀ (S : Nat → Addr) (d g n q : Nat) (s : DSt) (a : ASt) (F G : Nat → Prop) (w0 w : World), Bd Real AR S w0 w d g s n a q F G →
    Calls Tryd.prog 25 #[.pointer (some ⟨g, 0, none⟩)] w fun e w' => e = .returned (.int .i64 (leftA n a : Int)) ∧ Below w.heap.size w w'

/-- something that lies beside the device and the area, in blocks B, and stays while these do -/
structure Lie where
  C : World → Prop
  B : Nat → Prop
  keeps : ∀ {w w' : World}, C w → (∀ g, B g → g < w.heap.size) → Kept B w w' → C w'
/-- it is there, and beside these blocks -/
def Lie.P (K : Lie) (w : World) (F G : Nat → Prop) : Prop := K.C w ∧ ∀ g, K.B g → g < w.heap.size ∧ ¬ F g ∧ ¬ G g
/-- a block of its own -/
def Lie.blk (g : Nat) (t : TypeId) (cs : Array Value) : Lie where
  C w := Blk w g t cs
  B k := k = g
  keeps h _ hk := h.same (hk.1 g rfl)
/-- bytes -/
def Lie.byt (A : Option Addr) (k c : Nat) (l : List Int) : Lie where
  C w := Sl w w.heap.size A k c l
  B g := ∃ ad, A = some ad ∧ 0 < k ∧ ad.block = g
  keeps := by
    intro w w' h _ hk
    refine ⟨h.len, h.cap, h.max, h.nil, fun ad ha h0 => ?_⟩
    obtain ⟨h1, h2⟩ := h.at_ ad ha h0
    refine ⟨Nat.lt_of_lt_of_le h1 hk.2, fun j x hx => ?_⟩
    rw [← h2 j x hx]
    unfold World.cell?
    rw [add_block, hk.1 ad.block ⟨ad, ha, h0, rfl⟩]
/-- a row of the call's own -/
def Lie.row (B0 : Nat) (t : TypeId) (z : Nat) (v : Value) (m : Nat) (l : List Value) : Lie where
  C w := w.ownsRow B0 t z v m l
  B g := v.ownBlock = some g
  keeps := by
    intro w w' h hl hk
    rcases h.2 with ⟨rfl, h0⟩ | ⟨g, cap, cur, rfl, hb, hg, hr⟩
    · exact ⟨h.1, .inl ⟨rfl, h0⟩⟩
    · exact ⟨h.1, .inr ⟨g, cap, cur, rfl, hb, (hk.1 g rfl).trans hg, hr⟩⟩
theorem Lie.kept {K : Lie} {w w' : World} {F G F' G' : Nat → Prop} (h : K.P w F G) (ho : Only (fun k => F k ∨ G k) w w') (hn : ∀ g, g < w.heap.size → ¬ F g → ¬ G g → ¬ F' g ∧ ¬ G' g) : K.P w' F' G' := by
  refine ⟨K.keeps h.1 (fun g hg => (h.2 g hg).1) (ho.kept (fun g hg => (h.2 g hg).1) (fun g hg hc => hc.elim (h.2 g hg).2.1 (h.2 g hg).2.2)), fun g hg => ?_⟩
  obtain ⟨h1, h2, h3⟩ := h.2 g hg
  exact ⟨Nat.lt_of_lt_of_le h1 ho.size, hn g h1 h2 h3⟩
/-- the device and the area carried along, with what lies beside them -/
def Bk (Real : World → Nat → DSt → (Nat → Prop) → Prop) (AR : World → Nat → Nat → Nat → ASt → (Nat → Prop) → Prop) (S : Nat → Addr) (w0 w : World) (d g : Nat) (s : DSt) (n : Nat) (a : ASt) (q : Nat) (ks : List Lie) : Prop :=
  ∃ F G, Bd Real AR S w0 w d g s n a q F G ∧ ∀ K, K ∈ ks → K.P w F G
section
variable {Real : World → Nat → DSt → (Nat → Prop) → Prop} {AR : World → Nat → Nat → Nat → ASt → (Nat → Prop) → Prop} {S : Nat → Addr} {w0 w w' : World} {d g n q q' : Nat} {s s' : DSt} {a a' : ASt} {F G : Nat → Prop} {ks : List Lie}
theorem Bd.on (D : DevOk Real) (O : AreaOk Real AR) (h : Bd Real AR S w0 w d g s n a q F G) (hb : Below w.heap.size w w') : Bd Real AR S w0 w' d g s n a q F G :=
  ⟨D.kept h.real (Kept.of_below hb (D.lt h.real)), O.kept h.ar (Kept.of_below hb (O.lt h.ar)), h.below.trans (hb.mono h.below.size), h.sent0, h.fn, h.gn, h.ap, h.up, h.small, h.n0, h.n1, h.ok⟩
/-- what a step leaves -/
def BStep (Real : World → Nat → DSt → (Nat → Prop) → Prop) (AR : World → Nat → Nat → Nat → ASt → (Nat → Prop) → Prop) (S : Nat → Addr) (w0 w : World) (d g : Nat) (s' : DSt) (n : Nat) (a' : ASt) (q' : Nat) (F G : Nat → Prop) (w' : World) : Prop :=
  ∃ F' G', Bd Real AR S w0 w' d g s' n a' q' F' G' ∧ Only (fun k => F k ∨ G k) w w' ∧ (∀ k, F' k → F k ∨ G k ∨ w.heap.size ≤ k) ∧ (∀ k, G' k → F k ∨ G k ∨ w.heap.size ≤ k)
theorem Bd.step (h : Bd Real AR S w0 w d g s n a q F G) (hu : ArUpd Real AR w d g s' n a' F G w') (hs : Up s' n q') (hq : q' ≤ 900000) (hk : a'.ok n) : BStep Real AR S w0 w d g s' n a' q' F G w' := by
  obtain ⟨F', G', hr, hp, ho, hf, hg, hap⟩ := hu
  have hsz := h.below.size
  have hfg : ∀ k, F k ∨ G k ∨ w.heap.size ≤ k → w0.heap.size ≤ k := fun k hk => by
    rcases hk with h' | h' | h'
    · exact h.fn k h'
    · exact h.gn k h'
    · omega
  exact ⟨F', G', ⟨hr, hp, h.below.trans (ho.below hsz (fun k hk => hfg k (hk.elim .inl (fun h' => .inr (.inl h'))))), h.sent0, fun k hk => hfg k (hf k hk), fun k hk => hfg k (hg k hk), hap, hs, hq, h.n0, h.n1, hk⟩, ho, hf, hg⟩
/-- the device was turned by a call of its own -/
theorem Bd.dev (O : AreaOk Real AR) (h : Bd Real AR S w0 w d g s n a q F G) (hu : RealUpd Real w d s' F w') (hs : Up s' n q') (hq : q' ≤ 900000) : BStep Real AR S w0 w d g s' n a q' F G w' := by
  obtain ⟨F', hr, ho, hf⟩ := hu
  have hlt := O.lt h.ar
  refine ⟨F', G, ⟨hr, O.kept h.ar (ho.kept hlt (fun k hg hf' => h.ap k hf' hg)), h.below.trans (ho.below h.below.size h.fn), h.sent0, fun k hk => ?_, h.gn, fun k hk hg => ?_, hs, hq, h.n0, h.n1, h.ok⟩, ho.mono (fun i hi => .inl (.inl hi)), fun k hk => (hf k hk).elim .inl (fun h' => .inr (.inr h')), fun k hk => .inr (.inl hk)⟩
  · rcases hf k hk with h' | h'
    · exact h.fn k h'
    · have := h.below.size; omega
  · rcases hf k hk with h' | h'
    · exact h.ap k h' hg
    · have := hlt k hg; omega
theorem Bk.below (h : Bk Real AR S w0 w d g s n a q ks) : Below w0.heap.size w0 w := by obtain ⟨F, G, h, _⟩ := h; exact h.below
theorem Bk.sent (h : Bk Real AR S w0 w d g s n a q ks) : Sent w S := by obtain ⟨F, G, h, _⟩ := h; exact h.sent
theorem Bk.up (h : Bk Real AR S w0 w d g s n a q ks) : Up s n q := by obtain ⟨F, G, h, _⟩ := h; exact h.up
theorem Bk.ok (h : Bk Real AR S w0 w d g s n a q ks) : a.ok n := by obtain ⟨F, G, h, _⟩ := h; exact h.ok
theorem Bk.n0 (h : Bk Real AR S w0 w d g s n a q ks) : 300 ≤ n ∧ n ≤ 6000 := by obtain ⟨F, G, h, _⟩ := h; exact ⟨h.n0, h.n1⟩
theorem Bk.less {ls : List Lie} (h : Bk Real AR S w0 w d g s n a q ks) (hl : ∀ K, K ∈ ls → K ∈ ks) : Bk Real AR S w0 w d g s n a q ls := by
  obtain ⟨F, G, h, hk⟩ := h; exact ⟨F, G, h, fun K hK => hk K (hl K hK)⟩
theorem Bk.step (hk : ∀ K, K ∈ ks → K.P w F G) (h : BStep Real AR S w0 w d g s' n a' q' F G w') : Bk Real AR S w0 w' d g s' n a' q' ks := by
  obtain ⟨F', G', h1, ho, hf, hg⟩ := h
  refine ⟨F', G', h1, fun K hK => Lie.kept (hk K hK) ho (fun g hlt h2 h3 => ⟨fun h4 => ?_, fun h4 => ?_⟩)⟩
  · rcases hf g h4 with h5 | h5 | h5
    · exact h2 h5
    · exact h3 h5
    · omega
  · rcases hg g h4 with h5 | h5 | h5
    · exact h2 h5
    · exact h3 h5
    · omega
theorem Bk.on (D : DevOk Real) (O : AreaOk Real AR) (h : Bk Real AR S w0 w d g s n a q ks) (hb : Below w.heap.size w w') : Bk Real AR S w0 w' d g s n a q ks := by
  obtain ⟨F, G, h, hk⟩ := h
  exact ⟨F, G, h.on D O hb, fun K hK => Lie.kept (hk K hK) (Only.of_below hb) (fun g _ h2 h3 => ⟨h2, h3⟩)⟩
/-- something that is new since w -/
theorem Bk.new (D : DevOk Real) (O : AreaOk Real AR) (h : Bk Real AR S w0 w d g s n a q ks) (hb : Below w.heap.size w w') (K : Lie) (hK : K.C w') (hB : ∀ k, K.B k → w.heap.size ≤ k ∧ k < w'.heap.size) : Bk Real AR S w0 w' d g s n a q (K :: ks) := by
  obtain ⟨F, G, h, hk⟩ := h
  refine ⟨F, G, h.on D O hb, fun L hL => ?_⟩
  rcases List.mem_cons.1 hL with rfl | hL
  · exact ⟨hK, fun k hk => ⟨(hB k hk).2, fun hf => by have := D.lt h.real _ hf; have := (hB k hk).1; omega, fun hf => by have := O.lt h.ar _ hf; have := (hB k hk).1; omega⟩⟩
  · exact Lie.kept (hk L hL) (Only.of_below hb) (fun g _ h2 h3 => ⟨h2, h3⟩)
theorem Bk.box (D : DevOk Real) (O : AreaOk Real AR) (h : Bk Real AR S w0 w d g s n a q ks) (t : TypeId) (cs : Array Value) : Bk Real AR S w0 (w.alloc (.cells cs t)) d g s n a q (Lie.blk w.heap.size t cs :: ks) :=
  h.new D O ((Below.refl _ _).alloc (Nat.le_refl _) _) (Lie.blk w.heap.size t cs) (Blk.new w _ _) (fun k hk => by
    obtain rfl : k = w.heap.size := hk
    exact ⟨Nat.le_refl _, by simp⟩)
theorem Bk.blk {g1 : Nat} {t : TypeId} {cs : Array Value} (h : Bk Real AR S w0 w d g s n a q ks) (hK : Lie.blk g1 t cs ∈ ks) : Blk w g1 t cs := by
  obtain ⟨F, G, h, hk⟩ := h
  exact (hk _ hK).1
theorem Bk.bytes {A : Option Addr} {k c : Nat} {l : List Int} (h : Bk Real AR S w0 w d g s n a q ks) (hK : Lie.byt A k c l ∈ ks) : Sl w w.heap.size A k c l := by
  obtain ⟨F, G, h, hk⟩ := h
  exact (hk _ hK).1
/-- a block beside them is written -/
theorem Bk.setc (D : DevOk Real) (O : AreaOk Real AR) {g1 i : Nat} {t : TypeId} {cs : Array Value} (h : Bk Real AR S w0 w d g s n a q (Lie.blk g1 t cs :: ks)) (hn : ∀ K, K ∈ ks → ¬ K.B g1) (h0 : w0.heap.size ≤ g1) (u : Value) :
    Bk Real AR S w0 (w.setCell ⟨g1, i, none⟩ u) d g s n a q (Lie.blk g1 t (cs.setIfInBounds i u) :: ks) := by
  obtain ⟨F, G, h, hk⟩ := h
  obtain ⟨hb, hbn⟩ := hk _ List.mem_cons_self
  obtain ⟨hlt, hnF, hnG⟩ := hbn g1 rfl
  have ho : ∀ k, k ≠ g1 → (w.setCell ⟨g1, i, none⟩ u).heap[k]? = w.heap[k]? := fun k hk => Below.heap_setCell w ⟨g1, i, none⟩ u k (fun e => hk (by rw [e]))
  have hsz : (w.setCell ⟨g1, i, none⟩ u).heap.size = w.heap.size := by simp [World.setCell]
  refine ⟨F, G, ⟨D.kept h.real ⟨fun k hk => ho k (fun e => hnF (e ▸ hk)), by rw [hsz]; exact Nat.le_refl _⟩, O.kept h.ar ⟨fun k hk => ho k (fun e => hnG (e ▸ hk)), by rw [hsz]; exact Nat.le_refl _⟩, h.below.setCell (by exact h0) _, h.sent0, h.fn, h.gn, h.ap, h.up, h.small, h.n0, h.n1, h.ok⟩, fun K hK => ?_⟩
  rcases List.mem_cons.1 hK with rfl | hK
  · exact ⟨Blk.put hb i u, fun k hk => by
      obtain rfl : k = g1 := hk
      exact ⟨by rw [hsz]; exact hlt, hnF, hnG⟩⟩
  · obtain ⟨h1, h2⟩ := hk K (List.mem_cons_of_mem _ hK)
    exact ⟨K.keeps h1 (fun k hk => (h2 k hk).1) ⟨fun k hk => ho k (fun e => hn K hK (e ▸ hk)), by rw [hsz]; exact Nat.le_refl _⟩, fun k hk => by rw [hsz]; exact h2 k hk⟩
/-- bytes that came in -/
theorem Bk.arg {A : Option Addr} {k c : Nat} {l : List Int} (h : Bk Real AR S w0 w d g s n a q ks) (hl : Sl w0 w0.heap.size A k c l) : Bk Real AR S w0 w d g s n a q (Lie.byt A k c l :: ks) := by
  obtain ⟨F, G, h, hk⟩ := h
  refine ⟨F, G, h, fun K hK => ?_⟩
  rcases List.mem_cons.1 hK with rfl | hK
  · refine ⟨hl.on h.below, fun g hg => ?_⟩
    obtain ⟨ad, ha, h0, rfl⟩ := hg
    have h1 := (hl.at_ ad ha h0).1
    exact ⟨Nat.lt_of_lt_of_le h1 h.below.size, fun hf => by have := h.fn _ hf; omega, fun hf => by have := h.gn _ hf; omega⟩
  · exact hk K hK
/-! each call, carried -/
theorem bk_put (O : AreaOk Real AR) {A : Option Addr} {m c : Nat} {l : List Int} (h : Bk Real AR S w0 w d g s n a q (Lie.byt A m c l :: ks)) (hq : q + 1 ≤ 900000) (hm : m ≤ 256) (hb : Byt l) :
    Calls Tryd.prog 11 #[.pointer (some ⟨g, 0, none⟩), .slice A m c] w fun e w' => (∃ k, IsNext n a k ∧ e = .returned (.tuple #[.agg #[.int .i64 (k : Int), .int .u32 (crcOf (nats (padB l)) : Int)], .nilIface]) ∧ Bk Real AR S w0 w' d g (s.put k (padB l)) n (a.put k) (q + 1) (Lie.byt A m c l :: ks)) ∨
      (NoRoom n a ∧ (∃ x z v, EV S 105 v ∧ e = .returned (.tuple #[.agg #[.int .i64 x, .int .u32 z], v])) ∧ Bk Real AR S w0 w' d g s n a q (Lie.byt A m c l :: ks)) := by
  obtain ⟨F, G, h, hk⟩ := h
  have hl : Sl w w.heap.size A m c l := (hk _ List.mem_cons_self).1
  refine (O.put S d g n q s a F G A m c l w0 w h hq hm hl (fun ad ha h0 => ((hk _ List.mem_cons_self).2 ad.block ⟨ad, ha, h0, rfl⟩).2) hb).mono ?_
  rintro e w' (⟨k, hn, he, hu⟩ | ⟨hn, he, hu⟩)
  · have hin := hn.in_ h.n0
    have hfr : a.free k = true := by obtain ⟨j, _, _, _, h3, _⟩ := hn; exact h3
    exact .inl ⟨k, hn, he, Bk.step hk (h.step hu (h.up.write (i := k) hin.2 (padB_len (by rw [hl.len]; exact hm)) (padB_byt hb)).2 hq (h.ok.put hfr hin.1 hin.2))⟩
  · exact .inr ⟨hn, he, Bk.step hk (h.step hu h.up h.small h.ok)⟩
theorem bk_putLong (O : AreaOk Real AR) {A : Option Addr} {m c : Nat} (h : Bk Real AR S w0 w d g s n a q ks) (hm : 256 < m) (hm2 : m ≤ 9223372036854775807) :
    Calls Tryd.prog 11 #[.pointer (some ⟨g, 0, none⟩), .slice A m c] w fun e w' => (∃ x z v, EV S 103 v ∧ e = .returned (.tuple #[.agg #[.int .i64 x, .int .u32 z], v])) ∧ Bk Real AR S w0 w' d g s n a q ks := by
  obtain ⟨F, G, h, hk⟩ := h
  exact (O.putLong S d g n q s a F G A m c w0 w h hm hm2).mono fun e w' ⟨he, hu⟩ => ⟨he, Bk.step hk (h.step hu h.up h.small h.ok)⟩
theorem bk_low (O : AreaOk Real AR) {A : Option Addr} {m c : Nat} {l : List Int} {x : Int} (h : Bk Real AR S w0 w d g s n a q (Lie.byt A m c l :: ks)) (hq : q + 1 ≤ 900000) (hm : m ≤ 256) (hb : Byt l) (h1 : -9223372036854775808 ≤ x) (h2 : x ≤ 9223372036854775807) :
    Calls Tryd.prog 15 #[.pointer (some ⟨g, 0, none⟩), .slice A m c, .int .i64 x] w fun e w' => (∃ k, IsLow n a k ∧ (k : Int) < x ∧ e = .returned (.tuple #[.agg #[.int .i64 (k : Int), .int .u32 (crcOf (nats (padB l)) : Int)], .bool true, .nilIface]) ∧ Bk Real AR S w0 w' d g (s.put k (padB l)) n (a.took k) (q + 1) (Lie.byt A m c l :: ks)) ∨
      ((∀ k, IsLow n a k → x ≤ (k : Int)) ∧ (∃ z, e = .returned (.tuple #[.agg #[.int .i64 0, .int .u32 z], .bool false, .nilIface])) ∧ Bk Real AR S w0 w' d g s n a q (Lie.byt A m c l :: ks)) := by
  obtain ⟨F, G, h, hk⟩ := h
  have hl : Sl w w.heap.size A m c l := (hk _ List.mem_cons_self).1
  refine (O.low S d g n q s a F G A m c l x w0 w h hq hm hl (fun ad ha h0 => ((hk _ List.mem_cons_self).2 ad.block ⟨ad, ha, h0, rfl⟩).2) hb h1 h2).mono ?_
  rintro e w' (⟨k, hn, hx, ⟨z, he, hz⟩, hu⟩ | ⟨hn, he, hu⟩)
  · subst hz
    exact .inl ⟨k, hn, hx, he, Bk.step hk (h.step hu (h.up.write (i := k) hn.2.1 (padB_len (by rw [hl.len]; exact hm)) (padB_byt hb)).2 hq (h.ok.took hn.2.2.1 hn.1 hn.2.1))⟩
  · exact .inr ⟨hn, he, Bk.step hk (h.step hu h.up h.small h.ok)⟩
theorem bk_lowLong (O : AreaOk Real AR) {A : Option Addr} {m c : Nat} {x : Int} (h : Bk Real AR S w0 w d g s n a q ks) (hm : 256 < m) (hm2 : m ≤ 9223372036854775807) (h1 : -9223372036854775808 ≤ x) (h2 : x ≤ 9223372036854775807) :
    Calls Tryd.prog 15 #[.pointer (some ⟨g, 0, none⟩), .slice A m c, .int .i64 x] w fun e w' => (∃ x z b v, EV S 103 v ∧ e = .returned (.tuple #[.agg #[.int .i64 x, .int .u32 z], .bool b, v])) ∧ Bk Real AR S w0 w' d g s n a q ks := by
  obtain ⟨F, G, h, hk⟩ := h
  exact (O.lowLong S d g n q s a F G A m c x w0 w h hm hm2 h1 h2).mono fun e w' ⟨he, hu⟩ => ⟨he, Bk.step hk (h.step hu h.up h.small h.ok)⟩
theorem bk_get (D : DevOk Real) (O : AreaOk Real AR) {k z : Nat} (h : Bk Real AR S w0 w d g s n a q ks) (hk : k ≤ 6000) (hz : z < 4294967296) :
    Calls Tryd.prog 21 #[.pointer (some ⟨g, 0, none⟩), .agg #[.int .i64 (k : Int), .int .u32 (z : Int)]] w fun e w' => Bk Real AR S w0 w' d g s n a q ks ∧ Below w.heap.size w w' ∧ ∃ A m c v, e = .returned (.tuple #[.slice A m c, v]) ∧ EV S (getA s n (k : Int) z).1 v ∧ ((getA s n (k : Int) z).1 = 0 → Sl w' w'.heap.size A m c (getA s n (k : Int) z).2) := by
  have h' := h
  obtain ⟨F, G, hd, _⟩ := h
  refine (O.get S d g n q s a F G k z w0 w hd hk hz).mono ?_
  rintro e w' ⟨hb, A, m, c, v, he, hv, hl⟩
  exact ⟨h'.on D O hb, hb, A, m, c, v, he, hv, fun h0 => (hl h0).1⟩
theorem bk_good (D : DevOk Real) (O : AreaOk Real AR) {k z : Nat} (h : Bk Real AR S w0 w d g s n a q ks) (hk : k ≤ 6000) (hz : z < 4294967296) :
    Calls Tryd.prog 23 #[.pointer (some ⟨g, 0, none⟩), .agg #[.int .i64 (k : Int), .int .u32 (z : Int)]] w fun e w' => e = .returned (.bool ((getA s n (k : Int) z).1 == 0)) ∧ Bk Real AR S w0 w' d g s n a q ks ∧ Below w.heap.size w w' := by
  have h' := h
  obtain ⟨F, G, hd, _⟩ := h
  exact (O.good S d g n q s a F G k z w0 w hd hk hz).mono fun e w' ⟨he, hb⟩ => ⟨he, h'.on D O hb, hb⟩
theorem bk_drop (O : AreaOk Real AR) {k z : Nat} (h : Bk Real AR S w0 w d g s n a q ks) (hk : k ≤ 6000) (hz : z < 4294967296) :
    Calls Tryd.prog 17 #[.pointer (some ⟨g, 0, none⟩), .agg #[.int .i64 (k : Int), .int .u32 (z : Int)]] w fun e w' => e = .returned (.bool (a.use k)) ∧ Bk Real AR S w0 w' d g s n (if a.use k = true then a.drop k else a) q ks := by
  obtain ⟨F, G, h, hks⟩ := h
  refine (O.drop S d g n q s a F G k z w0 w h hk hz).mono fun e w' ⟨he, hu⟩ => ⟨he, Bk.step hks (h.step hu h.up h.small ?_)⟩
  split
  · rename_i h1; exact h.ok.drop h1
  · exact h.ok
theorem bk_done (O : AreaOk Real AR) (h : Bk Real AR S w0 w d g s n a q ks) :
    Calls Tryd.prog 16 #[.pointer (some ⟨g, 0, none⟩)] w fun e w' => e = .returned (.tuple #[]) ∧ Bk Real AR S w0 w' d g s n a.done q ks := by
  obtain ⟨F, G, h, hks⟩ := h
  exact (O.done S d g n q s a F G w0 w h).mono fun e w' ⟨he, hu⟩ => ⟨he, Bk.step hks (h.step hu h.up h.small h.ok.done)⟩
theorem bk_used (D : DevOk Real) (O : AreaOk Real AR) (h : Bk Real AR S w0 w d g s n a q ks) :
    Calls Tryd.prog 24 #[.pointer (some ⟨g, 0, none⟩)] w fun e w' => Bk Real AR S w0 w' d g s n a q ks ∧ Below w.heap.size w w' ∧ ∃ A m c, e = .returned (.slice A m c) ∧ Sn w' w'.heap.size A m c (usedA n a) := by
  have h' := h
  obtain ⟨F, G, hd, _⟩ := h
  refine (O.used S d g n q s a F G w0 w hd).mono ?_
  rintro e w' ⟨hb, A, m, c, he, hl, _⟩
  exact ⟨h'.on D O hb, hb, A, m, c, he, hl⟩
theorem bk_left (D : DevOk Real) (O : AreaOk Real AR) (h : Bk Real AR S w0 w d g s n a q ks) :
    Calls Tryd.prog 25 #[.pointer (some ⟨g, 0, none⟩)] w fun e w' => e = .returned (.int .i64 (leftA n a : Int)) ∧ Bk Real AR S w0 w' d g s n a q ks ∧ Below w.heap.size w w' := by
  have h' := h
  obtain ⟨F, G, hd, _⟩ := h
  exact (O.left S d g n q s a F G w0 w hd).mono fun e w' ⟨he, hb⟩ => ⟨he, h'.on D O hb, hb⟩
theorem bk_flush (D : DevOk Real) (O : AreaOk Real AR) (h : Bk Real AR S w0 w d g s n a q ks) (hq : q + 1 ≤ 900000) :
    Calls Tryd.prog 18 #[.pointer (some ⟨d, 0, none⟩)] w fun e w' => e = .returned .nilIface ∧ Bk Real AR S w0 w' d g (fl s) n a (q + 1) ks := by
  obtain ⟨F, G, h, hks⟩ := h
  obtain ⟨he, hu⟩ := h.up.flush
  refine (D.flush S d s F w h.sent.five h.real h.dok).mono ?_
  rintro e w' ⟨⟨v, hv, rfl⟩, hupd⟩
  rw [he] at hv hupd
  exact ⟨by rw [hv.nil], Bk.step hks (h.dev O hupd hu hq)⟩
theorem bk_spoil (D : DevOk Real) (O : AreaOk Real AR) (h : Bk Real AR S w0 w d g s n a q ks) (i at' : Int) (bits : Nat) (hb : bits < 4294967296) :
    Calls Tryd.prog 19 #[.pointer (some ⟨d, 0, none⟩), .int .i64 i, .int .i64 at', .int .u32 (bits : Int)] w fun e w' => e = .returned (.bool (s.spoil i at' bits).1) ∧ Bk Real AR S w0 w' d g (s.spoil i at' bits).2 n a q ks := by
  obtain ⟨F, G, h, hks⟩ := h
  refine (D.spoil d s F i at' bits w h.real h.dok hb).mono ?_
  rintro e w' ⟨rfl, hupd⟩
  exact ⟨rfl, Bk.step hks (h.dev O hupd (h.up.spoil i at' bits) h.small)⟩
theorem bk_fail (D : DevOk Real) (O : AreaOk Real AR) (h : Bk Real AR S w0 w d g s n a q ks) (i : Int) :
    Calls Tryd.prog 26 #[.pointer (some ⟨d, 0, none⟩), .int .i64 i] w fun e w' => e = .returned (.bool (s.fail i).1) ∧ Bk Real AR S w0 w' d g (s.fail i).2 n a q ks := by
  obtain ⟨F, G, h, hks⟩ := h
  refine (D.fail d s F i w h.real h.dok).mono ?_
  rintro e w' ⟨rfl, hupd⟩
  exact ⟨rfl, Bk.step hks (h.dev O hupd (h.up.fail i) h.small)⟩
theorem bk_read (D : DevOk Real) (O : AreaOk Real AR) (h : Bk Real AR S w0 w d g s n a q ks) (i : Int) :
    Calls Tryd.prog 20 #[.pointer (some ⟨d, 0, none⟩), .int .i64 i] w fun e w' => Bk Real AR S w0 w' d g s n a q ks ∧ Below w.heap.size w w' ∧ ∃ A m c v, e = .returned (.tuple #[.slice A m c, v]) ∧ EV S (s.read i).1 v ∧ Sl w' w'.heap.size A m c (s.read i).2 := by
  have h' := h
  obtain ⟨F, G, hd, _⟩ := h
  refine (D.read S d s F i w hd.sent.five hd.real hd.dok).mono ?_
  rintro e w' ⟨A, m, c, v, he, hv, hl, hb, _⟩
  exact ⟨h'.on D O hb, hb, A, m, c, v, he, hv, hl⟩
end
end Go.Proofs.YtfdabbpfphnbhaaDoor
