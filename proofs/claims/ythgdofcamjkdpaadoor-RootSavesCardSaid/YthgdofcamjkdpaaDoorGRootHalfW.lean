/- The walk of RootHalf. -/
import Derived.Test.YthgdofcamjkdpaaDoorGRootGreaterW
namespace Go.Proofs.YthgdofcamjkdpaaDoor
open Go.RowKit

theorem calm_crash (s : DSt) (picks : List Int) : Calm (s.crash picks) := by
  intro b hb
  obtain ⟨j, hj⟩ := List.getElem?_of_mem hb
  simp only [DSt.crash, List.getElem?_mapIdx] at hj
  obtain ⟨y, _, rfl⟩ := Option.map_eq_some_iff.1 hj
  unfold crashAt BSt.crash
  split
  · rfl
  · rename_i h; simpa using h
section
variable {Real : World → Nat → DSt → (Nat → Prop) → Prop} {S : Nat → Addr} {w0 w w' : World} {d n q : Nat} {s : DSt} {F : Nat → Prop}
theorem dk_arm (D : DevOk Real) (h : Dk Real w0 w d n q s F) (hq : q ≤ 900) (k : Int) (hk : k ≤ 1000) : Calls Tryd.prog 16 #[.pointer (some ⟨d, 0, none⟩), .int .i64 k] w fun e w' => e = .returned (.tuple #[]) ∧ ∃ F', Dk Real w0 w' d n q (s.setArm k) F' := by
  refine (D.arm d s F k w h.real (h.okN.ok (by omega))).mono ?_
  rintro e w' ⟨he, hu⟩
  obtain ⟨F', h1, _, _⟩ := h.upd hu (okN_arm h.okN (by omega)) h.len
  exact ⟨he, F', h1⟩
theorem dk_crash (D : DevOk Real) (h : Dk Real w0 w d n q s F) (hq : q ≤ 900) (l : List Int) (hl : l.length ≤ 1000) :
    Calls Tryd.prog 17 #[.pointer (some ⟨d, 0, none⟩), .slice (some ⟨w.heap.size, 0, none⟩) l.length l.length] (w.alloc (.cells (l.map (Value.int .i64)).toArray 3)) fun e w' => e = .returned (.tuple #[]) ∧ ∃ F', Dk Real w0 w' d n q (s.crash l) F' := by
  have hb : Below w.heap.size w (w.alloc (.cells (l.map (Value.int .i64)).toArray 3)) := (Below.refl _ _).alloc (Nat.le_refl _) _
  have h2 := h.on D hb
  refine (D.crash d s F _ _ _ l _ h2.real (h2.okN.ok (by omega)) (Sn.lits w l hl) (fun ad ha _ hf => by cases ha; exact Nat.lt_irrefl _ (D.lt h.real _ hf)) hl).mono ?_
  rintro e w' ⟨he, hu⟩
  obtain ⟨F', h1, _, _⟩ := h2.upd hu (okN_crash h2.okN) (by rw [crash_len]; exact h2.len)
  exact ⟨he, F', h1⟩
/-- made of a list just written -/
theorem dk_madeLit (D : DevOk Real) (h : Dk Real w0 w d n q s F) (e : Int) (l : List Int) (hl : l.length ≤ 1000) :
    Calls Tryd.prog 7 #[.int .i64 e, .slice (some ⟨w.heap.size, 0, none⟩) l.length l.length] (w.alloc (.cells (l.map (Value.int .i64)).toArray 3)) fun x w' => ∃ o : RV, x = .returned o.v ∧ o.Is (mkRoot e l) w' ∧ Dk Real w0 w' d n q s F := by
  have hb : Below w.heap.size w (w.alloc (.cells (l.map (Value.int .i64)).toArray 3)) := (Below.refl _ _).alloc (Nat.le_refl _) _
  refine (dk_made D (h.on D hb) e (Sn.lits w l hl) (by omega)).mono ?_
  rintro x w' ⟨o, he, ho, _, hk⟩
  exact ⟨o, he, ho, hk⟩
/-- the state ahead of the last save: its blocks are blank, the others tell nothing, or a root of a lesser Epoch -/
structure Ahead (s : DSt) (n q p : Nat) (e : Int) (c : BSt) : Prop where
  up : Up s n q
  calm : Calm s
  four : Four s 75 p blank blank c c
  less : ∀ x, readR c.read.2 = some x → x.epoch < e
/-- saved with one copy kept alone -/
theorem half_falls {s : DSt} {q p : Nat} {r : RSt} {c : BSt} (h : Ahead s 300 q p r.epoch c) (hp : p ≤ 1) (hc : r.code = 0) (hs : Sums r.refs) (he : r.epoch % 2 = (p : Int)) (picks : List Int) (hk : picks = [0, 1] ∨ picks = [1, 0]) :
    (saveR (s.setArm 3) 75 r).1 = 106 ∧ ∃ s3, (saveR (s.setArm 3) 75 r).2.crash picks = s3 ∧ s3.down = false ∧ s3.newest 75 = r ∧ s3.copies 75 = 1 ∧ ∃ s4, saveR s3 75 r = (0, s4) ∧ s4.down = false ∧ s4.newest 75 = r ∧ s4.copies 75 = 2 := by
  obtain ⟨f1, f4⟩ := (h.four.falls h.up (by omega) (by omega) hp h.calm hc he picks).2.2.1
  have u3 := up_saveCrash (H := 75) (r := r) h.up 3 (by omega) picks
  obtain ⟨s3, hs3⟩ : ∃ s3, (saveR (s.setArm 3) 75 r).2.crash picks = s3 := ⟨_, rfl⟩
  have k3 : Calm s3 := hs3 ▸ calm_crash _ _
  rw [hs3] at f4 u3
  have h0 : 0 < r.epoch := by have := (RSt.fine hc).1; omega
  have rd : readR (bytesOf r) = some r := readR_bytes hc hs
  have un : Under r (readR c.read.2) := fun x hx => .inr (h.less x hx)
  have uz : readR blank.read.2 = none := readR_zeros
  have ha : readR ((blank.write (bytesOf r)).crash true).read.2 = some r := rd
  have hb : readR ((blank.write (bytesOf r)).crash false).read.2 = none := readR_zeros
  refine ⟨f1, s3, hs3, u3.down, ?_⟩
  obtain ⟨s4, e4, u4, _, g4⟩ := f4.save u3 (by omega) (by omega) hp k3 hc he
  have n4 : s4.newest 75 = r := loads u4 g4 (by omega) hp h0 (by show Under r (readR (bytesOf r)); rw [rd]; exact under_self _) (by show Under r (readR (bytesOf r)); rw [rd]; exact under_self _) un un (.inl rd)
  have c4 : s4.copies 75 = 2 := by
    rw [copied u4 g4 (by omega) hp h0 he n4]
    show has r (readR (bytesOf r)) + has r (readR (bytesOf r)) = 2
    rw [rd, has_self]
  rcases hk with rfl | rfl
  · rw [show keepP [0, 1] 0 = false from rfl, show keepP [0, 1] 1 = true from rfl] at f4
    have n3 : s3.newest 75 = r := loads u3 f4 (by omega) hp h0 (by rw [hb]; exact under_none _) (by rw [ha]; exact under_self _) un un (.inr (.inl ha))
    refine ⟨n3, ?_, s4, e4, u4.down, n4, c4⟩
    rw [copied u3 f4 (by omega) hp h0 he n3, ha, hb, has_self, has_none]
  · rw [show keepP [1, 0] 0 = true from rfl, show keepP [1, 0] 1 = false from rfl] at f4
    have n3 : s3.newest 75 = r := loads u3 f4 (by omega) hp h0 (by rw [ha]; exact under_self _) (by rw [hb]; exact under_none _) un un (.inl ha)
    refine ⟨n3, ?_, s4, e4, u4.down, n4, c4⟩
    rw [copied u3 f4 (by omega) hp h0 he n3, ha, hb, has_self, has_none]
theorem ahead_new {p : Nat} (e : Int) (hp : p ≤ 1) : Ahead (DSt.new 300) 300 0 p e blank :=
  ⟨up_new (by omega), calm_new _, four_new (by omega) hp, fun x hx => by rw [show readR blank.read.2 = none from readR_zeros] at hx; cases hx⟩
theorem ahead_one {p : Nat} {r : RSt} {e : Int} (hp : p ≤ 1) (hc : r.code = 0) (hs : Sums r.refs) (he : r.epoch % 2 = ((1 - p : Nat) : Int)) (hl : r.epoch < e) : ∃ s1 c, saveR (DSt.new 300) 75 r = (0, s1) ∧ Ahead s1 300 3 p e c := by
  obtain ⟨s1, e1, u1, k1, f1⟩ := (four_new (n := 300) (H := 75) (p := 1 - p) (by omega) (by omega)).save (up_new (by omega)) (by omega) (by omega) (by omega) (calm_new 300) hc he
  have f2 := f1.swap (by omega)
  rw [show 1 - (1 - p) = p by omega] at f2
  refine ⟨s1, _, e1, ⟨u1, k1, f2, fun x hx => ?_⟩⟩
  have hx' : readR (bytesOf r) = some x := hx
  rw [readR_bytes hc hs] at hx'
  injection hx' with hx'
  rw [← hx']; exact hl
end
end Go.Proofs.YthgdofcamjkdpaaDoor
