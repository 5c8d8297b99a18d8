/- Num answers the number that is next, within its bounds, and goes on behind it. Conditions: a reader without an error, the form at its place is a number within the bounds. -/
import Derived.Test.YtfggfdmjmebgfaaDoorG
namespace Go.Proofs.YtfggfdmjmebgfaaDoor
open Go.RowKit

theorem first_ok {A : Option Addr} {n c B : Nat} {l : List Int} {eS eE : Value} {w : World} {u s : Nat} (hr : scan l 0 0 = (0, u, s)) (h : Sl w B A n c l) (hl : Byt l) (hn : n ≤ 100000) (h1 : w.cell? ⟨1, 0, none⟩ = some eE) (h2 : w.cell? ⟨2, 0, none⟩ = some eS) :
    Calls Tryd.prog 29 #[.slice A n c] w fun e w' => e = .returned (.tuple #[.int .i64 (unzz u), .int .i64 (s : Int), .nilIface]) ∧ ∃ k, w' = w.drewN k := by
  refine (firstNum_any A n c B l eS eE w h hl hn h1 h2).mono fun e w' ⟨he, hw⟩ => ⟨?_, hw⟩
  rw [he, hr]
  rfl
theorem first_shape {A : Option Addr} {n c B : Nat} {l : List Int} {eS eE : Value} {w : World} (hr : scan l 0 0 = (1, 0, 0)) (h : Sl w B A n c l) (hl : Byt l) (hn : n ≤ 100000) (h1 : w.cell? ⟨1, 0, none⟩ = some eE) (h2 : w.cell? ⟨2, 0, none⟩ = some eS) :
    Calls Tryd.prog 29 #[.slice A n c] w fun e w' => e = .returned (.tuple #[.int .i64 0, .int .i64 0, eS]) ∧ ∃ k, w' = w.drewN k := by
  refine (firstNum_any A n c B l eS eE w h hl hn h1 h2).mono fun e w' ⟨he, hw⟩ => ⟨?_, hw⟩
  rw [he, hr]
  rfl
theorem first_ends {A : Option Addr} {n c B : Nat} {l : List Int} {eS eE : Value} {w : World} (hr : scan l 0 0 = (2, 0, 0)) (h : Sl w B A n c l) (hl : Byt l) (hn : n ≤ 100000) (h1 : w.cell? ⟨1, 0, none⟩ = some eE) (h2 : w.cell? ⟨2, 0, none⟩ = some eS) :
    Calls Tryd.prog 29 #[.slice A n c] w fun e w' => e = .returned (.tuple #[.int .i64 0, .int .i64 0, eE]) ∧ ∃ k, w' = w.drewN k := by
  refine (firstNum_any A n c B l eS eE w h hl hn h1 h2).mono fun e w' ⟨he, hw⟩ => ⟨?_, hw⟩
  rw [he, hr]
  rfl

/-- the errors that a reader tells, in their variables -/
structure Errs (w : World) (aR aE aS : Addr) : Prop where
  range : w.cell? ⟨0, 0, none⟩ = some (.iface 71 (.pointer (some aR)))
  ends : w.cell? ⟨1, 0, none⟩ = some (.iface 71 (.pointer (some aE)))
  shape : w.cell? ⟨2, 0, none⟩ = some (.iface 71 (.pointer (some aS)))

theorem Sl.put {w : World} {g B n c : Nat} {A : Option Addr} {l : List Int} (h : Sl w B A n c l) (hB : B ≤ g) (i : Nat) (u : Value) : Sl (w.setCell ⟨g, i, none⟩ u) B A n c l :=
  h.keep fun p hp => World.cell?_setCell_other w ⟨g, i, none⟩ p u (fun e => by subst e; exact absurd hp (by show ¬ g < B; omega))
theorem Rdr.drewN {w : World} {g n c : Nat} {A : Option Addr} {l : List Int} {p : Int} {ev : Value} (h : Rdr w g A n c l p ev) (k : Nat) : Rdr (w.drewN k) g A n c l p ev := ⟨h.blk.drewN k, h.sl.drewN k⟩
theorem Rdr.move {w : World} {g n c : Nat} {A : Option Addr} {l : List Int} {p : Int} {ev : Value} (h : Rdr w g A n c l p ev) (q : Int) : Rdr (w.setCell ⟨g, 1, none⟩ (.int .i64 q)) g A n c l q ev :=
  ⟨h.blk.put 1 _, h.sl.put (Nat.le_refl _) _ _⟩
theorem Rdr.fail {w : World} {g n c : Nat} {A : Option Addr} {l : List Int} {p : Int} {ev : Value} (h : Rdr w g A n c l p ev) (u : Value) : Rdr (w.setCell ⟨g, 2, none⟩ u) g A n c l p u :=
  ⟨h.blk.put 2 _, h.sl.put (Nat.le_refl _) _ _⟩
theorem Rdr.alloc {w : World} {g n c : Nat} {A : Option Addr} {l : List Int} {p : Int} {ev : Value} (h : Rdr w g A n c l p ev) (o : Obj) : Rdr (w.alloc o) g A n c l p ev :=
  ⟨h.blk.alloc o, h.sl.alloc (Nat.le_of_lt h.blk.lt) o⟩

def NumOk (w : World) (g : Nat) (A : Option Addr) (n c : Nat) (l : List Int) (p : Nat) (v : Int) (e : Ending) (w' : World) : Prop :=
  e = .returned (.int .i64 v) ∧ Rdr w' g A n c l (p : Int) .nilIface ∧ w.grownBy w' (some g)

set_option maxRecDepth 100000 in
set_option maxHeartbeats 1000000 in
theorem num_ok {A : Option Addr} {n c g p u s : Nat} {l : List Int} {aR aE aS : Addr} {w : World} (low high : Int) (h : Rdr w g A n c l (p : Int) .nilIface) (hE : Errs w aR aE aS) (hl : Byt l) (hn : n ≤ 100000)
    (hr : scan (l.drop p) 0 0 = (0, u, s)) (hs : p + s ≤ n) (h0 : low ≤ unzz u) (h1 : unzz u ≤ high) :
    Calls Tryd.prog 17 #[.pointer (some ⟨g, 0, none⟩), .int .i64 low, .int .i64 high] w (NumOk w g A n c l (p + s) (unzz u)) := by
  have c0 := h.blk.cell 0
  have c1 := h.blk.cell 1
  have c2 := h.blk.cell 2
  have f1 := h.blk.free 1
  simp at c0 c1 c2
  have HH := hid h
  have HC := hid (h.sl.cut (k := p) (by omega))
  have HR := hid hr
  have HL := hid (hl.drop p)
  have HX := hid hE
  clear h hr hl hE
  generalize hv : unzz u = v at *
  have HV := hid hv
  clear hv
  have d0 : decide (v < low) = false := by simp; omega
  have d1 : decide (high < v) = false := by simp; omega
  go_enter Tryd.func17, Tryd.ntmps17
  go_wp2_with fail
  go_quiet ((go_at_call 29; exact Calls.quiet_of (first_ok HR.out (HC.out.drewN _) HL.out (by omega) HX.out.ends HX.out.shape)))
  rw [HV.out]
  have HF := fun k => hid (show NumOk w g A n c l (p + s) v (.returned (.int .i64 v)) ((w.drewN k).setCell ⟨g, 1, none⟩ (.int .i64 ((p : Int) + (s : Int)))) from ⟨rfl, by
    have := (HH.out.drewN k).move ((p : Int) + (s : Int))
    rwa [show ((p : Int) + (s : Int)) = ((p + s : Nat) : Int) by omega] at this ⊢, only_put (only_drewN (only_refl _ _) _) _ _⟩)
  generalize (if c = p then A else A.map (·.add p)) = A'
  go_wp2
  go_ret
  exact (HF _).out
end Go.Proofs.YtfggfdmjmebgfaaDoor
