/- Num stops, at the place where it began, where the form is none, is cut off, or out of its bounds; a reader that has stopped answers nothing and changes nothing. Conditions: as said in each. -/
import Derived.Test.YtfggfdmjmebgfaaDoorH
namespace Go.Proofs.YtfggfdmjmebgfaaDoor
open Go.RowKit

/-- the reader of block g has stopped at p with the error er around which the place is -/
def Stopped (w : World) (g : Nat) (A : Option Addr) (n c : Nat) (l : List Int) (p : Int) (er : Addr) (w' : World) : Prop :=
  ∃ h, w.heap.size ≤ h ∧ Blk w' h 64 #[.int .i64 p, .iface 71 (.pointer (some er))] ∧ Rdr w' g A n c l p (.iface 62 (.pointer (some ⟨h, 0, none⟩))) ∧ w.grownBy w' (some g)
theorem Stopped.of_drewN {w w' : World} {g n c : Nat} {A : Option Addr} {l : List Int} {p : Int} {er : Addr} {k : Nat} (h : Stopped (w.drewN k) g A n c l p er w') : Stopped w g A n c l p er w' := by
  obtain ⟨x, h1, h2, h3, h4⟩ := h
  exact ⟨x, h1, h2, h3, ⟨h4.os, h4.tape, h4.output, h4.size, h4.block⟩⟩

set_option maxRecDepth 100000 in
set_option maxHeartbeats 1000000 in
theorem stop_any {A : Option Addr} {n c g : Nat} {l : List Int} {er : Addr} {q : Int} {ev : Value} {w : World} (p : Int) (h : Rdr w g A n c l q ev) :
    Calls Tryd.prog 30 #[.pointer (some ⟨g, 0, none⟩), .int .i64 p, .iface 71 (.pointer (some er))] w fun e w' => e = .returned (.tuple #[]) ∧ Stopped w g A n c l p er w' := by
  have c1 := h.blk.cell 1
  have f1 := h.blk.free 1
  have hm := (h.move p).alloc (.cells #[.int .i64 p, .iface 71 (.pointer (some er))] 64)
  have c2 := hm.blk.cell 2
  have f2 := hm.blk.free 2
  simp at c1 c2
  have hlt := h.blk.lt
  have HF := hid (show Stopped w g A n c l p er (((w.setCell ⟨g, 1, none⟩ (.int .i64 p)).setCell ⟨g, 2, none⟩ (.iface 62 (.pointer (some ⟨w.heap.size, 0, none⟩)))).alloc (.cells #[.int .i64 p, .iface 71 (.pointer (some er))] 64)) from ⟨w.heap.size, Nat.le_refl _, by
    have := Blk.new ((w.setCell ⟨g, 1, none⟩ (.int .i64 p)).setCell ⟨g, 2, none⟩ (.iface 62 (.pointer (some ⟨w.heap.size, 0, none⟩)))) 64 #[.int .i64 p, .iface 71 (.pointer (some er))]
    simpa [World.setCell] using this, ((h.move p).fail _).alloc _, only_alloc (only_put (only_put (only_refl _ _) _ _) _ _) _⟩)
  clear hm h
  go_enter Tryd.func30, Tryd.ntmps30
  go_wp2
  go_end0
  exact ⟨rfl, HF.out⟩

theorem unpair {w : World} {g n c : Nat} {A : Option Addr} {l : List Int} {p : Int} {ev : Value} (h : Rdr w g A n c l p ev) : w.cell? ⟨g, 0, none⟩ = some (.slice A n c) ∧ w.cell? ⟨g, 1, none⟩ = some (.int .i64 p) ∧ w.cell? ⟨g, 2, none⟩ = some ev := by
  have c0 := h.blk.cell 0
  have c1 := h.blk.cell 1
  have c2 := h.blk.cell 2
  simp at c0 c1 c2
  exact ⟨c0, c1, c2⟩

set_option maxRecDepth 100000 in
set_option maxHeartbeats 1000000 in
theorem num_ends {A : Option Addr} {n c g p : Nat} {l : List Int} {aR aE aS : Addr} {w : World} (low high : Int) (h : Rdr w g A n c l (p : Int) .nilIface) (hE : Errs w aR aE aS) (hl : Byt l) (hn : n ≤ 100000) (hp : p ≤ n)
    (hr : scan (l.drop p) 0 0 = (2, 0, 0)) :
    Calls Tryd.prog 17 #[.pointer (some ⟨g, 0, none⟩), .int .i64 low, .int .i64 high] w fun e w' => e = .returned (.int .i64 0) ∧ Stopped w g A n c l (p : Int) aE w' := by
  obtain ⟨c0, c1, c2⟩ := unpair h
  have HH := hid h
  have HC := hid (h.sl.cut (k := p) (by omega))
  have HR := hid hr
  have HL := hid (hl.drop p)
  have HX := hid hE
  clear h hr hl hE
  go_enter Tryd.func17, Tryd.ntmps17
  go_wp2_with fail
  go_quiet ((go_at_call 29; exact Calls.quiet_of (first_ends HR.out (HC.out.drewN _) HL.out (by omega) HX.out.ends HX.out.shape)))
  generalize (if c = p then A else A.map (·.add p)) = A'
  go_wp2_with fail
  refine (stop_any (p : Int) (HH.out.drewN _)).mono ?_
  rintro e w2 ⟨rfl, hs⟩
  have HF := hid hs.of_drewN
  clear hs
  go_wp2
  go_ret
  exact ⟨rfl, HF.out⟩

set_option maxRecDepth 100000 in
set_option maxHeartbeats 1000000 in
theorem num_shape {A : Option Addr} {n c g p : Nat} {l : List Int} {aR aE aS : Addr} {w : World} (low high : Int) (h : Rdr w g A n c l (p : Int) .nilIface) (hE : Errs w aR aE aS) (hl : Byt l) (hn : n ≤ 100000) (hp : p ≤ n)
    (hr : scan (l.drop p) 0 0 = (1, 0, 0)) :
    Calls Tryd.prog 17 #[.pointer (some ⟨g, 0, none⟩), .int .i64 low, .int .i64 high] w fun e w' => e = .returned (.int .i64 0) ∧ Stopped w g A n c l (p : Int) aS w' := by
  obtain ⟨c0, c1, c2⟩ := unpair h
  have HH := hid h
  have HC := hid (h.sl.cut (k := p) (by omega))
  have HR := hid hr
  have HL := hid (hl.drop p)
  have HX := hid hE
  clear h hr hl hE
  go_enter Tryd.func17, Tryd.ntmps17
  go_wp2_with fail
  go_quiet ((go_at_call 29; exact Calls.quiet_of (first_shape HR.out (HC.out.drewN _) HL.out (by omega) HX.out.ends HX.out.shape)))
  generalize (if c = p then A else A.map (·.add p)) = A'
  go_wp2_with fail
  refine (stop_any (p : Int) (HH.out.drewN _)).mono ?_
  rintro e w2 ⟨rfl, hs⟩
  have HF := hid hs.of_drewN
  clear hs
  go_wp2
  go_ret
  exact ⟨rfl, HF.out⟩

set_option maxRecDepth 100000 in
set_option maxHeartbeats 1000000 in
theorem num_range {A : Option Addr} {n c g p u s : Nat} {l : List Int} {aR aE aS : Addr} {w : World} (low high : Int) (h : Rdr w g A n c l (p : Int) .nilIface) (hE : Errs w aR aE aS) (hl : Byt l) (hn : n ≤ 100000) (hp : p ≤ n)
    (hr : scan (l.drop p) 0 0 = (0, u, s)) (hb : unzz u < low ∨ high < unzz u) :
    Calls Tryd.prog 17 #[.pointer (some ⟨g, 0, none⟩), .int .i64 low, .int .i64 high] w fun e w' => e = .returned (.int .i64 0) ∧ Stopped w g A n c l (p : Int) aR w' := by
  obtain ⟨c0, c1, c2⟩ := unpair h
  have ce := hE.range
  have HH := hid h
  have HC := hid (h.sl.cut (k := p) (by omega))
  have HR := hid hr
  have HL := hid (hl.drop p)
  have HX := hid hE
  clear h hr hl hE
  generalize hv : unzz u = v at *
  have HV := hid hv
  clear hv
  rcases Int.lt_or_le v low with h0 | h0
  all_goals
    first
      | have d0 : decide (v < low) = true := by simpa using h0
      | (have d0 : decide (v < low) = false := by simpa using h0
         have h1 : high < v := by omega
         have d1 : decide (high < v) = true := by simpa using h1)
    clear hb
    go_enter Tryd.func17, Tryd.ntmps17
    go_wp2_with fail
    go_quiet ((go_at_call 29; exact Calls.quiet_of (first_ok HR.out (HC.out.drewN _) HL.out (by omega) HX.out.ends HX.out.shape)))
    rw [HV.out]
    generalize (if c = p then A else A.map (·.add p)) = A'
    go_wp2_with fail
    refine (stop_any (p : Int) (HH.out.drewN _)).mono ?_
    rintro e w2 ⟨rfl, hs⟩
    have HF := hid hs.of_drewN
    clear hs
    go_wp2
    go_ret
    exact ⟨rfl, HF.out⟩

/-- a reader that has stopped answers nothing, and changes nothing -/
theorem num_none {A : Option Addr} {n c g h : Nat} {l : List Int} {p low high : Int} {w : World} (hh : Rdr w g A n c l p (.iface 62 (.pointer (some ⟨h, 0, none⟩)))) :
    Calls Tryd.prog 17 #[.pointer (some ⟨g, 0, none⟩), .int .i64 low, .int .i64 high] w fun e w' => e = .returned (.int .i64 0) ∧ w = w' := by
  obtain ⟨_, _, c2⟩ := unpair hh
  clear hh
  go_enter Tryd.func17, Tryd.ntmps17
  go_wp2
  go_ret
  exact ⟨rfl, rfl⟩

theorem err_any {A : Option Addr} {n c g : Nat} {l : List Int} {p : Int} {ev : Value} {w : World} (hh : Rdr w g A n c l p ev) :
    Calls Tryd.prog 20 #[.pointer (some ⟨g, 0, none⟩)] w fun e w' => e = .returned ev ∧ w = w' := by
  obtain ⟨_, _, c2⟩ := unpair hh
  clear hh
  go_enter Tryd.func20, Tryd.ntmps20
  go_wp2
  go_ret
  exact ⟨rfl, rfl⟩
theorem at_any {A : Option Addr} {n c g : Nat} {l : List Int} {p : Int} {ev : Value} {w : World} (hh : Rdr w g A n c l p ev) :
    Calls Tryd.prog 23 #[.pointer (some ⟨g, 0, none⟩)] w fun e w' => e = .returned (.int .i64 p) ∧ w = w' := by
  obtain ⟨_, c1, _⟩ := unpair hh
  clear hh
  go_enter Tryd.func23, Tryd.ntmps23
  go_wp2
  go_ret
  exact ⟨rfl, rfl⟩
theorem left_any {A : Option Addr} {n c g p : Nat} {l : List Int} {w : World} (hh : Rdr w g A n c l (p : Int) .nilIface) (hp : p ≤ n) (hn : n ≤ 100000) :
    Calls Tryd.prog 19 #[.pointer (some ⟨g, 0, none⟩)] w fun e w' => e = .returned (.int .i64 ((n - p : Nat) : Int)) ∧ ∃ k, w' = w.drewN k := by
  obtain ⟨c0, c1, c2⟩ := unpair hh
  clear hh
  have HE := hid (show (n : Int) - (p : Int) = ((n - p : Nat) : Int) by omega)
  go_enter Tryd.func19, Tryd.ntmps19
  go_wp2_with fail
  go_quiet (fail)
  go_wp2
  go_ret
  rw [← HE.out]
  exact ⟨rfl, _, rfl⟩
theorem left_none {A : Option Addr} {n c g h : Nat} {l : List Int} {p : Int} {w : World} (hh : Rdr w g A n c l p (.iface 62 (.pointer (some ⟨h, 0, none⟩)))) :
    Calls Tryd.prog 19 #[.pointer (some ⟨g, 0, none⟩)] w fun e w' => e = .returned (.int .i64 0) ∧ w = w' := by
  obtain ⟨_, _, c2⟩ := unpair hh
  clear hh
  go_enter Tryd.func19, Tryd.ntmps19
  go_wp2
  go_ret
  exact ⟨rfl, rfl⟩
theorem bool_none {A : Option Addr} {n c g h : Nat} {l : List Int} {p : Int} {w : World} (hh : Rdr w g A n c l p (.iface 62 (.pointer (some ⟨h, 0, none⟩)))) :
    Calls Tryd.prog 24 #[.pointer (some ⟨g, 0, none⟩)] w fun e w' => e = .returned (.bool false) ∧ w = w' := by
  have HH := hid hh
  clear hh
  go_enter Tryd.func24, Tryd.ntmps24
  go_wp2_with fail
  refine (num_none HH.out).mono ?_
  rintro e w' ⟨rfl, rfl⟩
  go_wp2
  go_ret
  exact ⟨rfl, rfl⟩
end Go.Proofs.YtfggfdmjmebgfaaDoor
