/- What the statements' own helper says of an error with a place around it: the number of the error, and the place. Conditions: the errors lie in their variables; the error is one that a reader has told. -/
import Derived.Test.YtfggfdmjmebgfaaDoorP
namespace Go.Proofs.YtfggfdmjmebgfaaDoor
open Go.RowKit

set_option maxRecDepth 100000 in
set_option maxHeartbeats 2000000 in
theorem sameFault_any (c c' p : Int) (w : World) : Calls Tryd.prog 31 #[.agg #[.int .i64 c, .bool true, .int .i64 p], .agg #[.int .i64 c', .bool true, .int .i64 p]] w fun e w' => e = .returned (.bool (c == c')) ∧ Below w.heap.size w w' := by
  have hp : (p == p) = true := by simp
  rcases hcc : (c == c') with _ | _
  · go_enter Tryd.func31, Tryd.ntmps31
    go_wp2
    go_ret
    exact ⟨rfl, ((Below.refl _ _).alloc (Nat.le_refl _) _).alloc (by simp) _⟩
  · go_enter Tryd.func31, Tryd.ntmps31
    go_wp2
    go_ret
    exact ⟨rfl, ((Below.refl _ _).alloc (Nat.le_refl _) _).alloc (by simp) _⟩

theorem far3 {w : World} {h g : Nat} {p : Int} {er : Addr} (hb : Blk w h 64 #[.int .i64 p, .iface 71 (.pointer (some er))]) (hne : h ≠ g) (a b c : Value) :
    (((w.setCell ⟨g, 0, none⟩ a).setCell ⟨g, 1, none⟩ b).setCell ⟨g, 2, none⟩ c).cell? ⟨h, 0, none⟩ = some (.int .i64 p) ∧ (((w.setCell ⟨g, 0, none⟩ a).setCell ⟨g, 1, none⟩ b).setCell ⟨g, 2, none⟩ c).cell? ⟨h, 1, none⟩ = some (.iface 71 (.pointer (some er))) := by
  have h3 := ((hb.far (p := ⟨g, 0, none⟩) hne a).far (p := ⟨g, 1, none⟩) hne b).far (p := ⟨g, 2, none⟩) hne c
  have c0 := h3.cell 0
  have c1 := h3.cell 1
  simp at c0 c1
  exact ⟨c0, c1⟩

theorem Tryd.as62 (v : Value) (w : World) : (Instr.typeAssert (.iface 62 v) 34 62 true).run Tryd.prog w = .ok (.tuple #[v, .bool true]) w := by kernel_rfl
set_option maxRecDepth 100000 in
set_option maxHeartbeats 2000000 in
theorem fault_any (S : Nat → Addr) (j : Nat) (h : Nat) (p : Int) (w : World) (hS : Sent w S) (hj : j < 24) (hb : Blk w h 64 #[.int .i64 p, .iface 71 (.pointer (some (S j)))]) :
    Calls Tryd.prog 32 #[.iface 62 (.pointer (some ⟨h, 0, none⟩))] w fun e w' => e = .returned (.agg #[.int .i64 (101 + (j : Int)), .bool true, .int .i64 p]) ∧ Below w.heap.size w w' := by
  have c0 := hb.cell 0
  have c1 := hb.cell 1
  have hlt := hb.lt
  simp at c0 c1
  have HS := hid hS
  have HH := hid hb
  clear hS hb
  have has := fun W => Tryd.as62 (.pointer (some ⟨h, 0, none⟩)) W
  go_enter Tryd.func32, Tryd.ntmps32
  go_wp2_with fail
  have HB1 := hid (show Below w.heap.size w (w.alloc (.cells #[.int .i64 0, .bool false, .int .i64 0] 39)) from (Below.refl _ _).alloc (Nat.le_refl _) _)
  have HK1 := hid (Blk.new w 39 #[.int .i64 0, .bool false, .int .i64 0])
  have HH1 := hid (HH.out.alloc (.cells #[.int .i64 0, .bool false, .int .i64 0] 39))
  clear c0 c1
  generalize w.alloc (.cells #[.int .i64 0, .bool false, .int .i64 0] 39) = W1 at *
  have HS1 := hid (HS.out.on HB1.out)
  have c0 := HH1.out.cell 0
  have c1 := HH1.out.cell 1
  simp at c0 c1
  have hlt1 := HK1.out.lt
  go_region_held3 (fun w' => w'.cell? ⟨h, 0, none⟩ = some (.int .i64 p) ∧ w'.cell? ⟨h, 1, none⟩ = some (.iface 71 (.pointer (some (S j))))) (first | exact ⟨d0, d1⟩ | exact ⟨e0, e1⟩ | exact far3 HH3.out (Nat.ne_of_lt hlt) _ _ _ | go_keep)
    ((first | (go_at_call 37; refine (sentinel_any S j _ HS1.out.drew hj).mono ?_; rintro e w2 ⟨rfl, hb2⟩; have d0 := (HH1.out.drew.below hb2 HH1.out.lt).cell 0; have d1 := (HH1.out.drew.below hb2 HH1.out.lt).cell 1; simp at d0 d1; have HK2 := hid (HK1.out.drew.below hb2 HK1.out.lt); have HH2 := hid (HH1.out.drew.below hb2 HH1.out.lt); have HB2 := hid (HB1.out.drew.trans (hb2.mono HB1.out.size)); clear hb2) | (go_at_call 22; refine (placed_any (101 + (j : Int)) p _ (by omega)).mono ?_; rintro e w3 ⟨rfl, hb3⟩; have e0 := (HH2.out.below hb3 HH2.out.lt).cell 0; have e1 := (HH2.out.below hb3 HH2.out.lt).cell 1; simp at e0 e1; have HK3 := hid (HK2.out.below hb3 HK2.out.lt); have HB3 := hid (HB2.out.trans (hb3.mono HB2.out.size)); have HH3 := hid (HH2.out.below hb3 HH2.out.lt); clear hb3; have k0 := HK3.out.cell 0; have k1 := HK3.out.cell 1; have k2 := HK3.out.cell 2; simp at k0 k1 k2; have f0 := HK3.out.free 0; have f1 := HK3.out.free 1; have f2 := HK3.out.free 2)))
  have HF := hid (show Below w.heap.size w (((w3.setCell ⟨w.heap.size, 0, none⟩ (.int .i64 (101 + (j : Int)))).setCell ⟨w.heap.size, 1, none⟩ (.bool true)).setCell ⟨w.heap.size, 2, none⟩ (.int .i64 p)) from ((HB3.out.setCell (p := ⟨w.heap.size, 0, none⟩) (Nat.le_refl _) _).setCell (p := ⟨w.heap.size, 1, none⟩) (Nat.le_refl _) _).setCell (p := ⟨w.heap.size, 2, none⟩) (Nat.le_refl _) _)
  have HK4 := ((HK3.out.put 0 (.int .i64 (101 + (j : Int)))).put 1 (.bool true)).put 2 (.int .i64 p)
  have m0 := HK4.cell 0
  have m1 := HK4.cell 1
  have m2 := HK4.cell 2
  simp at m0 m1 m2
  clear HK4
  go_wp2
  exact bodyPost_ret (v := .agg #[.int .i64 (101 + (j : Int)), .bool true, .int .i64 p]) (by simp [results, Tryd.results32, go_sem, m0, m1, m2]) rfl ⟨rfl, HF.out⟩

set_option maxRecDepth 100000 in
set_option maxHeartbeats 2000000 in
theorem see_any (S : Nat → Addr) (j : Nat) (h : Nat) (p c : Int) (w : World) (hS : Sent w S) (hj : j < 24) (hb : Blk w h 64 #[.int .i64 p, .iface 71 (.pointer (some (S j)))]) (hc : c = 101 + (j : Int)) :
    Calls Tryd.prog 21 #[.iface 62 (.pointer (some ⟨h, 0, none⟩)), .agg #[.int .i64 c, .bool true, .int .i64 p]] w (Yes w) := by
  have HS := hid hS
  have HH := hid hb
  have HC := hid hc
  clear hS hb hc
  go_enter Tryd.func21, Tryd.ntmps21
  go_wp2_with fail
  have HB1 := hid (show Below w.heap.size w (w.alloc (.cells #[.int .i64 c, .bool true, .int .i64 p] 39)) from (Below.refl _ _).alloc (Nat.le_refl _) _)
  have HK1 := hid (Blk.new w 39 #[.int .i64 c, .bool true, .int .i64 p])
  have HH1 := hid (HH.out.alloc (.cells #[.int .i64 c, .bool true, .int .i64 p] 39))
  generalize w.alloc (.cells #[.int .i64 c, .bool true, .int .i64 p] 39) = W1 at *
  have HS1 := hid (HS.out.on HB1.out)
  have k0 := HK1.out.cell 0
  have k1 := HK1.out.cell 1
  have k2 := HK1.out.cell 2
  simp at k0 k1 k2
  go_region_held3 (fun w' => w'.cell? ⟨w.heap.size, 0, none⟩ = some (.int .i64 c) ∧ w'.cell? ⟨w.heap.size, 1, none⟩ = some (.bool true) ∧ w'.cell? ⟨w.heap.size, 2, none⟩ = some (.int .i64 p)) (first | exact ⟨d0, d1, d2⟩ | exact ⟨e0, e1, e2⟩ | go_keep)
    ((first | (go_at_call 32; refine (fault_any S j h p _ HS1.out.drew hj HH1.out.drew).mono ?_; rintro e w2 ⟨rfl, hb2⟩; have d0 := (HK1.out.drew.below hb2 HK1.out.lt).cell 0; have d1 := (HK1.out.drew.below hb2 HK1.out.lt).cell 1; have d2 := (HK1.out.drew.below hb2 HK1.out.lt).cell 2; simp at d0 d1 d2; have HK2 := hid (HK1.out.drew.below hb2 HK1.out.lt); have HB2 := hid (HB1.out.drew.trans (hb2.mono HB1.out.size)); clear hb2) | (go_at_call 31; refine (sameFault_any _ _ p _).mono ?_; rintro e w3 ⟨rfl, hb3⟩; have e0 := (HK2.out.below hb3 HK2.out.lt).cell 0; have e1 := (HK2.out.below hb3 HK2.out.lt).cell 1; have e2 := (HK2.out.below hb3 HK2.out.lt).cell 2; simp at e0 e1 e2; have HB3 := hid (HB2.out.trans (hb3.mono HB2.out.size)); clear hb3)))
  go_wp2
  go_ret
  refine ⟨?_, HB3.out⟩
  have e : ((101 + (j : Int)) == c) = true := by rw [HC.out]; simp
  exact congrArg (fun b => Ending.returned (.bool b)) e
end Go.Proofs.YtfggfdmjmebgfaaDoor
