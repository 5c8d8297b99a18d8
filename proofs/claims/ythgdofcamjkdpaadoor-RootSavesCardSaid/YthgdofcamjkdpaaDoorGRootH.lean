/- Package root: newest. -/
import Derived.Test.YthgdofcamjkdpaaDoorGRootG
namespace Go.Proofs.YthgdofcamjkdpaaDoor
open Go.RowKit

theorem Tryd.idxF0 (a b c d e f g h : Value) (w : World) : (Instr.index 86 (.agg #[a, b, c, d, e, f, g, h]) (.int .i64 0)).run Tryd.prog w = .ok (.agg #[a, b, c, d]) w := by kernel_rfl
theorem Tryd.idxF1 (a b c d e f g h : Value) (w : World) : (Instr.index 86 (.agg #[a, b, c, d, e, f, g, h]) (.int .i64 1)).run Tryd.prog w = .ok (.agg #[e, f, g, h]) w := by kernel_rfl
theorem Tryd.idxP0 (a b c d : Value) (w : World) : (Instr.index 84 (.agg #[a, b, c, d]) (.int .i64 0)).run Tryd.prog w = .ok (.agg #[a, b]) w := by kernel_rfl
theorem Tryd.idxP1 (a b c d : Value) (w : World) : (Instr.index 84 (.agg #[a, b, c, d]) (.int .i64 1)).run Tryd.prog w = .ok (.agg #[c, d]) w := by kernel_rfl
/-- the one of the greater Epoch -/
def bet (out r : RSt) : RSt := if out.epoch < r.epoch then r else out
def nb (f : Nat → RSt) : Nat → RSt
  | 0 => noRoot
  | k + 1 => bet (nb f k) (f k)
theorem nb_gt {f : Nat → RSt} {k : Nat} (h : (nb f k).epoch < (f k).epoch) : nb f (k + 1) = f k := if_pos h
theorem nb_le {f : Nat → RSt} {k : Nat} (h : ¬ (nb f k).epoch < (f k).epoch) : nb f (k + 1) = nb f k := if_neg h
/-- the newest so far -/
structure Nws (w wr : World) (g3 g2 : Nat) (f : Nat → RSt) (m : Nat) (o : RV) : Prop where
  is_ : o.Is (nb f m) w
  blk : Blk wr g3 31 #[.int .i64 o.e, o.s]
  res : Blk wr g2 31 #[.int .i64 0, .slice none 0 0]
  below : Below w.heap.size w wr
theorem Nws.alloc {w wr : World} {g3 g2 m : Nat} {f : Nat → RSt} {o : RV} (h : Nws w wr g3 g2 f m o) (ob : Obj) : Nws w (wr.alloc ob) g3 g2 f m o := ⟨h.is_, h.blk.alloc _, h.res.alloc _, h.below.alloc h.below.size _⟩
theorem Nws.skip {w wr : World} {g3 g2 m : Nat} {f : Nat → RSt} {o : RV} (h : Nws w wr g3 g2 f m o) (hle : ¬ (nb f m).epoch < (f m).epoch) : Nws w wr g3 g2 f (m + 1) o := ⟨by rw [nb_le hle]; exact h.is_, h.blk, h.res, h.below⟩
theorem Nws.take {w wr : World} {g3 g2 m : Nat} {f : Nat → RSt} {o y : RV} (h : Nws w wr g3 g2 f m o) (hlt : (nb f m).epoch < (f m).epoch) (hy : y.Is (f m) w) (h2 : g2 ≠ g3) (hg : w.heap.size ≤ g3) : Nws w ((wr.setCell ⟨g3, 0, none⟩ (.int .i64 y.e)).setCell ⟨g3, 1, none⟩ y.s) g3 g2 f (m + 1) y :=
  ⟨by rw [nb_gt hlt]; exact hy, box_put h.blk rfl _ _, (h.res.far (p := ⟨g3, 0, none⟩) h2 _).far (p := ⟨g3, 1, none⟩) h2 _, below_box h.below hg _ _⟩
set_option maxRecDepth 100000 in
set_option maxHeartbeats 4000000 in
theorem newestR_any (f : Nat → RSt) (x : Nat → RV) (w : World) (h : ∀ j, j < 4 → (x j).Is (f j) w) :
    Calls Tryd.prog 35 #[fnV x] w fun e w' => ∃ o : RV, e = .returned o.v ∧ o.Is (nb f 4) w' ∧ Below w.heap.size w w' ∧ ∀ ad, o.A = some ad → ∃ j, j < 4 ∧ (x j).A = some ad := by
  have HX := hid h
  clear h
  go_enter Tryd.func35, Tryd.ntmps35
  have HN0 := hid (show Nws w (((w.alloc (.cells (fnC x) 86)).alloc (.cells #[.int .i64 0, .slice none 0 0] 31)).alloc (.cells #[.int .i64 0, .slice none 0 0] 31)) (w.heap.size + 2) (w.heap.size + 1) f 0 rv0 from by
    have h2 := Blk.new ((w.alloc (.cells (fnC x) 86)).alloc (.cells #[.int .i64 0, .slice none 0 0] 31)) 31 #[.int .i64 0, .slice none 0 0]
    have h1 := Blk.new (w.alloc (.cells (fnC x) 86)) 31 #[.int .i64 0, .slice none 0 0]
    refine ⟨⟨rfl, Rf.empty _ _⟩, by simp at h2; exact h2, by simpa using h1.alloc _, (((Below.refl _ _).alloc (Nat.le_refl _) _).alloc (by simp) _).alloc (by simp; omega) _⟩)
  have HK0 := hid (show Blk (((w.alloc (.cells (fnC x) 86)).alloc (.cells #[.int .i64 0, .slice none 0 0] 31)).alloc (.cells #[.int .i64 0, .slice none 0 0] 31)) w.heap.size 86 (fnC x) from ((Blk.new w _ _).alloc _).alloc _)
  have k0 := HK0.out.cell 0
  have k1 := HK0.out.cell 1
  have k2 := HK0.out.cell 2
  have k3 := HK0.out.cell 3
  have k4 := HK0.out.cell 4
  have k5 := HK0.out.cell 5
  have k6 := HK0.out.cell 6
  have k7 := HK0.out.cell 7
  simp [fnC] at k0 k1 k2 k3 k4 k5 k6 k7
  go_wp2
  go_loopw [9] (fun i wr => ∃ (m : Nat) (o : RV), m ≤ 2 ∧ i = .int .i64 (m : Int) ∧ Nws w wr (w.heap.size + 2) (w.heap.size + 1) f (2 * m) o ∧ (∀ ad, o.A = some ad → ∃ j, j < 4 ∧ (x j).A = some ad)) (fun i _ => 2 - (intOf i).toNat)
  case atStart => exact ⟨0, rv0, by omega, rfl, HN0.out, fun _ h => by cases h⟩
  case round =>
    obtain ⟨m, o, hm, rfl, hn, ho⟩ := hrel
    have HN := hid hn
    have HO := hid ho
    clear hn ho
    rcases (show m = 0 ∨ m = 1 ∨ m = 2 by omega) with rfl | rfl | rfl
    · have xF := fun W => Tryd.idxF0 (.int .i64 (x 0).e) (x 0).s (.int .i64 (x 1).e) (x 1).s (.int .i64 (x 2).e) (x 2).s (.int .i64 (x 3).e) (x 3).s W
      have HN3 := hid (HN.out.alloc (.cells #[.int .i64 (x 0).e, (x 0).s, .int .i64 (x 1).e, (x 1).s] 84))
      go_wp2
      go_loopw [13] (fun i wr => ∃ (k : Nat) (o : RV), k ≤ 2 ∧ i = .int .i64 (k : Int) ∧ Nws w wr (w.heap.size + 2) (w.heap.size + 1) f (2 * 0 + k) o ∧ (∀ ad, o.A = some ad → ∃ j, j < 4 ∧ (x j).A = some ad)) (fun i _ => 2 - (intOf i).toNat)
      case atStart => exact ⟨0, o, by omega, rfl, HN3.out, HO.out⟩
      case round =>
        obtain ⟨k, o, hk, rfl, hn, ho⟩ := hrel
        have HNr := hid hn
        have HOr := hid ho
        clear hn ho xF
        rcases (show k = 0 ∨ k = 1 ∨ k = 2 by omega) with rfl | rfl | rfl
        · have xP := fun W => Tryd.idxP0 (.int .i64 (x 0).e) (x 0).s (.int .i64 (x 1).e) (x 1).s W
          have hyj := HX.out 0 (by omega)
          have HNb := hid (HNr.out.alloc (.cells #[.int .i64 (x 0).e, (x 0).s] 31))
          have b0 := HNb.out.blk.cell 0
          have b1 := HNb.out.blk.cell 1
          have fr := fun i => HNb.out.blk.free i
          simp at b0 b1
          have hoe := HNr.out.is_.1
          have hye := hyj.1
          have HYj := hid hyj
          by_cases hlt : o.e < (x 0).e
          · have HNn := hid (HNb.out.take (m := 0) (y := x 0) (by have h1 : o.e = (nb f 0).epoch := hoe; rw [← h1, ← hye]; exact hlt) HYj.out (by omega) (by omega))
            clear hoe hye hyj
            go_wp2
            go_roundw
            case rel => exact ⟨1, x 0, by omega, rfl, HNn.out, fun ad ha => ⟨0, by omega, ha⟩⟩
            case measure => simp [intOf]
          · have HNn := hid (HNb.out.skip (m := 0) (by have h1 : o.e = (nb f 0).epoch := hoe; rw [← h1, ← hye]; exact hlt))
            clear hoe hye hyj
            go_wp2
            go_roundw
            case rel => exact ⟨1, o, by omega, rfl, HNn.out, HOr.out⟩
            case measure => simp [intOf]
        · have xP := fun W => Tryd.idxP1 (.int .i64 (x 0).e) (x 0).s (.int .i64 (x 1).e) (x 1).s W
          have hyj := HX.out 1 (by omega)
          have HNb := hid (HNr.out.alloc (.cells #[.int .i64 (x 1).e, (x 1).s] 31))
          have b0 := HNb.out.blk.cell 0
          have b1 := HNb.out.blk.cell 1
          have fr := fun i => HNb.out.blk.free i
          simp at b0 b1
          have hoe := HNr.out.is_.1
          have hye := hyj.1
          have HYj := hid hyj
          by_cases hlt : o.e < (x 1).e
          · have HNn := hid (HNb.out.take (m := 1) (y := x 1) (by have h1 : o.e = (nb f 1).epoch := hoe; rw [← h1, ← hye]; exact hlt) HYj.out (by omega) (by omega))
            clear hoe hye hyj
            go_wp2
            go_roundw
            case rel => exact ⟨2, x 1, by omega, rfl, HNn.out, fun ad ha => ⟨1, by omega, ha⟩⟩
            case measure => simp [intOf]
          · have HNn := hid (HNb.out.skip (m := 1) (by have h1 : o.e = (nb f 1).epoch := hoe; rw [← h1, ← hye]; exact hlt))
            clear hoe hye hyj
            go_wp2
            go_roundw
            case rel => exact ⟨2, o, by omega, rfl, HNn.out, HOr.out⟩
            case measure => simp [intOf]
        · go_wp2
          go_roundw
          case rel => exact ⟨1, o, by omega, rfl, HNr.out, HOr.out⟩
          case measure => simp [intOf]
    · have xF := fun W => Tryd.idxF1 (.int .i64 (x 0).e) (x 0).s (.int .i64 (x 1).e) (x 1).s (.int .i64 (x 2).e) (x 2).s (.int .i64 (x 3).e) (x 3).s W
      have HN3 := hid (HN.out.alloc (.cells #[.int .i64 (x 2).e, (x 2).s, .int .i64 (x 3).e, (x 3).s] 84))
      go_wp2
      go_loopw [13] (fun i wr => ∃ (k : Nat) (o : RV), k ≤ 2 ∧ i = .int .i64 (k : Int) ∧ Nws w wr (w.heap.size + 2) (w.heap.size + 1) f (2 * 1 + k) o ∧ (∀ ad, o.A = some ad → ∃ j, j < 4 ∧ (x j).A = some ad)) (fun i _ => 2 - (intOf i).toNat)
      case atStart => exact ⟨0, o, by omega, rfl, HN3.out, HO.out⟩
      case round =>
        obtain ⟨k, o, hk, rfl, hn, ho⟩ := hrel
        have HNr := hid hn
        have HOr := hid ho
        clear hn ho xF
        rcases (show k = 0 ∨ k = 1 ∨ k = 2 by omega) with rfl | rfl | rfl
        · have xP := fun W => Tryd.idxP0 (.int .i64 (x 2).e) (x 2).s (.int .i64 (x 3).e) (x 3).s W
          have hyj := HX.out 2 (by omega)
          have HNb := hid (HNr.out.alloc (.cells #[.int .i64 (x 2).e, (x 2).s] 31))
          have b0 := HNb.out.blk.cell 0
          have b1 := HNb.out.blk.cell 1
          have fr := fun i => HNb.out.blk.free i
          simp at b0 b1
          have hoe := HNr.out.is_.1
          have hye := hyj.1
          have HYj := hid hyj
          by_cases hlt : o.e < (x 2).e
          · have HNn := hid (HNb.out.take (m := 2) (y := x 2) (by have h1 : o.e = (nb f 2).epoch := hoe; rw [← h1, ← hye]; exact hlt) HYj.out (by omega) (by omega))
            clear hoe hye hyj
            go_wp2
            go_roundw
            case rel => exact ⟨1, x 2, by omega, rfl, HNn.out, fun ad ha => ⟨2, by omega, ha⟩⟩
            case measure => simp [intOf]
          · have HNn := hid (HNb.out.skip (m := 2) (by have h1 : o.e = (nb f 2).epoch := hoe; rw [← h1, ← hye]; exact hlt))
            clear hoe hye hyj
            go_wp2
            go_roundw
            case rel => exact ⟨1, o, by omega, rfl, HNn.out, HOr.out⟩
            case measure => simp [intOf]
        · have xP := fun W => Tryd.idxP1 (.int .i64 (x 2).e) (x 2).s (.int .i64 (x 3).e) (x 3).s W
          have hyj := HX.out 3 (by omega)
          have HNb := hid (HNr.out.alloc (.cells #[.int .i64 (x 3).e, (x 3).s] 31))
          have b0 := HNb.out.blk.cell 0
          have b1 := HNb.out.blk.cell 1
          have fr := fun i => HNb.out.blk.free i
          simp at b0 b1
          have hoe := HNr.out.is_.1
          have hye := hyj.1
          have HYj := hid hyj
          by_cases hlt : o.e < (x 3).e
          · have HNn := hid (HNb.out.take (m := 3) (y := x 3) (by have h1 : o.e = (nb f 3).epoch := hoe; rw [← h1, ← hye]; exact hlt) HYj.out (by omega) (by omega))
            clear hoe hye hyj
            go_wp2
            go_roundw
            case rel => exact ⟨2, x 3, by omega, rfl, HNn.out, fun ad ha => ⟨3, by omega, ha⟩⟩
            case measure => simp [intOf]
          · have HNn := hid (HNb.out.skip (m := 3) (by have h1 : o.e = (nb f 3).epoch := hoe; rw [← h1, ← hye]; exact hlt))
            clear hoe hye hyj
            go_wp2
            go_roundw
            case rel => exact ⟨2, o, by omega, rfl, HNn.out, HOr.out⟩
            case measure => simp [intOf]
        · go_wp2
          go_roundw
          case rel => exact ⟨2, o, by omega, rfl, HNr.out, HOr.out⟩
          case measure => simp [intOf]
    · have b0 := HN.out.blk.cell 0
      have b1 := HN.out.blk.cell 1
      have r0 := HN.out.res.cell 0
      have r1 := HN.out.res.cell 1
      have fr := fun i => HN.out.res.free i
      simp at b0 b1 r0 r1
      have HKn := box_put HN.out.res rfl (.int .i64 o.e) o.s
      have m0 := HKn.cell 0
      have m1 := HKn.cell 1
      simp at m0 m1
      simp only [RV.s] at m0 m1
      have hb : Below w.heap.size w ((wr.setCell ⟨w.heap.size + 1, 0, none⟩ (.int .i64 o.e)).setCell ⟨w.heap.size + 1, 1, none⟩ o.s) := below_box HN.out.below (by omega) _ _
      have HBn := hid hb
      have HIn := hid (show o.Is (nb f 4) ((wr.setCell ⟨w.heap.size + 1, 0, none⟩ (.int .i64 o.e)).setCell ⟨w.heap.size + 1, 1, none⟩ o.s) from RV.Is.on HN.out.is_ hb)
      clear HKn hb
      go_wp2
      exact bodyPost_ret (v := o.v) (by simp [results, Tryd.results35, go_sem, m0, m1]) rfl ⟨o, rfl, HIn.out, HBn.out, HO.out⟩
end Go.Proofs.YthgdofcamjkdpaaDoor
