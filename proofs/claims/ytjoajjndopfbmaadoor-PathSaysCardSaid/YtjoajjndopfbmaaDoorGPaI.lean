/- The document's Split. -/
import Derived.Test.YtjoajjndopfbmaaDoorGPaH
import Derived.Deep.RegionWith
namespace Go.Proofs.YtjoajjndopfbmaaDoor
open Go.RowKit Go.Shelf Go.Lib

/-- what the document's Split hands back -/
def RSplO (l : List Nam) (w : World) (e : Ending) (w' : World) : Prop :=
  ∃ A n c, e = .returned (.tuple #[.agg #[.slice A n c, .bool false], encStr (splE l), .int .i64 (splC l)]) ∧ St w' w'.heap.size A n c (splH l) ∧ Below w.heap.size w w'
theorem wrap_small (k : Nat) (h : k ≤ 1000) : IntKind.i64.wrap (k : Int) = (k : Int) :=
  IntWalk.i64_in _ (by omega)
set_option maxRecDepth 100000 in
set_option maxHeartbeats 4000000 in
theorem refSplit2_any (A : Option Addr) (n c B : Nat) (l : List Nam) (b : Bool) (w : World) (h : St w B A n c l) (hB : B ≤ w.heap.size) (hn : n ≤ 1000) :
    Calls Tryd.prog 13 #[.agg #[.slice A n c, .bool b]] w (RSplO l w) := by
  obtain ⟨W, hW⟩ : ∃ W, (w.alloc (.cells #[.slice A n c, .bool b] 30)).alloc (.cells #[.slice none 0 0, .bool false] 30) = W := ⟨_, rfl⟩
  have hb0 : Below w.heap.size w W := by rw [← hW]; exact ((Below.refl _ _).alloc (Nat.le_refl _) _).alloc (by simp [World.size_alloc]) _
  have hWs : W.heap.size = w.heap.size + 2 := by rw [← hW]; simp [World.size_alloc]
  have hq : Blk W w.heap.size 30 #[.slice A n c, .bool b] := by rw [← hW]; exact (Blk.new w _ _).alloc _
  have hr : Blk W (w.heap.size + 1) 30 #[.slice none 0 0, .bool false] := by
    rw [← hW]
    have := Blk.new (w.alloc (.cells #[.slice A n c, .bool b] 30)) 30 #[.slice none 0 0, .bool false]
    rwa [World.size_alloc] at this
  have q0 : W.cell? ⟨w.heap.size, 0, none⟩ = some (.slice A n c) := hq.cell 0
  have r0 : W.cell? ⟨w.heap.size + 1, 0, none⟩ = some (.slice none 0 0) := hr.cell 0
  have r1 : W.cell? ⟨w.heap.size + 1, 1, none⟩ = some (.bool false) := hr.cell 1
  have f0 := hr.free 0
  have f1 := hr.free 1
  have HB0 := hid hb0
  have HQ := hid hq
  have HR := hid hr
  have HW := hid hW
  have HS := hid (Sv.below h (hb0.mono hB))
  have HN := hid h.size
  clear h hb0 hq hr hW
  go_enter Tryd.func13, Tryd.ntmps13
  go_upto_region 1 with fail
  rw [HW.out]
  rcases spl_ways l with ⟨rfl, h1, h2, h3⟩ | ⟨m, x, rfl, ⟨hx, h1, h2, h3⟩ | ⟨hx, h1, h2, h3⟩⟩
  · obtain rfl : n = 0 := by have := HN.out; simpa using this.symm
    have HC := hid h1
    have HH := hid h2
    have HX := hid h3
    clear h1 h2 h3
    go_wp2
    have hF := (HR.out.put 0 (.slice none 0 0)).put 1 (.bool false)
    have k0 : _ = some (Value.slice none 0 0) := hF.cell 0
    have k1 : _ = some (Value.bool false) := hF.cell 1
    refine bodyPost_ret (v := .tuple #[.agg #[.slice none 0 0, .bool false], .string ⟨#[]⟩, .int .i64 114]) (by simp [results, Tryd.results13, go_sem, k0, k1]) rfl ?_
    refine ⟨none, 0, 0, by rw [HX.out, HC.out], by rw [HH.out]; exact Sv.empty _ _, ?_⟩
    exact ((HB0.out.setCell (p := ⟨w.heap.size + 1, 0, none⟩) (by show w.heap.size ≤ w.heap.size + 1; omega) _).setCell (p := ⟨w.heap.size + 1, 1, none⟩) (by show w.heap.size ≤ w.heap.size + 1; omega) _)
  · obtain ⟨k, hk⟩ : ∃ k, m.length = k := ⟨_, rfl⟩
    obtain rfl : n = k + 1 := by have := HN.out; rw [List.length_append, hk] at this; simpa using this.symm
    obtain ⟨ad, y, rfl, hbl, hy, hc⟩ := St.at HS.out (k := k) (by omega)
    obtain rfl : y = [46, 46] := by rw [← hk, List.getElem?_append_right (Nat.le_refl _), Nat.sub_self, hx] at hy; simpa using hy.symm
    have HC := hid h1
    have HH := hid h2
    have HX := hid h3
    have hkm : k ≤ 1000 := by omega
    clear h1 h2 h3 hx hk hbl hy
    go_wp2
    have hF := (HR.out.put 0 (.slice none 0 0)).put 1 (.bool false)
    have k0 : _ = some (Value.slice none 0 0) := hF.cell 0
    have k1 : _ = some (Value.bool false) := hF.cell 1
    refine bodyPost_ret (v := .tuple #[.agg #[.slice none 0 0, .bool false], .string ⟨#[]⟩, .int .i64 114]) (by simp [results, Tryd.results13, go_sem, k0, k1]) rfl ?_
    refine ⟨none, 0, 0, by rw [HX.out, HC.out], by rw [HH.out]; exact Sv.empty _ _, ?_⟩
    exact ((HB0.out.setCell (p := ⟨w.heap.size + 1, 0, none⟩) (by show w.heap.size ≤ w.heap.size + 1; omega) _).setCell (p := ⟨w.heap.size + 1, 1, none⟩) (by show w.heap.size ≤ w.heap.size + 1; omega) _)
  · obtain ⟨k, hk⟩ : ∃ k, m.length = k := ⟨_, rfl⟩
    obtain rfl : n = k + 1 := by have := HN.out; rw [List.length_append, hk] at this; simpa using this.symm
    obtain ⟨ad, y, rfl, hbl, hy, hc⟩ := St.at HS.out (k := k) (by omega)
    obtain rfl : y = x := by rw [← hk, List.getElem?_append_right (Nat.le_refl _), Nat.sub_self] at hy; simpa using hy.symm
    have t2 : (y == [46, 46]) = false := beq_eq_false_iff_ne.2 hx
    have HC := hid h1
    have HH := hid h2
    have HX := hid h3
    have hkm : k ≤ 1000 := by omega
    have HM := hid (show St W B (some ad) k c m by
      have := Sv.head HS.out (k := k) (by omega)
      rw [← Tx_take, show (m ++ [y]).take k = m by rw [← hk]; exact List.take_left] at this
      exact this)
    have HMd := hid (show St W.drew B (some ad) k c m from Sv.keep HM.out (fun _ _ => rfl))
    have HBL := hid hbl
    clear h1 h2 h3 hx hk hbl hy
    have hbk := World.block_lt_of_cell? W _ hc
    have HNE := hid (show (ad.add k).block ≠ w.heap.size + 1 by rw [add_block]; have := HBL.out; omega)
    have hwk : IntKind.i64.wrap (k : Int) = (k : Int) := wrap_small k (by omega)
    have hkc : k ≤ c := by have := HS.out.cap; omega
    go_wp2_with fail
    go_region_with (go_at_call 24; refine (texts_any (some ad) k c B m W.drew HMd.out (by show B ≤ W.heap.size; omega) (by omega)).mono ?_; rintro e w7 ⟨v7, rfl, hown7, hb7⟩; obtain ⟨A7, m7, c7, hv7⟩ : ∃ A m c, v7 = .slice A m c := (let ⟨A, c, h, _⟩ := Ot.is (show Ot w7 W.heap.size v7 m from hown7); ⟨_, _, _, h⟩); subst hv7; have HO7 := hid (show Ot w7 W.heap.size (.slice A7 m7 c7) m from hown7); have HB7 := hid (show Below W.heap.size W w7 from ⟨hb7.os, hb7.tape, hb7.output, hb7.size, hb7.block⟩); have q7 := (HB7.out.cell (p := ⟨w.heap.size, 0, none⟩) HQ.out.lt).trans q0; have c7' := (HB7.out.cell hbk).trans hc; have hr7 := HR.out.below HB7.out HR.out.lt; have r70 : w7.cell? ⟨w.heap.size + 1, 0, none⟩ = some (.slice none 0 0) := hr7.cell 0; have r71 : w7.cell? ⟨w.heap.size + 1, 1, none⟩ = some (.bool false) := hr7.cell 1; have f70 := hr7.free 0; have f71 := hr7.free 1; have HR7 := hid hr7; have c8 := cell_far (u := .bool false) (p := ⟨w.heap.size + 1, 1, none⟩) (cell_far (u := .slice A7 m7 c7) (p := ⟨w.heap.size + 1, 0, none⟩) c7' HNE.out) HNE.out; clear hown7 hb7 hr7)
    all_goals
      clear q7 c7' r70 r71 f70 f71 c8
      go_wp2
      have hF := (HR7.out.put 0 (.slice A7 m7 c7)).put 1 (.bool false)
      have k0 : _ = some (Value.slice A7 m7 c7) := hF.cell 0
      have k1 : _ = some (Value.bool false) := hF.cell 1
      refine bodyPost_ret (v := .tuple #[.agg #[.slice A7 m7 c7, .bool false], encStr y, .int .i64 0]) (by simp [results, Tryd.results13, go_sem, k0, k1]) rfl ?_
      obtain ⟨hst7, hA7⟩ := ot_st HO7.out
      have hfar : ∀ ad, A7 = some ad → ad.block ≠ w.heap.size + 1 := fun ad h => by have := hA7 ad h; omega
      have hs := Sv.aside (Sv.aside hst7 (p := ⟨w.heap.size + 1, 0, none⟩) hfar (.slice A7 m7 c7)) (p := ⟨w.heap.size + 1, 1, none⟩) hfar (.bool false)
      refine ⟨A7, m7, c7, by rw [HX.out, HC.out], ?_, ?_⟩
      · rw [HH.out]
        simpa using hs
      · exact (((HB0.out.trans (HB7.out.mono (by omega))).setCell (p := ⟨w.heap.size + 1, 0, none⟩) (by show w.heap.size ≤ w.heap.size + 1; omega) _).setCell (p := ⟨w.heap.size + 1, 1, none⟩) (by show w.heap.size ≤ w.heap.size + 1; omega) _)
end Go.Proofs.YtjoajjndopfbmaaDoor
