/- PathSplits, walked (true). -/
import Derived.Test.YtjoajjndopfbmaaDoorGPaN
import Derived.Deep.RegionLaw
namespace Go.Proofs.YtjoajjndopfbmaaDoor
open Go.RowKit Go.Shelf Go.Lib
set_option maxRecDepth 100000 in
set_option maxHeartbeats 16000000 in
theorem pathSplits_t (S : Nat → Addr) (A : Option Addr) (n c : Nat) (l : List Int) (w : World) (hS : Sent w S) (h : Sn w w.heap.size A n c l) :
    Calls Tryd.prog 6 #[.slice A n c, .bool true] w fun e w' => e = .returned (.bool true) ∧ Below w.heap.size w w' := by
  have hmx : n ≤ 9223372036854775807 := by have := h.cap; have := h.max; unfold maxLen at this; omega
  have hS0 := hid hS
  have HL := hid h
  have HN := hid h.len
  clear h hS
  go_enter Tryd.func6, Tryd.ntmps6
  go_wp2_with fail
  refine (first12_any S _ (hS0.out.some (by decide))).mono ?_
  rintro e w1 ⟨rfl, hb⟩
  have HW := hid hb
  clear hb
  by_cases h8 : 8 < n
  · go_wp2
    go_ret
    exact ⟨rfl, HW.out⟩
  have hn8 : n ≤ 8 := by omega
  clear h8 hmx
  obtain ⟨g, hg⟩ : ∃ g, w1.heap.size = g := ⟨_, rfl⟩
  have Hg := hid hg
  have HG := hid (show w.heap.size ≤ g by rw [← hg]; exact HW.out.size)
  clear hg
  go_upto_region 5 with fail
  rw [Hg.out]
  obtain ⟨bq, hbq⟩ : ∃ bq, decide (0 < n) = bq := ⟨_, rfl⟩
  rw [hbq]
  clear hbq
  obtain ⟨w2, hw2⟩ : ∃ w2, w1.alloc (.cells #[.slice none 0 0, .bool bq] 24) = w2 := ⟨_, rfl⟩
  rw [hw2]
  have HP2 := hid (show Blk w2 g 24 #[.slice none 0 0, .bool bq] by rw [← hw2, ← Hg.out]; exact Blk.new _ _ _)
  have HW2 := hid (show Below w.heap.size w w2 by rw [← hw2]; exact HW.out.alloc HW.out.size _)
  have HZ2 := hid (show g + 1 ≤ w2.heap.size by rw [← hw2, ← Hg.out]; simp [World.size_alloc])
  clear hw2
  go_wp2
  go_loopw [7] (fun s7 wr => ∃ i : Nat, i ≤ n ∧ s7 = .int .i64 (i : Int) ∧ (∃ v, Hid (Ot wr (g + 1) v (qs4 (l.take i))) ∧ Hid (Blk wr g 24 #[v, .bool bq])) ∧ Hid (Below w.heap.size w wr) ∧ Hid (g + 1 ≤ wr.heap.size)) (fun i _ => n - (RowKit.intOf i).toNat)
  case atStart => exact ⟨0, Nat.zero_le _, rfl, ⟨.slice none 0 0, hid (OwnV.nil _ _ _), HP2⟩, HW2, HZ2⟩
  case round =>
    obtain ⟨i, hi, rfl, ⟨v, HO, HP⟩, HWr, HZ⟩ := hrel
    by_cases hlt : i < n
    · obtain ⟨ad, x, rfl, hbl, hx, hc⟩ := Sn.get (HL.out.below HWr.out) hlt
      have HQ := hid (qs4_next hx)
      have HBL := hid (World.block_lt_of_cell? wr _ hc)
      have HBLg := hid (show g < wr.heap.size from HZ.out)
      have p0 : wr.cell? ⟨g, 0, none⟩ = some v := HP.out.cell 0
      have hcA : (wr.alloc (.cells #[.string ⟨#[97]⟩, .string ⟨#[98, 98]⟩, .string ⟨#[46, 46]⟩, .string ⟨#[99, 46, 100]⟩] 9)).cell? (ad.add i) = some (.int .i64 x) := (World.cell?_alloc_lt wr _ _ HBL.out).trans hc
      have p0A : (wr.alloc (.cells #[.string ⟨#[97]⟩, .string ⟨#[98, 98]⟩, .string ⟨#[46, 46]⟩, .string ⟨#[99, 46, 100]⟩] 9)).cell? ⟨g, 0, none⟩ = some v := (World.cell?_alloc_lt wr _ _ HBLg.out).trans p0
      have hk4 : x % 4 = 0 ∨ x % 4 = 1 ∨ x % 4 = 2 ∨ x % 4 = 3 := by omega
      have hP4 := part4_ok (x % 4)
      go_upto_region 8 with fail
      clear hbl hx
      rcases hk4 with hk | hk | hk | hk
      · have HK := hid hk
        rw [hk] at HQ hP4
        rw [show part4 0 = [97] from rfl] at HQ hP4
        clear hk
        have HPP := hid hP4
        clear hP4
        have c4 : (wr.alloc (.cells #[.string ⟨#[97]⟩, .string ⟨#[98, 98]⟩, .string ⟨#[46, 46]⟩, .string ⟨#[99, 46, 100]⟩] 9)).cell? ⟨wr.heap.size, 0, none⟩ = some (.string ⟨#[97]⟩) := World.cell?_alloc_new wr _ _ 0
        have HO8 := hid (show Ot ((wr.alloc (.cells #[.string ⟨#[97]⟩, .string ⟨#[98, 98]⟩, .string ⟨#[46, 46]⟩, .string ⟨#[99, 46, 100]⟩] 9)).alloc (.cells #[.string ⟨#[97]⟩] 9)).drew (g + 1) v (qs4 (l.take i)) from World.ownsRow.alloc (World.ownsRow.alloc HO.out _) _)
        have HS8 := hid (show St ((wr.alloc (.cells #[.string ⟨#[97]⟩, .string ⟨#[98, 98]⟩, .string ⟨#[46, 46]⟩, .string ⟨#[99, 46, 100]⟩] 9)).alloc (.cells #[.string ⟨#[97]⟩] 9)).drew (wr.heap.size + 2) (some ⟨wr.heap.size + 1, 0, none⟩) 1 1 [[97]] from Sv.keep (w := (wr.alloc (.cells #[.string ⟨#[97]⟩, .string ⟨#[98, 98]⟩, .string ⟨#[46, 46]⟩, .string ⟨#[99, 46, 100]⟩] 9)).alloc (.cells #[.string ⟨#[97]⟩] 9)) (by have := st_one (wr.alloc (.cells #[.string ⟨#[97]⟩, .string ⟨#[98, 98]⟩, .string ⟨#[46, 46]⟩, .string ⟨#[99, 46, 100]⟩] 9)) [97]; simp only [World.size_alloc] at this; exact this) (fun _ _ => rfl))
        have hr8 : Blk ((wr.alloc (.cells #[.string ⟨#[97]⟩, .string ⟨#[98, 98]⟩, .string ⟨#[46, 46]⟩, .string ⟨#[99, 46, 100]⟩] 9)).alloc (.cells #[.string ⟨#[97]⟩] 9)).drew g 24 #[v, .bool bq] := (HP.out.alloc _).alloc _
        have HR8 := hid hr8
        clear hr8
        have kB := hid (show ((wr.alloc (.cells #[.string ⟨#[97]⟩, .string ⟨#[98, 98]⟩, .string ⟨#[46, 46]⟩, .string ⟨#[99, 46, 100]⟩] 9)).alloc (.cells #[.string ⟨#[97]⟩] 9)).cell? ⟨g, 0, none⟩ = some v ∧ ((wr.alloc (.cells #[.string ⟨#[97]⟩, .string ⟨#[98, 98]⟩, .string ⟨#[46, 46]⟩, .string ⟨#[99, 46, 100]⟩] 9)).alloc (.cells #[.string ⟨#[97]⟩] 9)).cell? (ad.add i) = some (.int .i64 x) from ⟨(World.cell?_alloc_lt _ _ _ (by rw [World.size_alloc]; have := HBLg.out; show g < _; omega)).trans p0A, (World.cell?_alloc_lt _ _ _ (by rw [World.size_alloc]; have := HBL.out; omega)).trans hcA⟩)
        obtain ⟨p0B, hcB⟩ := kB.out
        go_region_law (first | (refine step_append_st rfl (.tmp 37) (.tmp 46) rfl (g + 1) (wr.heap.size + 2) v (qs4 (l.take i)) [[97]] (by simp [Act.eval]) HO8.out ⟨wr.heap.size + 1, 0, none⟩ 1 1 (by simp [Act.eval]) HS8.out (by rw [qs4_len, List.length_take]; omega) (by have := HZ.out; simp [World.size_alloc]; omega) ?_; intro v' w5 hown' hb5; obtain ⟨A5, m5, c5, hv5⟩ : ∃ A m c, v' = .slice A m c := (let ⟨A, c, h, _⟩ := Ot.is hown'; ⟨_, _, _, h⟩); subst hv5; have HB5 := hid hb5; have HO5 := hid hown'; have hr5 := HR8.out.below hb5 (Nat.lt_succ_self _); have r50 : w5.cell? ⟨g, 0, none⟩ = some v := hr5.cell 0; have f50 := hr5.free 0; have HR5 := hid hr5; clear hown' hb5 hr5) | (go_simp; go_at_call 16; refine (number_any x 4 _ (by decide) (by decide)).mono ?_; rw [HK.out]; rintro e w' ⟨rfl, rfl⟩))
        all_goals
          clear p0 hc p0A hcA p0B hcB c4 r50 f50
          go_wp2
          go_roundw
          case rel => exact ⟨i + 1, by omega, by go_num, ⟨.slice A5 m5 c5, hid (OwnV.aside (by rw [HQ.out]; exact HO5.out) (by show g < _; omega) _), hid (HR5.out.put 0 (.slice A5 m5 c5))⟩, hid (((((HWr.out.alloc HWr.out.size _).alloc (by rw [World.size_alloc]; have := HWr.out.size; omega) _).drew).trans (HB5.out.mono (by have := HG.out; omega))).setCell (by show w.heap.size ≤ g; exact HG.out) _), hid (hz5 HB5.out HZ.out)⟩
          case measure => simp [RowKit.intOf]; omega
      · have HK := hid hk
        rw [hk] at HQ hP4
        rw [show part4 1 = [98, 98] from rfl] at HQ hP4
        clear hk
        have HPP := hid hP4
        clear hP4
        have c4 : (wr.alloc (.cells #[.string ⟨#[97]⟩, .string ⟨#[98, 98]⟩, .string ⟨#[46, 46]⟩, .string ⟨#[99, 46, 100]⟩] 9)).cell? ⟨wr.heap.size, 1, none⟩ = some (.string ⟨#[98, 98]⟩) := World.cell?_alloc_new wr _ _ 1
        have HO8 := hid (show Ot ((wr.alloc (.cells #[.string ⟨#[97]⟩, .string ⟨#[98, 98]⟩, .string ⟨#[46, 46]⟩, .string ⟨#[99, 46, 100]⟩] 9)).alloc (.cells #[.string ⟨#[98, 98]⟩] 9)).drew (g + 1) v (qs4 (l.take i)) from World.ownsRow.alloc (World.ownsRow.alloc HO.out _) _)
        have HS8 := hid (show St ((wr.alloc (.cells #[.string ⟨#[97]⟩, .string ⟨#[98, 98]⟩, .string ⟨#[46, 46]⟩, .string ⟨#[99, 46, 100]⟩] 9)).alloc (.cells #[.string ⟨#[98, 98]⟩] 9)).drew (wr.heap.size + 2) (some ⟨wr.heap.size + 1, 0, none⟩) 1 1 [[98, 98]] from Sv.keep (w := (wr.alloc (.cells #[.string ⟨#[97]⟩, .string ⟨#[98, 98]⟩, .string ⟨#[46, 46]⟩, .string ⟨#[99, 46, 100]⟩] 9)).alloc (.cells #[.string ⟨#[98, 98]⟩] 9)) (by have := st_one (wr.alloc (.cells #[.string ⟨#[97]⟩, .string ⟨#[98, 98]⟩, .string ⟨#[46, 46]⟩, .string ⟨#[99, 46, 100]⟩] 9)) [98, 98]; simp only [World.size_alloc] at this; exact this) (fun _ _ => rfl))
        have hr8 : Blk ((wr.alloc (.cells #[.string ⟨#[97]⟩, .string ⟨#[98, 98]⟩, .string ⟨#[46, 46]⟩, .string ⟨#[99, 46, 100]⟩] 9)).alloc (.cells #[.string ⟨#[98, 98]⟩] 9)).drew g 24 #[v, .bool bq] := (HP.out.alloc _).alloc _
        have HR8 := hid hr8
        clear hr8
        have kB := hid (show ((wr.alloc (.cells #[.string ⟨#[97]⟩, .string ⟨#[98, 98]⟩, .string ⟨#[46, 46]⟩, .string ⟨#[99, 46, 100]⟩] 9)).alloc (.cells #[.string ⟨#[98, 98]⟩] 9)).cell? ⟨g, 0, none⟩ = some v ∧ ((wr.alloc (.cells #[.string ⟨#[97]⟩, .string ⟨#[98, 98]⟩, .string ⟨#[46, 46]⟩, .string ⟨#[99, 46, 100]⟩] 9)).alloc (.cells #[.string ⟨#[98, 98]⟩] 9)).cell? (ad.add i) = some (.int .i64 x) from ⟨(World.cell?_alloc_lt _ _ _ (by rw [World.size_alloc]; have := HBLg.out; show g < _; omega)).trans p0A, (World.cell?_alloc_lt _ _ _ (by rw [World.size_alloc]; have := HBL.out; omega)).trans hcA⟩)
        obtain ⟨p0B, hcB⟩ := kB.out
        go_region_law (first | (refine step_append_st rfl (.tmp 37) (.tmp 46) rfl (g + 1) (wr.heap.size + 2) v (qs4 (l.take i)) [[98, 98]] (by simp [Act.eval]) HO8.out ⟨wr.heap.size + 1, 0, none⟩ 1 1 (by simp [Act.eval]) HS8.out (by rw [qs4_len, List.length_take]; omega) (by have := HZ.out; simp [World.size_alloc]; omega) ?_; intro v' w5 hown' hb5; obtain ⟨A5, m5, c5, hv5⟩ : ∃ A m c, v' = .slice A m c := (let ⟨A, c, h, _⟩ := Ot.is hown'; ⟨_, _, _, h⟩); subst hv5; have HB5 := hid hb5; have HO5 := hid hown'; have hr5 := HR8.out.below hb5 (Nat.lt_succ_self _); have r50 : w5.cell? ⟨g, 0, none⟩ = some v := hr5.cell 0; have f50 := hr5.free 0; have HR5 := hid hr5; clear hown' hb5 hr5) | (go_simp; go_at_call 16; refine (number_any x 4 _ (by decide) (by decide)).mono ?_; rw [HK.out]; rintro e w' ⟨rfl, rfl⟩))
        all_goals
          clear p0 hc p0A hcA p0B hcB c4 r50 f50
          go_wp2
          go_roundw
          case rel => exact ⟨i + 1, by omega, by go_num, ⟨.slice A5 m5 c5, hid (OwnV.aside (by rw [HQ.out]; exact HO5.out) (by show g < _; omega) _), hid (HR5.out.put 0 (.slice A5 m5 c5))⟩, hid (((((HWr.out.alloc HWr.out.size _).alloc (by rw [World.size_alloc]; have := HWr.out.size; omega) _).drew).trans (HB5.out.mono (by have := HG.out; omega))).setCell (by show w.heap.size ≤ g; exact HG.out) _), hid (hz5 HB5.out HZ.out)⟩
          case measure => simp [RowKit.intOf]; omega
      · have HK := hid hk
        rw [hk] at HQ hP4
        rw [show part4 2 = [46, 46] from rfl] at HQ hP4
        clear hk
        have HPP := hid hP4
        clear hP4
        have c4 : (wr.alloc (.cells #[.string ⟨#[97]⟩, .string ⟨#[98, 98]⟩, .string ⟨#[46, 46]⟩, .string ⟨#[99, 46, 100]⟩] 9)).cell? ⟨wr.heap.size, 2, none⟩ = some (.string ⟨#[46, 46]⟩) := World.cell?_alloc_new wr _ _ 2
        have HO8 := hid (show Ot ((wr.alloc (.cells #[.string ⟨#[97]⟩, .string ⟨#[98, 98]⟩, .string ⟨#[46, 46]⟩, .string ⟨#[99, 46, 100]⟩] 9)).alloc (.cells #[.string ⟨#[46, 46]⟩] 9)).drew (g + 1) v (qs4 (l.take i)) from World.ownsRow.alloc (World.ownsRow.alloc HO.out _) _)
        have HS8 := hid (show St ((wr.alloc (.cells #[.string ⟨#[97]⟩, .string ⟨#[98, 98]⟩, .string ⟨#[46, 46]⟩, .string ⟨#[99, 46, 100]⟩] 9)).alloc (.cells #[.string ⟨#[46, 46]⟩] 9)).drew (wr.heap.size + 2) (some ⟨wr.heap.size + 1, 0, none⟩) 1 1 [[46, 46]] from Sv.keep (w := (wr.alloc (.cells #[.string ⟨#[97]⟩, .string ⟨#[98, 98]⟩, .string ⟨#[46, 46]⟩, .string ⟨#[99, 46, 100]⟩] 9)).alloc (.cells #[.string ⟨#[46, 46]⟩] 9)) (by have := st_one (wr.alloc (.cells #[.string ⟨#[97]⟩, .string ⟨#[98, 98]⟩, .string ⟨#[46, 46]⟩, .string ⟨#[99, 46, 100]⟩] 9)) [46, 46]; simp only [World.size_alloc] at this; exact this) (fun _ _ => rfl))
        have hr8 : Blk ((wr.alloc (.cells #[.string ⟨#[97]⟩, .string ⟨#[98, 98]⟩, .string ⟨#[46, 46]⟩, .string ⟨#[99, 46, 100]⟩] 9)).alloc (.cells #[.string ⟨#[46, 46]⟩] 9)).drew g 24 #[v, .bool bq] := (HP.out.alloc _).alloc _
        have HR8 := hid hr8
        clear hr8
        have kB := hid (show ((wr.alloc (.cells #[.string ⟨#[97]⟩, .string ⟨#[98, 98]⟩, .string ⟨#[46, 46]⟩, .string ⟨#[99, 46, 100]⟩] 9)).alloc (.cells #[.string ⟨#[46, 46]⟩] 9)).cell? ⟨g, 0, none⟩ = some v ∧ ((wr.alloc (.cells #[.string ⟨#[97]⟩, .string ⟨#[98, 98]⟩, .string ⟨#[46, 46]⟩, .string ⟨#[99, 46, 100]⟩] 9)).alloc (.cells #[.string ⟨#[46, 46]⟩] 9)).cell? (ad.add i) = some (.int .i64 x) from ⟨(World.cell?_alloc_lt _ _ _ (by rw [World.size_alloc]; have := HBLg.out; show g < _; omega)).trans p0A, (World.cell?_alloc_lt _ _ _ (by rw [World.size_alloc]; have := HBL.out; omega)).trans hcA⟩)
        obtain ⟨p0B, hcB⟩ := kB.out
        go_region_law (first | (refine step_append_st rfl (.tmp 37) (.tmp 46) rfl (g + 1) (wr.heap.size + 2) v (qs4 (l.take i)) [[46, 46]] (by simp [Act.eval]) HO8.out ⟨wr.heap.size + 1, 0, none⟩ 1 1 (by simp [Act.eval]) HS8.out (by rw [qs4_len, List.length_take]; omega) (by have := HZ.out; simp [World.size_alloc]; omega) ?_; intro v' w5 hown' hb5; obtain ⟨A5, m5, c5, hv5⟩ : ∃ A m c, v' = .slice A m c := (let ⟨A, c, h, _⟩ := Ot.is hown'; ⟨_, _, _, h⟩); subst hv5; have HB5 := hid hb5; have HO5 := hid hown'; have hr5 := HR8.out.below hb5 (Nat.lt_succ_self _); have r50 : w5.cell? ⟨g, 0, none⟩ = some v := hr5.cell 0; have f50 := hr5.free 0; have HR5 := hid hr5; clear hown' hb5 hr5) | (go_simp; go_at_call 16; refine (number_any x 4 _ (by decide) (by decide)).mono ?_; rw [HK.out]; rintro e w' ⟨rfl, rfl⟩))
        all_goals
          clear p0 hc p0A hcA p0B hcB c4 r50 f50
          go_wp2
          go_roundw
          case rel => exact ⟨i + 1, by omega, by go_num, ⟨.slice A5 m5 c5, hid (OwnV.aside (by rw [HQ.out]; exact HO5.out) (by show g < _; omega) _), hid (HR5.out.put 0 (.slice A5 m5 c5))⟩, hid (((((HWr.out.alloc HWr.out.size _).alloc (by rw [World.size_alloc]; have := HWr.out.size; omega) _).drew).trans (HB5.out.mono (by have := HG.out; omega))).setCell (by show w.heap.size ≤ g; exact HG.out) _), hid (hz5 HB5.out HZ.out)⟩
          case measure => simp [RowKit.intOf]; omega
      · have HK := hid hk
        rw [hk] at HQ hP4
        rw [show part4 3 = [99, 46, 100] from rfl] at HQ hP4
        clear hk
        have HPP := hid hP4
        clear hP4
        have c4 : (wr.alloc (.cells #[.string ⟨#[97]⟩, .string ⟨#[98, 98]⟩, .string ⟨#[46, 46]⟩, .string ⟨#[99, 46, 100]⟩] 9)).cell? ⟨wr.heap.size, 3, none⟩ = some (.string ⟨#[99, 46, 100]⟩) := World.cell?_alloc_new wr _ _ 3
        have HO8 := hid (show Ot ((wr.alloc (.cells #[.string ⟨#[97]⟩, .string ⟨#[98, 98]⟩, .string ⟨#[46, 46]⟩, .string ⟨#[99, 46, 100]⟩] 9)).alloc (.cells #[.string ⟨#[99, 46, 100]⟩] 9)).drew (g + 1) v (qs4 (l.take i)) from World.ownsRow.alloc (World.ownsRow.alloc HO.out _) _)
        have HS8 := hid (show St ((wr.alloc (.cells #[.string ⟨#[97]⟩, .string ⟨#[98, 98]⟩, .string ⟨#[46, 46]⟩, .string ⟨#[99, 46, 100]⟩] 9)).alloc (.cells #[.string ⟨#[99, 46, 100]⟩] 9)).drew (wr.heap.size + 2) (some ⟨wr.heap.size + 1, 0, none⟩) 1 1 [[99, 46, 100]] from Sv.keep (w := (wr.alloc (.cells #[.string ⟨#[97]⟩, .string ⟨#[98, 98]⟩, .string ⟨#[46, 46]⟩, .string ⟨#[99, 46, 100]⟩] 9)).alloc (.cells #[.string ⟨#[99, 46, 100]⟩] 9)) (by have := st_one (wr.alloc (.cells #[.string ⟨#[97]⟩, .string ⟨#[98, 98]⟩, .string ⟨#[46, 46]⟩, .string ⟨#[99, 46, 100]⟩] 9)) [99, 46, 100]; simp only [World.size_alloc] at this; exact this) (fun _ _ => rfl))
        have hr8 : Blk ((wr.alloc (.cells #[.string ⟨#[97]⟩, .string ⟨#[98, 98]⟩, .string ⟨#[46, 46]⟩, .string ⟨#[99, 46, 100]⟩] 9)).alloc (.cells #[.string ⟨#[99, 46, 100]⟩] 9)).drew g 24 #[v, .bool bq] := (HP.out.alloc _).alloc _
        have HR8 := hid hr8
        clear hr8
        have kB := hid (show ((wr.alloc (.cells #[.string ⟨#[97]⟩, .string ⟨#[98, 98]⟩, .string ⟨#[46, 46]⟩, .string ⟨#[99, 46, 100]⟩] 9)).alloc (.cells #[.string ⟨#[99, 46, 100]⟩] 9)).cell? ⟨g, 0, none⟩ = some v ∧ ((wr.alloc (.cells #[.string ⟨#[97]⟩, .string ⟨#[98, 98]⟩, .string ⟨#[46, 46]⟩, .string ⟨#[99, 46, 100]⟩] 9)).alloc (.cells #[.string ⟨#[99, 46, 100]⟩] 9)).cell? (ad.add i) = some (.int .i64 x) from ⟨(World.cell?_alloc_lt _ _ _ (by rw [World.size_alloc]; have := HBLg.out; show g < _; omega)).trans p0A, (World.cell?_alloc_lt _ _ _ (by rw [World.size_alloc]; have := HBL.out; omega)).trans hcA⟩)
        obtain ⟨p0B, hcB⟩ := kB.out
        go_region_law (first | (refine step_append_st rfl (.tmp 37) (.tmp 46) rfl (g + 1) (wr.heap.size + 2) v (qs4 (l.take i)) [[99, 46, 100]] (by simp [Act.eval]) HO8.out ⟨wr.heap.size + 1, 0, none⟩ 1 1 (by simp [Act.eval]) HS8.out (by rw [qs4_len, List.length_take]; omega) (by have := HZ.out; simp [World.size_alloc]; omega) ?_; intro v' w5 hown' hb5; obtain ⟨A5, m5, c5, hv5⟩ : ∃ A m c, v' = .slice A m c := (let ⟨A, c, h, _⟩ := Ot.is hown'; ⟨_, _, _, h⟩); subst hv5; have HB5 := hid hb5; have HO5 := hid hown'; have hr5 := HR8.out.below hb5 (Nat.lt_succ_self _); have r50 : w5.cell? ⟨g, 0, none⟩ = some v := hr5.cell 0; have f50 := hr5.free 0; have HR5 := hid hr5; clear hown' hb5 hr5) | (go_simp; go_at_call 16; refine (number_any x 4 _ (by decide) (by decide)).mono ?_; rw [HK.out]; rintro e w' ⟨rfl, rfl⟩))
        all_goals
          clear p0 hc p0A hcA p0B hcB c4 r50 f50
          go_wp2
          go_roundw
          case rel => exact ⟨i + 1, by omega, by go_num, ⟨.slice A5 m5 c5, hid (OwnV.aside (by rw [HQ.out]; exact HO5.out) (by show g < _; omega) _), hid (HR5.out.put 0 (.slice A5 m5 c5))⟩, hid (((((HWr.out.alloc HWr.out.size _).alloc (by rw [World.size_alloc]; have := HWr.out.size; omega) _).drew).trans (HB5.out.mono (by have := HG.out; omega))).setCell (by show w.heap.size ≤ g; exact HG.out) _), hid (hz5 HB5.out HZ.out)⟩
          case measure => simp [RowKit.intOf]; omega
    · obtain rfl : i = n := by omega
      have hfull : l.take i = l := List.take_of_length_le (by rw [HN.out]; exact Nat.le_refl _)
      rw [hfull] at HO
      obtain ⟨Q, hQ⟩ : ∃ Q, qs4 l = Q := ⟨_, rfl⟩
      have hQl : Q.length = i := by rw [← hQ, qs4_len, HN.out]
      have HQg := hid (show (∀ x ∈ Q, goodP x = true) ∧ (∀ x ∈ Q, x.length ≤ 3) by
        rw [← hQ]
        exact ⟨fun x hx => (qs4_good l x hx).1, fun x hx => (qs4_good l x hx).2⟩)
      rw [hQ] at HO
      clear hQ hfull
      obtain ⟨A1, c1, rfl, hst1, hA1⟩ := Ot.is HO.out
      rw [hQl] at hst1 HP
      have HST := hid hst1
      have HQl := hid hQl
      have HE := hid (hS0.out.on HWr.out)
      have HV := HWr
      have HP2b := HP
      have q0 : wr.cell? ⟨g, 0, none⟩ = some (.slice A1 i c1) := HP.out.cell 0
      have q1 : wr.cell? ⟨g, 1, none⟩ = some (.bool bq) := HP.out.cell 1
      clear hst1 hQl hA1 HO HP HWr HP2 HW2 HZ2
      rcases spl_ways Q with ⟨rfl, h1, h2, h3⟩ | ⟨m, x, rfl, ⟨rfl, h1, h2, h3⟩ | ⟨hx, h1, h2, h3⟩⟩
      · obtain rfl : i = 0 := by have := HQl.out; simpa using this.symm
        go_wp2_with fail
        refine (split2_any S A1 0 c1 _ [] bq wr HE.out HST.out (Nat.le_refl _) (by omega)).mono ?_
        rintro e w3 ⟨A3, n3, c3, ve, rfl, hev, hst, hb⟩
        rw [h1] at hev
        rw [h2] at hst
        rw [h3]
        have HEV := hid hev
        have HS3 := hid hst
        replace HE := hid (HE.out.on hb)
        replace HST := hid (Sv.on HST.out hb)
        replace HP2b := hid (HP2b.out.below hb HP2b.out.lt)
        replace HV := hid (HV.out.trans (hb.mono HV.out.size))
        have HB3 := hid hb
        clear hst hb hev h1 h2 h3 q0 q1
        obtain ⟨w4, hw4⟩ : ∃ w4, w3.alloc (.cells #[.slice A3 n3 c3, .bool false] 24) = w4 := ⟨_, rfl⟩
        have hba : Below w3.heap.size w3 w4 := by rw [← hw4]; exact (Below.refl _ _).alloc (Nat.le_refl _) _
        have HP3 := hid (show Blk w4 w3.heap.size 24 #[.slice A3 n3 c3, .bool false] by rw [← hw4]; exact Blk.new _ _ _)
        replace HE := hid (HE.out.on hba)
        replace HST := hid (Sv.on HST.out hba)
        replace HP2b := hid (HP2b.out.below hba HP2b.out.lt)
        replace HV := hid (HV.out.trans (hba.mono HV.out.size))
        replace HS3 := hid (Sv.on HS3.out hba)
        replace hw4 := hid hw4
        clear hba
        obtain rfl : n3 = 0 := (St.size HS3.out).symm
        go_wp2_with fail
        rw [hw4.out]
        refine (is_any S 114 114 ve w4 HE.out HEV.out).mono ?_
        rw [beq_self_eq_true]
        rintro e w5 ⟨rfl, hb⟩
        have HV5 := hid (HV.out.trans (hb.mono HV.out.size))
        clear hb
        go_wp2
        go_ret
        exact ⟨rfl, HV5.out⟩
      · obtain ⟨k, hk⟩ : ∃ k, m.length = k := ⟨_, rfl⟩
        obtain rfl : i = k + 1 := by have := HQl.out; rw [List.length_append, hk] at this; simpa using this.symm
        obtain ⟨ad1, y, rfl, hbl1, hy, hc1⟩ := St.at HST.out (k := k) (by omega)
        obtain rfl : y = [46, 46] := by rw [← hk, List.getElem?_append_right (Nat.le_refl _), Nat.sub_self] at hy; simpa using hy.symm
        have z0 : (((k : Int) + 1) == 0) = false := beq_eq_false_iff_ne.2 (by omega)
        have hbk := World.block_lt_of_cell? wr _ hc1
        have HC1 := hid hc1
        have HBK := hid hbk
        have HK := hid hk
        clear hy hbl1 hc1 hbk hk
        go_wp2_with fail
        refine (split2_any S (some ad1) (k + 1) c1 _ (m ++ [[46, 46]]) bq wr HE.out HST.out (Nat.le_refl _) (by omega)).mono ?_
        rintro e w3 ⟨A3, n3, c3, ve, rfl, hev, hst, hb⟩
        rw [h1] at hev
        rw [h2] at hst
        rw [h3]
        have HEV := hid hev
        have HS3 := hid hst
        replace HE := hid (HE.out.on hb)
        replace HST := hid (Sv.on HST.out hb)
        replace HP2b := hid (HP2b.out.below hb HP2b.out.lt)
        replace HV := hid (HV.out.trans (hb.mono HV.out.size))
        have HB3 := hid hb
        clear hst hb hev h1 h2 h3 q0 q1
        obtain ⟨w4, hw4⟩ : ∃ w4, w3.alloc (.cells #[.slice A3 n3 c3, .bool false] 24) = w4 := ⟨_, rfl⟩
        have hba : Below w3.heap.size w3 w4 := by rw [← hw4]; exact (Below.refl _ _).alloc (Nat.le_refl _) _
        have HP3 := hid (show Blk w4 w3.heap.size 24 #[.slice A3 n3 c3, .bool false] by rw [← hw4]; exact Blk.new _ _ _)
        replace HE := hid (HE.out.on hba)
        replace HST := hid (Sv.on HST.out hba)
        replace HP2b := hid (HP2b.out.below hba HP2b.out.lt)
        replace HV := hid (HV.out.trans (hba.mono HV.out.size))
        replace HS3 := hid (Sv.on HS3.out hba)
        replace hw4 := hid hw4
        clear hba
        have y0 : (w3.alloc (.cells #[.slice A3 n3 c3, .bool false] 24)).cell? ⟨g, 0, none⟩ = some (.slice (some ad1) (k + 1) c1) := by rw [hw4.out]; exact HP2b.out.cell 0
        have y1 : (w3.alloc (.cells #[.slice A3 n3 c3, .bool false] 24)).cell? (ad1.add k) = some (encStr [46, 46]) := (World.cell?_alloc_lt w3 _ _ (Nat.lt_of_lt_of_le HBK.out HB3.out.size)).trans ((HB3.out.cell HBK.out).trans HC1.out)
        obtain rfl : n3 = 0 := (St.size HS3.out).symm
        go_wp2_with fail
        rw [hw4.out]
        refine (is_any S 114 114 ve w4 HE.out HEV.out).mono ?_
        rw [beq_self_eq_true]
        rintro e w5 ⟨rfl, hb⟩
        have HV5 := hid (HV.out.trans (hb.mono HV.out.size))
        clear hb
        go_wp2
        go_ret
        exact ⟨rfl, HV5.out⟩
      · obtain ⟨k, hk⟩ : ∃ k, m.length = k := ⟨_, rfl⟩
        obtain rfl : i = k + 1 := by have := HQl.out; rw [List.length_append, hk] at this; simpa using this.symm
        obtain ⟨ad1, y, rfl, hbl1, hy, hc1⟩ := St.at HST.out (k := k) (by omega)
        obtain rfl : y = x := by rw [← hk, List.getElem?_append_right (Nat.le_refl _), Nat.sub_self] at hy; simpa using hy.symm
        have z0 : (((k : Int) + 1) == 0) = false := beq_eq_false_iff_ne.2 (by omega)
        have hbk := World.block_lt_of_cell? wr _ hc1
        have HC1 := hid hc1
        have HBK := hid hbk
        have HK := hid hk
        clear hy hbl1 hc1 hbk hk
        have t2 : (y == [46, 46]) = false := beq_eq_false_iff_ne.2 hx
        clear hx
        go_wp2_with fail
        refine (split2_any S (some ad1) (k + 1) c1 _ (m ++ [y]) bq wr HE.out HST.out (Nat.le_refl _) (by omega)).mono ?_
        rintro e w3 ⟨A3, n3, c3, ve, rfl, hev, hst, hb⟩
        rw [h1] at hev
        rw [h2] at hst
        rw [h3]
        have HEV := hid hev
        have HS3 := hid hst
        replace HE := hid (HE.out.on hb)
        replace HST := hid (Sv.on HST.out hb)
        replace HP2b := hid (HP2b.out.below hb HP2b.out.lt)
        replace HV := hid (HV.out.trans (hb.mono HV.out.size))
        have HB3 := hid hb
        clear hst hb hev h1 h2 h3 q0 q1
        obtain ⟨w4, hw4⟩ : ∃ w4, w3.alloc (.cells #[.slice A3 n3 c3, .bool false] 24) = w4 := ⟨_, rfl⟩
        have hba : Below w3.heap.size w3 w4 := by rw [← hw4]; exact (Below.refl _ _).alloc (Nat.le_refl _) _
        have HP3 := hid (show Blk w4 w3.heap.size 24 #[.slice A3 n3 c3, .bool false] by rw [← hw4]; exact Blk.new _ _ _)
        replace HE := hid (HE.out.on hba)
        replace HST := hid (Sv.on HST.out hba)
        replace HP2b := hid (HP2b.out.below hba HP2b.out.lt)
        replace HV := hid (HV.out.trans (hba.mono HV.out.size))
        replace HS3 := hid (Sv.on HS3.out hba)
        replace hw4 := hid hw4
        clear hba
        have y0 : (w3.alloc (.cells #[.slice A3 n3 c3, .bool false] 24)).cell? ⟨g, 0, none⟩ = some (.slice (some ad1) (k + 1) c1) := by rw [hw4.out]; exact HP2b.out.cell 0
        have y1 : (w3.alloc (.cells #[.slice A3 n3 c3, .bool false] 24)).cell? (ad1.add k) = some (encStr y) := (World.cell?_alloc_lt w3 _ _ (Nat.lt_of_lt_of_le HBK.out HB3.out.size)).trans ((HB3.out.cell HBK.out).trans HC1.out)
        obtain rfl := HEV.out.nil rfl
        have HGm := hid (show (∀ z ∈ m, goodP z = true) ∧ (∀ z ∈ m, z.length ≤ 3) ∧ (∀ z ∈ m, z.length ≤ 1000) ∧ goodP y = true ∧ y.length ≤ 3 from ⟨fun z hz => HQg.out.1 z (by simp [hz]), fun z hz => HQg.out.2 z (by simp [hz]), fun z hz => Nat.le_trans (HQg.out.2 z (by simp [hz])) (by decide), HQg.out.1 y (by simp), HQg.out.2 y (by simp)⟩)
        have hn3 : n3 = k := by rw [← HK.out]; exact (St.size HS3.out).symm
        obtain rfl := hn3
        go_wp2_with fail
        rw [hw4.out]
        clear hw4 y0 y1
        refine (text_any A3 n3 c3 w4.heap.size m false w4 HS3.out (Nat.le_refl _) (by omega) HGm.out.2.2.1).mono ?_
        rintro e w5 ⟨rfl, hb⟩
        have HSB := hid (sb_split HGm.out.1 HGm.out.2.1 HGm.out.2.2.2.1 HGm.out.2.2.2.2)
        have HTl := hid (show (txt m false).length ≤ 1000000 by
          have h1 := HSB.out.len
          have h2 := HK.out
          rw [List.length_append, List.length_append] at h1
          simp only [List.length_cons, List.length_nil] at h1
          omega)
        obtain ⟨T, hT⟩ : ∃ T, txt m false = T := ⟨_, rfl⟩
        rw [hT] at HSB HTl ⊢
        clear hT
        replace HE := hid (HE.out.on hb)
        replace HST := hid (Sv.on HST.out hb)
        replace HP2b := hid (HP2b.out.below hb HP2b.out.lt)
        replace HV := hid (HV.out.trans (hb.mono HV.out.size))
        replace HS3 := hid (Sv.on HS3.out hb)
        replace HP3 := hid (HP3.out.below hb HP3.out.lt)
        clear hb
        go_wp2_with fail
        have HL1 := hid (st_one w5 y)
        refine (pathJoin_any T (some ⟨w5.heap.size, 0, none⟩) 1 1 (w5.heap.size + 1) [y] _ HL1.out (by simp [World.size_alloc]) (by decide) (by intro z hz; obtain rfl := List.mem_singleton.1 hz; have := HGm.out.2.2.2.2; omega) HTl.out).mono ?_
        rintro e w6 ⟨rfl, hb⟩
        have hba : Below w5.heap.size w5 w6 := ((Below.refl _ _).alloc (Nat.le_refl _) _).trans (hb.mono (by simp [World.size_alloc]))
        obtain ⟨U, hU⟩ : ∃ U, T ++ slashed [y] = U := ⟨_, rfl⟩
        rw [hU] at HSB ⊢
        have HU := hid (HSB.out.plain (by rw [HQl.out]; omega) (by simp))
        clear hU hb
        replace HE := hid (HE.out.on hba)
        replace HST := hid (Sv.on HST.out hba)
        replace HP2b := hid (HP2b.out.below hba HP2b.out.lt)
        replace HV := hid (HV.out.trans (hba.mono HV.out.size))
        replace HS3 := hid (Sv.on HS3.out hba)
        replace HP3 := hid (HP3.out.below hba HP3.out.lt)
        clear hba
        go_wp2_with fail
        refine (parse_any S ⟨U.toArray⟩ w6 (HE.out.some (by decide))).mono ?_
        rw [show (⟨U.toArray⟩ : ByteArray).data.toList = U by simp]
        rintro e w7 ⟨A7, n7, c7, ve, rfl, hev, hst, hb⟩
        rw [HU.out.1] at hev
        rw [HU.out.2.1] at hst
        obtain rfl := hev.nil rfl
        have HS7 := hid hst
        obtain ⟨bj, hbj⟩ : ∃ bj, prsS U = bj := ⟨_, rfl⟩
        rw [hbj]
        clear hbj
        replace HE := hid (HE.out.on hb)
        replace HST := hid (Sv.on HST.out hb)
        replace HP2b := hid (HP2b.out.below hb HP2b.out.lt)
        replace HV := hid (HV.out.trans (hb.mono HV.out.size))
        replace HS3 := hid (Sv.on HS3.out hb)
        replace HP3 := hid (HP3.out.below hb HP3.out.lt)
        clear hev hst hb
        obtain ⟨w8, hw8⟩ : ∃ w8, w7.alloc (.cells #[.slice A7 n7 c7, .bool bj] 24) = w8 := ⟨_, rfl⟩
        have hba : Below w7.heap.size w7 w8 := by rw [← hw8]; exact (Below.refl _ _).alloc (Nat.le_refl _) _
        have HP7 := hid (show Blk w8 w7.heap.size 24 #[.slice A7 n7 c7, .bool bj] by rw [← hw8]; exact Blk.new _ _ _)
        replace HE := hid (HE.out.on hba)
        replace HST := hid (Sv.on HST.out hba)
        replace HP2b := hid (HP2b.out.below hba HP2b.out.lt)
        replace HV := hid (HV.out.trans (hba.mono HV.out.size))
        replace HS3 := hid (Sv.on HS3.out hba)
        replace HP3 := hid (HP3.out.below hba HP3.out.lt)
        replace HS7 := hid (Sv.on HS7.out hba)
        replace hw8 := hid hw8
        clear hba
        obtain ⟨ad9, x9, had9, hbl9, hx9, hc9⟩ := St.at HST.out (k := n3) (by omega)
        cases had9
        obtain rfl : x9 = y := by rw [← HK.out, List.getElem?_append_right (Nat.le_refl _), Nat.sub_self] at hx9; simpa using hx9.symm
        have b1 : (w7.alloc (.cells #[.slice A7 n7 c7, .bool bj] 24)).cell? ⟨w3.heap.size, 1, none⟩ = some (.bool false) := by rw [hw8.out]; exact HP3.out.cell 1
        have b0 : (w7.alloc (.cells #[.slice A7 n7 c7, .bool bj] 24)).cell? ⟨g, 0, none⟩ = some (.slice (some ad1) (n3 + 1) c1) := by rw [hw8.out]; exact HP2b.out.cell 0
        have b2 : (w7.alloc (.cells #[.slice A7 n7 c7, .bool bj] 24)).cell? (ad1.add n3) = some (encStr x9) := by rw [hw8.out]; exact hc9
        clear hbl9 hx9 hc9
        go_wp2_with fail
        rw [hw8.out]
        clear hw8 b0 b1 b2
        refine (sameTexts_any A7 (some ad1) n7 c7 (n3 + 1) c1 (m ++ [x9]) (m ++ [x9]) _ _ w8 HS7.out HST.out).mono ?_
        rw [decide_eq_true rfl]
        rintro e w9 ⟨rfl, q, hw⟩
        have hb : Below w8.heap.size w8 w9 := by rw [hw]; exact below_drewN (Below.refl _ _) q
        have HV9 := hid (HV.out.trans (hb.mono HV.out.size))
        clear hb hw
        go_wp2
        go_ret
        exact ⟨rfl, HV9.out⟩
end Go.Proofs.YtjoajjndopfbmaaDoor
