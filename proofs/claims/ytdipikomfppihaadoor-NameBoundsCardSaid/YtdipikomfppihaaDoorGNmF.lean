/- Package name's After and Sort. -/
import Derived.Test.YtdipikomfppihaaDoorGNmE
namespace Go.Proofs.YtdipikomfppihaaDoor
open Go.RowKit Go.Shelf Go.Sort

theorem behind_next {l : List Nam} {k : Nat} {x s : Nam} (h : l[k]? = some x) : behind (l.take (k + 1)) s = behind (l.take k) s ++ (if s < x then [x] else []) := by
  unfold behind
  rw [takeN h, List.filter_append]
  congr 1
  by_cases hc : s < x <;> simp [hc]
theorem bl_lt (x y : Nam) : Op.bytesLess x y = decide (x < y) := bytesLess_eq x y
theorem behind_len (l : List Nam) (s : Nam) : (behind l s).length ≤ l.length := List.length_filter_le _ _
set_option maxHeartbeats 1000000 in
theorem after_any (A : Option Addr) (n c B : Nat) (l : List Nam) (s : Nam) (w : World) (h : St w B A n c l) (hB : B ≤ w.heap.size) (hn : n ≤ 100000) :
    Calls Tryd.prog 15 #[.slice A n c, encStr s] w (MadeV 9 w (Tx (behind l s))) := by
  have HS := hid h
  have HBB := hid hB
  clear h hB
  go_enter Tryd.func15, Tryd.ntmps15
  go_wp2
  go_loopw [5, 10] (fun v i wr => ∃ k : Nat, k ≤ n ∧ i = .int .i64 (k : Int) ∧ Hid (Ot wr w.heap.size v (behind (l.take k) s)) ∧ Hid (Below w.heap.size w wr)) (fun _ i _ => n - (intOf i).toNat)
  case atStart => exact ⟨0, Nat.zero_le _, rfl, OwnV.nil _ _ _, Below.refl _ _⟩
  case round =>
    obtain ⟨k, hk, rfl, HO1, HB1⟩ := hrel
    by_cases hlt : k < n
    · obtain ⟨ad, x, rfl, hbl, hx, hc⟩ := St.at (Sv.below HS.out (HB1.out.mono HBB.out)) hlt
      have HX := hid hx
      have hnx := behind_next (s := s) hx
      clear hx hbl
      by_cases hsx : s < x
      · rw [if_pos hsx] at hnx
        have HN := hid hnx
        have t1 : Op.bytesLess x s = false := by rw [bl_lt]; exact decide_eq_false (nam_lt_asymm hsx)
        have t2 : (x == s) = false := beq_eq_false_iff_ne.2 fun e => nam_lt_irrefl s (by rw [e] at hsx; exact hsx)
        clear hnx hsx
        go_wp2_with (at_builtin; refine wpList_append_tx rfl _ _ rfl w.heap.size (wr.heap.size + 1) _ (behind (l.take k) s) [x] rfl (World.ownsRow.alloc HO1.out _) (some ⟨wr.heap.size, 0, none⟩) 1 1 rfl (st_one wr x) ?c1 ?c2 ?_)
        case c1 => have := behind_len (l.take k) s; rw [List.length_take] at this; omega
        case c2 => have := HB1.out.size; simp; omega
        intro v' w2 hown' hb2
        have R1 := hid (show Ot w2 w.heap.size v' (behind (l.take (k + 1)) s) by rw [HN.out]; exact hown')
        have R2 := hid (show Below w.heap.size w w2 from (HB1.out.alloc HB1.out.size _).trans hb2)
        clear hown' hb2
        go_wp2
        go_roundw
        case rel => exact ⟨k + 1, by omega, by go_num, R1, R2⟩
        case measure => simp [intOf]; omega
      · rw [if_neg hsx, List.append_nil] at hnx
        have HN := hid hnx
        clear hnx
        have HR := hid (show Ot wr w.heap.size u5 (behind (l.take (k + 1)) s) by rw [HN.out]; exact HO1.out)
        by_cases e : x = s
        · have t2 : (x == s) = true := beq_iff_eq.2 e
          clear hsx e
          go_wp2
          go_roundw
          case rel => exact ⟨k + 1, by omega, by go_num, HR, HB1⟩
          case measure => simp [intOf]; omega
        · have t2 : (x == s) = false := beq_eq_false_iff_ne.2 e
          have t1 : Op.bytesLess x s = true := by
            rw [bl_lt]
            rcases nam_tri s x with h | h | h
            · exact absurd h hsx
            · exact absurd h.symm e
            · exact decide_eq_true h
          clear hsx e
          go_wp2
          go_roundw
          case rel => exact ⟨k + 1, by omega, by go_num, HR, HB1⟩
          case measure => simp [intOf]; omega
    · go_wp2
      go_ret
      exact ⟨_, rfl, by have := HO1.out; rwa [List.take_of_length_le (by have := HS.out.size; omega)] at this, HB1.out⟩

theorem slicesSort_any (blk off cap : Nat) (ss : List Nam) (w : World) (hH : Holds encStr w blk off ss.toArray) (hblk : blk < w.heap.size) (hsz : ss.length < 4611686018427387904) :
    Calls Tryd.prog 21 #[.slice (some ⟨blk, off, none⟩) ss.length cap] w fun e w' => e = .returned (.tuple #[]) ∧ ∃ n os, w' = grow (putRow encStr (Sort.ahead w n) blk off (ss.mergeSort fun x y => decide (x ≤ y)).toArray) os :=
  AnyM.slices_Sort_string Tryd.sortS blk off cap ss w hH hblk hsz
theorem slicesSort_none (p : Option Addr) (cap : Nat) (w : World) : Calls Tryd.prog 21 #[.slice p 0 cap] w fun e w' => e = .returned (.tuple #[]) ∧ w' = w :=
  AnyM.slices_Sort_string_none Tryd.sortS p cap w
theorem compact_any (blk off cap : Nat) (zs : List Nam) (w : World) (hH : Holds encStr w blk off zs.toArray) (hsz : zs.length ≤ 9223372036854775807) (hcap : zs.length ≤ cap) :
    Calls Tryd.prog 22 #[.slice (some ⟨blk, off, none⟩) zs.length cap] w fun e w' => e = .returned (.slice (some ⟨blk, off, none⟩) (Lib.compact zs).length cap) ∧ ∃ q, w' = putRow encStr (Sort.ahead w q) blk off (Lib.compact zs ++ List.replicate (zs.length - (Lib.compact zs).length) []).toArray :=
  AnyG.slices_Compact_string Tryd.compactS blk off cap zs w hH hsz hcap
theorem compact_none (p : Option Addr) (cap : Nat) (w : World) : Calls Tryd.prog 22 #[.slice p 0 cap] w fun e w' => e = .returned (.slice p 0 cap) ∧ w' = w :=
  AnyG.slices_Compact_string_empty Tryd.compactS p cap w

/-- behind the sort and the compacting the same slice holds the names in their order, each once -/
theorem left_of {w w1 : World} {g cap nn q : Nat} {os : Array Obj} {ss : List Nam} (hown : Ot w1 w.heap.size (.slice (some ⟨g, 0, none⟩) ss.length cap) ss) (hbel : Below w.heap.size w w1) (hbg : w.heap.size ≤ g) :
    MadeV 9 w (Tx (srt ss)) (.returned (.slice (some ⟨g, 0, none⟩) (Lib.compact (ss.mergeSort fun x y => decide (x ≤ y))).length cap))
      (putRow encStr (Sort.ahead (grow (putRow encStr (Sort.ahead w1 nn) g 0 (ss.mergeSort fun x y => decide (x ≤ y)).toArray) os) q) g 0 (Lib.compact (ss.mergeSort fun x y => decide (x ≤ y)) ++ List.replicate (ss.length - (Lib.compact (ss.mergeSort fun x y => decide (x ≤ y))).length) []).toArray) := by
  have hl2 : (ss.mergeSort fun x y => decide (x ≤ y)).length = ss.length := List.length_mergeSort ss
  have hle := Lib.compact_length_le (ss.mergeSort fun x y => decide (x ≤ y))
  have hown' : w1.ownsRow w.heap.size 9 1 (.slice (some ⟨g, 0, none⟩) ss.length cap) ss.length (ss.map encStr) := by
    have := hown
    unfold Ot OwnV at this
    rwa [Tx_len] at this
  rcases hown'.2 with ⟨h0, _⟩ | ⟨g', cap', cur, hv, hbase, hb, h1, h2, h3, h4⟩
  · cases h0
  cases hv
  have hs := ownsRow_sorted (n := nn) (os := os) (ts := ss.mergeSort fun x y => decide (x ≤ y)) hl2 hbase hb h1 h2 h3
  have hc := Lib.ownsRow_putRow (q := q) (k := (Lib.compact (ss.mergeSort fun x y => decide (x ≤ y))).length) (ys := Lib.compact (ss.mergeSort fun x y => decide (x ≤ y)) ++ List.replicate (ss.length - (Lib.compact (ss.mergeSort fun x y => decide (x ≤ y))).length) []) hs (by simp; omega) (by omega)
  rw [List.take_left] at hc
  refine ⟨_, rfl, ?_, Lib.below_putRow (hbel.grown (grownBy_sorted _) hbel.size (fun j hj => by cases hj; exact hbase)) hbg⟩
  unfold OwnV
  rw [Tx_len]
  exact hc
set_option maxHeartbeats 2000000 in
set_option maxRecDepth 100000 in
theorem sort_any (A : Option Addr) (n c B : Nat) (l : List Nam) (w : World) (h : St w B A n c l) (hB : B ≤ w.heap.size) (hn : n ≤ 100000) :
    Calls Tryd.prog 14 #[.slice A n c] w (MadeV 9 w (Tx (srt l))) := by
  have HS := hid h
  have HBB := hid hB
  clear h hB
  go_enter Tryd.func14, Tryd.ntmps14
  go_wp2_with (at_builtin; refine wpList_append_tx rfl _ _ rfl w.heap.size B (.slice none 0 0) [] l rfl (OwnV.nil _ _ _) A n c rfl HS.out ?c1 ?c2 ?_)
  case c1 => simp; omega
  case c2 => exact Nat.le_refl _
  intro v1 w1 hown hb1
  have HO := hid hown
  have HB1 := hid hb1
  clear hown hb1
  rcases hl : l with _ | ⟨y, t⟩
  · subst hl
    obtain ⟨A1, c1, rfl, _, _⟩ := Ot.is HO.out
    have HO2 := hid (show Ot w1 w.heap.size (.slice A1 0 c1) (srt []) by
      have e : srt [] = [] := by simp [srt, Lib.compact, Lib.compactUpTo]
      rw [e]; exact HO.out)
    simp only [List.length_nil]
    go_wp2_with fail
    refine (slicesSort_none A1 c1 w1).mono ?_
    rintro e w' ⟨rfl, hw⟩
    rw [hw]
    clear hw
    go_wp2_with fail
    refine (compact_none A1 c1 w1).mono ?_
    rintro e w' ⟨rfl, hw⟩
    rw [hw]
    clear hw
    go_wp2
    go_ret
    exact ⟨_, rfl, HO2.out, HB1.out⟩
  · have hne : v1 ≠ .slice none 0 0 := by
      rintro rfl
      have := HO.out.1
      rcases HO.out.2 with ⟨_, h0⟩ | ⟨_, _, _, h0, _⟩
      · rw [Tx_len, hl] at h0; simp at h0
      · cases h0
    have ho : w1.ownsRow w.heap.size 9 1 v1 l.length (l.map encStr) := by
      have := HO.out
      unfold Ot OwnV at this
      rwa [Tx_len] at this
    obtain ⟨g, cap, rfl, hbg, hgl, hncap, hcm, hlen, hH⟩ := Lib.holds_of_ownsRow ho hne
    have HBG := hid hbg
    have HL := hid (show l.length ≤ 100000 by rw [HS.out.size]; exact hn)
    have HC := hid (show l.length ≤ cap ∧ g < w1.heap.size from ⟨hncap, hgl⟩)
    have HH := hid hH
    clear hne ho hbg hgl hncap hcm hlen hH hl
    go_wp2_with fail
    refine (slicesSort_any g 0 cap l w1 HH.out HC.out.2 (by have := HL.out; omega)).mono ?_
    rintro e w' ⟨rfl, nn, os, hw⟩
    have HW := hid hw
    have hl2 : (l.mergeSort fun x y => decide (x ≤ y)).length = l.length := List.length_mergeSort l
    have HH2 := hid (show Holds encStr w' g 0 (l.mergeSort fun x y => decide (x ≤ y)).toArray by
      rw [hw]
      exact holds_grow encStr _ os g 0 _ (by simpa [putRow, mapBlock, Sort.ahead] using HC.out.2) (holds_putRow encStr _ g 0 _ _ (holds_ahead encStr w1 nn g 0 _ HH.out) (by simp)))
    have hcomp := hid (compact_any g 0 cap (l.mergeSort fun x y => decide (x ≤ y)) w' HH2.out (by rw [hl2]; have := HL.out; omega) (by rw [hl2]; exact HC.out.1))
    rw [hl2] at hcomp
    clear hl2 hw
    go_wp2_with fail
    refine hcomp.out.mono ?_
    rintro e w2 ⟨rfl, q, hw2⟩
    have HW2 := hid hw2
    clear hw2
    have HM := hid (left_of (nn := nn) (q := q) (os := os) HO.out HB1.out HBG.out)
    rw [← HW.out, ← HW2.out] at HM
    generalize (Lib.compact (l.mergeSort fun x y => decide (x ≤ y))).length = m at HM ⊢
    go_wp2
    go_ret
    exact HM.out
end Go.Proofs.YtdipikomfppihaaDoor
