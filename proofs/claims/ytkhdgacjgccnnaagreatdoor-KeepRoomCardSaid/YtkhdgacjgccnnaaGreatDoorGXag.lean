/- Put together out of 2 texts. Package root: told. -/
import Derived.Test.YtkhdgacjgccnnaaGreatDoorGXaf
namespace Go.Proofs.YtkhdgacjgccnnaaGreatDoor
open Go.RowKit

theorem Tryz.infoRef : (Tryz.prog.info? 91).map (fun i => (i.zero, i.size, i.bytes)) = some (some (.agg #[.int .i64 0, .int .u32 0]), 2, 16) := by kernel_rfl
theorem made_refs (N : Nat) : (madeCells (Value.agg #[.int .i64 0, .int .u32 0]).cells (N * 2)).toList = cellsR (List.replicate N (0, 0)) := by
  have hc : (Value.agg #[.int .i64 0, .int .u32 0]).cells = #[.int .i64 0, .int .u32 0] := rfl
  rw [hc]
  apply List.ext_getElem?
  intro k
  by_cases hk : k < N * 2
  · have h1 := cellsR_get (l := List.replicate N ((0 : Int), 0)) (k := k / 2) (x := (0, 0)) (by rw [List.getElem?_replicate, if_pos (by omega)]) (j := k % 2) (by omega)
    rw [show k / 2 * 2 + k % 2 = k by omega] at h1
    rw [h1]
    rcases (show k % 2 = 0 ∨ k % 2 = 1 by omega) with h | h
    · simp [madeCells, hk, h, cells2]
    · simp [madeCells, hk, h, cells2]
  · rw [List.getElem?_eq_none (by simp [madeCells]; omega), List.getElem?_eq_none (by rw [cellsR_len, List.length_replicate]; omega)]
/-- the refs told so far, the others empty -/
def toldTo (b : List Int) (N k : Nat) : List (Int × Nat) := (List.range k).map (toldRef b) ++ List.replicate (N - k) (0, 0)
theorem toldTo_len {b : List Int} {N k : Nat} (h : k ≤ N) : (toldTo b N k).length = N := by simp [toldTo]; omega
theorem toldTo_at {b : List Int} {N k : Nat} (h : k < N) : (toldTo b N k)[k]? = some (0, 0) := by
  unfold toldTo
  rw [List.getElem?_append_right (by simp), List.length_map, List.length_range, Nat.sub_self, List.getElem?_replicate, if_pos (by omega)]
theorem toldTo_set {b : List Int} {N k : Nat} (h : k < N) : (toldTo b N k).set k (toldRef b k) = toldTo b N (k + 1) := by
  unfold toldTo
  rw [List.set_append_right _ _ (by simp), List.range_succ, List.map_append, List.append_assoc]
  congr 1
  simp only [List.length_map, List.length_range, Nat.sub_self]
  rw [show N - k = (N - (k + 1)) + 1 by omega, List.replicate_succ]
  simp
theorem toldTo_all (b : List Int) (N : Nat) : toldTo b N N = (List.range N).map (toldRef b) := by simp [toldTo]
/-- a ref is stored at its place -/
theorem refs_put {w : World} {g k : Nat} {l : List (Int × Nat)} {x x' : Int × Nat} (h : Blk w g 91 (cellsR l).toArray) (hx : l[k]? = some x) : Blk ((w.setCell ⟨g, k * 2, none⟩ (.int .i64 x'.1)).setCell ⟨g, k * 2 + 1, none⟩ (.int .u32 (x'.2 : Int))) g 91 (cellsR (l.set k x')).toArray := by
  have h1 := (h.put (k * 2) (.int .i64 x'.1)).put (k * 2 + 1) (.int .u32 (x'.2 : Int))
  have e1 := cellsR_set (x' := (x'.1, x.2)) hx (j := 0) (u := .int .i64 x'.1) (by omega) rfl
  have hx1 : (l.set k (x'.1, x.2))[k]? = some (x'.1, x.2) := by
    rw [List.getElem?_set_self ((List.getElem?_eq_some_iff.1 hx).1)]
  have e2 := cellsR_set (x' := x') hx1 (j := 1) (u := .int .u32 (x'.2 : Int)) (by omega) rfl
  rw [List.set_set] at e2
  rw [Nat.add_zero] at e1
  have e : (((cellsR l).toArray.setIfInBounds (k * 2) (Value.int .i64 x'.1)).setIfInBounds (k * 2 + 1) (Value.int .u32 (x'.2 : Int))) = (cellsR (l.set k x')).toArray := by rw [← e2, ← e1]; simp
  rw [e] at h1
  exact h1
theorem refs_rf {w : World} {g N : Nat} {l : List (Int × Nat)} (h : Blk w g 91 (cellsR l).toArray) (hl : l.length = N) (hN : N ≤ 16) : Rf w w.heap.size (some ⟨g, 0, none⟩) N N l := by
  refine ⟨hl, Nat.le_refl _, by unfold maxLen; omega, fun h => (by cases h), fun ad ha _ => ?_⟩
  cases ha
  have e : ∀ j, (⟨g, 0, none⟩ : Addr).add j = ⟨g, j, none⟩ := fun j => by unfold Addr.add; split <;> simp_all
  refine ⟨h.lt, fun j x hx => ⟨?_, ?_⟩⟩
  · have := cellsR_get hx (j := 0) (by omega)
    rw [e, h.cell]; simpa [cells2] using this
  · have := cellsR_get hx (j := 1) (by omega)
    rw [e, h.cell]; simpa [cells2] using this
set_option maxRecDepth 100000 in
set_option maxHeartbeats 2000000 in
theorem told_any (A : Option Addr) (c : Nat) (b : List Int) (w : World) (h : Sl w w.heap.size A 256 c b) (hy : Byt b) :
    Calls Tryz.prog 131 #[.slice A 256 c] w fun e w' => ∃ A' n' c', e = .returned (rtV (told b).epoch A' n' c') ∧ Rf w' w'.heap.size A' n' c' (told b).refs ∧ Below w.heap.size w w' ∧ ∀ ad, A' = some ad → w.heap.size ≤ ad.block := by
  obtain ⟨i0, hi, hz0, hz1, hz2⟩ := info_parts Tryz.infoRef
  have HH := hid h
  have HY := hid hy
  have HB1 := hid (show Below w.heap.size w (w.alloc (.cells #[.int .i64 0, .slice none 0 0] 85)) from (Below.refl _ _).alloc (Nat.le_refl _) _)
  have HK1 := hid (Blk.new w 85 #[.int .i64 0, .slice none 0 0])
  clear h hy
  go_enter Tryz.func131, Tryz.ntmps131
  go_wp2_with fail
  refine (firstNum_any _ A 256 c 6 _ b _ rfl (HH.out.on HB1.out) HY.out (by omega) (by omega)).mono ?_
  rintro e w1 ⟨⟨A1, rfl, hs⟩, q, rfl⟩
  have HH1 := hid hs
  have HB2 := hid (below_drewN HB1.out q)
  have HK2 := hid (HK1.out.drewN q)
  have HE6 := hid (show numOf (b.take 6) < 281474976710656 from by
    have := numOf_lt (HY.out.take 6)
    rw [List.length_take, HH.out.len] at this
    exact this)
  clear hs
  obtain ⟨ep, hep⟩ : ∃ ep, numOf (b.take 6) = ep := ⟨_, rfl⟩
  rw [hep] at HE6 ⊢
  go_wp2_with fail
  refine (firstNum_any _ A1 _ _ 1 _ _ _ rfl (HH1.out.drewN q) (HY.out.drop 6) (by omega) (by omega)).mono ?_
  rintro e w1 ⟨⟨A2, rfl, hs⟩, q2, rfl⟩
  have HB3 := hid (below_drewN HB2.out q2)
  have HK3 := hid (HK2.out.drewN q2)
  rw [List.drop_drop] at hs
  obtain ⟨n2, hn2⟩ : ∃ n2, 256 - 6 - 1 = n2 := ⟨_, rfl⟩
  obtain ⟨c2, hc2⟩ : ∃ c2, c - 6 - 1 = c2 := ⟨_, rfl⟩
  rw [hn2, hc2] at hs ⊢
  have HS2 := hid (Sl.on hs (below_drewN (Below.refl _ _) q2))
  have HN2 := hid (show n2 = 249 by omega)
  obtain ⟨cnt, hcnt⟩ : ∃ cnt, numOf ((b.drop 6).take 1) = cnt := ⟨_, rfl⟩
  obtain ⟨N, hN⟩ : ∃ N, min cnt 16 = N := ⟨_, rfl⟩
  have HTn := hid (show toldN b = N from by unfold toldN; rw [hcnt]; exact hN)
  have HCnt := hid (show cnt < 256 from by
    have := numOf_lt ((HY.out.drop 6).take 1)
    rw [List.length_take, List.length_drop, HH.out.len, hcnt] at this
    exact this)
  have HN16 := hid (show N ≤ 16 by omega)
  have HEp := hid (show (told b).epoch = (ep : Int) from by unfold told; simp only; rw [hep])
  rw [hcnt] at ⊢
  have hways : (cnt ≤ 16 ∧ N = cnt) ∨ (16 < cnt ∧ N = 16) := by omega
  clear hs hn2 hc2 hcnt hN hep
  generalize ((w.alloc (.cells #[.int .i64 0, .slice none 0 0] 85)).drewN q).drewN q2 = w1 at *
  have hcI : ((cnt : Int) ≤ 16 ∧ (cnt : Int) = N) ∨ (16 < (cnt : Int) ∧ (16 : Int) = N) := by omega
  have hc0 : (cnt : Int) ≤ 255 := by have := HCnt.out; omega
  clear hways
  rcases hcI with ⟨hw1, hw2⟩ | ⟨hw1, hw2⟩
  all_goals
    have HW := hid hw2
    clear hw2
    go_wp2_with (at_make; refine wpList_make_full _ rfl _ _ 83 rfl w1.heap.size 91 i0 (.agg #[.int .i64 0, .int .u32 0]) 2 Tryz.underlying83 hi hz0 hz1 _ _ _ _ N rfl rfl ?a0 ?a1 ?b2 ?b3 ?b4 ?_)
    case a0 => exact HW.out
    case a1 => exact HW.out
    case b2 => rw [hz2]; have := HN16.out; omega
    case b3 => have := HN16.out; unfold maxLen; omega
    case b4 => exact Nat.le_refl _
    intro w2 hown hgrow
    have hbm : Below w1.heap.size w1 w2 := (Below.refl _ _).grown hgrow (Nat.le_refl _) (fun _ h => by cases h)
    have HG := hid (show Blk w2 w1.heap.size 91 (cellsR (toldTo b N 0)).toArray from by
      have e : toldTo b N 0 = List.replicate N (0, 0) := by simp [toldTo]
      rw [e, ← made_refs N, Array.toArray_toList]
      rcases hown.2 with ⟨hv, _⟩ | ⟨g', cap', cur, hv, _, hg1, _, _, hcs, ht⟩
      · cases hv
      · cases hv
        rw [List.take_of_length_le (by rw [Array.length_toList]; omega)] at ht
        have : cur = madeCells (Value.agg #[.int .i64 0, .int .u32 0]).cells (N * 2) := Array.toList_inj.1 ht
        rw [← this]
        exact hg1)
    have HB4 := hid (HB3.out.trans (hbm.mono HB3.out.size))
    have HK4 := hid (HK3.out.below hbm HK3.out.lt)
    have HS4 := hid (HS2.out.below hbm)
    have HG0 := hid (show w.heap.size < w1.heap.size from HK3.out.lt)
    clear hown hgrow hbm hw1
    go_wp2
    go_loopw [0, 24] (fun v i wr => ∃ (k : Nat) (A' : Option Addr) (m' c' : Nat), k ≤ N ∧ i = .int .i64 (k : Int) ∧ v = .slice A' m' c' ∧ m' + 6 * k = 249 ∧ Sl wr w1.heap.size A' m' c' (b.drop (7 + 6 * k)) ∧ Blk wr w1.heap.size 91 (cellsR (toldTo b N k)).toArray ∧ Below w.heap.size w wr ∧ Blk wr w.heap.size 85 #[.int .i64 0, .slice none 0 0]) (fun _ i _ => N - (intOf i).toNat)
    case atStart => exact ⟨0, A2, n2, c2, Nat.zero_le _, rfl, rfl, by have := HN2.out; omega, HS4.out, HG.out, HB4.out, HK4.out⟩
    case round =>
      obtain ⟨k, A', m', c', hk, rfl, rfl, hm', hs', hg', hb', hk'⟩ := hrel
      have HSr := hid hs'
      have HGr := hid hg'
      have HBr := hid hb'
      have HKr := hid hk'
      have HMr := hid hm'
      clear hs' hb' hk' hm'
      by_cases hlt : k < N
      · have hkN : (k : Int) < N := by omega
        have hN16 : (N : Int) ≤ 16 := by have := HN16.out; omega
        clear hg'
        go_wp2_with fail
        refine (firstNum_any _ A' m' c' 2 _ _ _ rfl HSr.out (HY.out.drop _) (by omega) (by have := HMr.out; have := HN16.out; omega)).mono ?_
        rintro e w3 ⟨⟨A3, rfl, hs⟩, q3, rfl⟩
        rw [List.drop_drop] at hs
        have HS3 := hid (hs.drewN q3)
        have HB5 := hid (below_drewN HBr.out q3)
        have HG5 := hid (HGr.out.drewN q3)
        have HK5 := hid (HKr.out.drewN q3)
        obtain ⟨m3, hm3⟩ : ∃ m3, m' - 2 = m3 := ⟨_, rfl⟩
        obtain ⟨c3, hc3⟩ : ∃ c3, c' - 2 = c3 := ⟨_, rfl⟩
        rw [hm3, hc3] at HS3 ⊢
        have HM3 := hid (show m3 + 6 * k = 247 by have := HMr.out; have := HN16.out; omega)
        obtain ⟨x1, hx1⟩ : ∃ x1, numOf ((b.drop (7 + 6 * k)).take 2) = x1 := ⟨_, rfl⟩
        have HX1 := hid hx1
        rw [hx1]
        clear hs hm3 hc3 hx1
        generalize wr.drewN q3 = w3 at *
        go_wp2_with fail
        refine (firstNum_any _ A3 m3 c3 4 _ _ _ rfl HS3.out (HY.out.drop _) (by omega) (by have := HM3.out; have := HN16.out; omega)).mono ?_
        rintro e w4 ⟨⟨A4, rfl, hs⟩, q4, rfl⟩
        rw [List.drop_drop] at hs
        have HS4' := hid (hs.drewN q4)
        have HB6 := hid (below_drewN HB5.out q4)
        have hg6 := HG5.out.drewN q4
        have HG6 := hid hg6
        have HK6 := hid (HK5.out.drewN q4)
        obtain ⟨m4, hm4⟩ : ∃ m4, m3 - 4 = m4 := ⟨_, rfl⟩
        obtain ⟨c4, hc4⟩ : ∃ c4, c3 - 4 = c4 := ⟨_, rfl⟩
        rw [hm4, hc4] at HS4' ⊢
        have HM4 := hid (show m4 + 6 * (k + 1) = 249 by have := HM3.out; have := HN16.out; omega)
        have e9 : 7 + 6 * k + 2 = 9 + 6 * k := by omega
        rw [e9]
        obtain ⟨x2, hx2⟩ : ∃ x2, numOf ((b.drop (9 + 6 * k)).take 4) = x2 := ⟨_, rfl⟩
        have HX2 := hid (show x2 < 4294967296 from by
          have := numOf_lt ((HY.out.drop (9 + 6 * k)).take 4)
          have h2 : ((b.drop (9 + 6 * k)).take 4).length ≤ 4 := by rw [List.length_take]; omega
          have h3 : (256 : Nat) ^ ((b.drop (9 + 6 * k)).take 4).length ≤ 256 ^ 4 := Nat.pow_le_pow_right (by omega) h2
          have h4 : (256 : Nat) ^ 4 = 4294967296 := by decide
          omega)
        have HR := hid (show toldRef b k = ((x1 : Int), x2) from by unfold toldRef; rw [HX1.out, hx2])
        rw [hx2]
        have hxw : (x2 : Int) % 4294967296 = (x2 : Int) := by have := HX2.out; omega
        clear hs hm4 hc4 hx2 e9
        generalize w3.drewN q4 = w4 at *
        have q0 := cellsR_get (toldTo_at (b := b) hlt) (j := 0) (by omega)
        have q1 := cellsR_get (toldTo_at (b := b) hlt) (j := 1) (by omega)
        have b0 : w4.cell? ⟨w1.heap.size, k * 2, none⟩ = some (.int .i64 0) := by rw [HG6.out.cell]; simpa [cells2] using q0
        have b1 : w4.cell? ⟨w1.heap.size, k * 2 + 1, none⟩ = some (.int .u32 0) := by rw [HG6.out.cell]; simpa [cells2] using q1
        have fr := fun i => HG6.out.free i
        have HG7 := hid (show Blk ((w4.setCell ⟨w1.heap.size, k * 2, none⟩ (.int .i64 (x1 : Int))).setCell ⟨w1.heap.size, k * 2 + 1, none⟩ (.int .u32 (x2 : Int))) w1.heap.size 91 (cellsR (toldTo b N (k + 1))).toArray from by
          have := refs_put (x' := ((x1 : Int), x2)) HG6.out (toldTo_at (b := b) hlt)
          have e : (toldTo b N k).set k ((x1 : Int), x2) = toldTo b N (k + 1) := by rw [← HR.out]; exact toldTo_set hlt
          rw [e] at this
          exact this)
        have HS8 := hid ((HS4'.out.put (Nat.le_refl _) (k * 2) (.int .i64 (x1 : Int))).put (Nat.le_refl _) (k * 2 + 1) (.int .u32 (x2 : Int)))
        rw [show 7 + 6 * k + 2 + 4 = 7 + 6 * (k + 1) by omega] at HS8
        have HB8 := hid (show Below w.heap.size w ((w4.setCell ⟨w1.heap.size, k * 2, none⟩ (.int .i64 (x1 : Int))).setCell ⟨w1.heap.size, k * 2 + 1, none⟩ (.int .u32 (x2 : Int))) from (HB6.out.setCell (p := ⟨w1.heap.size, k * 2, none⟩) (Nat.le_of_lt HG0.out) _).setCell (p := ⟨w1.heap.size, k * 2 + 1, none⟩) (Nat.le_of_lt HG0.out) _)
        have HK8 := hid ((HK6.out.far (p := ⟨w1.heap.size, k * 2, none⟩) (Nat.ne_of_lt HG0.out) (.int .i64 (x1 : Int))).far (p := ⟨w1.heap.size, k * 2 + 1, none⟩) (Nat.ne_of_lt HG0.out) (.int .u32 (x2 : Int)))
        clear q0 q1 hg6
        go_wp2
        exact ⟨⟨k + 1, A4, m4, c4, by omega, by go_num, rfl, HM4.out, HS8.out, HG7.out, HB8.out, HK8.out⟩, by simp [intOf]; omega⟩
      · obtain rfl : k = N := by omega
        have hnlt : decide (k < k) = false := by simp
        have HRf := hid (show Rf wr wr.heap.size (some ⟨w1.heap.size, 0, none⟩) k k (told b).refs from by
          have := refs_rf HGr.out (toldTo_len (Nat.le_refl _)) HN16.out
          rw [toldTo_all] at this
          unfold told
          simp only
          rw [HTn.out]
          exact this)
        have k0 := HKr.out.cell 0
        have k1 := HKr.out.cell 1
        have fr := fun i => HKr.out.free i
        simp at k0 k1
        have HK4' := (HKr.out.put 0 (.int .i64 (ep : Int))).put 1 (.slice (some ⟨w1.heap.size, 0, none⟩) k k)
        have m0 := HK4'.cell 0
        have m1 := HK4'.cell 1
        simp at m0 m1
        have HF := hid (show Below w.heap.size w ((wr.setCell ⟨w.heap.size, 0, none⟩ (.int .i64 (ep : Int))).setCell ⟨w.heap.size, 1, none⟩ (.slice (some ⟨w1.heap.size, 0, none⟩) k k)) from (HBr.out.setCell (p := ⟨w.heap.size, 0, none⟩) (Nat.le_refl _) _).setCell (p := ⟨w.heap.size, 1, none⟩) (Nat.le_refl _) _)
        have HR2 := hid (show Rf ((wr.setCell ⟨w.heap.size, 0, none⟩ (.int .i64 (ep : Int))).setCell ⟨w.heap.size, 1, none⟩ (.slice (some ⟨w1.heap.size, 0, none⟩) k k)) ((wr.setCell ⟨w.heap.size, 0, none⟩ (.int .i64 (ep : Int))).setCell ⟨w.heap.size, 1, none⟩ (.slice (some ⟨w1.heap.size, 0, none⟩) k k)).heap.size (some ⟨w1.heap.size, 0, none⟩) k k (told b).refs from
          HRf.out.same (by simp [World.setCell]) (fun ad ha _ => by
            cases ha
            have hne : w1.heap.size ≠ w.heap.size := by have := HG0.out; omega
            exact (Below.heap_setCell _ ⟨w.heap.size, 1, none⟩ _ w1.heap.size hne).trans (Below.heap_setCell _ ⟨w.heap.size, 0, none⟩ _ w1.heap.size hne)))
        clear HK4'
        go_wp2
        exact bodyPost_ret (v := rtV (ep : Int) (some ⟨w1.heap.size, 0, none⟩) k k) (by simp [results, Tryz.results131, go_sem, m0, m1]) rfl ⟨_, _, _, by rw [HEp.out], HR2.out, HF.out, fun ad ha => by cases ha; exact Nat.le_of_lt HG0.out⟩
end Go.Proofs.YtkhdgacjgccnnaaGreatDoor
namespace Go.Proofs.YtkhdgacjgccnnaaGreatDoor
open Go.RowKit

/-- the root that bytes are, or the empty one -/
def rootOr (b : List Int) : RSt := (readR b).getD noRoot
theorem rootOr_none {b : List Int} (h : readR b = none) : rootOr b = noRoot := by unfold rootOr; rw [h]; rfl
theorem rootOr_told {b : List Int} (h1 : b.length = 256) (h2 : (told b).code = 0) (h3 : bytesOf (told b) = b) : readR b = some (told b) := by
  unfold readR; rw [if_pos ⟨h1, h2, h3⟩]
theorem read_not {b : List Int} (h : ¬ (b.length = 256 ∧ (told b).code = 0 ∧ bytesOf (told b) = b)) : readR b = none := by
  unfold readR; rw [if_neg h]
theorem told_epoch (b : List Int) : -9223372036854775808 ≤ (told b).epoch := by
  show -9223372036854775808 ≤ ((numOf (b.take 6) : Nat) : Int); omega
theorem told_epoch' {b : List Int} (h : Byt b) : (told b).epoch ≤ 9223372036854775807 := by
  have h1 := numOf_lt (h.take 6)
  have h2 : (b.take 6).length ≤ 6 := by rw [List.length_take]; omega
  have h3 : (256 : Nat) ^ (b.take 6).length ≤ 256 ^ 6 := Nat.pow_le_pow_right (by omega) h2
  have h4 : (256 : Nat) ^ 6 = 281474976710656 := by decide
  show ((numOf (b.take 6) : Nat) : Int) ≤ 9223372036854775807
  omega
/-- what Read answers -/
def ReadR (w : World) (b : List Int) (e : Ending) (w' : World) : Prop := ∃ A n c, e = .returned (.tuple #[rtV (rootOr b).epoch A n c, .bool (readR b).isSome]) ∧ Rf w' w'.heap.size A n c (rootOr b).refs ∧ Below w.heap.size w w' ∧ ∀ ad, A = some ad → w.heap.size ≤ ad.block
/-- a root's box, written over -/
theorem box_put {w : World} {g : Nat} {cs : Array Value} (h : Blk w g 85 cs) (hs : cs.size = 2) (u v : Value) : Blk ((w.setCell ⟨g, 0, none⟩ u).setCell ⟨g, 1, none⟩ v) g 85 #[u, v] := by
  have := (h.put 0 u).put 1 v
  have e : (cs.setIfInBounds 0 u).setIfInBounds 1 v = #[u, v] := by
    rcases cs with ⟨l⟩
    match l, hs with
    | [a, b], _ => rfl
  rwa [e] at this
theorem below_box {B g : Nat} {w0 w : World} (h : Below B w0 w) (hg : B ≤ g) (u v : Value) : Below B w0 ((w.setCell ⟨g, 0, none⟩ u).setCell ⟨g, 1, none⟩ v) := (h.setCell (p := ⟨g, 0, none⟩) hg _).setCell (p := ⟨g, 1, none⟩) hg _
theorem rf_box {w : World} {n c g : Nat} {A : Option Addr} {l : List (Int × Nat)} (h : Rf w w.heap.size A n c l) (hn : ∀ ad, A = some ad → 0 < n → ad.block ≠ g) (u v : Value) : Rf ((w.setCell ⟨g, 0, none⟩ u).setCell ⟨g, 1, none⟩ v) ((w.setCell ⟨g, 0, none⟩ u).setCell ⟨g, 1, none⟩ v).heap.size A n c l :=
  h.same (by simp [World.setCell]) fun ad ha h0 => (Below.heap_setCell _ ⟨g, 1, none⟩ _ ad.block (hn ad ha h0)).trans (Below.heap_setCell _ ⟨g, 0, none⟩ _ ad.block (hn ad ha h0))
set_option maxRecDepth 100000 in
set_option maxHeartbeats 2000000 in
theorem readR_short_any (A : Option Addr) (n c : Nat) (b : List Int) (w : World) (h : Sl w w.heap.size A n c b) (hn : n ≠ 256) :
    Calls Tryz.prog 98 #[.slice A n c] w (ReadR w b) := by
  have hr := read_not (b := b) (fun h1 => hn (by rw [← h.len]; exact h1.1))
  have hq : ((n : Int) != 256) = true := by simp; omega
  have HR := hid hr
  unfold ReadR
  rw [rootOr_none hr, hr]
  have HK1 := hid (Blk.new w 85 #[.int .i64 0, .slice none 0 0])
  have HB1 := hid (show Below w.heap.size w (w.alloc (.cells #[.int .i64 0, .slice none 0 0] 85)) from (Below.refl _ _).alloc (Nat.le_refl _) _)
  have c0 := HK1.out.cell 0
  have c1 := HK1.out.cell 1
  have fr := fun i => HK1.out.free i
  simp at c0 c1
  clear h hr
  go_enter Tryz.func98, Tryz.ntmps98
  go_wp2
  exact bodyPost_ret (v := .tuple #[rtV 0 none 0 0, .bool false]) (by simp [results, Tryz.results98, go_sem]) rfl ⟨none, 0, 0, rfl, Rf.empty _ _, HB1.out, fun _ h => by cases h⟩
set_option maxRecDepth 100000 in
set_option maxHeartbeats 4000000 in
theorem readR_long_any (S : Nat → Addr) (A : Option Addr) (c : Nat) (b : List Int) (w : World) (hS : Sent6 w S) (h : Sl w w.heap.size A 256 c b) (hy : Byt b) :
    Calls Tryz.prog 98 #[.slice A 256 c] w (ReadR w b) := by
  have HS := hid hS
  have HL := hid h
  have HY := hid hy
  have HB1 := hid (show Below w.heap.size w (w.alloc (.cells #[.int .i64 0, .slice none 0 0] 85)) from (Below.refl _ _).alloc (Nat.le_refl _) _)
  have HK1 := hid (Blk.new w 85 #[.int .i64 0, .slice none 0 0])
  clear hS h hy
  go_enter Tryz.func98, Tryz.ntmps98
  go_wp2_with fail
  refine (told_any A c b _ (HL.out.on HB1.out) HY.out).mono ?_
  rintro e w1 ⟨A1, n1, c1, rfl, hrf, hb, hn⟩
  have HR1 := hid hrf
  have HN1 := hid (show ∀ ad, A1 = some ad → w.heap.size < ad.block from fun ad ha => by have := hn ad ha; simp at this; omega)
  have HB2 := hid (HB1.out.trans (hb.mono HB1.out.size))
  have HK2 := hid (HK1.out.below hb HK1.out.lt)
  clear hrf hb hn
  obtain ⟨ep, hep⟩ : ∃ ep, (told b).epoch = ep := ⟨_, rfl⟩
  rw [hep]
  have HEp := hid hep
  clear hep
  have hbA : Below w.heap.size w (w1.alloc (.cells #[.int .i64 ep, .slice A1 n1 c1] 85)) := HB2.out.alloc HB2.out.size _
  have HBA := hid hbA
  have HKA := hid (Blk.new w1 85 #[.int .i64 ep, .slice A1 n1 c1])
  have HKo := hid (HK2.out.alloc (.cells #[.int .i64 ep, .slice A1 n1 c1] 85))
  have HRA := hid (HR1.out.on ((Below.refl _ _).alloc (Nat.le_refl _) (.cells #[.int .i64 ep, .slice A1 n1 c1] 85)))
  have HBy := hid (rootBytes_any S (told b) A1 n1 c1 _ (HS.out.on hbA) HRA.out (told_sums HY.out) (told_epoch b) (told_epoch' HY.out))
  rw [HEp.out] at HBy
  have c0 := HKA.out.cell 0
  have c1' := HKA.out.cell 1
  simp at c0 c1'
  clear hbA
  go_wp2_with fail
  refine HBy.out.mono ?_
  rintro e w2 ⟨ho, hb⟩
  have HB3 := hid (HBA.out.trans (hb.mono HBA.out.size))
  have HK3 := hid (HKA.out.below hb HKA.out.lt)
  have HKo3 := hid (HKo.out.below hb HKo.out.lt)
  have HR3 := hid (HRA.out.on hb)
  have HL3 := hid (HL.out.on HB3.out)
  clear hb c0 c1'
  have c0 := HK3.out.cell 0
  have c1' := HK3.out.cell 1
  have k0 := HKo3.out.cell 0
  have k1 := HKo3.out.cell 1
  have fr := fun i => HKo3.out.free i
  simp at c0 c1' k0 k1
  rcases ho with ⟨hc, A2, c2, rfl, hsl, _⟩ | ⟨hc, v, rfl, hv⟩
  · have HC := hid hc
    have HS2 := hid hsl
    clear hc hsl
    go_wp2_with fail
    refine (bytesEqual_any A2 A 256 c2 256 c _ _ _ _ w2 HS2.out HL3.out (bytesOf_byt _) HY.out).mono ?_
    rintro e w3 ⟨rfl, q, rfl⟩
    have HB4 := hid (below_drewN HB3.out q)
    have HK4 := hid (HK3.out.drewN q)
    have HKo4 := hid (HKo3.out.drewN q)
    have HR4 := hid (Rf.on HR3.out (below_drewN (Below.refl _ _) q))
    clear c0 c1' k0 k1 fr
    generalize w2.drewN q = w4 at *
    have c0 := HK4.out.cell 0
    have c1' := HK4.out.cell 1
    have k0 := HKo4.out.cell 0
    have k1 := HKo4.out.cell 1
    have fr := fun i => HKo4.out.free i
    simp at c0 c1' k0 k1
    by_cases he : bytesOf (told b) = b
    · have hsm : sameB (bytesOf (told b)) b = true := by simp [sameB, he]
      have HE := hid (rootOr_told HL.out.len HC.out he)
      rw [hsm]
      have HKn := box_put HKo4.out rfl (.int .i64 ep) (.slice A1 n1 c1)
      have m0 := HKn.cell 0
      have m1 := HKn.cell 1
      simp at m0 m1
      have HRn := hid (rf_box HR4.out (g := w.heap.size) (fun ad ha _ => by have := HN1.out ad ha; omega) (.int .i64 ep) (.slice A1 n1 c1))
      have HBn := hid (below_box HB4.out (Nat.le_refl _) (.int .i64 ep) (.slice A1 n1 c1))
      clear he hsm HKn
      go_wp2
      refine bodyPost_ret (v := .tuple #[rtV ep A1 n1 c1, .bool true]) (by simp [results, Tryz.results98, go_sem, m0, m1]) rfl ⟨A1, n1, c1, ?_, ?_, HBn.out, fun ad ha => Nat.le_of_lt (HN1.out ad ha)⟩
      · unfold rootOr; rw [HE.out]; simp only [Option.getD_some, Option.isSome_some]; rw [HEp.out]
      · unfold rootOr; rw [HE.out]; exact HRn.out
    · have hsm : sameB (bytesOf (told b)) b = false := by simp [sameB, he]
      have HE := hid (read_not (b := b) (fun h => he h.2.2))
      rw [hsm]
      clear he hsm
      go_wp2
      refine bodyPost_ret (v := .tuple #[rtV 0 none 0 0, .bool false]) (by simp [results, Tryz.results98, go_sem, k0, k1]) rfl ⟨none, 0, 0, ?_, ?_, below_box HB4.out (Nat.le_refl _) _ _, fun _ h => by cases h⟩
      · rw [rootOr_none HE.out, HE.out]; rfl
      · rw [rootOr_none HE.out]; exact Rf.empty _ _
  · have HE := hid (read_not (b := b) (fun h => hc h.2.1))
    obtain ⟨j, rfl⟩ := hv.is hc
    clear hv hc
    go_wp2
    refine bodyPost_ret (v := .tuple #[rtV 0 none 0 0, .bool false]) (by simp [results, Tryz.results98, go_sem, k0, k1]) rfl ⟨none, 0, 0, ?_, ?_, below_box HB3.out (Nat.le_refl _) _ _, fun _ h => by cases h⟩
    · rw [rootOr_none HE.out, HE.out]; rfl
    · rw [rootOr_none HE.out]; exact Rf.empty _ _
theorem read_any (S : Nat → Addr) (A : Option Addr) (n c : Nat) (b : List Int) (w : World) (hS : Sent6 w S) (h : Sl w w.heap.size A n c b) (hy : Byt b) :
    Calls Tryz.prog 98 #[.slice A n c] w (ReadR w b) := by
  by_cases hn : n = 256
  · subst hn; exact readR_long_any S A c b w hS h hy
  · exact readR_short_any A n c b w h hn
end Go.Proofs.YtkhdgacjgccnnaaGreatDoor
