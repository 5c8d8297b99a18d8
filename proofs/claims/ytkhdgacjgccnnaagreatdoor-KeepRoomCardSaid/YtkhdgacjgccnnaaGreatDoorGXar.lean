/- Put together out of 6 texts. Slices of Refs: DeleteFunc; a state's Refs. -/
import Derived.Test.YtkhdgacjgccnnaaGreatDoorGXaq
import Derived.Deep.DeepCutAuto
namespace Go.Proofs.YtkhdgacjgccnnaaGreatDoor
open Go.RowKit

/-- those that point to something, in the same row -/
def Kept' (w : World) (g cap : Nat) (l : List (Int × Nat)) (e : Ending) (w' : World) : Prop := ∃ m, e = .returned (.slice (some ⟨g, 0, none⟩) m cap) ∧ Rf w' w'.heap.size (some ⟨g, 0, none⟩) m cap (filt l) ∧ w.grownBy w' (some g)
set_option maxRecDepth 100000 in
set_option maxHeartbeats 4000000 in
theorem deleteNot_any (B g n cap : Nat) (l : List (Int × Nat)) (w : World) (h : OwnR w B (.slice (some ⟨g, 0, none⟩) n cap) l) (hn : n ≤ 1000) :
    Calls Tryz.prog 152 #[.slice (some ⟨g, 0, none⟩) n cap, .func (.func 154) #[] #[]] w (Kept' w g cap l) := by
  obtain ⟨T, hblk, hnl, hnc, hcm, _⟩ := refRow_own h
  have HK := hid hblk
  have HN := hid hnl
  have hRf := refRow_rf hblk hnl.symm hnc hcm
  have HR := hid hRf
  have HC := hid hnc
  have HM := hid hcm
  have hn1 : (n : Int) ≤ 1000 := by omega
  have hnc' : (n : Int) ≤ cap := by omega
  have hcm' : (cap : Int) ≤ 9223372036854775807 := by unfold maxLen at hcm; omega
  clear h hblk hnl hRf hnc hcm hn
  go_enter Tryz.func152, Tryz.ntmps152
  go_wp2_with fail
  refine (indexNot_any _ n cap l _ HR.out).mono ?_
  rintro e w1 ⟨r, rfl, hr, hb1⟩
  have HB1 := hid hb1
  have HR1 := hid (HR.out.on hb1)
  have HK1 := hid (HK.out.below hb1 HK.out.lt)
  clear hb1
  rcases hr with ⟨rfl, hall⟩ | ⟨k, x, rfl, hx, hp, hall⟩
  · have HF := hid (show Kept' w g cap l (.returned (.slice (some ⟨g, 0, none⟩) n cap)) w1 from ⟨n, rfl, by
      rw [filt, List.filter_eq_self.2 hall]; exact HR1.out, only_below HB1.out _⟩)
    clear hall
    go_wp2
    go_ret
    exact HF.out
  · have hk := (List.getElem?_eq_some_iff.1 hx).1
    have hkn : (k : Int) < n := by have := HN.out; omega
    have HC1 := hid (Cut.start hx hp hall)
    have HG1 := hid (show w.grownBy w1 (some g) from only_below HB1.out _)
    have HKn := hid (show k + 1 ≤ n from by have := HN.out; omega)
    have gk : ((k : Int) == -1) = false := by rw [beq_eq_false_iff_ne]; omega
    clear hx hp hall hk
    go_wp2
    go_loopw [6, 5] (fun jv iv wr => ∃ (i j : Nat) (M : List (Int × Nat)), jv = .int .i64 (j : Int) ∧ iv = .int .i64 (i : Int) ∧ j ≤ n ∧ Cut l M i j ∧ Blk wr g 91 (cellsR M ++ T).toArray ∧ w.grownBy wr (some g)) (fun jv _ _ => n - (intOf jv).toNat)
    case atStart => exact ⟨k, k + 1, l, by go_num, rfl, HKn.out, HC1.out, HK1.out, HG1.out⟩
    case round =>
      obtain ⟨i, j, M, rfl, rfl, hj, hcut, hblk, hg⟩ := hrel
      have HCt := hid hcut
      have HBk := hid hblk
      have HG := hid hg
      have HMl := hid (show M.length = n from by rw [hcut.len, HN.out])
      have hij : (i : Int) < (j : Int) := by have := hcut.le; omega
      have HRM := hid (refRow_rf hblk (show M.length = n from by rw [hcut.len, HN.out]) HC.out HM.out)
      clear hcut hblk hg
      by_cases hlt : j < n
      · obtain ⟨ad2, y, had2, hbl, hy, c0, c1⟩ := HRM.out.get hlt
        obtain rfl : (⟨g, 0, none⟩ : Addr) = ad2 := by injection had2
        have e1 : ∀ q, (⟨g, 0, none⟩ : Addr).add q = ⟨g, q, none⟩ := fun q => by unfold Addr.add; split <;> simp_all
        rw [e1] at c0 c1
        simp only at c1
        have HY := hid (HCt.out.get hy)
        have hjn : (j : Int) < n := by omega
        have hin : (i : Int) < n := by omega
        obtain ⟨x', hx'⟩ : ∃ x', M[i]? = some x' := ⟨_, List.getElem?_eq_getElem (by rw [HMl.out]; have := HCt.out.le; omega)⟩
        have HX' := hid hx'
        obtain ⟨b, hpb⟩ : ∃ b, points y = b := ⟨_, rfl⟩
        have HPb := hid hpb
        have hlw : g < wr.heap.size := HBk.out.lt
        have HKal := hid (fun o => (show Blk (wr.alloc o) g 91 (cellsR M ++ T).toArray from Blk.alloc HBk.out o))
        have HKb := hid (Blk.new wr 91 #[.int .i64 y.1, .int .u32 (y.2 : Int)])
        have HBw := hid (show Below wr.heap.size wr (wr.alloc (.cells #[.int .i64 y.1, .int .u32 (y.2 : Int)] 91)) from (Below.refl _ _).alloc (Nat.le_refl _) _)
        clear hbl hy had2 e1 hx' hpb
        go_wp2_with fail
        refine (notPoints_any y _).mono ?_
        rw [HPb.out]
        rintro e w2 ⟨rfl, hb2⟩
        have HB2 := hid (HBw.out.trans (hb2.mono HBw.out.size))
        have HK2 := hid (HBk.out.below HB2.out HBk.out.lt)
        have HKb2 := hid (HKb.out.below hb2 HKb.out.lt)
        have HG2 := hid (only_trans HG.out (only_below HB2.out (some g)))
        clear hb2 c0 c1
        cases b
        · have HN2 := hid (HCt.out.skip HY.out HPb.out)
          go_wp2
          go_roundw
          case rel => exact ⟨i, j + 1, M, by go_num, rfl, by omega, HN2.out, HK2.out, HG2.out⟩
          case measure => simp [intOf]; omega
        · have HN2 := hid (HCt.out.keep HY.out HPb.out)
          have d0 := HKb2.out.cell 0
          have d1 := HKb2.out.cell 1
          simp at d0 d1
          have hRf2 := refRow_rf HK2.out HMl.out HC.out HM.out
          obtain ⟨s0, s1⟩ := (hRf2.at_ _ rfl (by omega)).2 i x' HX'.out
          have e1 : ∀ q, (⟨g, 0, none⟩ : Addr).add q = ⟨g, q, none⟩ := fun q => by unfold Addr.add; split <;> simp_all
          rw [e1] at s0 s1
          have f0 := HK2.out.free (i * 2)
          have f1 := HK2.out.free (i * 2 + 1)
          have HK3 := hid (refRow_put HK2.out HX'.out y)
          have HG3 := hid (only_put (only_put HG2.out (i * 2) (.int .i64 y.1)) (i * 2 + 1) (.int .u32 (y.2 : Int)))
          clear hRf2 e1
          go_wp2
          go_roundw
          case rel => exact ⟨i + 1, j + 1, M.set i y, by go_num, by go_num, by omega, HN2.out, HK3.out, HG3.out⟩
          case measure => simp [intOf]; omega
      · have hjn : j = n := by omega
        have hnlt : decide (j < n) = false := by simpa using hlt
        have hin : (i : Int) < n := by omega
        have hin2 : i < n := by omega
        have hcl := fun ty => clearR_run (c := cap - i) HBk.out HMl.out hin2 ty
        have HFi := hid (show Kept' w g cap l (.returned (.slice (some ⟨g, 0, none⟩) i cap)) (wr.setCells g (i * 2) (cellsR (List.replicate (n - i) (0, 0)))) from by
          refine ⟨i, rfl, ?_, only_setCells HG.out _ _⟩
          have h1 := (hcl 0).2
          have hf : M.take i = filt l := by
            rw [HCt.out.head, List.take_of_length_le (by rw [← HN.out]; omega)]
          have hlen : (M.take i).length = i := by rw [List.length_take, HMl.out]; omega
          rw [cellsR_append, List.append_assoc, hf] at h1
          rw [hf] at hlen
          have := refRow_rf h1 hlen (by have := HC.out; omega) HM.out
          exact this)
        have HRun := hid (fun ty => (hcl ty).1)
        have hic : (i : Int) ≤ cap := by omega
        clear hcl hlt hjn
        go_wp2_with fail
        rw [HRun.out 0]
        go_wp2
        go_ret
        exact HFi.out
end Go.Proofs.YtkhdgacjgccnnaaGreatDoor
namespace Go.Proofs.YtkhdgacjgccnnaaGreatDoor
open Go.RowKit

theorem own_someR {w : World} {B : Nat} {v : Value} {l : List (Int × Nat)} {n : Nat} (h : OwnR w B v l) (hn : l.length = n) (h0 : 0 < n) : ∃ g cap, v = .slice (some ⟨g, 0, none⟩) n cap ∧ B ≤ g ∧ OwnR w B (.slice (some ⟨g, 0, none⟩) n cap) l := by
  rcases h.2 with ⟨_, h1⟩ | ⟨g, cap, cur, hv, hb, _⟩
  · omega
  · subst hn
    exact ⟨g, cap, hv, hb, hv ▸ h⟩
set_option maxRecDepth 100000 in
set_option maxHeartbeats 4000000 in
theorem refs_any (P : PS) (a o : Nat) (t : TypeId) (A B : List Value) (w : World) (h : HoldsP w a t A P B) (hL : P.Len) (ho : A.length = o) :
    Calls Tryz.prog 121 #[.pointer (some ⟨a, o, none⟩)] w fun e w' => ∃ g m cap, e = .returned (.slice (some ⟨g, 0, none⟩) m cap) ∧ Rf w' w'.heap.size (some ⟨g, 0, none⟩) m cap P.refs ∧ w.heap.size ≤ g ∧ Below w.heap.size w w' := by
  have HLl := hid (show (P.idx ++ P.pgs).length = 263 from by rw [List.length_append, hL.i, hL.p])
  have hb0 : Below w.heap.size w (w.alloc (.cells #[.slice (some ⟨a, o + 1, none⟩) 7 7, .slice (some ⟨a, o + 15, none⟩) 256 256] 83)).drew := ((Below.refl _ _).alloc (Nat.le_refl _) _).drew
  have HB0 := hid hb0
  have HCc := hid (concat_any w.heap.size ⟨a, o + 1, none⟩ ⟨a, o + 15, none⟩ 7 7 256 256 P.idx P.pgs (w.alloc (.cells #[.slice (some ⟨a, o + 1, none⟩) 7 7, .slice (some ⟨a, o + 15, none⟩) 256 256] 83)).drew (Blk.new w _ _).drew ((h.idxs hL ho).on hb0) ((h.pgsR hL ho).on hb0) (by omega) (by omega))
  clear h ho hb0 hL
  go_enter Tryz.func121, Tryz.ntmps121
  go_wp2_with fail
  go_region_with (first | (go_at_call 153; refine HCc.out.mono ?_; rintro e w2 ⟨v, rfl, hown, hb2⟩; obtain ⟨g, cap, rfl, hg, hown2⟩ := own_someR hown HLl.out (by omega); have HO2 := hid hown2; have HB2 := hid (HB0.out.trans (hb2.mono HB0.out.size)); have HG2 := hid (Nat.le_trans HB0.out.size hg); clear hown hb2 hg hown2) | (go_at_call 152; refine (deleteNot_any _ g 263 cap _ w2 HO2.out (by omega)).mono ?_; rintro e w3 ⟨m, rfl, hrf, hgr⟩; have HR3 := hid hrf; have HB3 := hid (HB2.out.grown hgr HB2.out.size (fun k hk => by injection hk with hk; have := HG2.out; omega)); clear hrf hgr))
  go_wp2
  go_ret
  exact ⟨g, m, cap, rfl, HR3.out, HG2.out, HB3.out⟩
end Go.Proofs.YtkhdgacjgccnnaaGreatDoor
namespace Go.Proofs.YtkhdgacjgccnnaaGreatDoor
open Go.RowKit Go.Maps Go.Sort Go.Shelf

theorem own_someN {w : World} {B : Nat} {v : Value} {l : List Int} {n : Nat} (h : OwnN w B v l) (hn : l.length = n) (h0 : 0 < n) : ∃ g cap, v = .slice (some ⟨g, 0, none⟩) n cap ∧ B ≤ g ∧ OwnN w B (.slice (some ⟨g, 0, none⟩) n cap) l := by
  rcases h.2 with ⟨_, h1⟩ | ⟨g, cap, cur, hv, hb, _⟩
  · omega
  · subst hn
    exact ⟨g, cap, hv, hb, hv ▸ h⟩
theorem sortN_any (B g n cap : Nat) (l : List Int) (w : World) (h : OwnN w B (.slice (some ⟨g, 0, none⟩) n cap) l) (hl : l.length = n) (hn : n ≤ 100000) :
    Calls Tryz.prog 117 #[.slice (some ⟨g, 0, none⟩) n cap] w fun e w' => e = .returned (.tuple #[]) ∧ OwnN w' B (.slice (some ⟨g, 0, none⟩) n cap) (l.mergeSort fun x y => decide (x ≤ y)) ∧ w.grownBy w' (some g) := by
  subst hl
  rcases h.2 with ⟨h', _⟩ | ⟨g', cap', cur, hv, hb, hg, r1, r2, r3, r4⟩
  · cases h'
  · cases hv
    have hH : Holds (Value.int .i64) w g 0 l.toArray := holds_of_block_i hg (by simpa using r4)
    refine (AnyM.slices_Sort_int Tryz.sortA g 0 cap l w hH (Array.getElem?_eq_some_iff.1 hg).1 (by omega)).mono ?_
    rintro e w' ⟨rfl, nn, os, rfl⟩
    refine ⟨rfl, ?_, grownBy_sorted_i _⟩
    unfold OwnN
    rw [List.length_mergeSort]
    exact ownsRow_sorted_i (by simp) hb hg r1 r2 r3
/-- one more int -/
theorem ownN_more {w w2 : World} {B : Nat} {v v' : Value} {l : List Int} {x : Int} (h : w2.ownsRow B 3 1 v' (l.length + 1) (l.map (Value.int .i64) ++ [.int .i64 x])) (_ : OwnN w B v l) : OwnN w2 B v' (l ++ [x]) := by
  unfold OwnN
  rw [List.length_append, List.map_append]
  exact h
theorem refs_le (P : PS) (hL : P.Len) : P.refs.length ≤ 263 := by
  have := List.length_filter_le points (P.idx ++ P.pgs)
  rw [List.length_append, hL.i, hL.p] at this
  exact this
set_option maxRecDepth 100000 in
set_option maxHeartbeats 4000000 in
theorem used_any (P : PS) (a o : Nat) (t : TypeId) (A B : List Value) (w : World) (h : HoldsP w a t A P B) (hL : P.Len) (ho : A.length = o) :
    Calls Tryz.prog 86 #[.pointer (some ⟨a, o, none⟩)] w fun e w' => ∃ g n cap, e = .returned (.slice (some ⟨g, 0, none⟩) n cap) ∧ OwnN w' w.heap.size (.slice (some ⟨g, 0, none⟩) n cap) P.used ∧ P.used.length = n ∧ Below w.heap.size w w' := by
  obtain ⟨i0, hi, hz0, hz1, hz2⟩ := info_parts Tryz.info3
  have HH := hid h
  have HLn := hid hL
  have HO := hid ho
  clear h hL ho
  go_enter Tryz.func86, Tryz.ntmps86
  go_wp2
  go_loopw [7, 3] (fun i v wr => ∃ (k : Nat) (q : List Int), i = .int .i64 (k : Int) ∧ OwnN wr w.heap.size v q ∧ ((k = 0 ∧ q = []) ∨ (k = 1 ∧ q = [0]) ∨ (k = 2 ∧ q = [0, 1])) ∧ Below w.heap.size w wr) (fun i _ _ => 2 - (intOf i).toNat)
  case atStart => exact ⟨0, [], rfl, World.ownsRow_nil _ _ _ _, .inl ⟨rfl, rfl⟩, Below.refl _ _⟩
  case round =>
    obtain ⟨k, q, rfl, hown, hkq, hb⟩ := hrel
    have HOw := hid hown
    have HB := hid hb
    clear hown hb
    rcases hkq with ⟨rfl, rfl⟩ | ⟨rfl, rfl⟩ | ⟨rfl, rfl⟩
    · go_wp2_with (at_builtin; refine wpList_append_own _ rfl _ _ 108 rfl w.heap.size 3 i0 (.int .i64 0) 1 8 Tryz.underlying108 hi hz0 hz1 hz2 rfl (by decide) _ 0 [] rfl (World.ownsRow.alloc HOw.out _) ⟨wr.heap.size, 0, none⟩ 1 1 [.int .i64 0] rfl rfl (cell_one_new _ _ _) (by intro u hu; simp at hu; subst hu; rfl) (by unfold maxLen; omega) (by omega) (by have := HB.out.size; simp; omega) ?_)
      intro v' w2 hown' hgrow _
      have HO2 := hid (show OwnN w2 w.heap.size v' [0] from ownN_more (l := []) hown' HOw.out)
      have HB2 := hid (show Below w.heap.size w w2 from (HB.out.alloc HB.out.size _).grown hgrow (by have := HB.out.size; simp; omega) (fun j hj => (World.ownsRow.lt HOw.out j hj).1))
      clear hown' hgrow
      go_wp2
      go_roundw
      case rel => exact ⟨1, [0], rfl, HO2.out, .inr (.inl ⟨rfl, rfl⟩), HB2.out⟩
      case measure => simp [intOf]
    · go_wp2_with (at_builtin; refine wpList_append_own _ rfl _ _ 108 rfl w.heap.size 3 i0 (.int .i64 0) 1 8 Tryz.underlying108 hi hz0 hz1 hz2 rfl (by decide) _ 1 [.int .i64 0] rfl (World.ownsRow.alloc HOw.out _) ⟨wr.heap.size, 0, none⟩ 1 1 [.int .i64 1] rfl rfl (cell_one_new _ _ _) (by intro u hu; simp at hu; subst hu; rfl) (by unfold maxLen; omega) (by omega) (by have := HB.out.size; simp; omega) ?_)
      intro v' w2 hown' hgrow _
      have HO2 := hid (show OwnN w2 w.heap.size v' [0, 1] from ownN_more (l := [0]) hown' HOw.out)
      have HB2 := hid (show Below w.heap.size w w2 from (HB.out.alloc HB.out.size _).grown hgrow (by have := HB.out.size; simp; omega) (fun j hj => (World.ownsRow.lt HOw.out j hj).1))
      clear hown' hgrow
      go_wp2
      go_roundw
      case rel => exact ⟨2, [0, 1], rfl, HO2.out, .inr (.inr ⟨rfl, rfl⟩), HB2.out⟩
      case measure => simp [intOf]
    · go_wp2_with fail
      refine (refs_any P a o t A B _ (HH.out.below HB.out HH.out.lt) HLn.out HO.out).mono ?_
      rintro e w2 ⟨g, m, cap, rfl, hrf, hgn, hb2⟩
      have HR := hid hrf
      have HO2 := hid (HOw.out.on hb2)
      have HGn := hid (show ∀ b, u3.ownBlock = some b → b ≠ g from fun b hb => by have := (World.ownsRow.lt HOw.out b hb).2; omega)
      have HB2 := hid (HB.out.trans (hb2.mono HB.out.size))
      obtain ⟨R, hR⟩ : ∃ R, P.refs = R := ⟨_, rfl⟩
      have HRe := hid hR
      have HRl := hid (show R.length ≤ 263 from by rw [← hR]; exact refs_le P HLn.out)
      rw [hR] at HR
      have hmR : m = R.length := HR.out.len.symm
      have hm1 : (m : Int) ≤ 263 := by have := HRl.out; omega
      have HMr := hid hmR
      clear hrf hb2 hR hmR hgn
      go_wp2
      go_loopw [18, 3] (fun i v wx => ∃ j : Nat, j ≤ m ∧ i = .int .i64 (j : Int) ∧ OwnN wx w.heap.size v (0 :: 1 :: (R.take j).map (·.1)) ∧ (∀ b, v.ownBlock = some b → b ≠ g) ∧ Rf wx wx.heap.size (some ⟨g, 0, none⟩) m cap R ∧ Below w.heap.size w wx) (fun i _ _ => m - (intOf i).toNat)
      case atStart => exact ⟨0, Nat.zero_le _, rfl, by simpa using HO2.out, HGn.out, HR.out, HB2.out⟩
      case round =>
        rename World => wx
        obtain ⟨j, hj, rfl, hown, hnb, hrx, hb⟩ := hrel
        have HOw3 := hid hown
        have HNb := hid hnb
        have HRx := hid hrx
        have HB4 := hid hb
        clear hown hnb hrx hb
        by_cases hlt : j < m
        · obtain ⟨ad2, x, had2, hbl, hx, c0, c1⟩ := HRx.out.get hlt
          obtain rfl : (⟨g, 0, none⟩ : Addr) = ad2 := by injection had2
          have e1 : ∀ q, (⟨g, 0, none⟩ : Addr).add q = ⟨g, q, none⟩ := fun q => by unfold Addr.add; split <;> simp_all
          rw [e1] at c0 c1
          simp only at c1
          have HX := hid hx
          have HGl := hid (show g < wx.heap.size from hbl)
          have hjm : (j : Int) < m := by omega
          have hlj : (0 :: 1 :: (R.take j).map (·.1) : List Int).length = j + 2 := by
            simp only [List.length_cons, List.length_map, List.length_take]
            have := HMr.out
            omega
          have HOl := hid (show wx.ownsRow w.heap.size 3 1 u3 (j + 2) ((0 :: 1 :: (R.take j).map (·.1) : List Int).map (Value.int .i64)) from by
            have := HOw3.out; unfold OwnN at this; rwa [hlj] at this)
          have HLj := hid hlj
          clear hx hbl had2 e1 hlj
          go_wp2_with (at_builtin; refine wpList_append_lies _ rfl _ _ 108 rfl w.heap.size 3 i0 (.int .i64 0) 1 8 Tryz.underlying108 hi hz0 hz1 hz2 rfl (by decide) _ (j + 2) _ rfl (World.ownsRow.alloc (World.ownsRow.alloc HOl.out _) _) ⟨wx.heap.size + 1, 0, none⟩ 1 1 [.int .i64 x.1] rfl rfl ?c1 ?c2 (by decide) ?c3 ?c4 ?c5 (wx.heap.size + 2) ?c6 ?_)
          case c1 =>
            have := cell_one_new (wx.alloc (.cells #[.int .i64 x.1, .int .u32 (x.2 : Int)] 91)) (.int .i64 x.1) 3
            rw [World.size_alloc] at this
            exact this
          case c2 => intro u hu; simp at hu; subst hu; rfl
          case c3 => have := HMr.out; have := HRl.out; unfold maxLen; omega
          case c4 => have := HMr.out; have := HRl.out; omega
          case c5 => have := HB4.out.size; simp; omega
          case c6 => simp
          intro g' cap' w3 hown' hgrow hgv _
          have HO4 := hid (show OwnN w3 w.heap.size (.slice (some ⟨g', 0, none⟩) (j + 2 + 1) cap') (0 :: 1 :: (R.take (j + 1)).map (·.1)) from by
            have e : (0 :: 1 :: (R.take (j + 1)).map (·.1) : List Int).length = j + 2 + 1 := by
              simp only [List.length_cons, List.length_map, List.length_take]
              have := HMr.out
              omega
            unfold OwnN
            rw [e, takeR_next HX.out]
            simpa [List.map_take] using hown')
          have HG2 := hid (show g' ≠ g from by
            rcases hgv with h | h
            · exact HNb.out g' h
            · have := HGl.out; omega)
          have HR3 := hid (show Rf w3 w3.heap.size (some ⟨g, 0, none⟩) m cap R from by
            have h1 := (HRx.out.on ((Below.refl wx.heap.size wx).alloc (Nat.le_refl _) (.cells #[.int .i64 x.1, .int .u32 (x.2 : Int)] 91)))
            have h2 := h1.on ((Below.refl _ _).alloc (Nat.le_refl _) (.cells #[.int .i64 x.1] 3))
            refine h2.same hgrow.size (fun ad ha _ => ?_)
            cases ha
            refine hgrow.block g (by have := HGl.out; simp; omega) (fun e => ?_)
            exact HNb.out g e.symm rfl)
          have HB5 := hid (show Below w.heap.size w w3 from ((HB4.out.alloc HB4.out.size (.cells #[.int .i64 x.1, .int .u32 (x.2 : Int)] 91)).alloc (by have := HB4.out.size; simp; omega) (.cells #[.int .i64 x.1] 3)).grown hgrow (by have := HB4.out.size; simp; omega) (fun k hk => (World.ownsRow.lt HOw3.out k hk).1))
          clear hown' hgrow hgv
          go_wp2
          go_roundw
          case rel => exact ⟨j + 1, by omega, by go_num, HO4.out, (fun b hb => by have h1 : g' = b := (by simpa [Value.ownBlock] using hb); rw [← h1]; exact HG2.out), HR3.out, HB5.out⟩
          case measure => simp [intOf]; omega
        · have hnlt : decide (j < m) = false := by simpa using hlt
          have hjR : R.take j = R := List.take_of_length_le (by have := HMr.out; omega)
          have hlR : (0 :: 1 :: R.map (·.1) : List Int).length = m + 2 := by simp only [List.length_cons, List.length_map]; have := HMr.out; omega
          have hown2 := HOw3.out
          rw [hjR] at hown2
          obtain ⟨g9, cap9, rfl, hg9, hown9⟩ := own_someN hown2 hlR (by omega)
          have HO9 := hid hown9
          have HG9 := hid hg9
          have HLR := hid hlR
          clear hjR hlR hown2 hown9 hg9
          go_wp2_with fail
          refine (sortN_any w.heap.size g9 (m + 2) cap9 _ _ HO9.out HLR.out (by have := HMr.out; have := HRl.out; omega)).mono ?_
          rintro e w4 ⟨rfl, hown4, hgr⟩
          have HU := hid (show P.used = (0 :: 1 :: R.map (·.1) : List Int).mergeSort fun x y => decide (x ≤ y) from by unfold PS.used PS.addrs; rw [HRe.out])
          have HO4 := hid (show OwnN w4 w.heap.size (.slice (some ⟨g9, 0, none⟩) (m + 2) cap9) P.used from by rw [HU.out]; exact hown4)
          have HL4 := hid (show P.used.length = m + 2 from by rw [HU.out, List.length_mergeSort, HLR.out])
          have HB6 := hid (HB4.out.grown hgr HB4.out.size (fun k hk => by injection hk with hk; rw [← hk]; exact HG9.out))
          clear hown4 hgr
          go_wp2
          go_ret
          exact ⟨g9, m + 2, cap9, rfl, HO4.out, HL4.out, HB6.out⟩
end Go.Proofs.YtkhdgacjgccnnaaGreatDoor
namespace Go.Proofs.YtkhdgacjgccnnaaGreatDoor
open Go.RowKit

set_option maxRecDepth 100000 in
set_option maxHeartbeats 2000000 in
theorem compactSame_any (A : Option Addr) (n c : Nat) (l : List Int) (w : World) (h : Sn w w.heap.size A n c l) (hd : ∀ k x y, l[k]? = some x → l[k + 1]? = some y → x ≠ y) :
    Calls Tryz.prog 84 #[.slice A n c] w (Quiet w (.slice A n c)) := by
  have HS := hid h
  have HD := hid hd
  have hmx : n ≤ 9223372036854775807 := by have := h.cap; have := h.max; unfold maxLen at this; omega
  clear h hd
  by_cases h2 : n < 2
  · have g2 : decide ((n : Int) < 2) = true := by simp; omega
    clear h2
    go_enter Tryz.func84, Tryz.ntmps84
    go_wp2
    go_ret
    exact ⟨rfl, 0, rfl⟩
  · have g2 : decide ((n : Int) < 2) = false := by simp; omega
    have HN := hid (show 2 ≤ n by omega)
    clear h2
    go_enter Tryz.func84, Tryz.ntmps84
    go_wp2
    go_loopw [3] (fun i wr => ∃ k q : Nat, 1 ≤ k ∧ k ≤ n ∧ i = .int .i64 (k : Int) ∧ wr = w.drewN q) (fun i _ => n - (intOf i).toNat)
    case atStart => exact ⟨1, 0, Nat.le_refl _, by have := HN.out; omega, rfl, rfl⟩
    case round =>
      obtain ⟨k, q, h1, hk, rfl, rfl⟩ := hrel
      by_cases hlt : k < n
      · obtain ⟨ad, y, rfl, _, hy, cy⟩ := HS.out.get hlt
        obtain ⟨ad2, x, had2, _, hx, cx⟩ := HS.out.get (k := k - 1) (by omega)
        obtain rfl : ad = ad2 := by injection had2
        have hne : x ≠ y := HD.out (k - 1) x y hx (by rw [show k - 1 + 1 = k by omega]; exact hy)
        obtain ⟨j, hj⟩ : ∃ j, k - 1 = j := ⟨_, rfl⟩
        rw [hj] at cx
        have hb : (y == x) = false := by rw [beq_eq_false_iff_ne]; exact fun e => hne e.symm
        have hw : IntKind.i64.wrap ((k : Int) - 1) = (j : Int) := by rw [IntWalk.i64_in _ (by omega)]; omega
        have hj1 : (k : Int) < n := by omega
        have hj2 : (j : Int) < n := by omega
        clear hx hy hne had2 hk hj
        go_wp2_with fail
        go_quiet (fail)
        go_wp2
        go_roundw
        case rel => exact ⟨k + 1, _, by omega, by omega, by go_num, rfl⟩
        case measure => simp [intOf]; omega
      · have hkn : decide (k < n) = false := by simpa using hlt
        go_wp2
        go_ret
        exact ⟨rfl, _, rfl⟩
theorem add0 (g q : Nat) : (⟨g, 0, none⟩ : Addr).add q = ⟨g, q, none⟩ := by unfold Addr.add; split <;> simp_all
theorem sn_on {w w' : World} {A : Option Addr} {n c : Nat} {l : List Int} (h : Sn w w.heap.size A n c l) (hb : Below w.heap.size w w') : Sn w' w'.heap.size A n c l := (h.below hb).more hb.size
/-- all in the first half, none twice -/
def PS.Sound (P : PS) (H : Nat) : Prop := (∀ x, x ∈ P.addrs → x < (H : Int)) ∧ P.addrs.Nodup
theorem used_perm (P : PS) : P.used.Perm P.addrs := List.mergeSort_perm _ _
theorem used_dist {P : PS} (h : P.addrs.Nodup) : ∀ (k : Nat) (x y : Int), P.used[k]? = some x → P.used[k + 1]? = some y → x ≠ y := by
  intro k x y hx hy e
  subst e
  have hn : P.used.Nodup := (used_perm P).nodup_iff.2 h
  have h1 := (List.getElem?_eq_some_iff.1 hx).1
  have := (List.getElem?_inj h1 hn).1 (hx.trans hy.symm)
  omega
set_option maxRecDepth 100000 in
set_option maxHeartbeats 2000000 in
theorem sound_any (P : PS) (a o H : Nat) (N : Int) (t : TypeId) (A B : List Value) (w : World) (h : HoldsP w a t A P B) (hL : P.Len) (ho : A.length = o) (hs : P.Sound H) :
    Calls Tryz.prog 99 #[.pointer (some ⟨a, o, none⟩), gv N (H : Int)] w fun e w' => e = .returned (.bool true) ∧ Below w.heap.size w w' := by
  have hb0 : Below w.heap.size w (w.alloc (.cells #[.int .i64 N, .int .i64 (H : Int)] 125)) := (Below.refl _ _).alloc (Nat.le_refl _) _
  have HB0 := hid hb0
  have HK0 := hid (Blk.new w 125 #[.int .i64 N, .int .i64 (H : Int)])
  have HU := hid (used_any P a o t A B _ (h.below hb0 h.lt) hL ho)
  have HD := hid (used_dist hs.2)
  have HLt := hid (show ∀ x, x ∈ P.used → x < (H : Int) from fun x hx => hs.1 x ((used_perm P).mem_iff.1 hx))
  have HLe := hid (show 2 ≤ P.used.length ∧ P.used.length ≤ 265 from by
    rw [(used_perm P).length_eq]
    have := refs_le P hL
    simp only [PS.addrs, List.length_cons, List.length_map]
    omega)
  clear h hL ho hs hb0
  go_enter Tryz.func99, Tryz.ntmps99
  go_wp2_with fail
  refine HU.out.mono ?_
  rintro e w1 ⟨g, n, cap, rfl, hown, hlen, hb1⟩
  have HB1 := hid (HB0.out.trans (hb1.mono HB0.out.size))
  have HK1 := hid (HK0.out.below hb1 HK0.out.lt)
  obtain ⟨A', c', hv, hsn⟩ := hown.form
  rw [hlen] at hv hsn
  cases hv
  have HS := hid hsn
  have HLn := hid hlen
  have hn2 : 2 ≤ n ∧ n ≤ 265 := by rw [← hlen]; exact HLe.out
  obtain ⟨j, hj⟩ : ∃ j, n - 1 = j := ⟨_, rfl⟩
  obtain ⟨ad, x, had, _, hx, cx⟩ := hsn.get (k := j) (by omega)
  obtain rfl : (⟨g, 0, none⟩ : Addr) = ad := by injection had
  rw [add0] at cx
  have hxH := HLt.out x (List.mem_of_getElem? hx)
  have gx : decide (x < (H : Int)) = true := by simpa using hxH
  have hw : IntKind.i64.wrap ((n : Int) - 1) = (j : Int) := by rw [IntWalk.i64_in _ (by omega)]; omega
  have hjn : (j : Int) < n := by omega
  have g1 := HK1.out.cell 1
  simp at g1
  have HCp := hid (fun q => compactSame_any (some ⟨g, 0, none⟩) n cap P.used (w1.drewN q) (sn_on hsn (below_drewN (Below.refl _ _) q)) HD.out)
  clear hown hlen hb1 hsn hn2 hj had hx hxH
  go_wp2_with fail
  go_quiet ((go_at_call 84; exact Calls.quiet_of (HCp.out _)))
  go_wp2
  go_ret
  exact ⟨rfl, below_drewN HB1.out _⟩
end Go.Proofs.YtkhdgacjgccnnaaGreatDoor
namespace Go.Proofs.YtkhdgacjgccnnaaGreatDoor
open Go.RowKit

theorem nanC_any (x : Int) (w : World) : Calls Tryz.prog 155 #[.int .i64 x] w fun e w' => e = .returned (.bool false) ∧ w = w' := by
  have hb : (x != x) = false := by simp
  go_enter Tryz.func155, Tryz.ntmps155
  go_wp2
  go_ret
  exact ⟨rfl, rfl⟩
theorem nanS_any (x : Int) (w : World) : Calls Tryz.prog 123 #[.int .i64 x] w fun e w' => e = .returned (.bool false) ∧ w = w' := by
  have hb : (x != x) = false := by simp
  go_enter Tryz.func123, Tryz.ntmps123
  go_wp2
  go_ret
  exact ⟨rfl, rfl⟩
theorem less_any (x y : Int) (w : World) : Calls Tryz.prog 122 #[.int .i64 x, .int .i64 y] w fun e w' => e = .returned (.bool (decide (x < y))) ∧ w = w' := by
  obtain ⟨b, hb⟩ : ∃ b, decide (x < y) = b := ⟨_, rfl⟩
  rw [hb]
  go_enter Tryz.func122, Tryz.ntmps122
  go_wp2_with fail
  refine (nanC_any x _).mono ?_
  rintro e w1 ⟨rfl, rfl⟩
  go_wp2
  go_ret
  exact ⟨rfl, rfl⟩
/-- rising -/
def Rises (l : List Int) : Prop := ∀ (i j : Nat) (x y : Int), i < j → l[i]? = some x → l[j]? = some y → x ≤ y
theorem rises_used (P : PS) : Rises P.used := by
  intro i j x y hij hx hy
  have hp : P.used.Pairwise (fun a b => decide (a ≤ b) = true) := List.pairwise_mergeSort (fun a b c h1 h2 => by simp at h1 h2 ⊢; omega) (fun a b => by simp; omega) _
  obtain ⟨h1, rfl⟩ := List.getElem?_eq_some_iff.1 hx
  obtain ⟨h2, rfl⟩ := List.getElem?_eq_some_iff.1 hy
  have := List.pairwise_iff_getElem.1 hp i j h1 h2 hij
  simpa using this
set_option maxRecDepth 100000 in
set_option maxHeartbeats 4000000 in
theorem search_any (A : Option Addr) (n c : Nat) (l : List Int) (t : Int) (w : World) (h : Sn w w.heap.size A n c l) (hr : Rises l) (hn : n ≤ 100000) :
    Calls Tryz.prog 87 #[.slice A n c, .int .i64 t] w fun e w' => ∃ p : Int, e = .returned (.tuple #[.int .i64 p, .bool (l.contains t)]) ∧ w = w' := by
  have HS := hid h
  have HR := hid hr
  have hn1 : (n : Int) ≤ 100000 := by omega
  have HL := hid h.len
  clear h hr
  go_enter Tryz.func87, Tryz.ntmps87
  go_wp2
  go_loopw [7, 8] (fun iv jv wr => ∃ i j : Nat, iv = .int .i64 (i : Int) ∧ jv = .int .i64 (j : Int) ∧ i ≤ j ∧ j ≤ n ∧ (∀ k x, l[k]? = some x → k < i → x < t) ∧ (∀ k x, l[k]? = some x → j ≤ k → t ≤ x) ∧ wr = w) (fun iv jv _ => (intOf jv).toNat - (intOf iv).toNat)
  case atStart => exact ⟨0, n, rfl, rfl, Nat.zero_le _, Nat.le_refl _, fun k x _ h => absurd h (by omega), fun k x hx h => absurd (List.getElem?_eq_some_iff.1 hx).1 (by rw [HL.out]; omega), rfl⟩
  case round =>
    obtain ⟨i, j, rfl, rfl, hij, hjn, hlo, hhi, rfl⟩ := hrel
    have HLo := hid hlo
    have HHi := hid hhi
    clear hlo hhi
    have hj1 : (j : Int) ≤ n := by omega
    by_cases hlt : i < j
    · obtain ⟨m, hm⟩ : ∃ m, (i + j) / 2 = m := ⟨_, rfl⟩
      have hmi : ((i : Int) + (j : Int)) / 2 = (m : Int) := by omega
      have HMb := hid (show i ≤ m ∧ m < j from by omega)
      obtain ⟨ad, x, rfl, _, hx, cx⟩ := HS.out.get (k := m) (by omega)
      have HX := hid hx
      have hmn : (m : Int) < n := by omega
      have hij2 : (i : Int) < (j : Int) := by omega
      obtain ⟨b, hb⟩ : ∃ b, decide (x < t) = b := ⟨_, rfl⟩
      have HBx := hid hb
      clear hx hm hb
      go_wp2_with fail
      refine (less_any x t _).mono ?_
      rw [HBx.out]
      rintro e w1 ⟨rfl, rfl⟩
      cases b
      · have HN := hid (show ∀ k y, l[k]? = some y → m ≤ k → t ≤ y from fun k y hy hk => by
          have h1 : t ≤ x := by have := HBx.out; simpa using this
          rcases Nat.lt_or_eq_of_le hk with h2 | rfl
          · exact Int.le_trans h1 (HR.out m k x y h2 HX.out hy)
          · rw [HX.out] at hy; injection hy with hy; rw [← hy]; exact h1)
        go_wp2
        go_roundw
        case rel => exact ⟨i, m, rfl, rfl, HMb.out.1, by have := HMb.out; omega, HLo.out, HN.out, trivial⟩
        case measure => have := HMb.out; simp [intOf]; omega
      · have HN := hid (show ∀ k y, l[k]? = some y → k < m + 1 → y < t from fun k y hy hk => by
          have h1 : x < t := by have := HBx.out; simpa using this
          rcases Nat.lt_or_eq_of_le (Nat.lt_succ_iff.1 hk) with h2 | rfl
          · exact Int.lt_of_le_of_lt (HR.out k m y x h2 hy HX.out) h1
          · rw [HX.out] at hy; injection hy with hy; rw [← hy]; exact h1)
        go_wp2
        go_roundw
        case rel => exact ⟨m + 1, j, by go_num, rfl, by have := HMb.out; omega, hjn, HN.out, HHi.out, trivial⟩
        case measure => have := HMb.out; simp [intOf]; omega
    · obtain rfl : i = j := by omega
      have hii : decide (i < i) = false := by simp
      by_cases hin : i < n
      · obtain ⟨ad, x, rfl, _, hx, cx⟩ := HS.out.get (k := i) hin
        have hin2 : (i : Int) < n := by omega
        by_cases hxt : x = t
        · have HE := hid (show l.contains t = true from by simp only [List.contains_iff_mem]; exact hxt ▸ List.mem_of_getElem? hx)
          have g1 : (x == t) = true := by rw [beq_iff_eq]; exact hxt
          clear hx hxt hlt hij
          go_wp2
          go_ret2
          exact ⟨_, by rw [HE.out]; rfl, rfl⟩
        · have HE := hid (show l.contains t = false from by
            rw [Bool.eq_false_iff]
            intro hc
            obtain ⟨k, hk⟩ := List.mem_iff_getElem?.1 (List.contains_iff_mem.1 hc)
            rcases Nat.lt_trichotomy k i with h1 | rfl | h1
            · have := HLo.out k t hk h1; omega
            · rw [hx] at hk; injection hk with hk; exact hxt hk
            · have h2 := HHi.out i x hx (Nat.le_refl _)
              have h3 := HR.out i k x t h1 hx hk
              exact hxt (by omega))
          have g1 : (x == t) = false := by rw [beq_eq_false_iff_ne]; exact hxt
          clear hx hxt hlt hij
          go_wp2_with (go_at_call 123; refine (nanS_any _ _).mono ?_; rintro e w1 ⟨rfl, rfl⟩)
          go_ret2
          exact ⟨_, by rw [HE.out]; rfl, rfl⟩
      · have HE := hid (show l.contains t = false from by
          rw [Bool.eq_false_iff]
          intro hc
          obtain ⟨k, hk⟩ := List.mem_iff_getElem?.1 (List.contains_iff_mem.1 hc)
          have h1 := (List.getElem?_eq_some_iff.1 hk).1
          rw [HL.out] at h1
          have := HLo.out k t hk (by omega)
          omega)
        have hin2 : decide (i < n) = false := by simpa using hin
        clear hlt hij
        go_wp2
        go_ret2
        exact ⟨_, by rw [HE.out]; rfl, rfl⟩
end Go.Proofs.YtkhdgacjgccnnaaGreatDoor
namespace Go.Proofs.YtkhdgacjgccnnaaGreatDoor
open Go.RowKit

theorem used_contains (P : PS) (x : Int) : P.used.contains x = P.addrs.contains x := by
  rw [Bool.eq_iff_iff, List.contains_iff_mem, List.contains_iff_mem]
  exact (used_perm P).mem_iff
def freeTo (P : PS) (i : Nat) : List Nat := (List.range i).filter fun k => !P.addrs.contains (k : Int)
theorem freeTo_yes {P : PS} {i : Nat} (h : P.addrs.contains (i : Int) = false) : freeTo P (i + 1) = freeTo P i ++ [i] := by
  unfold freeTo; rw [List.range_succ, List.filter_append]; simp only [List.filter_cons, h, List.filter_nil]; simp
theorem freeTo_no {P : PS} {i : Nat} (h : P.addrs.contains (i : Int) = true) : freeTo P (i + 1) = freeTo P i := by
  unfold freeTo; rw [List.range_succ, List.filter_append]; simp only [List.filter_cons, h, List.filter_nil]; simp
def natsI (l : List Nat) : List Int := l.map fun k : Nat => (k : Int)
theorem freeTo_le (P : PS) (i : Nat) : (freeTo P i).length ≤ i := by
  have := List.length_filter_le (fun k : Nat => !P.addrs.contains (k : Int)) (List.range i)
  rwa [List.length_range] at this
theorem Tryz.fieldHalf (N H : Int) (W : World) : (Instr.field 125 (gv N H) 1).run Tryz.prog W = .ok (.int .i64 H) W := by kernel_rfl
section
variable {Real : World → Nat → DSt → (Nat → Prop) → Prop} {PR : World → Nat → Nat → Nat → Nat → (Nat → Prop) → Prop}
set_option maxRecDepth 100000 in
set_option maxHeartbeats 4000000 in
theorem free_any (O : PairOk Real PR) (g d p mm n m : Nat) (P : PS) (ch : Chg) (D : DataW Unit) (C G : Nat → Prop) (w : World) (h : Sto w g d p mm P ch D C) (hp : PR w p d n m G) :
    Calls Tryz.prog 47 #[.pointer (some ⟨g, 0, none⟩)] w fun e w' => ∃ v, e = .returned v ∧ OwnN w' w.heap.size v (natsI (freeOf P (halN n))) ∧ Below w.heap.size w w' := by
  obtain ⟨i0, hi, hz0, hz1, hz2⟩ := info_parts Tryz.info3
  have HS := hid h
  have HP := hid hp
  have HO := hid O
  have HKp := hid (fun w' (hb : Below w.heap.size w w') => O.kept hp (Kept.of_below hb (O.lt hp)))
  obtain ⟨H, hH⟩ : ∃ H, halN n = H := ⟨_, rfl⟩
  have HH := hid hH
  have HH1 := hid (show H ≤ 512 from by rw [← hH]; unfold halN; omega)
  have hH2 : (H : Int) ≤ 512 := by rw [← hH]; unfold halN; omega
  clear h hp O hH
  go_enter Tryz.func47, Tryz.ntmps47
  go_wp2_with fail
  refine (used_any P g 2 _ _ _ _ HS.out.box HS.out.len rfl).mono ?_
  rintro e w1 ⟨gu, nu, cu, rfl, hown, hlen, hb1⟩
  have HB1 := hid hb1
  obtain ⟨A', c', hv, hsn⟩ := hown.form
  rw [hlen] at hv hsn
  cases hv
  have HU := hid hsn
  have HS1 := hid (HS.out.below hb1)
  have HP1 := hid (HKp.out _ hb1)
  have hpr := (HS.out.below hb1).prs
  have HNu := hid (show nu ≤ 265 from by
    rw [← hlen, (used_perm P).length_eq]
    have := refs_le P HS.out.len
    simp only [PS.addrs, List.length_cons, List.length_map]
    omega)
  have HGu := hid (show gu < w1.heap.size from (World.ownsRow.lt hown gu rfl).2)
  clear hown hlen hb1 hsn
  go_wp2_with fail
  refine (HO.out.geo p d n m G _ HP1.out).mono ?_
  rw [HH.out]
  rintro e w2 ⟨rfl, hb2⟩
  have HB2 := hid (HB1.out.trans (hb2.mono HB1.out.size))
  have HU2 := hid (sn_on HU.out hb2)
  have HGu2 := hid (Nat.lt_of_lt_of_le HGu.out hb2.size)
  clear hb2 hpr
  have hfd := fun W => Tryz.fieldHalf (n : Int) (H : Int) W
  go_wp2
  clear hfd
  go_loopw [18, 3] (fun iv v wx => ∃ i : Nat, i ≤ H ∧ iv = .int .i64 (i : Int) ∧ OwnN wx w.heap.size v (natsI (freeTo P i)) ∧ (∀ b, v.ownBlock = some b → b ≠ gu) ∧ (Sn wx wx.heap.size (some ⟨gu, 0, none⟩) nu cu P.used ∧ gu < wx.heap.size) ∧ Below w.heap.size w wx) (fun iv _ _ => H - (intOf iv).toNat)
  case atStart => exact ⟨0, Nat.zero_le _, rfl, World.ownsRow_nil _ _ _ _, (fun _ h => (by cases h)), ⟨HU2.out, HGu2.out⟩, HB2.out⟩
  case round =>
    rename World => wx
    obtain ⟨i, hi1, rfl, hown, hnb, ⟨hux, hgx⟩, hb⟩ := hrel
    have HOw := hid hown
    have HNb := hid hnb
    have HUx := hid hux
    have HGx := hid hgx
    have HBx := hid hb
    clear hown hnb hux hgx hb
    by_cases hlt : i < H
    · have hiH : (i : Int) < H := by omega
      go_wp2_with fail
      refine (search_any _ nu cu P.used (i : Int) _ HUx.out (rises_used P) (by have := HNu.out; omega)).mono ?_
      rw [used_contains]
      obtain ⟨b, hb⟩ : ∃ b, P.addrs.contains (i : Int) = b := ⟨_, rfl⟩
      have HBc := hid hb
      rw [hb]
      rintro e w3 ⟨pp, rfl, rfl⟩
      clear hb
      cases b
      · obtain ⟨L, hL⟩ : ∃ L, (natsI (freeTo P i)).length = L := ⟨_, rfl⟩
        have HLl := hid (show (natsI (freeTo P i)).length = L ∧ L ≤ 512 from ⟨hL, by rw [← hL]; have := freeTo_le P i; have := HH1.out; simp only [natsI, List.length_map]; omega⟩)
        have HOl := hid (show wx.ownsRow w.heap.size 3 1 u3 L ((natsI (freeTo P i)).map (Value.int .i64)) from by
          have := HOw.out; unfold OwnN at this; rwa [hL] at this)
        clear hL
        go_wp2_with (at_builtin; refine wpList_append_lies _ rfl _ _ 108 rfl w.heap.size 3 i0 (.int .i64 0) 1 8 Tryz.underlying108 hi hz0 hz1 hz2 rfl (by decide) _ L _ rfl (World.ownsRow.alloc HOl.out _) ⟨wx.heap.size, 0, none⟩ 1 1 [.int .i64 (i : Int)] rfl rfl (cell_one_new _ _ _) ?c2 (by decide) ?c3 ?c4 ?c5 (wx.heap.size + 1) ?c6 ?_)
        case c2 => intro u hu; simp at hu; subst hu; rfl
        case c3 => have := HLl.out.2; unfold maxLen; omega
        case c4 => have := HLl.out.2; omega
        case c5 => have := HBx.out.size; simp; omega
        case c6 => simp
        intro g' cap' w3 hown' hgrow hgv _
        have HO4 := hid (show OwnN w3 w.heap.size (.slice (some ⟨g', 0, none⟩) (L + 1) cap') (natsI (freeTo P (i + 1))) from by
          rw [freeTo_yes HBc.out]
          unfold natsI
          rw [List.map_append]
          rw [← HLl.out.1] at hown' ⊢
          exact ownN_more hown' HOw.out)
        have HG2 := hid (show g' ≠ gu from by
          rcases hgv with h | h
          · exact HNb.out g' h
          · have := HGx.out; omega)
        have HU3 := hid (show Sn w3 w3.heap.size (some ⟨gu, 0, none⟩) nu cu P.used from by
          have h1 := sn_on HUx.out ((Below.refl wx.heap.size wx).alloc (Nat.le_refl _) (.cells #[.int .i64 (i : Int)] 3))
          refine ⟨h1.len, h1.cap, h1.max, h1.nil, fun ad ha h0 => ?_⟩
          obtain ⟨h2, h3⟩ := h1.at_ ad ha h0
          refine ⟨Nat.lt_of_lt_of_le h2 hgrow.size, fun j x hx => ?_⟩
          refine hgrow.cell (h3 j x hx) (fun e => ?_)
          rw [add_block] at e
          cases ha
          exact HNb.out gu e.symm rfl)
        have HG3 := hid (show gu < w3.heap.size from by have h1 := hgrow.size; have h2 := HGx.out; simp at h1; omega)
        have HB5 := hid (show Below w.heap.size w w3 from (HBx.out.alloc HBx.out.size (.cells #[.int .i64 (i : Int)] 3)).grown hgrow (by have := HBx.out.size; simp; omega) (fun k hk => (World.ownsRow.lt HOw.out k hk).1))
        clear hown' hgrow hgv
        go_wp2
        go_roundw
        case rel => exact ⟨i + 1, by omega, by go_num, HO4.out, (fun b hb => by have h1 : g' = b := (by simpa [Value.ownBlock] using hb); rw [← h1]; exact HG2.out), ⟨HU3.out, HG3.out⟩, HB5.out⟩
        case measure => simp [intOf]; omega
      · have HN := hid (freeTo_no HBc.out)
        go_wp2
        go_roundw
        case rel => exact ⟨i + 1, by omega, by go_num, by rw [HN.out]; exact HOw.out, HNb.out, ⟨HUx.out, HGx.out⟩, HBx.out⟩
        case measure => simp [intOf]; omega
    · have hnlt : decide (i < H) = false := by simpa using hlt
      have HF := hid (show OwnN wx w.heap.size u3 (natsI (freeOf P (halN n))) from by
        have := HOw.out
        rw [show i = H by omega, ← HH.out] at this
        exact this)
      go_wp2
      go_ret
      exact ⟨_, rfl, HF.out, HBx.out⟩
end
end Go.Proofs.YtkhdgacjgccnnaaGreatDoor
