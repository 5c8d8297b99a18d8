/- Put together out of 2 texts. slices.Insert at records: at the end; with room; without. -/
import Derived.Maps.AppendAt
import Derived.Lib.Overlaps
import Derived.Lib.AppendZerosOnto
import Derived.Lib.JoinLaws
import Derived.Test.YtajcfhhnmjcmjaaGreatDoorGXbd
import Derived.RegionTactic
namespace Go.Proofs.YtajcfhhnmjcmjaaGreatDoor
open Go.RowKit

/-- what an insert leaves -/
def InsO (w : World) (B : Nat) (v : Value) (m : List Rec) (e : Ending) (w' : World) : Prop := ∃ v', e = .returned v' ∧ KRow w' B v' m ∧ w.grownBy w' v.ownBlock ∧ ∀ k, v'.ownBlock = some k → v.ownBlock = some k ∨ w.heap.size ≤ k
abbrev ArgR (w : World) (vb : Nat) (r : Rec) : Prop := Blk w vb 52 #[.string r.1, .string r.2]
theorem argR_cells {w : World} {vb : Nat} {r : Rec} (h : ArgR w vb r) : ∀ j u, (recC [r])[j]? = some u → w.cell? ((⟨vb, 0, none⟩ : Addr).add j) = some u := fun j u hu => by
  rw [add0, Blk.cell h]
  simp only [List.getElem?_toArray]
  exact hu
set_option maxRecDepth 100000 in
set_option maxHeartbeats 4000000 in
theorem insEnd_any (v : Value) (B vb : Nat) (l : List Rec) (r : Rec) (w : World) (h : KRow w B v l) (hn : l.length ≤ 100000) (hB : B ≤ w.heap.size) (hb : ArgR w vb r) :
    Calls Tryz.prog 20 #[v, .int .i64 (l.length : Int), .slice (some ⟨vb, 0, none⟩) 1 1] w (InsO w B v (l ++ [r])) := by
  obtain ⟨i0, hi, hz0, hz1, hz2⟩ := info_parts Tryz.infoRec
  obtain ⟨A, n, c, rfl, hln, hnc, hcm, hnil, hat⟩ := h.form
  have HO := hid (show w.ownsRow B 52 2 (.slice A n c) n (recC l) from by
    have h' := h
    unfold KRow at h'
    rw [hln] at h'
    exact h')
  have HC := hid (argR_cells hb)
  have HF := hid (show ∀ v' w', w'.ownsRow B 52 2 v' (n + 1) (recC l ++ recC [r]) → w.grownBy w' (Value.slice A n c).ownBlock → (v'.ownBlock = (Value.slice A n c).ownBlock ∨ v'.ownBlock = some w.heap.size) → InsO w B (.slice A n c) (l ++ [r]) (.returned v') w' from fun v' w' h1 h2 h4 => ⟨v', rfl, by
    show World.ownsRow _ _ _ _ _ _ _
    rw [List.length_append, recC_app, hln]; exact h1, h2, fun k hk => h4.elim (fun h => .inl (h ▸ hk)) (fun h => by rw [h] at hk; injection hk with hk; exact .inr (by omega))⟩)
  rw [hln]
  have hcn : n ≤ 100000 := by omega
  have hB' := hid hB
  clear h hn hnil hat hB hb
  rcases A with _ | ad
  · go_enter Tryz.func20, Tryz.ntmps20
    go_wp2_with (at_builtin; refine wpList_append_own_at _ rfl _ _ 56 rfl B 52 i0 (.agg #[.string ⟨#[]⟩, .string ⟨#[]⟩]) 2 32 Tryz.underlying56 hi hz0 hz1 hz2 rfl (by decide) _ n (recC l) rfl HO.out ⟨vb, 0, none⟩ 1 1 (recC [r]) rfl rfl HC.out (recC_one _) ?c3 ?c4 hB'.out ?_)
    case c3 => unfold maxLen; omega
    case c4 => omega
    intro v' w' h1 h2 _ h4
    have h3 := HF.out v' w' h1 h2 h4
    clear h1 h2 h4
    go_wp2
    go_ret
    exact h3
  · go_enter Tryz.func20, Tryz.ntmps20
    go_wp2_with (at_builtin; refine wpList_append_own_at _ rfl _ _ 56 rfl B 52 i0 (.agg #[.string ⟨#[]⟩, .string ⟨#[]⟩]) 2 32 Tryz.underlying56 hi hz0 hz1 hz2 rfl (by decide) _ n (recC l) rfl HO.out ⟨vb, 0, none⟩ 1 1 (recC [r]) rfl rfl HC.out (recC_one _) (by unfold maxLen; omega) (by omega) hB'.out ?_)
    all_goals
      intro v' w' h1 h2 _ h4
      have h3 := HF.out v' w' h1 h2 h4
      clear h1 h2
      go_wp2
      go_ret
      exact h3
/-- both copies of an insert in place -/
theorem shift_row {c0 L r : List Value} {a N : Nat} (hL : c0.take N = L) (hN : L.length = N) (ha : a ≤ N) (hc : N + r.length ≤ c0.length) :
    (((c0.take (a + r.length) ++ L.drop a ++ c0.drop (a + r.length + (L.drop a).length)).take a ++ r ++ (c0.take (a + r.length) ++ L.drop a ++ c0.drop (a + r.length + (L.drop a).length)).drop (a + r.length)).take (N + r.length) = L.take a ++ r ++ L.drop a) ∧
    (c0.take (a + r.length) ++ L.drop a ++ c0.drop (a + r.length + (L.drop a).length)).length = c0.length ∧
    ((c0.take (a + r.length) ++ L.drop a ++ c0.drop (a + r.length + (L.drop a).length)).take a ++ r ++ (c0.take (a + r.length) ++ L.drop a ++ c0.drop (a + r.length + (L.drop a).length)).drop (a + r.length)).length = c0.length := by
  have hd : (L.drop a).length = N - a := by rw [List.length_drop, hN]
  have ht : (c0.take (a + r.length)).length = a + r.length := by rw [List.length_take]; omega
  have e1 : (c0.take (a + r.length) ++ L.drop a ++ c0.drop (a + r.length + (L.drop a).length)).take a = L.take a := by
    rw [List.append_assoc, List.take_append_of_le_length (by omega), List.take_take, Nat.min_eq_left (by omega), ← hL, List.take_take, Nat.min_eq_left ha]
  have e2 : (c0.take (a + r.length) ++ L.drop a ++ c0.drop (a + r.length + (L.drop a).length)).drop (a + r.length) = L.drop a ++ c0.drop (a + r.length + (L.drop a).length) := by
    rw [List.append_assoc, List.drop_left' ht]
  have ha' : (L.take a).length = a := by rw [List.length_take]; omega
  refine ⟨?_, ?_, ?_⟩
  · rw [e1, e2, ← List.append_assoc, List.take_left']
    rw [List.length_append, List.length_append, ha', hd]; omega
  · rw [List.length_append, List.length_append, ht, hd, List.length_drop]; omega
  · rw [e1, e2, List.length_append, List.length_append, ha', List.length_append, hd, List.length_drop]; omega
set_option maxRecDepth 100000 in
set_option maxHeartbeats 4000000 in
theorem insShift_any (B g n c vb i : Nat) (l : List Rec) (r : Rec) (w : World) (h : KRow w B (.slice (some ⟨g, 0, none⟩) n c) l) (hl : l.length = n) (hi : i < n) (hroom : n + 1 ≤ c) (hb : ArgR w vb r) (hne : vb ≠ g) :
    Calls Tryz.prog 20 #[.slice (some ⟨g, 0, none⟩) n c, .int .i64 (i : Int), .slice (some ⟨vb, 0, none⟩) 1 1] w (InsO w B (.slice (some ⟨g, 0, none⟩) n c) (l.take i ++ r :: l.drop i)) := by
  obtain ⟨i0, hi0, hz0, hz1, hz2⟩ := info_parts Tryz.infoRec
  obtain ⟨cur, hg, hc1, hc2, hcs, hct, hBg⟩ : ∃ cur : Array Value, w.heap[g]? = some (.cells cur 52 (0, 0)) ∧ n ≤ c ∧ c ≤ maxLen ∧ cur.size = c * 2 ∧ cur.toList.take (n * 2) = recC l ∧ B ≤ g := by
    rcases h.2 with ⟨h', _⟩ | ⟨g', cap', cur, h', hb, hg, h1, h2, h3, h4⟩
    · cases h'
    · cases h'
      exact ⟨cur, hg, h1, h2, h3, by rw [← h4, hl], hb⟩
  have hrl : (recC [r]).length = 2 := rfl
  have hLl : (recC l).length = n * 2 := by rw [recC_len, hl]
  obtain ⟨s1, s2, s3⟩ := shift_row (r := recC [r]) (a := i * 2) hct hLl (by omega) (by rw [hrl, Array.length_toList]; omega)
  rw [hrl, ← recC_drop] at s1 s2 s3
  obtain ⟨R1, hR1⟩ : ∃ R, cur.toList.take (i * 2 + 2) ++ recC (l.drop i) ++ cur.toList.drop (i * 2 + 2 + (recC (l.drop i)).length) = R := ⟨_, rfl⟩
  rw [hR1] at s1 s2 s3
  obtain ⟨R2, hR2⟩ : ∃ R, R1.take (i * 2) ++ recC [r] ++ R1.drop (i * 2 + 2) = R := ⟨_, rfl⟩
  rw [hR2] at s1 s3
  replace s2 : R1.length = cur.size := s2.trans Array.length_toList
  replace s3 : R2.length = cur.size := s3.trans Array.length_toList
  have e22 : i * 2 + 2 = (i + 1) * 2 := by omega
  have hdl : (recC (l.drop i)).length = (n - i) * 2 := by rw [recC_len, List.length_drop, hl]
  have hov : ∀ lb cb, (callFunc 35 #[.slice (some ⟨vb, 0, none⟩) 1 1, .slice (some ⟨g, (i + 1) * 2, none⟩) lb cb]).run Tryz.prog w = .ok (.value (.bool false)) w := fun lb cb => by
    rw [run_callFunc_extern Tryz.func35 (by kernel_rfl) (by kernel_rfl) (by kernel_rfl) (e := Extern.SlicesOverlaps.overlaps #[56, 56] #[4]) (by kernel_rfl),
      Lib.run_overlaps_apart w 56 4 52 Tryz.underlying56 2 (fun w => by simp [sizeOf, typeInfo, hi0, hz1]) ⟨vb, 0, none⟩ ⟨g, (i + 1) * 2, none⟩ 1 1 lb cb hne 52 52 2 (c * 2) (by
        have hb' : w.heap[vb]? = _ := hb
        simp [World.shape?, hb']) (by simp [World.shape?, hg, hcs]) (by omega) (by
        have hb' : w.heap[vb]? = _ := hb
        simp [World.frozen?, hb']) (by
        have hb' : w.heap[vb]? = _ := hb
        simp [World.frozen?, hb'])]
    rfl
  have hcell : ∀ j u, (recC (l.drop i))[j]? = some u → w.drew.cell? ((⟨g, i * 2, none⟩ : Addr).add j) = some u := fun j u hu => by
    rw [Addr.add_lit]
    have hj := (List.getElem?_eq_some_iff.1 hu).1
    rw [recC_drop, List.getElem?_drop, ← hct, List.getElem?_take, if_pos (by omega)] at hu
    show w.cell? _ = _
    simp only [World.cell?, hg]
    simpa using hu
  have HCell := hid hcell
  have hmin1 : Nat.min (n + 1 - i) (n - i) = n - i := by simp only [Nat.min_def]; split <;> omega
  have hmin2 : Nat.min 1 (n + 1 - i) = 1 := by simp only [Nat.min_def]; split <;> omega
  have HG := hid (show w.drew.heap[g]? = some (.cells cur 52 (0, 0)) from hg)
  have HFit1 := hid (show (i + 1) * 2 + (recC (l.drop i)).length ≤ cur.size from by omega)
  have HDl := hid hdl
  have HC1 := hid (show ∀ w1, w1.heap[g]? = some (.cells (cur.toList.take ((i + 1) * 2) ++ recC (l.drop i) ++ cur.toList.drop ((i + 1) * 2 + (recC (l.drop i)).length)).toArray 52 (0, 0)) → w.drew.grownBy w1 (some g) → w1.heap[g]? = some (.cells R1.toArray 52 (0, 0)) ∧ w.grownBy w1 (some g) ∧ (∀ j u, (recC [r])[j]? = some u → w1.cell? ((⟨vb, 0, none⟩ : Addr).add j) = some u) from fun w1 h1 h2 => by
    rw [← e22, hR1] at h1
    refine ⟨h1, only_of_drew h2, fun j u hu => ?_⟩
    rw [← argR_cells hb j u hu]
    refine World.cell?_of_block ?_
    rw [add0]
    exact h2.block vb hb.lt (by simpa using hne))
  have HFit2 := hid (show i * 2 + (recC [r]).length ≤ R1.toArray.size from by rw [hrl, List.size_toArray, s2, hcs]; omega)
  have HF := hid (show ∀ w1 W, w.grownBy w1 (some g) → W.heap[g]? = some (.cells (R1.toArray.toList.take (i * 2) ++ recC [r] ++ R1.toArray.toList.drop (i * 2 + (recC [r]).length)).toArray 52 (0, 0)) → w1.grownBy W (some g) → InsO w B (.slice (some ⟨g, 0, none⟩) n c) (l.take i ++ r :: l.drop i) (.returned (.slice (some ⟨g, 0, none⟩) (n + 1) c)) W from fun w1 W h1 hW h2 => by
    refine ⟨_, rfl, ⟨?_, .inr ⟨g, c, R2.toArray, ?_, hBg, ?_, ?_, hc2, by rw [List.size_toArray, s3, hcs], ?_⟩⟩, only_trans h1 h2, fun k hk => .inl hk⟩
    · rw [recC_len]
    · have e : (l.take i ++ r :: l.drop i).length = n + 1 := by simp; omega
      rw [e]
    · rw [hW, hrl, ← hR2]
    · have e : (l.take i ++ r :: l.drop i).length = n + 1 := by simp; omega
      omega
    · have e : (l.take i ++ r :: l.drop i).length = n + 1 := by simp; omega
      rw [e, show (n + 1) * 2 = n * 2 + 2 by omega]
      show R2.take _ = _
      rw [s1, ← recC_take, ← recC_app, ← recC_app, List.append_assoc]
      rfl)
  have hz1' : ¬ ((i : Int) = (n : Int)) := by omega
  unfold maxLen at hc2
  have hw1 : IntKind.i64.wrap ((i : Int) + 1) = (i : Int) + 1 := by rw [IntKind.wrap_i64]; omega
  have hin : i ≤ n := by omega
  have htn : ((i : Int) + 1).toNat = i + 1 := by omega
  have hb2 : ¬ (c = i + 1) := by omega
  have hb4 : ¬ (c = i) := by omega
  have hb5 : n + 1 - (i + 1) = n - i := by omega
  have hb1 : (0 : Int) ≤ (i : Int) + 1 := by omega
  have hb3 : (i : Int) + 1 ≤ (n : Int) + 1 := by omega
  have hb6 : (i : Int) ≤ (n : Int) + 1 := by omega
  clear e22 hR1 hR2 s1 s2 s3 hct hcs hg hcell hdl h hb hLl hrl hl
  go_enter Tryz.func20, Tryz.ntmps20
  go_wp2_with (simp only [hov])
  go_region_law (refine step_copy2 rfl _ _ rfl g ((i + 1) * 2) (n - i) (c - (i + 1)) ⟨g, i * 2, none⟩ (n + 1 - i) (c - i) (n - i) (by simp [Act.eval, Act.put]) (by simp [Act.eval, Act.put]) cur 52 HG.out (recC (l.drop i)) hmin1 HDl.out HCell.out HFit1.out (recC_one _) ?_; intro w1 h1 h2)
  have HW1 := hid (HC1.out w1 h1 h2)
  clear h1 h2
  go_wp2_with (refine wpList_copy2 rfl _ _ rfl g (i * 2) (n + 1 - i) (c - i) ⟨vb, 0, none⟩ 1 1 1 rfl rfl R1.toArray 52 HW1.out.1 (recC [r]) hmin2 rfl HW1.out.2.2 HFit2.out (recC_one _) ?_)
  intro w2 h1 h2
  have h3 := HF.out w1 w2 HW1.out.2.1 (by rw [List.append_assoc]; exact h1) h2
  clear h1 h2
  go_wp2
  go_ret
  exact h3
/-- both copies of an insert into a new row -/
theorem grow_row {P Z r D : List Value} {a : Nat} (hP : P.length = a) :
    (P ++ Z).take a ++ (r ++ (P ++ Z).drop (a + r.length)) = P ++ (r ++ Z.drop r.length) ∧
    (P ++ (r ++ Z.drop r.length)).take (a + r.length) ++ (D ++ (P ++ (r ++ Z.drop r.length)).drop (a + r.length + D.length)) = P ++ (r ++ (D ++ (Z.drop r.length).drop D.length)) := by
  refine ⟨?_, ?_⟩
  · rw [List.take_left' hP, ← List.drop_drop, List.drop_left' hP]
  · have e : (P ++ r).length = a + r.length := by rw [List.length_append, hP]
    rw [← List.append_assoc P r, List.take_left' e, ← List.drop_drop (i := D.length) (j := a + r.length), List.drop_left' e, List.append_assoc]
set_option maxRecDepth 100000 in
set_option maxHeartbeats 4000000 in
theorem insGrow_any (B g n c vb i : Nat) (l : List Rec) (r : Rec) (w : World) (h : KRow w B (.slice (some ⟨g, 0, none⟩) n c) l) (hl : l.length = n) (hi : i < n) (hroom : c < n + 1) (hnc : n ≤ c) (hb : ArgR w vb r) (hn : n ≤ 100000) (hB : B ≤ w.heap.size) :
    Calls Tryz.prog 20 #[.slice (some ⟨g, 0, none⟩) n c, .int .i64 (i : Int), .slice (some ⟨vb, 0, none⟩) 1 1] w (InsO w B (.slice (some ⟨g, 0, none⟩) n c) (l.take i ++ r :: l.drop i)) := by
  obtain ⟨i0, hi0, hz0, hz1, hz2⟩ := info_parts Tryz.infoRec
  have hrl : (recC [r]).length = 2 := rfl
  have hLl : (recC l).length = n * 2 := by rw [recC_len, hl]
  have hgl : g < w.heap.size := (h.lt g rfl).2
  have hvl : vb < w.heap.size := hb.lt
  have hcellg : ∀ j u, (recC l)[j]? = some u → w.cell? ⟨g, j, none⟩ = some u := fun j u hu => by
    have h1 := World.ownsRow.cells h (g := g) rfl j u hu
    rwa [add0] at h1
  have hold : (Builtin.firstCells i0.size i (.slice (some ⟨g, 0, none⟩) i c)).run Tryz.prog w.drew = .ok (recC (l.take i)).toArray w.drew := by
    rw [hz1]
    exact run_firstCells_some w.drew 2 i ⟨g, 0, none⟩ i c (recC (l.take i)) (by rw [recC_len, List.length_take]; omega) (fun j v hj => by
      rw [Addr.add_lit, Nat.zero_add]
      rw [recC_take, List.getElem?_take] at hj
      split at hj
      · exact hcellg j v hj
      · cases hj)
  obtain ⟨G, hG⟩ : ∃ G, grownCap w (n + 1) c 52 = G := ⟨_, rfl⟩
  obtain ⟨Z, hZ⟩ : ∃ Z : List Value, (Builtin.zeroCells (Value.agg #[.string ⟨#[]⟩, .string ⟨#[]⟩]).cells (n + 1 - i)).toList ++ (Builtin.zeroCells (Value.agg #[.string ⟨#[]⟩, .string ⟨#[]⟩]).cells (G - (n + 1))).toList = Z := ⟨_, rfl⟩
  have hGn : n + 1 ≤ G := by rw [← hG]; exact grownCap_ge w _ _ _
  have hG63 : G ≤ maxLen := by rw [← hG]; exact grownCap_le_maxLen w (n + 1) c 52 (by unfold maxLen; omega)
  have hzc : ∀ q, (Builtin.zeroCells (Value.agg #[.string ⟨#[]⟩, .string ⟨#[]⟩]).cells q).size = q * 2 := fun q => by
    simp [Builtin.zeroCells, Value.cells]
  have hZl : Z.length = (G - i) * 2 := by
    rw [← hZ, List.length_append, Array.length_toList, Array.length_toList, hzc, hzc]; omega
  have hrz : ∀ ty, (Builtin.append_ #[56, 3] ty #[.slice (some ⟨g, 0, none⟩) i c, .int .i64 ((n : Int) + 1 - (i : Int))]).run Tryz.prog w =
      .ok (.slice (some ⟨w.heap.size, 0, none⟩) (n + 1) G) (w.drew.alloc (.cells (recC (l.take i) ++ Z).toArray 52)) := fun ty => by
    have e1 : i + (n + 1 - i) = n + 1 := by omega
    have h1 := Lib.run_append_grow_zeros w 56 3 ty 52 i0 _ .i64 .i64 Tryz.underlying56 Tryz.underlying3 hi0 hz0 (some ⟨g, 0, none⟩) i c (recC (l.take i)) hold (n + 1 - i) (by omega) (by omega) (by omega) (by omega) (by rw [hz2]; omega) (by rw [hz2, e1]; exact growslice_fits hroom (by omega))
    rw [e1, hG] at h1
    rw [show (n : Int) + 1 - (i : Int) = ((n + 1 - i : Nat) : Int) by omega, h1, ← hZ]
    congr 3
    apply Array.ext'
    simp
  have hdl : (recC (l.drop i)).length = (n - i) * 2 := by rw [recC_len, List.length_drop, hl]
  have htl : (recC (l.take i)).length = i * 2 := by rw [recC_len, List.length_take]; omega
  obtain ⟨g1, g2⟩ := grow_row (r := recC [r]) (D := recC (l.drop i)) (Z := Z) htl
  rw [hrl] at g1 g2
  obtain ⟨W1, hW1⟩ : ∃ W1, w.drew.alloc (.cells (recC (l.take i) ++ Z).toArray 52) = W1 := ⟨_, rfl⟩
  have hw1 : W1.heap[w.heap.size]? = some (.cells (recC (l.take i) ++ Z).toArray 52 (0, 0)) := by rw [← hW1]; exact Blk.new w.drew 52 _
  have hg1 : w.grownBy W1 none := by rw [← hW1]; exact only_alloc (only_drew (only_refl w none)) _
  obtain ⟨N, hN⟩ : ∃ N, w.heap.size = N := ⟨_, rfl⟩
  rw [hN] at hw1 hgl hvl
  rw [hW1, hN] at hrz
  have hcv : ∀ j u, (recC [r])[j]? = some u → W1.cell? ((⟨vb, 0, none⟩ : Addr).add j) = some u := fun j u hu => by
    rw [← argR_cells hb j u hu]
    refine World.cell?_of_block ?_
    rw [add0]
    exact hg1.block vb (by omega) (by simp)
  have HC1 := hid (show ∀ w1, w1.heap[N]? = some (.cells ((recC (l.take i) ++ Z).toArray.toList.take (i * 2) ++ (recC [r] ++ (recC (l.take i) ++ Z).toArray.toList.drop (i * 2 + (recC [r]).length))).toArray 52 (0, 0)) → W1.grownBy w1 (some N) → w1.drew.heap[N]? = some (.cells (recC (l.take i) ++ (recC [r] ++ Z.drop 2)).toArray 52 (0, 0)) ∧ (∀ j u, (recC (l.drop i))[j]? = some u → w1.drew.cell? ((⟨g, i * 2, none⟩ : Addr).add j) = some u) from fun w1 h1 h2 => by
    rw [hrl] at h1
    refine ⟨h1.trans ?_, fun j u hu => ?_⟩
    · show some (Obj.cells ((recC (l.take i) ++ Z).take (i * 2) ++ _).toArray _ _) = _
      rw [← g1]
    · rw [Addr.add_lit]
      have hj := (List.getElem?_eq_some_iff.1 hu).1
      rw [recC_drop, List.getElem?_drop] at hu
      rw [← hcellg _ u hu]
      show w1.cell? _ = _
      refine World.cell?_of_block ?_
      rw [h2.block g (by have := hg1.size; omega) (by simp; omega)]
      exact hg1.block g (by omega) (by simp))
  have HF := hid (show ∀ w1 W, W1.grownBy w1 (some N) → W.heap[N]? = some (.cells ((recC (l.take i) ++ (recC [r] ++ Z.drop 2)).toArray.toList.take ((i + 1) * 2) ++ recC (l.drop i) ++ (recC (l.take i) ++ (recC [r] ++ Z.drop 2)).toArray.toList.drop ((i + 1) * 2 + (recC (l.drop i)).length)).toArray 52 (0, 0)) → w1.drew.grownBy W (some N) → InsO w B (.slice (some ⟨g, 0, none⟩) n c) (l.take i ++ r :: l.drop i) (.returned (.slice (some ⟨N, 0, none⟩) (n + 1) G)) W from fun w1 W h1 hW h2 => by
    have e : (l.take i ++ r :: l.drop i).length = n + 1 := by simp; omega
    have e2 : (recC (l.take i) ++ (recC [r] ++ Z.drop 2)).take ((i + 1) * 2) ++ recC (l.drop i) ++ (recC (l.take i) ++ (recC [r] ++ Z.drop 2)).drop ((i + 1) * 2 + (recC (l.drop i)).length) = recC (l.take i ++ r :: l.drop i) ++ (Z.drop 2).drop (recC (l.drop i)).length := by
      rw [show (i + 1) * 2 = i * 2 + 2 by omega, List.append_assoc, g2, recC_app, List.append_assoc, show r :: l.drop i = [r] ++ l.drop i from rfl, recC_app, List.append_assoc]
    refine ⟨_, rfl, ⟨by rw [recC_len], .inr ⟨N, G, _, by rw [e], by omega, hW, by omega, hG63, ?_, ?_⟩⟩, ⟨?_, ?_, ?_, ?_, fun k hk hkg => ?_⟩, fun k hk => .inr (by
      have e5 : N = k := (by injection hk)
      omega)⟩
    · show (_ : List Value).length = _
      show ((recC (l.take i) ++ (recC [r] ++ Z.drop 2)).take ((i + 1) * 2) ++ recC (l.drop i) ++ (recC (l.take i) ++ (recC [r] ++ Z.drop 2)).drop ((i + 1) * 2 + (recC (l.drop i)).length)).length = _
      rw [e2, List.length_append, recC_len, e, List.length_drop, List.length_drop, hZl, hdl]; omega
    · show ((recC (l.take i) ++ (recC [r] ++ Z.drop 2)).take ((i + 1) * 2) ++ recC (l.drop i) ++ (recC (l.take i) ++ (recC [r] ++ Z.drop 2)).drop ((i + 1) * 2 + (recC (l.drop i)).length)).take _ = _
      rw [e2, List.take_left' (by rw [recC_len])]
    · exact h2.os.trans (h1.os.trans hg1.os)
    · exact h2.tape.trans (h1.tape.trans hg1.tape)
    · exact h2.output.trans (h1.output.trans hg1.output)
    · exact Nat.le_trans hg1.size (Nat.le_trans h1.size h2.size)
    · have hkN : some k ≠ some N := by simp; omega
      have s1 := hg1.size
      have s2 := h1.size
      rw [h2.block k (by show k < w1.heap.size; omega) hkN]
      show w1.heap[k]? = _
      rw [h1.block k (by omega) hkN]
      exact hg1.block k hk (by simp))
  have hz1' : ¬ ((i : Int) = (n : Int)) := by omega
  unfold maxLen at hG63
  have hw1' : IntKind.i64.wrap ((i : Int) + 1) = (i : Int) + 1 := by rw [IntKind.wrap_i64]; omega
  have hin : i ≤ n := by omega
  have hcn : c = n := by omega
  subst hcn
  have hw2' : IntKind.i64.wrap ((c : Int) + 1) = (c : Int) + 1 := by rw [IntKind.wrap_i64]; omega
  have hz3 : ((c : Int) < (c : Int) + 1) := by omega
  have htn : ((i : Int) + 1).toNat = i + 1 := by omega
  have hb1 : (0 : Int) ≤ (i : Int) + 1 := by omega
  have hb2 : (i : Int) + 1 ≤ (c : Int) + 1 := by omega
  have hb3 : (i : Int) ≤ (c : Int) + 1 := by omega
  have hb4 : ¬ (c = i) := by omega
  have hb5 : ¬ (G = i) := by omega
  have hb6 : ¬ (G = i + 1) := by omega
  have hb7 : (i : Int) ≤ (c : Int) := by omega
  have hb8 : c + 1 - (i + 1) = c - i := by omega
  have hmin1 : Nat.min 1 (c + 1 - i) = 1 := by simp only [Nat.min_def]; split <;> omega
  have hmin2 : Nat.min (c - i) (c - i) = c - i := Nat.min_self _
  have HRow := hid hw1
  have HCv := hid hcv
  have HDl := hid hdl
  have HFit1 := hid (show i * 2 + (recC [r]).length ≤ (recC (l.take i) ++ Z).toArray.size from by rw [List.size_toArray, List.length_append, htl, hZl, hrl]; omega)
  have HFit2 := hid (show (i + 1) * 2 + (recC (l.drop i)).length ≤ (recC (l.take i) ++ (recC [r] ++ Z.drop 2)).toArray.size from by rw [List.size_toArray, List.length_append, List.length_append, htl, hrl, List.length_drop, hZl, hdl]; omega)
  clear hold hG hZ hzc hZl g1 g2 hW1 hw1 hg1 hcv hdl htl hrl hLl hcellg h hb hB hl hgl hvl hN hz0 hz1 hz2 hi0 hGn
  go_enter Tryz.func20, Tryz.ntmps20
  go_wp2_with (first
    | (at_builtin; refine Lib.wpList_append_run _ rfl _ _ _ _ rfl _ _ rfl rfl _ _ (hrz _) ?_)
    | (refine wpList_copy2 rfl _ _ rfl N (i * 2) (c + 1 - i) (G - i) ⟨vb, 0, none⟩ 1 1 1 rfl rfl (recC (l.take i) ++ Z).toArray 52 HRow.out (recC [r]) hmin1 rfl HCv.out HFit1.out (recC_one _) ?_))
  intro w1 h1 h2
  have HW1 := hid (HC1.out w1 (by first | exact h1 | (rw [List.append_assoc]; exact h1)) h2)
  have HG1 := hid h2
  clear h1 h2
  go_wp2_with fail
  go_region_law (refine step_copy2 rfl _ _ rfl N ((i + 1) * 2) (c - i) (G - (i + 1)) ⟨g, i * 2, none⟩ (c - i) (c - i) (c - i) (by simp [Act.eval, Act.put]) (by simp [Act.eval, Act.put]) (recC (l.take i) ++ (recC [r] ++ Z.drop 2)).toArray 52 HW1.out.1 (recC (l.drop i)) hmin2 HDl.out HW1.out.2 HFit2.out (recC_one _) ?_; intro w2 h1 h2)
  have h3 := HF.out w1 w2 HG1.out (by first | exact h1 | (rw [List.append_assoc]; exact h1)) h2
  clear h1 h2
  go_wp2
  go_ret
  exact h3
end Go.Proofs.YtajcfhhnmjcmjaaGreatDoor
namespace Go.Proofs.YtajcfhhnmjcmjaaGreatDoor
open Go.RowKit

theorem insert_any (v : Value) (B vb i : Nat) (l : List Rec) (r : Rec) (w : World) (h : KRow w B v l) (hn : l.length ≤ 100000) (hB : B ≤ w.heap.size) (hb : ArgR w vb r) (hv : ∀ k, v.ownBlock = some k → vb ≠ k) (hi : i ≤ l.length) :
    Calls Tryz.prog 20 #[v, .int .i64 (i : Int), .slice (some ⟨vb, 0, none⟩) 1 1] w (InsO w B v (l.take i ++ r :: l.drop i)) := by
  by_cases he : i = l.length
  · subst he
    rw [List.take_length, List.drop_length]
    exact insEnd_any v B vb l r w h hn hB hb
  · obtain ⟨A, n, c, rfl, hln, hnc, _, hnil, hat⟩ := h.form
    cases A with
    | none => have := (hnil rfl).1; omega
    | some ad =>
      obtain ⟨g, rfl, _⟩ := hat ad rfl
      by_cases hr : n + 1 ≤ c
      · exact insShift_any B g n c vb i l r w h hln (by omega) hr hb (hv g rfl)
      · exact insGrow_any B g n c vb i l r w h hln (by omega) (by omega) hnc hb (by omega) hB
/-- a keep at kb, in the blocks F, with the records l -/
structure Kp (w : World) (b0 kb : Nat) (F : Nat → Prop) (l : List Rec) : Prop where
  box : ∃ s v lv, Blk w kb 59 #[s, v, lv] ∧ KRow w b0 v l ∧ (∀ k, v.ownBlock = some k → k ≠ kb ∧ F k)
  own : F kb
  lt : ∀ k, F k → k < w.heap.size
  lo : ∀ k, F k → b0 ≤ k
  ris : Ris l
  siz : ∀ r, r ∈ l → r.1.size ≤ 60 ∧ r.2.size ≤ 120
  len : l.length ≤ 10000
theorem Kp.on {w w' : World} {b0 kb : Nat} {F : Nat → Prop} {l : List Rec} (h : Kp w b0 kb F l) (hb : Below w.heap.size w w') : Kp w' b0 kb F l where
  box := by
    obtain ⟨s, v, lv, h1, h2, h3⟩ := h.box
    exact ⟨s, v, lv, h1.below hb h1.lt, h2.on hb, h3⟩
  own := h.own
  lt := fun k hk => Nat.lt_of_lt_of_le (h.lt k hk) hb.size
  lo := h.lo
  ris := h.ris
  siz := h.siz
  len := h.len
/-- what a put leaves -/
def PutO (w : World) (b0 kb : Nat) (F : Nat → Prop) (l : List Rec) (r : Rec) (e : Ending) (w' : World) : Prop := ∃ i, Low l r.1 i ∧ e = .returned .nilIface ∧ ∃ F', Kp w' b0 kb F' (putR l i r) ∧ Only F w w'
/-- a keep at kb, in the blocks F, with the records l -/
structure KpX (w : World) (b0 kb : Nat) (s lv : Value) (F : Nat → Prop) (l : List Rec) : Prop where
  box : ∃ v, Blk w kb 59 #[s, v, lv] ∧ KRow w b0 v l ∧ (∀ k, v.ownBlock = some k → k ≠ kb ∧ F k)
  own : F kb
  lt : ∀ k, F k → k < w.heap.size
  lo : ∀ k, F k → b0 ≤ k
  ris : Ris l
  siz : ∀ r, r ∈ l → r.1.size ≤ 60 ∧ r.2.size ≤ 120
  len : l.length ≤ 10000
theorem KpX.on {w w' : World} {b0 kb : Nat} {s lv : Value} {F : Nat → Prop} {l : List Rec} (h : KpX w b0 kb s lv F l) (hb : Below w.heap.size w w') : KpX w' b0 kb s lv F l where
  box := by
    obtain ⟨v, h1, h2, h3⟩ := h.box
    exact ⟨v, h1.below hb h1.lt, h2.on hb, h3⟩
  own := h.own
  lt := fun k hk => Nat.lt_of_lt_of_le (h.lt k hk) hb.size
  lo := h.lo
  ris := h.ris
  siz := h.siz
  len := h.len
/-- what a put leaves -/
def PutX (w : World) (b0 kb : Nat) (s lv : Value) (F : Nat → Prop) (l : List Rec) (r : Rec) (e : Ending) (w' : World) : Prop := ∃ i, Low l r.1 i ∧ e = .returned .nilIface ∧ ∃ F', KpX w' b0 kb s lv F' (putR l i r) ∧ Only F w w' ∧ ∀ k, F' k → F k ∨ w.heap.size ≤ k
theorem putR_siz {l : List Rec} {i : Nat} {r : Rec} (h : ∀ x, x ∈ l → x.1.size ≤ 60 ∧ x.2.size ≤ 120) (hr : r.1.size ≤ 60 ∧ r.2.size ≤ 120) : ∀ x, x ∈ putR l i r → x.1.size ≤ 60 ∧ x.2.size ≤ 120 := fun x hx => by
  rcases putR_mem hx with rfl | hx
  · exact hr
  · exact h x hx
theorem putR_le {l : List Rec} {i : Nat} {r : Rec} (hi : i ≤ l.length) (h : l.length + 1 ≤ 10000) : (putR l i r).length ≤ 10000 := by
  rw [putR_len hi]
  split <;> omega
set_option maxRecDepth 100000 in
set_option maxHeartbeats 4000000 in
theorem putX_any (b0 kb : Nat) (s lv : Value) (F : Nat → Prop) (l : List Rec) (A A2 : Option Addr) (n c n2 c2 : Nat) (kl vl : List Int) (w : World) (h : KpX w b0 kb s lv F l) (hk : Sl w w.heap.size A n c kl) (hv : Sl w w.heap.size A2 n2 c2 vl) (hyk : Byt kl) (hyv : Byt vl) (h1 : 1 ≤ n) (h40 : n ≤ 40) (h120 : n2 ≤ 120) (hl : l.length + 1 ≤ 10000) :
    Calls Tryz.prog 8 #[.pointer (some ⟨kb, 0, none⟩), .slice A n c, .slice A2 n2 c2] w (PutX w b0 kb s lv F l (strOfNums kl, strOfNums vl)) := by
  have HK := hid h
  have HSk := hid hk
  have HSv := hid hv
  obtain ⟨v, hbox, hrow, hap⟩ := h.box
  obtain ⟨A3, n3, c3, rfl, hln, hnc, hcm, hnil, hat⟩ := hrow.form
  have HRow := hid hrow
  have HBox := hid hbox
  have HAp := hid hap
  have HNil := hid hnil
  have HL3 := hid (And.intro hln hnc)
  have hn3 : (n3 : Int) ≤ 10000 := by omega
  have HLe := hid hl
  obtain ⟨K, hKe⟩ : ∃ K, strOfNums kl = K := ⟨_, rfl⟩
  obtain ⟨V, hVe⟩ : ∃ V, strOfNums vl = V := ⟨_, rfl⟩
  have hKs : K.size ≤ 60 := by rw [← hKe, str_size hyk, hk.len]; omega
  have hVs : V.size ≤ 120 := by rw [← hVe, str_size hyv, hv.len]; omega
  have HSz := hid (And.intro hKs hVs)
  have hq1 : ∀ W, Below w.heap.size w W → (convert 29 9 (.slice A n c)).run Tryz.prog W = .ok (.string K) W := fun W hb => by rw [← hKe]; exact conv_any (hk.below hb)
  have hq2 : ∀ W, Below w.heap.size w W → (convert 29 9 (.slice A2 n2 c2)).run Tryz.prog W = .ok (.string V) W := fun W hb => by rw [← hVe]; exact conv_any (hv.below hb)
  have HQ1 := hid hq1
  have HQ2 := hid hq2
  have h63 : (n : Int) ≤ 40 := by omega
  have h64 : (1 : Int) ≤ (n : Int) := by omega
  have h65 : (n2 : Int) ≤ 120 := by omega
  have hn0 : decide ((n : Int) < 1) = false := by simp; omega
  have hn1 : decide ((40 : Int) < (n : Int)) = false := by simp; omega
  have hn2 : decide ((120 : Int) < (n2 : Int)) = false := by simp; omega
  rw [hKe, hVe]
  clear h hk hv hyk hyv h1 h40 h120 hq1 hq2 hKe hVe hKs hVs hbox hrow hap hnil hat hln hnc hcm
  go_enter Tryz.func8, Tryz.ntmps8
  have hqa := HQ1.out w (Below.refl _ _)
  have hqb := HQ2.out w (Below.refl _ _)
  go_wp2_with fail
  obtain ⟨rb, hrb⟩ : ∃ rb, w.heap.size = rb := ⟨_, rfl⟩
  obtain ⟨W1, hW1⟩ : ∃ W1, w.alloc (.cells #[.string K, .string V] 52) = W1 := ⟨_, rfl⟩
  have HB1 := hid (show Below w.heap.size w W1 from by rw [← hW1]; exact (Below.refl _ _).alloc (Nat.le_refl _) _)
  have HRb := hid (show ArgR W1 rb (K, V) from by rw [← hW1, ← hrb]; exact Blk.new w _ _)
  have HRbs := hid (show w.heap.size = rb from hrb)
  rw [hrb, hW1]
  have hdr := HB1.out.drew
  have HFi := hid (kpFind_any (.slice A3 n3 c3) b0 l K W1.drew (HRow.out.on hdr) HK.out.ris (by have := HK.out.len; omega))
  have HMc := hid (show ∀ w2, Below W1.heap.size W1.drew w2 → w2.cell? ⟨kb, 1, none⟩ = some (.slice A3 n3 c3) ∧ w2.cell? ⟨rb, 0, none⟩ = some (.string K) from fun w2 hb => by
    have h1 := HBox.out.below (hdr.trans (hb.mono hdr.size)) HBox.out.lt
    have h2 := HRb.out.below ((Below.refl W1.heap.size W1).drew.trans hb) HRb.out.lt
    exact ⟨by rw [Blk.cell h1]; rfl, by rw [Blk.cell h2]; rfl⟩)
  have k0 := HMc.out W1.drew (Below.refl _ _)
  clear hW1 hrb hqa hqb hdr
  go_region_held3 (fun w' => w'.cell? ⟨kb, 1, none⟩ = some (.slice A3 n3 c3) ∧ w'.cell? ⟨rb, 0, none⟩ = some (.string K)) (first | exact k0 | exact k2) (first | (go_at_call 19; refine HFi.out.mono ?_; rintro e w2 ⟨i, he, hl2, hb2⟩; have k2 := HMc.out w2 hb2; generalize hbq : isAt l K i = b at he; subst he; have HF := hid (And.intro hl2 (And.intro hb2 hbq)); clear hl2 hb2 hbq))
  have HB2 := hid (show Below W1.heap.size W1 w2 from (Below.refl W1.heap.size W1).drew.trans HF.out.2.1)
  clear k0 k2
  have HRow2 := hid ((HRow.out.on HB1.out).on HB2.out)
  have HBox2 := hid ((HBox.out.below HB1.out HBox.out.lt).below HB2.out (HBox.out.below HB1.out HBox.out.lt).lt)
  have HRb2 := hid (HRb.out.below HB2.out HRb.out.lt)
  have HBw := hid (HB1.out.trans (HB2.out.mono HB1.out.size))
  have c1 : w2.cell? ⟨kb, 1, none⟩ = some (.slice A3 n3 c3) := by rw [Blk.cell HBox2.out]; rfl
  have c2' : w2.cell? ⟨rb, 0, none⟩ = some (.string K) := by rw [Blk.cell HRb2.out]; rfl
  have c3' : w2.cell? ⟨rb, 1, none⟩ = some (.string V) := by rw [Blk.cell HRb2.out]; rfl
  have hi0 : i ≤ n3 := by have := HF.out.1.le; have := HL3.out.1; omega
  cases b
  · obtain ⟨W4, hW4⟩ : ∃ W, (w2.alloc (.cells #[.string K, .string V] 52)).drew = W := ⟨_, rfl⟩
    obtain ⟨vb, hvb⟩ : ∃ vb, w2.heap.size = vb := ⟨_, rfl⟩
    have hb4 : Below w2.heap.size w2 W4 := by rw [← hW4]; exact ((Below.refl _ _).alloc (Nat.le_refl _) _).drew
    have hr4 : ArgR W4 vb (K, V) := by rw [← hW4, ← hvb]; exact (Blk.new w2 _ _).drew
    have HIn := hid (insert_any (.slice A3 n3 c3) b0 vb i l (K, V) W4 (HRow2.out.on hb4) (by have := HK.out.len; omega) (by have h1 := HK.out.lo kb HK.out.own; have h2 := HK.out.lt kb HK.out.own; have h3 := HBw.out.size; have h4 := hb4.size; omega) hr4 (fun k hk => by have := (HRow2.out.lt k hk).2; omega) (by have := HL3.out.1; omega))
    have HB4 := hid hb4
    have HMd := hid (show ∀ w3, W4.grownBy w3 (Value.slice A3 n3 c3).ownBlock → w3.frozen? ⟨kb, 1, none⟩ = false ∧ ∃ u, w3.cell? ⟨kb, 1, none⟩ = some u from fun w3 hg => by
      have h1 := HBox2.out.below HB4.out HBox2.out.lt
      have h2 : Blk w3 kb 59 #[s, .slice A3 n3 c3, lv] := h1.grown hg (fun e => (HAp.out kb e.symm).1 rfl)
      exact ⟨h2.free 1, _, by rw [Blk.cell h2]; rfl⟩)
    have HGo := hid (show ∀ w3 v', KRow w3 b0 v' (l.take i ++ (K, V) :: l.drop i) → W4.grownBy w3 (Value.slice A3 n3 c3).ownBlock → (∀ k, v'.ownBlock = some k → (Value.slice A3 n3 c3).ownBlock = some k ∨ W4.heap.size ≤ k) → PutX w b0 kb s lv F l (K, V) (.returned .nilIface) (w3.setCell ⟨kb, 1, none⟩ v') from fun w3 v' h1 h2 h5 => by
      have e : putR l i (K, V) = l.take i ++ (K, V) :: l.drop i := by unfold putR; rw [if_neg (by rw [HF.out.2.2]; decide)]
      have hp := ris_put (r := (K, V)) HK.out.ris HF.out.1
      have hs := putR_siz (i := i) (r := (K, V)) HK.out.siz HSz.out
      have hlen : (putR l i (K, V)).length ≤ 10000 := putR_le HF.out.1.le HLe.out
      have hbx : Blk w3 kb 59 #[s, .slice A3 n3 c3, lv] := (HBox2.out.below HB4.out HBox2.out.lt).grown h2 (fun e => (HAp.out kb e.symm).1 rfl)
      have hlw : w.heap.size ≤ w3.heap.size := Nat.le_trans HBw.out.size (Nat.le_trans HB4.out.size h2.size)
      have hkl := HK.out.lt kb HK.out.own
      have hne : ∀ k, v'.ownBlock = some k → k ≠ kb := fun k hk e2 => by
        subst e2
        rcases h1.2 with ⟨rfl, _⟩ | ⟨g', cap, cu, rfl, _, hg, _⟩
        · cases hk
        · have e3 : g' = k := by injection hk
          rw [e3] at hg
          have := hg.symm.trans hbx
          injection this with this
          injection this with _ this
          exact absurd this (by decide)
      refine ⟨i, HF.out.1, rfl, fun k => F k ∨ (v'.ownBlock = some k), ?_, ?_, ?_⟩
      · rw [e] at hp hs hlen ⊢
        refine ⟨⟨v', hbx.put 1 v', h1.kept (only_put (only_refl w3 (some kb)) 1 v') hne, fun k hk => ⟨hne k hk, .inr hk⟩⟩, .inl HK.out.own, fun k hk => ?_, fun k hk => hk.elim (HK.out.lo k) (fun hk => (h1.lt k hk).1), hp, hs, hlen⟩
        show k < (w3.setCell _ _).heap.size
        rcases hk with hk | hk
        · have := HK.out.lt k hk
          simp; omega
        · have := (h1.lt k hk).2
          simp; omega
      · refine Only.put (p := ⟨kb, 1, none⟩) ?_ HK.out.own _
        exact ⟨h2.os.trans (HB4.out.os.trans HBw.out.os), h2.tape.trans (HB4.out.tape.trans HBw.out.tape), h2.output.trans (HB4.out.output.trans HBw.out.output), hlw, fun k hk hkF => by
          have s1 := HBw.out.size
          have s2 := HB4.out.size
          rw [h2.block k (by omega) (fun e => hkF (HAp.out k e.symm).2), HB4.out.block k (by omega), HBw.out.block k hk]⟩
      · rintro k (hk | hk)
        · exact .inl hk
        · rcases h5 k hk with h | h
          · exact .inl (HAp.out k h).2
          · have s1 := HBw.out.size
            have s2 := HB4.out.size
            exact .inr (by omega))
    clear hb4 hr4
    subst hW4
    subst hvb
    have a1 : (w2.alloc (.cells #[.string K, .string V] 52)).cell? ⟨kb, 1, none⟩ = some (.slice A3 n3 c3) := (Blk.cell (HBox2.out.below HB4.out HBox2.out.lt) 1).trans rfl
    have a2 : (w2.alloc (.cells #[.string K, .string V] 52)).cell? ⟨rb, 0, none⟩ = some (.string K) := (Blk.cell (HRb2.out.below HB4.out HRb2.out.lt) 0).trans rfl
    have a3 : (w2.alloc (.cells #[.string K, .string V] 52)).cell? ⟨rb, 1, none⟩ = some (.string V) := (Blk.cell (HRb2.out.below HB4.out HRb2.out.lt) 1).trans rfl
    go_wp2
    go_region_law (first | (go_simp; go_at_call 20; refine HIn.out.mono ?_; rintro e w3 ⟨v', rfl, h1, h2, h5⟩; obtain ⟨fz, u, hu⟩ := HMd.out w3 h2; have HF3 := hid (HGo.out w3 v' h1 h2 h5); obtain ⟨A5, n5, c5, rfl, _⟩ := h1.form; clear h1 h2 h5))
    all_goals (go_wp2; go_ret; exact HF3.out)
  · obtain ⟨x, hx, hxk⟩ := isAt_some HF.out.2.2
    have hin : i < n3 := by have := (List.getElem?_eq_some_iff.1 hx).1; have := HL3.out.1; omega
    cases A3 with
    | none => exact absurd (HNil.out rfl).1 (by omega)
    | some ad =>
    obtain ⟨g, rfl⟩ := krow_addr HRow2.out
    obtain ⟨d0, d1, f0, f1⟩ := HRow2.out.cells hx
    have hin2 : (i : Int) < n3 := by omega
    have HFin := hid (show PutX w b0 kb s lv F l (K, V) (.returned .nilIface) ((w2.setCell ⟨g, i * 2, none⟩ (.string K)).setCell ⟨g, i * 2 + 1, none⟩ (.string V)).drew from by
      refine ⟨i, HF.out.1, rfl, F, ?_, ?_, fun k hk => .inl hk⟩
      · have hgF := HAp.out g rfl
        have e : putR l i (K, V) = l.set i (K, V) := by unfold putR; rw [HF.out.2.2]; rfl
        have hrow3 := HRow2.out.put (r := (K, V)) HL3.out.1 hin
        have hp := ris_put (r := (K, V)) HK.out.ris HF.out.1
        have hs := putR_siz (i := i) (r := (K, V)) HK.out.siz HSz.out
        have hlen : (putR l i (K, V)).length ≤ 10000 := putR_le HF.out.1.le HLe.out
        rw [e] at hp hs hlen
        rw [e]
        refine ⟨⟨_, ?_, hrow3, fun k hk => HAp.out k hk⟩, HK.out.own, fun k hk => ?_, HK.out.lo, hp, hs, hlen⟩
        · exact ((HBox2.out.far (p := ⟨g, i * 2, none⟩) (fun e => hgF.1 e.symm) _).far (p := ⟨g, i * 2 + 1, none⟩) (fun e => hgF.1 e.symm) _).drew
        · have := HK.out.lt k hk
          have := HBw.out.size
          show k < ((w2.setCell _ _).setCell _ _).heap.size
          simp
          omega
      · exact (((Only.of_below HBw.out).put (HAp.out g rfl).2 _).put (HAp.out g rfl).2 _).drew)
    clear hx hxk
    go_wp2
    go_region
    go_wp2
    go_ret
    exact HFin.out
set_option maxRecDepth 100000 in
set_option maxHeartbeats 1000000 in
theorem kpLenX_any (b0 kb : Nat) (s lv : Value) (F : Nat → Prop) (l : List Rec) (w : World) (h : KpX w b0 kb s lv F l) :
    Calls Tryz.prog 11 #[.pointer (some ⟨kb, 0, none⟩)] w fun e w' => e = .returned (.int .i64 (l.length : Int)) ∧ Below w.heap.size w w' := by
  obtain ⟨v, hbox, hrow, hap⟩ := h.box
  obtain ⟨A, n, c, rfl, hln, _⟩ := hrow.form
  have c1 : w.cell? ⟨kb, 1, none⟩ = some (.slice A n c) := by rw [Blk.cell hbox]; rfl
  rw [hln]
  clear h hbox hrow hap
  go_enter Tryz.func11, Tryz.ntmps11
  go_wp2
  go_ret
  exact ⟨rfl, Below.refl _ _⟩
theorem Kp.x {w : World} {b0 kb : Nat} {F : Nat → Prop} {l : List Rec} (h : Kp w b0 kb F l) : ∃ s lv, KpX w b0 kb s lv F l := by
  obtain ⟨s, v, lv, h1⟩ := h.box
  exact ⟨s, lv, ⟨v, h1⟩, h.own, h.lt, h.lo, h.ris, h.siz, h.len⟩
theorem KpX.kp {w : World} {b0 kb : Nat} {s lv : Value} {F : Nat → Prop} {l : List Rec} (h : KpX w b0 kb s lv F l) : Kp w b0 kb F l := by
  obtain ⟨v, h1⟩ := h.box
  exact ⟨⟨s, v, lv, h1⟩, h.own, h.lt, h.lo, h.ris, h.siz, h.len⟩
theorem put_any (b0 kb : Nat) (F : Nat → Prop) (l : List Rec) (A A2 : Option Addr) (n c n2 c2 : Nat) (kl vl : List Int) (w : World) (h : Kp w b0 kb F l) (hk : Sl w w.heap.size A n c kl) (hv : Sl w w.heap.size A2 n2 c2 vl) (hyk : Byt kl) (hyv : Byt vl) (h1 : 1 ≤ n) (h40 : n ≤ 40) (h120 : n2 ≤ 120) (hl : l.length + 1 ≤ 10000) :
    Calls Tryz.prog 8 #[.pointer (some ⟨kb, 0, none⟩), .slice A n c, .slice A2 n2 c2] w (PutO w b0 kb F l (strOfNums kl, strOfNums vl)) := by
  obtain ⟨s, lv, hx⟩ := h.x
  refine (putX_any b0 kb s lv F l A A2 n c n2 c2 kl vl w hx hk hv hyk hyv h1 h40 h120 hl).mono ?_
  rintro e w' ⟨i, k1, k2, F', k3, k4, _⟩
  exact ⟨i, k1, k2, F', k3.kp, k4⟩
end Go.Proofs.YtajcfhhnmjcmjaaGreatDoor
