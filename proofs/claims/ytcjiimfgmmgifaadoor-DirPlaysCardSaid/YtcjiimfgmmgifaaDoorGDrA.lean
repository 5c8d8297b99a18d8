/- Entries of one's own: copied, inserted (slices.Insert at entries: at the end; with room; without). -/
import Derived.Maps.AppendAt
import Derived.Lib.Overlaps
import Derived.Lib.AppendZerosOnto
import Derived.Lib.JoinLaws
import Derived.Test.YtcjiimfgmmgifaaDoorGEn
namespace Go.Proofs.YtcjiimfgmmgifaaDoor
open Go.RowKit Go.Shelf Go.Sort

theorem eadd0 (g q : Nat) : (⟨g, 0, none⟩ : Addr).add q = ⟨g, q, none⟩ := by unfold Addr.add; split <;> simp_all
theorem EC_takeR (l : List En) (i : Nat) : EC (l.take i) = (EC l).take (i * 3) := (EC_take l i).symm
theorem EC_dropR (l : List En) (i : Nat) : EC (l.drop i) = (EC l).drop (i * 3) := by
  induction l generalizing i with
  | nil => simp [EC]
  | cons y l ih =>
    rcases i with _ | i
    · simp [EC]
    · have e1 : EC (y :: l) = encStr y.s :: .int .i64 y.n :: .int .i64 y.k :: EC l := rfl
      rw [List.drop_succ_cons, e1, show (i + 1) * 3 = i * 3 + 1 + 1 + 1 by omega, List.drop_succ_cons, List.drop_succ_cons, List.drop_succ_cons, ih]
theorem EOwn.formK {w : World} {B : Nat} {v : Value} {l : List En} (h : EOwn w B v l) : ∃ A n c, v = .slice A n c ∧ l.length = n ∧ n ≤ c ∧ c ≤ maxLen ∧ (A = none → n = 0 ∧ c = 0) ∧
    (∀ ad, A = some ad → ∃ g, ad = ⟨g, 0, none⟩ ∧ B ≤ g ∧ g < w.heap.size) := by
  have h' := h
  rcases h'.2 with ⟨rfl, h0⟩ | ⟨g, cap, cur, rfl, hb, hg, h1, h2, h3, h4⟩
  · exact ⟨none, 0, 0, rfl, h0, Nat.le_refl _, by unfold maxLen; omega, fun _ => ⟨rfl, rfl⟩, (fun ad h => by cases h)⟩
  · refine ⟨_, _, _, rfl, rfl, h1, h2, (fun h => by cases h), fun ad ha => ?_⟩
    cases ha
    exact ⟨g, rfl, hb, (World.ownsRow.lt h g rfl).2⟩
theorem run_copyE {w : World} (ty : TypeId) (g o dLen dCap : Nat) (a : Addr) (sLen sCap m : Nat) (cur : Array Value) (t : TypeId) (cs : List Value) (hg : w.heap[g]? = some (.cells cur t (0, 0))) (hm : Nat.min sLen dLen = m) (hn : cs.length = m * 3)
    (hsrc : ∀ j v, cs[j]? = some v → w.cell? (a.add j) = some v) (hfit : o + cs.length ≤ cur.size) (h1 : ∀ v ∈ cs, v.oneCell' = true) :
    (Builtin.copy_ #[25, 25] ty #[.slice (some ⟨g, o, none⟩) dLen dCap, .slice (some a) sLen sCap]).run Tryd.prog w = .ok (goInt m) (w.setRow g (cur.toList.take o ++ cs ++ cur.toList.drop (o + cs.length)).toArray) := by
  obtain ⟨i0, hi, hz0, hz1, hz2⟩ := info_parts Tryd.infoEn
  have hl := run_loadCells_list (P := Tryd.prog) w a cs hsrc
  have hst := run_storeCells_at Tryd.prog g o t cs 0 cur w hg (by simpa using hfit) h1
  simp [Builtin.copy_, run_underlying Tryd.underlying25, Builtin.lenOf, Builtin.firstCells, sizeOf, typeInfo, hi, hz1, hm, ← hn, hl, hst]
theorem wpList_copyE {w : World} {ops : Array Oper} {rest : List Oper} {o : Oper} {a : Act} {Q : Exit → Act → World → Prop} (hgd : o.guard = none) (d s : Operand) (ho : o.op = .call { callee := .builtin .copy, args := #[d, s], argTypes := #[25, 25] })
    (g off dLen dCap : Nat) (ad : Addr) (sLen sCap m : Nat) (hd : a.eval d = .slice (some ⟨g, off, none⟩) dLen dCap) (hs : a.eval s = .slice (some ad) sLen sCap) (cur : Array Value) (t : TypeId) (hg : w.heap[g]? = some (.cells cur t (0, 0))) (cs : List Value) (hm : Nat.min sLen dLen = m) (hn : cs.length = m * 3)
    (hsrc : ∀ j v, cs[j]? = some v → w.cell? (ad.add j) = some v) (hfit : off + cs.length ≤ cur.size) (h1 : ∀ v ∈ cs, v.oneCell' = true)
    (h : ∀ w', w'.heap[g]? = some (.cells (cur.toList.take off ++ cs ++ cur.toList.drop (off + cs.length)).toArray t (0, 0)) → w.grownBy w' (some g) → wpList Tryd.prog ops Q rest (a.put o.dst (goInt m)) w') : wpList Tryd.prog ops Q (o :: rest) a w := by
  refine wpList_plain hgd fun K hK => ?_
  have hrun := run_copyE (w := w) o.type g off dLen dCap ad sLen sCap m cur t cs hg hm hn hsrc hfit h1
  unfold Oper.wp
  simp [execOp, ho, resolve, invoke, builtin, hd, hs, hrun, Result.andThen]
  exact hK _ _ (h _ (by simpa using setRow_heap w g cur _ t (0, 0) hg) (by simpa using ⟨rfl, rfl, rfl, by simp, fun k _ hk => setRow_other w g k _ (fun e => hk (by rw [e]))⟩))
theorem step_copyE {ops : Array Oper} {o : Oper} {a : Act} {w : World} {K : Act → World → Prop} {Q : Exit → Act → World → Prop} {E : Prop} (hgd : o.guard = none) (d s : Operand) (ho : o.op = .call { callee := .builtin .copy, args := #[d, s], argTypes := #[25, 25] })
    (g off dLen dCap : Nat) (ad : Addr) (sLen sCap m : Nat) (hd : a.eval d = .slice (some ⟨g, off, none⟩) dLen dCap) (hs : a.eval s = .slice (some ad) sLen sCap) (cur : Array Value) (t : TypeId) (hg : w.heap[g]? = some (.cells cur t (0, 0))) (cs : List Value) (hm : Nat.min sLen dLen = m) (hn : cs.length = m * 3)
    (hsrc : ∀ j v, cs[j]? = some v → w.cell? (ad.add j) = some v) (hfit : off + cs.length ≤ cur.size) (h1 : ∀ v ∈ cs, v.oneCell' = true)
    (h : ∀ w', w'.heap[g]? = some (.cells (cur.toList.take off ++ cs ++ cur.toList.drop (off + cs.length)).toArray t (0, 0)) → w.grownBy w' (some g) → K (a.put o.dst (goInt m)) w') :
    if Region.wanted o (yielded ops a.tmps) = true then Oper.wp Tryd.prog o a w K Q else E := by
  have hw : Region.wanted o (yielded ops a.tmps) = true := by simp [Region.wanted, hgd]
  rw [if_pos hw]
  have hrun := run_copyE (w := w) o.type g off dLen dCap ad sLen sCap m cur t cs hg hm hn hsrc hfit h1
  unfold Oper.wp
  simp [execOp, ho, resolve, invoke, builtin, hd, hs, hrun, Result.andThen]
  exact h _ (by simpa using setRow_heap w g cur _ t (0, 0) hg) (by simpa using ⟨rfl, rfl, rfl, by simp, fun k _ hk => setRow_other w g k _ (fun e => hk (by rw [e]))⟩)
/-- what an insert leaves -/
def InsE (w : World) (B : Nat) (v : Value) (m : List En) (e : Ending) (w' : World) : Prop := ∃ v', e = .returned v' ∧ EOwn w' B v' m ∧ w.grownBy w' v.ownBlock ∧ ∀ k, v'.ownBlock = some k → v.ownBlock = some k ∨ w.heap.size ≤ k
abbrev ArgE (w : World) (vb : Nat) (r : En) : Prop := Blk w vb 29 #[encStr r.s, .int .i64 r.n, .int .i64 r.k]
theorem argE_cells {w : World} {vb : Nat} {r : En} (h : ArgE w vb r) : ∀ j u, (EC [r])[j]? = some u → w.cell? ((⟨vb, 0, none⟩ : Addr).add j) = some u := fun j u hu => by
  rw [eadd0, Blk.cell h]
  simp only [List.getElem?_toArray]
  exact hu
set_option maxRecDepth 100000 in
set_option maxHeartbeats 4000000 in
theorem insEnd_any (v : Value) (B vb : Nat) (l : List En) (r : En) (w : World) (h : EOwn w B v l) (hn : l.length ≤ 100000) (hB : B ≤ w.heap.size) (hb : ArgE w vb r) :
    Calls Tryd.prog 33 #[v, .int .i64 (l.length : Int), .slice (some ⟨vb, 0, none⟩) 1 1] w (InsE w B v (l ++ [r])) := by
  obtain ⟨i0, hi, hz0, hz1, hz2⟩ := info_parts Tryd.infoEn
  obtain ⟨A, n, c, rfl, hln, hnc, hcm, hnil, hat⟩ := h.formK
  have HO := hid (show w.ownsRow B 29 3 (.slice A n c) n (EC l) from by
    have h' := h
    unfold EOwn at h'
    rw [hln] at h'
    exact h')
  have HC := hid (argE_cells hb)
  have HF := hid (show ∀ v' w', w'.ownsRow B 29 3 v' (n + 1) (EC l ++ EC [r]) → w.grownBy w' (Value.slice A n c).ownBlock → (v'.ownBlock = (Value.slice A n c).ownBlock ∨ v'.ownBlock = some w.heap.size) → InsE w B (.slice A n c) (l ++ [r]) (.returned v') w' from fun v' w' h1 h2 h4 => ⟨v', rfl, by
    show World.ownsRow _ _ _ _ _ _ _
    rw [List.length_append, EC_append, hln]; exact h1, h2, fun k hk => h4.elim (fun h => .inl (h ▸ hk)) (fun h => by rw [h] at hk; injection hk with hk; exact .inr (by omega))⟩)
  rw [hln]
  have hcn : n ≤ 100000 := by omega
  have hB' := hid hB
  clear h hn hnil hat hB hb
  rcases A with _ | ad
  · go_enter Tryd.func33, Tryd.ntmps33
    go_wp2_with (at_builtin; refine wpList_append_own_at _ rfl _ _ 25 rfl B 29 i0 (.agg #[.string ⟨#[]⟩, .int .i64 0, .int .i64 0]) 3 32 Tryd.underlying25 hi hz0 hz1 hz2 rfl (by decide) _ n (EC l) rfl HO.out ⟨vb, 0, none⟩ 1 1 (EC [r]) rfl rfl HC.out (EC_one) ?c3 ?c4 hB'.out ?_)
    case c3 => unfold maxLen; omega
    case c4 => omega
    intro v' w' h1 h2 _ h4
    have h3 := HF.out v' w' h1 h2 h4
    clear h1 h2 h4
    go_wp2
    go_ret
    exact h3
  · go_enter Tryd.func33, Tryd.ntmps33
    go_wp2_with (at_builtin; refine wpList_append_own_at _ rfl _ _ 25 rfl B 29 i0 (.agg #[.string ⟨#[]⟩, .int .i64 0, .int .i64 0]) 3 32 Tryd.underlying25 hi hz0 hz1 hz2 rfl (by decide) _ n (EC l) rfl HO.out ⟨vb, 0, none⟩ 1 1 (EC [r]) rfl rfl HC.out (EC_one) (by unfold maxLen; omega) (by omega) hB'.out ?_)
    all_goals
      intro v' w' h1 h2 _ h4
      have h3 := HF.out v' w' h1 h2 h4
      clear h1 h2
      go_wp2
      go_ret
      exact h3
/-- both copies of an insert in place -/
theorem shift_row {c0 L r : List Value} {a N : Nat} (hL : c0.take N = L) (hN : L.length = N) (ha : a ≤ N) (hc : N + r.length ≤ c0.length) :
    (((c0.take (a + r.length) ++ L.drop a ++ c0.drop (a + r.length + (L.drop a).length)).take a ++ r ++ (c0.take (a + r.length) ++ L.drop a ++ c0.drop (a + r.length + (L.drop a).length)).drop (a + r.length)).take (N + r.length) = L.take a ++ r ++ L.drop a) ∧
    (c0.take (a + r.length) ++ L.drop a ++ c0.drop (a + r.length + (L.drop a).length)).length = c0.length ∧
    ((c0.take (a + r.length) ++ L.drop a ++ c0.drop (a + r.length + (L.drop a).length)).take a ++ r ++ (c0.take (a + r.length) ++ L.drop a ++ c0.drop (a + r.length + (L.drop a).length)).drop (a + r.length)).length = c0.length := by
  have hd : (L.drop a).length = N - a := by rw [List.length_drop, hN]
  have ht : (c0.take (a + r.length)).length = a + r.length := by rw [List.length_take]; omega
  have e1 : (c0.take (a + r.length) ++ L.drop a ++ c0.drop (a + r.length + (L.drop a).length)).take a = L.take a := by
    rw [List.append_assoc, List.take_append_of_le_length (by omega), List.take_take, Nat.min_eq_left (by omega), ← hL, List.take_take, Nat.min_eq_left ha]
  have e2 : (c0.take (a + r.length) ++ L.drop a ++ c0.drop (a + r.length + (L.drop a).length)).drop (a + r.length) = L.drop a ++ c0.drop (a + r.length + (L.drop a).length) := by
    rw [List.append_assoc, List.drop_left' ht]
  have ha' : (L.take a).length = a := by rw [List.length_take]; omega
  refine ⟨?_, ?_, ?_⟩
  · rw [e1, e2, ← List.append_assoc, List.take_left']
    rw [List.length_append, List.length_append, ha', hd]; omega
  · rw [List.length_append, List.length_append, ht, hd, List.length_drop]; omega
  · rw [e1, e2, List.length_append, List.length_append, ha', List.length_append, hd, List.length_drop]; omega
set_option maxRecDepth 100000 in
set_option maxHeartbeats 4000000 in
theorem insShift_any (B g n c vb i : Nat) (l : List En) (r : En) (w : World) (h : EOwn w B (.slice (some ⟨g, 0, none⟩) n c) l) (hl : l.length = n) (hi : i < n) (hroom : n + 1 ≤ c) (hb : ArgE w vb r) (hne : vb ≠ g) :
    Calls Tryd.prog 33 #[.slice (some ⟨g, 0, none⟩) n c, .int .i64 (i : Int), .slice (some ⟨vb, 0, none⟩) 1 1] w (InsE w B (.slice (some ⟨g, 0, none⟩) n c) (l.take i ++ r :: l.drop i)) := by
  obtain ⟨i0, hi0, hz0, hz1, hz2⟩ := info_parts Tryd.infoEn
  obtain ⟨cur, hg, hc1, hc2, hcs, hct, hBg⟩ : ∃ cur : Array Value, w.heap[g]? = some (.cells cur 29 (0, 0)) ∧ n ≤ c ∧ c ≤ maxLen ∧ cur.size = c * 3 ∧ cur.toList.take (n * 3) = EC l ∧ B ≤ g := by
    rcases h.2 with ⟨h', _⟩ | ⟨g', cap', cur, h', hb, hg, h1, h2, h3, h4⟩
    · cases h'
    · cases h'
      exact ⟨cur, hg, h1, h2, h3, by rw [← h4, hl], hb⟩
  have hrl : (EC [r]).length = 3 := rfl
  have hLl : (EC l).length = n * 3 := by rw [EC_len, hl]
  obtain ⟨s1, s2, s3⟩ := shift_row (r := EC [r]) (a := i * 3) hct hLl (by omega) (by rw [hrl, Array.length_toList]; omega)
  rw [hrl, ← EC_dropR] at s1 s2 s3
  obtain ⟨R1, hR1⟩ : ∃ R, cur.toList.take (i * 3 + 3) ++ EC (l.drop i) ++ cur.toList.drop (i * 3 + 3 + (EC (l.drop i)).length) = R := ⟨_, rfl⟩
  rw [hR1] at s1 s2 s3
  obtain ⟨R2, hR2⟩ : ∃ R, R1.take (i * 3) ++ EC [r] ++ R1.drop (i * 3 + 3) = R := ⟨_, rfl⟩
  rw [hR2] at s1 s3
  replace s2 : R1.length = cur.size := s2.trans Array.length_toList
  replace s3 : R2.length = cur.size := s3.trans Array.length_toList
  have e22 : i * 3 + 3 = (i + 1) * 3 := by omega
  have hdl : (EC (l.drop i)).length = (n - i) * 3 := by rw [EC_len, List.length_drop, hl]
  have hov : ∀ lb cb, (callFunc 42 #[.slice (some ⟨vb, 0, none⟩) 1 1, .slice (some ⟨g, (i + 1) * 3, none⟩) lb cb]).run Tryd.prog w = .ok (.value (.bool false)) w := fun lb cb => by
    rw [run_callFunc_extern Tryd.func42 (by kernel_rfl) (by kernel_rfl) (by kernel_rfl) (e := Extern.SlicesOverlaps.overlaps #[25, 25] #[4]) (by kernel_rfl),
      Lib.run_overlaps_apart w 25 4 29 Tryd.underlying25 3 (fun w => by simp [sizeOf, typeInfo, hi0, hz1]) ⟨vb, 0, none⟩ ⟨g, (i + 1) * 3, none⟩ 1 1 lb cb hne 29 29 3 (c * 3) (by
        have hb' : w.heap[vb]? = _ := hb
        simp [World.shape?, hb']) (by simp [World.shape?, hg, hcs]) (by omega) (by
        have hb' : w.heap[vb]? = _ := hb
        simp [World.frozen?, hb']) (by
        have hb' : w.heap[vb]? = _ := hb
        simp [World.frozen?, hb'])]
    rfl
  have hcell : ∀ j u, (EC (l.drop i))[j]? = some u → w.drew.cell? ((⟨g, i * 3, none⟩ : Addr).add j) = some u := fun j u hu => by
    rw [Addr.add_lit]
    have hj := (List.getElem?_eq_some_iff.1 hu).1
    rw [EC_dropR, List.getElem?_drop, ← hct, List.getElem?_take, if_pos (by omega)] at hu
    show w.cell? _ = _
    simp only [World.cell?, hg]
    simpa using hu
  have HCell := hid hcell
  have hmin1 : Nat.min (n + 1 - i) (n - i) = n - i := by simp only [Nat.min_def]; split <;> omega
  have hmin2 : Nat.min 1 (n + 1 - i) = 1 := by simp only [Nat.min_def]; split <;> omega
  have HG := hid (show w.drew.heap[g]? = some (.cells cur 29 (0, 0)) from hg)
  have HFit1 := hid (show (i + 1) * 3 + (EC (l.drop i)).length ≤ cur.size from by omega)
  have HDl := hid hdl
  have HC1 := hid (show ∀ w1, w1.heap[g]? = some (.cells (cur.toList.take ((i + 1) * 3) ++ EC (l.drop i) ++ cur.toList.drop ((i + 1) * 3 + (EC (l.drop i)).length)).toArray 29 (0, 0)) → w.drew.grownBy w1 (some g) → w1.heap[g]? = some (.cells R1.toArray 29 (0, 0)) ∧ w.grownBy w1 (some g) ∧ (∀ j u, (EC [r])[j]? = some u → w1.cell? ((⟨vb, 0, none⟩ : Addr).add j) = some u) from fun w1 h1 h2 => by
    rw [← e22, hR1] at h1
    refine ⟨h1, only_of_drew h2, fun j u hu => ?_⟩
    rw [← argE_cells hb j u hu]
    refine World.cell?_of_block ?_
    rw [eadd0]
    exact h2.block vb hb.lt (by simpa using hne))
  have HFit2 := hid (show i * 3 + (EC [r]).length ≤ R1.toArray.size from by rw [hrl, List.size_toArray, s2, hcs]; omega)
  have HF := hid (show ∀ w1 W, w.grownBy w1 (some g) → W.heap[g]? = some (.cells (R1.toArray.toList.take (i * 3) ++ EC [r] ++ R1.toArray.toList.drop (i * 3 + (EC [r]).length)).toArray 29 (0, 0)) → w1.grownBy W (some g) → InsE w B (.slice (some ⟨g, 0, none⟩) n c) (l.take i ++ r :: l.drop i) (.returned (.slice (some ⟨g, 0, none⟩) (n + 1) c)) W from fun w1 W h1 hW h2 => by
    refine ⟨_, rfl, ⟨?_, .inr ⟨g, c, R2.toArray, ?_, hBg, ?_, ?_, hc2, by rw [List.size_toArray, s3, hcs], ?_⟩⟩, only_trans h1 h2, fun k hk => .inl hk⟩
    · rw [EC_len]
    · have e : (l.take i ++ r :: l.drop i).length = n + 1 := by simp; omega
      rw [e]
    · rw [hW, hrl, ← hR2]
    · have e : (l.take i ++ r :: l.drop i).length = n + 1 := by simp; omega
      omega
    · have e : (l.take i ++ r :: l.drop i).length = n + 1 := by simp; omega
      rw [e, show (n + 1) * 3 = n * 3 + 3 by omega]
      show R2.take _ = _
      rw [s1, ← EC_takeR, ← EC_append, ← EC_append, List.append_assoc]
      rfl)
  have hz1' : ¬ ((i : Int) = (n : Int)) := by omega
  unfold maxLen at hc2
  have hw1 : IntKind.i64.wrap ((i : Int) + 1) = (i : Int) + 1 := by rw [IntKind.wrap_i64]; omega
  have hin : i ≤ n := by omega
  have htn : ((i : Int) + 1).toNat = i + 1 := by omega
  have hb2 : ¬ (c = i + 1) := by omega
  have hb4 : ¬ (c = i) := by omega
  have hb5 : n + 1 - (i + 1) = n - i := by omega
  have hb1 : (0 : Int) ≤ (i : Int) + 1 := by omega
  have hb3 : (i : Int) + 1 ≤ (n : Int) + 1 := by omega
  have hb6 : (i : Int) ≤ (n : Int) + 1 := by omega
  clear e22 hR1 hR2 s1 s2 s3 hct hcs hg hcell hdl h hb hLl hrl hl
  go_enter Tryd.func33, Tryd.ntmps33
  go_wp2_with (simp only [hov])
  go_region_law (refine step_copyE rfl _ _ rfl g ((i + 1) * 3) (n - i) (c - (i + 1)) ⟨g, i * 3, none⟩ (n + 1 - i) (c - i) (n - i) (by simp [Act.eval, Act.put]) (by simp [Act.eval, Act.put]) cur 29 HG.out (EC (l.drop i)) hmin1 HDl.out HCell.out HFit1.out (EC_one) ?_; intro w1 h1 h2)
  have HW1 := hid (HC1.out w1 h1 h2)
  clear h1 h2
  go_wp2_with (refine wpList_copyE rfl _ _ rfl g (i * 3) (n + 1 - i) (c - i) ⟨vb, 0, none⟩ 1 1 1 rfl rfl R1.toArray 29 HW1.out.1 (EC [r]) hmin2 rfl HW1.out.2.2 HFit2.out (EC_one) ?_)
  intro w2 h1 h2
  have h3 := HF.out w1 w2 HW1.out.2.1 (by rw [List.append_assoc]; exact h1) h2
  clear h1 h2
  go_wp2
  go_ret
  exact h3
/-- both copies of an insert into a new row -/
theorem grow_row {P Z r D : List Value} {a : Nat} (hP : P.length = a) :
    (P ++ Z).take a ++ (r ++ (P ++ Z).drop (a + r.length)) = P ++ (r ++ Z.drop r.length) ∧
    (P ++ (r ++ Z.drop r.length)).take (a + r.length) ++ (D ++ (P ++ (r ++ Z.drop r.length)).drop (a + r.length + D.length)) = P ++ (r ++ (D ++ (Z.drop r.length).drop D.length)) := by
  refine ⟨?_, ?_⟩
  · rw [List.take_left' hP, ← List.drop_drop, List.drop_left' hP]
  · have e : (P ++ r).length = a + r.length := by rw [List.length_append, hP]
    rw [← List.append_assoc P r, List.take_left' e, ← List.drop_drop (i := D.length) (j := a + r.length), List.drop_left' e, List.append_assoc]
set_option maxRecDepth 100000 in
set_option maxHeartbeats 4000000 in
theorem insGrow_any (B g n c vb i : Nat) (l : List En) (r : En) (w : World) (h : EOwn w B (.slice (some ⟨g, 0, none⟩) n c) l) (hl : l.length = n) (hi : i < n) (hroom : c < n + 1) (hnc : n ≤ c) (hb : ArgE w vb r) (hn : n ≤ 100000) (hB : B ≤ w.heap.size) :
    Calls Tryd.prog 33 #[.slice (some ⟨g, 0, none⟩) n c, .int .i64 (i : Int), .slice (some ⟨vb, 0, none⟩) 1 1] w (InsE w B (.slice (some ⟨g, 0, none⟩) n c) (l.take i ++ r :: l.drop i)) := by
  obtain ⟨i0, hi0, hz0, hz1, hz2⟩ := info_parts Tryd.infoEn
  have hrl : (EC [r]).length = 3 := rfl
  have hLl : (EC l).length = n * 3 := by rw [EC_len, hl]
  have hgl : g < w.heap.size := (h.lt g rfl).2
  have hvl : vb < w.heap.size := hb.lt
  have hcellg : ∀ j u, (EC l)[j]? = some u → w.cell? ⟨g, j, none⟩ = some u := fun j u hu => by
    have h1 := World.ownsRow.cells h (g := g) rfl j u hu
    rwa [eadd0] at h1
  have hold : (Builtin.firstCells i0.size i (.slice (some ⟨g, 0, none⟩) i c)).run Tryd.prog w.drew = .ok (EC (l.take i)).toArray w.drew := by
    rw [hz1]
    exact run_firstCells_some w.drew 3 i ⟨g, 0, none⟩ i c (EC (l.take i)) (by rw [EC_len, List.length_take]; omega) (fun j v hj => by
      rw [Addr.add_lit, Nat.zero_add]
      rw [EC_takeR, List.getElem?_take] at hj
      split at hj
      · exact hcellg j v hj
      · cases hj)
  obtain ⟨G, hG⟩ : ∃ G, grownCap w (n + 1) c 29 = G := ⟨_, rfl⟩
  obtain ⟨Z, hZ⟩ : ∃ Z : List Value, (Builtin.zeroCells (Value.agg #[.string ⟨#[]⟩, .int .i64 0, .int .i64 0]).cells (n + 1 - i)).toList ++ (Builtin.zeroCells (Value.agg #[.string ⟨#[]⟩, .int .i64 0, .int .i64 0]).cells (G - (n + 1))).toList = Z := ⟨_, rfl⟩
  have hGn : n + 1 ≤ G := by rw [← hG]; exact grownCap_ge w _ _ _
  have hG63 : G ≤ maxLen := by rw [← hG]; exact grownCap_le_maxLen w (n + 1) c 29 (by unfold maxLen; omega)
  have hzc : ∀ q, (Builtin.zeroCells (Value.agg #[.string ⟨#[]⟩, .int .i64 0, .int .i64 0]).cells q).size = q * 3 := fun q => by
    simp [Builtin.zeroCells, Value.cells]
  have hZl : Z.length = (G - i) * 3 := by
    rw [← hZ, List.length_append, Array.length_toList, Array.length_toList, hzc, hzc]; omega
  have hrz : ∀ ty, (Builtin.append_ #[25, 3] ty #[.slice (some ⟨g, 0, none⟩) i c, .int .i64 ((n : Int) + 1 - (i : Int))]).run Tryd.prog w =
      .ok (.slice (some ⟨w.heap.size, 0, none⟩) (n + 1) G) (w.drew.alloc (.cells (EC (l.take i) ++ Z).toArray 29)) := fun ty => by
    have e1 : i + (n + 1 - i) = n + 1 := by omega
    have h1 := Lib.run_append_grow_zeros w 25 3 ty 29 i0 _ .i64 .i64 Tryd.underlying25 Tryd.underlying3 hi0 hz0 (some ⟨g, 0, none⟩) i c (EC (l.take i)) hold (n + 1 - i) (by omega) (by omega) (by omega) (by omega) (by rw [hz2]; omega) (by rw [hz2, e1]; exact growslice_fits hroom (by omega))
    rw [e1, hG] at h1
    rw [show (n : Int) + 1 - (i : Int) = ((n + 1 - i : Nat) : Int) by omega, h1, ← hZ]
    congr 3
    apply Array.ext'
    simp
  have hdl : (EC (l.drop i)).length = (n - i) * 3 := by rw [EC_len, List.length_drop, hl]
  have htl : (EC (l.take i)).length = i * 3 := by rw [EC_len, List.length_take]; omega
  obtain ⟨g1, g2⟩ := grow_row (r := EC [r]) (D := EC (l.drop i)) (Z := Z) htl
  rw [hrl] at g1 g2
  obtain ⟨W1, hW1⟩ : ∃ W1, w.drew.alloc (.cells (EC (l.take i) ++ Z).toArray 29) = W1 := ⟨_, rfl⟩
  have hw1 : W1.heap[w.heap.size]? = some (.cells (EC (l.take i) ++ Z).toArray 29 (0, 0)) := by rw [← hW1]; exact Blk.new w.drew 29 _
  have hg1 : w.grownBy W1 none := by rw [← hW1]; exact only_alloc (only_drew (only_refl w none)) _
  obtain ⟨N, hN⟩ : ∃ N, w.heap.size = N := ⟨_, rfl⟩
  rw [hN] at hw1 hgl hvl
  rw [hW1, hN] at hrz
  have hcv : ∀ j u, (EC [r])[j]? = some u → W1.cell? ((⟨vb, 0, none⟩ : Addr).add j) = some u := fun j u hu => by
    rw [← argE_cells hb j u hu]
    refine World.cell?_of_block ?_
    rw [eadd0]
    exact hg1.block vb (by omega) (by simp)
  have HC1 := hid (show ∀ w1, w1.heap[N]? = some (.cells ((EC (l.take i) ++ Z).toArray.toList.take (i * 3) ++ (EC [r] ++ (EC (l.take i) ++ Z).toArray.toList.drop (i * 3 + (EC [r]).length))).toArray 29 (0, 0)) → W1.grownBy w1 (some N) → w1.drew.heap[N]? = some (.cells (EC (l.take i) ++ (EC [r] ++ Z.drop 3)).toArray 29 (0, 0)) ∧ (∀ j u, (EC (l.drop i))[j]? = some u → w1.drew.cell? ((⟨g, i * 3, none⟩ : Addr).add j) = some u) from fun w1 h1 h2 => by
    rw [hrl] at h1
    refine ⟨h1.trans ?_, fun j u hu => ?_⟩
    · show some (Obj.cells ((EC (l.take i) ++ Z).take (i * 3) ++ _).toArray _ _) = _
      rw [← g1]
    · rw [Addr.add_lit]
      have hj := (List.getElem?_eq_some_iff.1 hu).1
      rw [EC_dropR, List.getElem?_drop] at hu
      rw [← hcellg _ u hu]
      show w1.cell? _ = _
      refine World.cell?_of_block ?_
      rw [h2.block g (by have := hg1.size; omega) (by simp; omega)]
      exact hg1.block g (by omega) (by simp))
  have HF := hid (show ∀ w1 W, W1.grownBy w1 (some N) → W.heap[N]? = some (.cells ((EC (l.take i) ++ (EC [r] ++ Z.drop 3)).toArray.toList.take ((i + 1) * 3) ++ EC (l.drop i) ++ (EC (l.take i) ++ (EC [r] ++ Z.drop 3)).toArray.toList.drop ((i + 1) * 3 + (EC (l.drop i)).length)).toArray 29 (0, 0)) → w1.drew.grownBy W (some N) → InsE w B (.slice (some ⟨g, 0, none⟩) n c) (l.take i ++ r :: l.drop i) (.returned (.slice (some ⟨N, 0, none⟩) (n + 1) G)) W from fun w1 W h1 hW h2 => by
    have e : (l.take i ++ r :: l.drop i).length = n + 1 := by simp; omega
    have e2 : (EC (l.take i) ++ (EC [r] ++ Z.drop 3)).take ((i + 1) * 3) ++ EC (l.drop i) ++ (EC (l.take i) ++ (EC [r] ++ Z.drop 3)).drop ((i + 1) * 3 + (EC (l.drop i)).length) = EC (l.take i ++ r :: l.drop i) ++ (Z.drop 3).drop (EC (l.drop i)).length := by
      rw [show (i + 1) * 3 = i * 3 + 3 by omega, List.append_assoc, g2, EC_append, List.append_assoc, show r :: l.drop i = [r] ++ l.drop i from rfl, EC_append, List.append_assoc]
    refine ⟨_, rfl, ⟨by rw [EC_len], .inr ⟨N, G, _, by rw [e], by omega, hW, by omega, hG63, ?_, ?_⟩⟩, ⟨?_, ?_, ?_, ?_, fun k hk hkg => ?_⟩, fun k hk => .inr (by
      have e5 : N = k := (by injection hk)
      omega)⟩
    · show (_ : List Value).length = _
      show ((EC (l.take i) ++ (EC [r] ++ Z.drop 3)).take ((i + 1) * 3) ++ EC (l.drop i) ++ (EC (l.take i) ++ (EC [r] ++ Z.drop 3)).drop ((i + 1) * 3 + (EC (l.drop i)).length)).length = _
      rw [e2, List.length_append, EC_len, e, List.length_drop, List.length_drop, hZl, hdl]; omega
    · show ((EC (l.take i) ++ (EC [r] ++ Z.drop 3)).take ((i + 1) * 3) ++ EC (l.drop i) ++ (EC (l.take i) ++ (EC [r] ++ Z.drop 3)).drop ((i + 1) * 3 + (EC (l.drop i)).length)).take _ = _
      rw [e2, List.take_left' (by rw [EC_len])]
    · exact h2.os.trans (h1.os.trans hg1.os)
    · exact h2.tape.trans (h1.tape.trans hg1.tape)
    · exact h2.output.trans (h1.output.trans hg1.output)
    · exact Nat.le_trans hg1.size (Nat.le_trans h1.size h2.size)
    · have hkN : some k ≠ some N := by simp; omega
      have s1 := hg1.size
      have s2 := h1.size
      rw [h2.block k (by show k < w1.heap.size; omega) hkN]
      show w1.heap[k]? = _
      rw [h1.block k (by omega) hkN]
      exact hg1.block k hk (by simp))
  have hz1' : ¬ ((i : Int) = (n : Int)) := by omega
  unfold maxLen at hG63
  have hw1' : IntKind.i64.wrap ((i : Int) + 1) = (i : Int) + 1 := by rw [IntKind.wrap_i64]; omega
  have hin : i ≤ n := by omega
  have hcn : c = n := by omega
  subst hcn
  have hw2' : IntKind.i64.wrap ((c : Int) + 1) = (c : Int) + 1 := by rw [IntKind.wrap_i64]; omega
  have hz3 : ((c : Int) < (c : Int) + 1) := by omega
  have htn : ((i : Int) + 1).toNat = i + 1 := by omega
  have hb1 : (0 : Int) ≤ (i : Int) + 1 := by omega
  have hb2 : (i : Int) + 1 ≤ (c : Int) + 1 := by omega
  have hb3 : (i : Int) ≤ (c : Int) + 1 := by omega
  have hb4 : ¬ (c = i) := by omega
  have hb5 : ¬ (G = i) := by omega
  have hb6 : ¬ (G = i + 1) := by omega
  have hb7 : (i : Int) ≤ (c : Int) := by omega
  have hb8 : c + 1 - (i + 1) = c - i := by omega
  have hmin1 : Nat.min 1 (c + 1 - i) = 1 := by simp only [Nat.min_def]; split <;> omega
  have hmin2 : Nat.min (c - i) (c - i) = c - i := Nat.min_self _
  have HRow := hid hw1
  have HCv := hid hcv
  have HDl := hid hdl
  have HFit1 := hid (show i * 3 + (EC [r]).length ≤ (EC (l.take i) ++ Z).toArray.size from by rw [List.size_toArray, List.length_append, htl, hZl, hrl]; omega)
  have HFit2 := hid (show (i + 1) * 3 + (EC (l.drop i)).length ≤ (EC (l.take i) ++ (EC [r] ++ Z.drop 3)).toArray.size from by rw [List.size_toArray, List.length_append, List.length_append, htl, hrl, List.length_drop, hZl, hdl]; omega)
  clear hold hG hZ hzc hZl g1 g2 hW1 hw1 hg1 hcv hdl htl hrl hLl hcellg h hb hB hl hgl hvl hN hz0 hz1 hz2 hi0 hGn
  go_enter Tryd.func33, Tryd.ntmps33
  go_wp2_with (first
    | (at_builtin; refine Lib.wpList_append_run _ rfl _ _ _ _ rfl _ _ rfl rfl _ _ (hrz _) ?_)
    | (refine wpList_copyE rfl _ _ rfl N (i * 3) (c + 1 - i) (G - i) ⟨vb, 0, none⟩ 1 1 1 rfl rfl (EC (l.take i) ++ Z).toArray 29 HRow.out (EC [r]) hmin1 rfl HCv.out HFit1.out (EC_one) ?_))
  intro w1 h1 h2
  have HW1 := hid (HC1.out w1 (by first | exact h1 | (rw [List.append_assoc]; exact h1)) h2)
  have HG1 := hid h2
  clear h1 h2
  go_wp2_with fail
  go_region_law (refine step_copyE rfl _ _ rfl N ((i + 1) * 3) (c - i) (G - (i + 1)) ⟨g, i * 3, none⟩ (c - i) (c - i) (c - i) (by simp [Act.eval, Act.put]) (by simp [Act.eval, Act.put]) (EC (l.take i) ++ (EC [r] ++ Z.drop 3)).toArray 29 HW1.out.1 (EC (l.drop i)) hmin2 HDl.out HW1.out.2 HFit2.out (EC_one) ?_; intro w2 h1 h2)
  have h3 := HF.out w1 w2 HG1.out (by first | exact h1 | (rw [List.append_assoc]; exact h1)) h2
  clear h1 h2
  go_wp2
  go_ret
  exact h3
theorem insertE_any (v : Value) (B vb i : Nat) (l : List En) (r : En) (w : World) (h : EOwn w B v l) (hn : l.length ≤ 100000) (hB : B ≤ w.heap.size) (hb : ArgE w vb r) (hv : ∀ k, v.ownBlock = some k → vb ≠ k) (hi : i ≤ l.length) :
    Calls Tryd.prog 33 #[v, .int .i64 (i : Int), .slice (some ⟨vb, 0, none⟩) 1 1] w (InsE w B v (l.take i ++ r :: l.drop i)) := by
  by_cases he : i = l.length
  · subst he
    rw [List.take_length, List.drop_length]
    exact insEnd_any v B vb l r w h hn hB hb
  · obtain ⟨A, n, c, rfl, hln, hnc, _, hnil, hat⟩ := h.formK
    cases A with
    | none => have := (hnil rfl).1; omega
    | some ad =>
      obtain ⟨g, rfl, _⟩ := hat ad rfl
      by_cases hr : n + 1 ≤ c
      · exact insShift_any B g n c vb i l r w h hln (by omega) hr hb (hv g rfl)
      · exact insGrow_any B g n c vb i l r w h hln (by omega) (by omega) hnc hb (by omega) hB
end Go.Proofs.YtcjiimfgmmgifaaDoor
