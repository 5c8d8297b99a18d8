/- slices.Delete at entries, one of them taken out; package dir's Set. -/
import Derived.Deep.RegionLaw
import Derived.RegionTactic
import Derived.Lib.SliceRun
import Derived.Test.YtcjiimfgmmgifaaDoorGDrD
namespace Go.Proofs.YtcjiimfgmmgifaaDoor
open Go.RowKit Go.Shelf Go.Sort

theorem eblk_setCells {g : Nat} {t : TypeId} {B : List Value} : ∀ (new old A : List Value) (w : World), old.length = new.length → Blk w g t (A ++ (old ++ B)).toArray → Blk (w.setCells g A.length new) g t (A ++ (new ++ B)).toArray
  | [], old, A, w, hl, h => by
    obtain rfl := List.eq_nil_of_length_eq_zero hl
    exact h
  | v :: vs, old, A, w, hl, h => by
    rcases old with _ | ⟨u, us⟩
    · simp at hl
    · have h1 := Blk.put h A.length v
      have e : (A ++ (u :: us ++ B)).toArray.setIfInBounds A.length v = (A ++ [v] ++ (us ++ B)).toArray := by
        simp only [List.setIfInBounds_toArray, List.cons_append]
        rw [List.set_append_right _ _ (Nat.le_refl _), Nat.sub_self, List.set_cons_zero]
        simp
      rw [e] at h1
      have h2 := eblk_setCells vs us (A ++ [v]) _ (by simpa using hl) h1
      rw [List.length_append] at h2
      have e2 : A ++ [v] ++ (vs ++ B) = A ++ (v :: vs ++ B) := by simp
      rw [e2] at h2
      exact h2
theorem esize_setCells (g : Nat) : ∀ (vs : List Value) (o : Nat) (w : World), (w.setCells g o vs).heap.size = w.heap.size
  | [], _, _ => rfl
  | v :: vs, o, w => by
    show ((w.setCell ⟨g, o, none⟩ v).setCells g (o + 1) vs).heap.size = _
    rw [esize_setCells g vs]; simp [World.setCell]
theorem eonly_setCells {a w : World} {g : Nat} (h : a.grownBy w (some g)) : ∀ (vs : List Value) (o : Nat), a.grownBy (w.setCells g o vs) (some g) := by
  intro vs
  induction vs generalizing w with
  | nil => intro o; exact h
  | cons v vs ih => intro o; exact ih (only_put h o v) (o + 1)
/-! one number out of a Ref -/
abbrev RowE (w : World) (g : Nat) (M : List En) (T : List Value) : Prop := Blk w g 29 (EC M ++ T).toArray
abbrev zeroE : List Value := [.string ⟨#[]⟩, .int .i64 0, .int .i64 0]
theorem eown_row {w : World} {B n cap g : Nat} {l : List En} (h : EOwn w B (.slice (some ⟨g, 0, none⟩) n cap) l) : ∃ T, RowE w g l T ∧ n = l.length ∧ n ≤ cap ∧ cap ≤ maxLen ∧ B ≤ g ∧ (EC l ++ T).length = cap * 3 := by
  rcases h.2 with ⟨h', _⟩ | ⟨g', cap', cur, h', hb, hg, h1, h2, h3, h4⟩
  · cases h'
  · cases h'
    have e : cur = (EC l ++ cur.toList.drop (l.length * 3)).toArray := by
      apply Array.ext'
      rw [← h4]
      simp
    refine ⟨cur.toList.drop (l.length * 3), ?_, rfl, h1, h2, hb, ?_⟩
    · unfold RowE Blk
      rw [← e]
      exact hg
    · have := congrArg Array.size e
      rw [h3] at this
      rw [this]
      simp
theorem row_eown {w : World} {B n cap g : Nat} {l : List En} {T : List Value} (h : RowE w g l T) (hl : l.length = n) (hn : n ≤ cap) (hm : cap ≤ maxLen) (hB : B ≤ g) (hs : (EC l ++ T).length = cap * 3) : EOwn w B (.slice (some ⟨g, 0, none⟩) n cap) l := by
  subst hl
  refine ⟨EC_len l, .inr ⟨g, cap, _, rfl, hB, h, hn, hm, by simpa using hs, ?_⟩⟩
  show ((EC l ++ T).toArray.toList).take _ = _
  rw [show (EC l ++ T).toArray.toList = EC l ++ T from rfl, List.take_left' (EC_len l)]
theorem run_clear_one (w : World) (g o c : Nat) (ty : TypeId) (hc : ∀ j, j < 3 → (w.cell? ⟨g, o + j, none⟩).isSome = true) (hf : ∀ j, j < 3 → w.frozen? ⟨g, o + j, none⟩ = false) :
    (Builtin.clear_ #[25] ty #[.slice (some ⟨g, o, none⟩) 1 c]).run Tryd.prog w = .ok (.tuple #[]) (w.setCells g o zeroE) := by
  have hst := run_storeCells_cells (P := Tryd.prog) g o zeroE 0 w (by simpa using hc) (by simpa using hf) (by intro v hv; simp at hv; rcases hv with rfl | rfl | rfl <;> rfl)
  simp only [Nat.add_zero] at hst
  have hv : ∀ W, (zeroValue 29).run Tryd.prog W = .ok (.agg #[.string ⟨#[]⟩, .int .i64 0, .int .i64 0]) W := fun W => Tryd.zeroValue29 W
  have hz : (Builtin.zeroCells (Value.agg #[.string ⟨#[]⟩, .int .i64 0, .int .i64 0]).cells 1).toList = zeroE := by kernel_rfl
  simp [Builtin.clear_, run_underlying Tryd.underlying25, hv, hz, hst]
/-- what is left where the i-th is taken out -/
theorem cut_cells (l : List En) (i : Nat) (hi : i < l.length) (T : List Value) : EC l ++ T = EC (l.take i) ++ (EC (l.drop i) ++ T) ∧ (EC (l.drop (i + 1))).length = (l.length - (i + 1)) * 3 ∧ ∃ a b c, EC (l.drop i) = [a, b, c] ++ EC (l.drop (i + 1)) := by
  refine ⟨?_, by rw [EC_len, List.length_drop], ?_⟩
  · rw [← List.append_assoc, ← EC_append, List.take_append_drop]
  · rw [List.drop_eq_getElem_cons hi]
    exact ⟨_, _, _, rfl⟩
set_option maxRecDepth 100000 in
set_option maxHeartbeats 4000000 in
theorem deleteE_any (B g n c i : Nat) (l : List En) (w : World) (h : EOwn w B (.slice (some ⟨g, 0, none⟩) n c) l) (hl : l.length = n) (hi : i < n) (hn : n ≤ 100000) :
    Calls Tryd.prog 34 #[.slice (some ⟨g, 0, none⟩) n c, .int .i64 (i : Int), .int .i64 ((i : Int) + 1)] w fun e w' => e = .returned (.slice (some ⟨g, 0, none⟩) (n - 1) c) ∧ EOwn w' B (.slice (some ⟨g, 0, none⟩) (n - 1) c) (l.take i ++ l.drop (i + 1)) ∧ w.grownBy w' (some g) := by
  obtain ⟨i0, hi0, hz0, hz1, hz2⟩ := info_parts Tryd.infoEn
  obtain ⟨T, hrow, hn9, hnc, hcm, hBg, hsz⟩ := eown_row h
  clear hn9
  obtain ⟨hcut, hml, x, y, z, hxyz⟩ := cut_cells l i (by omega) T
  obtain ⟨M, hM⟩ : ∃ M, EC (l.drop (i + 1)) = M := ⟨_, rfl⟩
  rw [hM] at hxyz hml
  have hpl : (EC (l.take i)).length = i * 3 := by rw [EC_len, List.length_take]; omega
  have hMl : M.length = (n - (i + 1)) * 3 := by rw [hml, hl]
  have hrow2 : Blk w g 29 (EC (l.take i) ++ (([x, y, z] ++ M) ++ T)).toArray := by rw [← hxyz, ← hcut]; exact hrow
  have hcell : ∀ q, w.cell? ⟨g, q, none⟩ = (EC (l.take i) ++ (([x, y, z] ++ M) ++ T))[q]? := fun q => by rw [hrow2.cell q]; simp
  have hlen : (EC (l.take i) ++ (([x, y, z] ++ M) ++ T)).length = c * 3 := by rw [← hxyz, ← hcut]; exact hsz
  have hsrc : ∀ A : Addr, A = ⟨g, (i + 1) * 3, none⟩ ∨ M = [] → ∀ j u, M[j]? = some u → w.drew.cell? (A.add j) = some u := by
    rintro A (rfl | hnil) j u hu
    · rw [Addr.add_lit]
      show w.cell? _ = _
      have hj := (List.getElem?_eq_some_iff.1 hu).1
      rw [hcell, List.getElem?_append_right (by omega), hpl, List.getElem?_append_left (by simp; omega), List.getElem?_append_right (by simp; omega), ← hu]
      congr 1
      simp
      omega
    · rw [hnil] at hu; simp at hu
  have HSrc := hid hsrc
  have HM1 := hid (show ∀ u ∈ M, u.oneCell' = true from by rw [← hM]; exact EC_one)
  have HMl := hid hMl
  have hsp : ∀ j, j < M.length → (w.drew.cell? ⟨g, 0 + i * 3 + j, none⟩).isSome = true ∧ w.drew.frozen? ⟨g, 0 + i * 3 + j, none⟩ = false := fun j hj => by
    refine ⟨?_, Blk.free (show Blk w.drew g _ _ from hrow2) _⟩
    show (w.cell? _).isSome = true
    rw [hcell, List.getElem?_eq_getElem (by rw [hlen]; omega)]
    rfl
  have HSp := hid hsp
  obtain ⟨old, R3, hor, hol⟩ : ∃ old R3 : List Value, [x, y, z] ++ M = old ++ R3 ∧ old.length = M.length := ⟨([x, y, z] ++ M).take M.length, ([x, y, z] ++ M).drop M.length, (List.take_append_drop _ _).symm, by rw [List.length_take]; simp; omega⟩
  have hR3 : R3.length = 3 := by have := congrArg List.length hor; simp at this; omega
  obtain ⟨W1, hW1⟩ : ∃ W1, w.drew.setCells g (0 + i * 3) M = W1 := ⟨_, rfl⟩
  have hb1 : Blk W1 g 29 (EC (l.take i) ++ (M ++ (R3 ++ T))).toArray := by
    rw [← hW1, Nat.zero_add, ← hpl]
    refine eblk_setCells M old _ _ hol ?_
    rw [← List.append_assoc old, ← hor]
    exact hrow2
  have hg1 : w.grownBy W1 (some g) := by rw [← hW1]; exact eonly_setCells (only_drew (only_refl w (some g))) _ _
  have hml3 : (EC (l.take i) ++ M).length = (n - 1) * 3 := by rw [List.length_append, hpl, hMl]; omega
  have hb1' : Blk W1 g 29 ((EC (l.take i) ++ M) ++ (R3 ++ T)).toArray := by rw [List.append_assoc]; exact hb1
  have hlen1 : ((EC (l.take i) ++ M) ++ (R3 ++ T)).length = c * 3 := by
    rw [← hlen, hor]; simp [hol]
  have HCl := hid (show ∀ ty, (Builtin.clear_ #[25] ty #[.slice (some ⟨g, (n - 1) * 3, none⟩) 1 (c - (n - 1))]).run Tryd.prog W1 = .ok (.tuple #[]) (W1.setCells g ((n - 1) * 3) zeroE) from fun ty => run_clear_one W1 g _ _ ty (fun j hj => by
    rw [hb1'.cell]
    simp only [List.getElem?_toArray]
    rw [List.getElem?_eq_getElem (by rw [hlen1]; omega)]
    rfl) (fun j hj => hb1'.free _))
  have hb2 : Blk (W1.setCells g ((n - 1) * 3) zeroE) g 29 ((EC (l.take i) ++ M) ++ (zeroE ++ T)).toArray := by
    rw [← hml3]
    exact eblk_setCells zeroE R3 _ _ hR3 hb1'
  have HF := hid (show EOwn (W1.setCells g ((n - 1) * 3) zeroE) B (.slice (some ⟨g, 0, none⟩) (n - 1) c) (l.take i ++ l.drop (i + 1)) ∧ w.grownBy (W1.setCells g ((n - 1) * 3) zeroE) (some g) from by
    refine ⟨row_eown (T := zeroE ++ T) ?_ ?_ (by omega) hcm hBg ?_, eonly_setCells hg1 _ _⟩
    · unfold RowE
      rw [EC_append, hM]
      exact hb2
    · rw [List.length_append, List.length_take, List.length_drop, hl]; omega
    · rw [EC_append, hM]
      have h5 := hlen1
      simp only [List.length_append] at h5 ⊢
      rw [hR3] at h5
      simp
      omega)
  have HW1 := hid hW1
  have hi1 : (i : Int) ≤ (i : Int) + 1 := by omega
  have hi2 : (i : Int) + 1 ≤ (n : Int) := by omega
  have hi3 : ¬ ((i : Int) = (i : Int) + 1) := by omega
  have hi4 : (i : Int) ≤ (n : Int) := by omega
  have hi5 : (0 : Int) ≤ (i : Int) + 1 := by omega
  have hi6 : i + (n - (i + 1)) = n - 1 := by omega
  have hi7 : n - (n - 1) = 1 := by omega
  have htn : ((i : Int) + 1).toNat = i + 1 := by omega
  have hic : i ≤ c := by omega
  have hcn : n - 1 ≤ c := by omega
  have hcn1 : ¬ (c = n - 1) := by omega
  unfold maxLen at hcm
  clear h hrow hcut hml hxyz hM hrow2 hcell hlen hsrc hsp hor hol hR3 hW1 hb1 hg1 hml3 hb1' hlen1 hb2 hpl hMl hsz hl
  by_cases hci : c = i + 1
  · have hnn : n = i + 1 := by omega
    have hM0 : M = [] := List.eq_nil_of_length_eq_zero (by rw [HMl.out, hnn]; omega)
    subst hci
    subst hnn
    have hcl := HCl.out
    simp only [Nat.add_sub_cancel, Nat.add_sub_cancel_left] at hcl
    go_enter Tryd.func34, Tryd.ntmps34
    go_wp2_with fail
    go_region_law (refine step_append_room rfl (.tmp 22) (.tmp 25) 25 rfl 29 i0 3 Tryd.underlying25 hi0 hz1 g 0 i (i + 1) (by simp [Act.eval, Act.put]) ⟨g, 0, none⟩ 0 0 M (by simp [Act.eval, Act.put]) (by rw [hM0]; rfl) (HSrc.out _ (.inr hM0)) HM1.out (by omega) HSp.out ?_; rw [HW1.out])
    go_wp2
    go_ret
    exact ⟨rfl, HF.out⟩
  · have hcl := HCl.out
    go_enter Tryd.func34, Tryd.ntmps34
    go_wp2_with fail
    go_region_law (refine step_append_room rfl (.tmp 22) (.tmp 25) 25 rfl 29 i0 3 Tryd.underlying25 hi0 hz1 g 0 i c (by simp [Act.eval, Act.put]) ⟨g, (i + 1) * 3, none⟩ (n - (i + 1)) (c - (i + 1)) M (by simp [Act.eval, Act.put]) HMl.out (HSrc.out _ (.inl rfl)) HM1.out (by omega) HSp.out ?_; rw [HW1.out])
    go_wp2
    go_ret
    exact ⟨rfl, HF.out⟩
end Go.Proofs.YtcjiimfgmmgifaaDoor
