/- Package geo's Paired, the document's list search and its geometry; the chapter's example. -/
import Derived.Test.YtndbanfkiaockaaDoorGGeo
import Derived.Test.YtndbanfkiaockaaDoorGRow
import Derived.Maps.OwnSet
namespace Go.Proofs.YtndbanfkiaockaaDoor
open Go.RowKit Go.Maps

def amB (l : List Int) (m : Int) : Bool := decide (m ∈ l)
def pairB (H : Int) (l : List Int) : Bool := l.any fun x => mirB H x && amB l (prt H x)
theorem mir_iff {H x : Int} : mirB H x = true ↔ 0 ≤ x ∧ x < 2 * H := by unfold mirB; simp
theorem prt_mir {H x : Int} (h : mirB H x = true) : mirB H (prt H x) = true ∧ prt H (prt H x) = x ∧ prt H x ≠ x ∧ 0 ≤ prt H x ∧ prt H x < 2 * H := by
  obtain ⟨h0, h1⟩ := mir_iff.1 h
  by_cases h2 : x < H
  · have e : prt H x = x + H := by unfold prt; rw [if_pos ⟨h0, h2⟩]
    rw [e]
    exact ⟨mir_iff.2 (by omega), by unfold prt; rw [if_neg (by omega), if_pos (by omega)]; omega, by omega, by omega, by omega⟩
  · have e : prt H x = x - H := by unfold prt; rw [if_neg (by omega), if_pos (by omega)]
    rw [e]
    exact ⟨mir_iff.2 (by omega), by unfold prt; rw [if_pos (by omega)]; omega, by omega, by omega, by omega⟩
def NoPair (H : Int) (l : List Int) : Prop := ∀ x, x ∈ l → mirB H x = true → prt H x ∉ l
theorem NoPair.nil (H : Int) : NoPair H [] := fun x h => by cases h
theorem NoPair.more {H x : Int} {l : List Int} (h : NoPair H l) (hx : mirB H x = true → prt H x ∉ l) : NoPair H (l ++ [x]) := by
  intro y hy hm hp
  rcases List.mem_append.1 hy with hy | hy
  · rcases List.mem_append.1 hp with hp | hp
    · exact h y hy hm hp
    · simp at hp
      have := prt_mir hm
      have hmx : mirB H x = true := hp ▸ this.1
      exact hx hmx (by rw [← hp, this.2.1]; exact hy)
  · simp at hy
    subst hy
    rcases List.mem_append.1 hp with hp | hp
    · exact hx hm hp
    · simp at hp
      exact (prt_mir hm).2.2.1 hp
theorem NoPair.no {H : Int} {l : List Int} (h : NoPair H l) : pairB H l = false := by
  unfold pairB
  rw [List.any_eq_false]
  intro x hx hc
  simp only [Bool.and_eq_true, amB, decide_eq_true_eq] at hc
  exact h x hx hc.1 hc.2
theorem pair_yes {H x : Int} {l : List Int} {k j : Nat} (hx : l[k]? = some x) (hm : mirB H x = true) (hp : prt H x ∈ l.take j) : pairB H l = true := by
  unfold pairB
  rw [List.any_eq_true]
  exact ⟨x, List.mem_of_getElem? hx, by simp only [Bool.and_eq_true, amB, decide_eq_true_eq]; exact ⟨hm, List.mem_of_mem_take hp⟩⟩

/-- the blocks that were met, as a map's datum -/
structure Met (H : Int) (D : DataW Unit) (l : List Int) : Prop where
  isMap : IsMap D
  has : ∀ z : Int, Maps.has D (.int .i64 z) = (amB l z && mirB H z)
theorem Met.nil (H : Int) : Met H (.map []) [] := ⟨⟨_, rfl⟩, fun z => by simp [amB, Maps.has]⟩
theorem Met.more {H x : Int} {D : DataW Unit} {l : List Int} (h : Met H D l) (hm : mirB H x = true) : Met H (D.put (.int .i64 x) (.agg [])) (l ++ [x]) := by
  refine ⟨IsMap.put h.isMap _ _, fun z => ?_⟩
  by_cases e : z = x
  · subst e
    rw [has_put_same h.isMap (show WideAt.IsKeyLit (.int .i64 z) from trivial), hm]
    simp [amB]
  · rw [has_put_other (by intro e'; apply e; simpa using e'), h.has]
    have : amB (l ++ [x]) z = amB l z := by simp [amB, e]
    rw [this]
theorem Met.skip {H x : Int} {D : DataW Unit} {l : List Int} (h : Met H D l) (hm : mirB H x = false) : Met H D (l ++ [x]) := by
  refine ⟨h.isMap, fun z => ?_⟩
  rw [h.has]
  by_cases e : z = x
  · subst e; rw [hm]; simp
  · have : amB (l ++ [x]) z = amB l z := by simp [amB, e]
    rw [this]
theorem am_take {l : List Int} {m : Int} {k : Nat} (hk : l.length ≤ k) (h : m ∉ l.take k) : amB l m = false := by
  rw [List.take_of_length_le hk] at h
  simp [amB, h]
theorem am_at {l : List Int} {m x : Int} {k : Nat} (hx : l[k]? = some x) (h : x = m) : amB l m = true := by
  subst h
  simp [amB, List.mem_of_getElem? hx]

set_option maxHeartbeats 1000000 in
theorem among_any (A : Option Addr) (n c : Nat) (l : List Int) (m : Int) (B : Nat) (w : World) (h : Sn w B A n c l) :
    Calls Tryd.prog 44 #[.slice A n c, .int .i64 m] w fun e w' => e = .returned (.bool (amB l m)) ∧ w = w' := by
  have HS := hid h
  have hmx : n ≤ 9223372036854775807 := by have := h.cap; have := h.max; unfold maxLen at this; omega
  clear h
  go_enter Tryd.func44, Tryd.ntmps44
  go_wp2
  go_loop [5] (fun i => ∃ k : Nat, k ≤ n ∧ i = .int .i64 (k : Int) ∧ m ∉ l.take k) (fun i => n - (intOf i).toNat)
  case atStart => exact ⟨0, Nat.zero_le _, rfl, by simp⟩
  case round =>
    obtain ⟨k, hk, rfl, ht⟩ := hrel
    have HT := hid ht
    clear ht
    by_cases hlt : k < n
    · obtain ⟨ad, x, rfl, hbl, hx, hc⟩ := HS.out.get hlt
      have HX := hid hx
      clear hx hbl
      by_cases hxm : x = m
      · have hb : (x == m) = true := by rw [beq_iff_eq]; exact hxm
        have HR := hid (am_at HX.out hxm)
        clear hxm
        go_wp2
        go_ret
        rw [HR.out]
        exact ⟨rfl, rfl⟩
      · have hb : (x == m) = false := by rw [beq_eq_false_iff_ne]; exact hxm
        have HN := hid hxm
        clear hxm
        go_wp2
        go_round
        case rel => exact ⟨k + 1, by omega, by go_num, by rw [take_next HX.out]; simp [HT.out, Ne.symm HN.out]⟩
        case measure => simp [intOf]; omega
    · have HR := hid (am_take (by have := HS.out.len; omega) HT.out)
      go_wp2
      go_ret
      rw [HR.out]
      exact ⟨rfl, rfl⟩
theorem refGeo_ok (n : Int) (w : World) (h1 : 300 ≤ n) (h2 : n ≤ 6000) :
    Calls Tryd.prog 41 #[.int .i64 n] w fun e w' => e = .returned (.tuple #[gv n (hal n), .int .i64 0]) ∧ Below w.heap.size w w' := by
  have g1 : decide (n < 300) = false := by simp; omega
  have g2 : decide (6000 < n) = false := by simp; omega
  rcases Int.lt_or_le 512 (n / 4) with g3 | g3
  · rw [show hal n = 512 by unfold hal; omega]
    go_enter Tryd.func41, Tryd.ntmps41
    go_wp2
    exact bodyPost_ret (v := .tuple #[.agg #[.int .i64 n, .int .i64 512], .int .i64 0]) (by simp [results, Tryd.results41, go_sem]) rfl ⟨rfl, (Below.refl _ _).alloc (Nat.le_refl _) _⟩
  · rw [show hal n = n / 4 by unfold hal; omega]
    go_enter Tryd.func41, Tryd.ntmps41
    go_wp2
    exact bodyPost_ret (v := .tuple #[.agg #[.int .i64 n, .int .i64 (n / 4)], .int .i64 0]) (by simp [results, Tryd.results41, go_sem]) rfl ⟨rfl, (Below.refl _ _).alloc (Nat.le_refl _) _⟩
theorem refGeo_bad (n : Int) (w : World) (h : n < 300 ∨ 6000 < n) :
    Calls Tryd.prog 41 #[.int .i64 n] w fun e w' => e = .returned (.tuple #[gv 0 0, .int .i64 103]) ∧ Below w.heap.size w w' := by
  have hc : decide (n < 300) = true ∨ (decide (n < 300) = false ∧ decide (6000 < n) = true) := by
    by_cases h1 : n < 300
    · exact .inl (by simpa using h1)
    · exact .inr ⟨by simpa using h1, by simp; omega⟩
  clear h
  rcases hc with g1 | ⟨g1, g2⟩
  all_goals
    go_enter Tryd.func41, Tryd.ntmps41
    go_wp2
    exact bodyPost_ret (v := .tuple #[.agg #[.int .i64 0, .int .i64 0], .int .i64 103]) (by simp [results, Tryd.results41, go_sem]) rfl ⟨rfl, (Below.refl _ _).alloc (Nat.le_refl _) _⟩
theorem hal_gm {n : Int} (h1 : 300 ≤ n) (h2 : n ≤ 6000) : Gm n (hal n) := by unfold hal; exact ⟨by omega, by omega, h2⟩
theorem gm0 : Gm 0 0 := ⟨by omega, by omega, by omega⟩
theorem first4_any (w : World) :
    Calls Tryd.prog 39 #[] w (Yes w) := by
  go_enter Tryd.func39, Tryd.ntmps39
  go_wp2_with fail
  refine (of_ok 400 _ (by omega) (by omega)).mono ?_
  rw [show hal 400 = 100 by decide]
  rintro e w1 ⟨rfl, hb1⟩
  have HB1 := hid hb1
  clear hb1
  go_wp2
  go_ret
  exact ⟨rfl, HB1.out.alloc HB1.out.size _⟩
/-- a boxed geometry's cells -/
theorem gcells {w : World} {g : Nat} {B H : Int} (h : Blk w g 60 #[.int .i64 B, .int .i64 H]) : w.cell? ⟨g, 0, none⟩ = some (.int .i64 B) ∧ w.cell? ⟨g, 1, none⟩ = some (.int .i64 H) := ⟨h.cell 0, h.cell 1⟩
theorem law4 : Keyed Tryd.prog 3 := int_keyed Tryd.underlying3
theorem key4 {x : Int} (h : -9223372036854775808 ≤ x ∧ x ≤ 9223372036854775807) : keyOf Tryd.prog 3 (.int .i64 x) = some (.int .i64 x) := keyOf_int_mk Tryd.underlying3 (WalkArith.wf_i64 h)
theorem Tryd.zeroUnit (w : World) : (zeroValue 99).run Tryd.prog w = .ok (.agg #[]) w := by kernel_rfl
set_option maxRecDepth 100000 in
set_option maxHeartbeats 2000000 in
theorem paired_any (B H : Int) (A : Option Addr) (n c : Nat) (l : List Int) (w : World) (hg : Gm B H) (h : Sn w w.heap.size A n c l) (hw : Wide l) :
    Calls Tryd.prog 50 #[gv B H, .slice A n c] w fun e w' => e = .returned (.bool (pairB H l)) ∧ Below w.heap.size w w' := by
  have HG := hid hg
  have HS := hid h
  have HW := hid hw
  have HGe := hid hg.hB
  have HG6 := hid hg.b
  have hmx : n ≤ 9223372036854775807 := by have := h.cap; have := h.max; unfold maxLen at this; omega
  have HM := hid (show n < maxLen + 1 by have := h.cap; have := h.max; omega)
  have hmm := @run_makeMap Tryd.prog
  clear h hg hw
  go_enter Tryd.func50, Tryd.ntmps50
  go_wp2
  have h1 := Blk.new w 60 #[.int .i64 B, .int .i64 H]
  have h2 := (h1.alloc (.map #[] 0))
  have h3 : ((w.alloc (Obj.cells #[.int .i64 B, .int .i64 H] 60)).alloc (.map #[] 0)).ownsMap (H := Unit) Tryd.prog 3 unitElem (w.heap.size + 1) 0 (.map []) := by
    have := World.ownsMap_made (H := Unit) (w.alloc (Obj.cells #[.int .i64 B, .int .i64 H] 60)) Tryd.prog 3 unitElem
    rw [show (w.alloc (Obj.cells #[.int .i64 B, .int .i64 H] 60)).heap.size = w.heap.size + 1 by simp] at this
    exact this
  have h4 : Below w.heap.size w ((w.alloc (Obj.cells #[.int .i64 B, .int .i64 H] 60)).alloc (.map #[] 0)) := ((Below.refl _ _).alloc (Nat.le_refl _) _).alloc (by simp) _
  generalize ((w.alloc (Obj.cells #[.int .i64 B, .int .i64 H] 60)).alloc (.map #[] 0)) = w2 at h2 h3 h4 ⊢
  have HBk := hid h2
  have HO := hid h3
  have HB := hid h4
  obtain ⟨g, hg⟩ : ∃ g, w.heap.size = g := ⟨_, rfl⟩
  obtain ⟨M, hM⟩ : ∃ M, g + 1 = M := ⟨_, rfl⟩
  rw [hg] at HBk HO HB HS ⊢
  rw [hM] at HO ⊢
  have HgM := hid hM
  have Hg := hid hg
  clear h1 h2 h3 h4 hmm hg hM
  go_loopw [15] (fun i wr => ∃ (k : Nat) (D : DataW Unit), k ≤ n ∧ i = .int .i64 (k : Int) ∧ wr.ownsMap Tryd.prog 3 unitElem M k D ∧ Met H D (l.take k) ∧ NoPair H (l.take k) ∧ w2.grownBy wr (some M)) (fun i _ => n - (intOf i).toNat)
  case atStart => exact ⟨0, _, Nat.zero_le _, rfl, HO.out, by simpa using Met.nil H, by simpa using NoPair.nil H, only_refl _ _⟩
  case round =>
    obtain ⟨k, D, hk, rfl, ho, hm, hn, hgr⟩ := hrel
    have HO1 := hid ho
    have HMt := hid hm
    have HNp := hid hn
    have HGr := hid hgr
    have HBr := hid (show Below g w wr from HB.out.trans (below_only hgr (by have := HgM.out; omega) (by have := HB.out.size; have := Hg.out; omega)))
    clear ho hm hn hgr
    by_cases hlt : k < n
    · obtain ⟨ad, x, rfl, hbl, hx, hc⟩ := (HS.out.below HBr.out).get hlt
      have HX := hid hx
      have hbx := HW.out.at_ hx
      have HKx := hid (key4 hbx)
      obtain ⟨k0, k1⟩ : wr.cell? ⟨g, 0, none⟩ = some (.int .i64 B) ∧ wr.cell? ⟨g, 1, none⟩ = some (.int .i64 H) :=
        ⟨(HBk.out.grown HGr.out (by have := HgM.out; simp; omega)).cell 0, (HBk.out.grown HGr.out (by have := HgM.out; simp; omega)).cell 1⟩
      clear hx hbl hbx
      rcases hmir : mirB H x with _ | _
      · have HMi := hid hmir
        go_wp2_with fail
        refine (partner_any B H x _ HG.out).mono ?_
        rintro e w3 ⟨rfl, hb3⟩
        rw [HMi.out]
        have HO3 := hid (HO1.out.kept (only_below hb3 none) (by simp))
        have HGr3 := hid (only_trans HGr.out (only_below hb3 _))
        clear hb3 hmir
        go_wp2
        go_roundw
        case rel => exact ⟨k + 1, D, by omega, by go_num, HO3.out.mono (Nat.le_succ _), by rw [take_next HX.out]; exact HMt.out.skip HMi.out, by rw [take_next HX.out]; exact HNp.out.more (fun h => by rw [HMi.out] at h; cases h), HGr3.out⟩
        case measure => simp [intOf]; omega
      · have HMi := hid hmir
        have hpr := prt_mir hmir
        have HKp := hid (key4 (x := prt H x) (by have := HGe.out; have := HG6.out; omega))
        have hbq := HMt.out.has (prt H x)
        rw [hpr.1, Bool.and_true] at hbq
        clear hpr
        rcases hb : amB (l.take k) (prt H x) with _ | _
        all_goals
          rw [hb] at hbq
          have HAm := hid hb
          clear hb
          go_wp2_with fail
          refine (partner_any B H x _ HG.out).mono ?_
          rintro e w3 ⟨rfl, hb3⟩
          rw [HMi.out]
          have HO3 := hid (HO1.out.kept (only_below hb3 none) (by simp))
          have HGr3 := hid (only_trans HGr.out (only_below hb3 (some M)))
          have HB3 := hid (HBr.out.trans (hb3.mono (by have := HBr.out.size; have := Hg.out; omega)))
          clear hb3 hmir
          go_wp2_with (first
            | (at_lookup; refine wpList_lookup_own_unit _ rfl _ _ 98 rfl 3 99 law4 Tryd.underlying98 (Tryd.zeroUnit _) M k D rfl HO3.out _ _ rfl HKp.out ?_)
            | (at_mapUpdate; refine wpList_mapUpdate_own _ rfl _ _ _ 98 rfl 3 99 law4 Tryd.underlying98 unitElem M k D rfl (HO3.out.alloc _) (by have := HM.out; omega) _ _ _ rfl rfl HKx.out (.agg []) [] unitElem_mk ?_))
        · intro w4 ho4 hg4
          have HO4 := hid ho4
          have HGr4 := hid (only_trans (only_alloc HGr3.out _) hg4)
          have hnot : prt H x ∉ l.take k := by have := HAm.out; simpa [amB] using this
          have HNot := hid hnot
          clear ho4 hg4 hnot hbq
          go_wp2
          go_roundw
          case rel => exact ⟨k + 1, _, by omega, by go_num, HO4.out, by rw [take_next HX.out]; exact HMt.out.more HMi.out, by rw [take_next HX.out]; exact HNp.out.more (fun _ => HNot.out), HGr4.out⟩
          case measure => simp [intOf]; omega
        · go_ret
          rw [Hg.out, pair_yes HX.out HMi.out (by have := HAm.out; simpa [amB] using this)]
          exact ⟨rfl, HB3.out.alloc (by have := HB3.out.size; have := Hg.out; omega) _⟩
    · go_wp2
      go_ret
      rw [(show pairB H l = false from by have := HNp.out; rw [List.take_of_length_le (by have := HS.out.len; omega)] at this; exact this.no)]
      rw [Hg.out]
      exact ⟨rfl, HBr.out⟩
end Go.Proofs.YtndbanfkiaockaaDoor
