/- Package dir: what may be pointed to; Set. -/
import Derived.RegionTactic
import Derived.Test.YtcjiimfgmmgifaaDoorGDrE
namespace Go.Proofs.YtcjiimfgmmgifaaDoor
open Go.RowKit Go.Shelf Go.Sort

set_option maxRecDepth 100000 in
set_option maxHeartbeats 1000000 in
theorem mayPoint_any (e : En) (w : World) : Calls Tryd.prog 32 #[enV e] w fun r w' => r = .returned (.bool (rightE e)) ∧ Below w.heap.size w w' := by
  obtain ⟨s, n, k⟩ := e
  have HB := hid (show Below w.heap.size w (w.alloc (.cells #[encStr s, .int .i64 n, .int .i64 k] 29)) from (Below.refl _ _).alloc (Nat.le_refl _) _)
  have hw : (n < 1 ∧ rightE ⟨s, n, k⟩ = false) ∨ (¬ n < 1 ∧ 16777215 < n ∧ rightE ⟨s, n, k⟩ = false) ∨ (¬ n < 1 ∧ ¬ 16777215 < n ∧ (k == 1) = false ∧ (k == 2) = false ∧ (k == 3) = false ∧ rightE ⟨s, n, k⟩ = false) ∨ (¬ n < 1 ∧ ¬ 16777215 < n ∧ k = 1 ∧ rightE ⟨s, n, k⟩ = true) ∨ (¬ n < 1 ∧ ¬ 16777215 < n ∧ k = 2 ∧ rightE ⟨s, n, k⟩ = true) ∨ (¬ n < 1 ∧ ¬ 16777215 < n ∧ k = 3 ∧ rightE ⟨s, n, k⟩ = true) := by
    unfold rightE
    by_cases h1 : n < 1
    · exact .inl ⟨h1, by simp; omega⟩
    · by_cases h2 : 16777215 < n
      · exact .inr (.inl ⟨h1, h2, by simp; omega⟩)
      · by_cases h3 : k = 1
        · exact .inr (.inr (.inr (.inl ⟨h1, h2, h3, by simp; omega⟩)))
        · by_cases h4 : k = 2
          · exact .inr (.inr (.inr (.inr (.inl ⟨h1, h2, h4, by simp; omega⟩))))
          · by_cases h5 : k = 3
            · exact .inr (.inr (.inr (.inr (.inr ⟨h1, h2, h5, by simp; omega⟩))))
            · exact .inr (.inr (.inl ⟨h1, h2, by simpa using h3, by simpa using h4, by simpa using h5, by simp; omega⟩))
  rcases hw with ⟨h1, hr⟩ | ⟨h1, h2, hr⟩ | ⟨h1, h2, h3, h4, h5, hr⟩ | ⟨h1, h2, h3, hr⟩ | ⟨h1, h2, h3, hr⟩ | ⟨h1, h2, h3, hr⟩
  all_goals
    rw [hr]
    clear hr
    try subst h3
    go_enter Tryd.func32, Tryd.ntmps32
    go_wp2
    go_ret
    exact ⟨rfl, HB.out⟩
/-- the j-th of one's own points elsewhere -/
theorem EOwn.point {w : World} {B g n c j : Nat} {l : List En} {x : En} (h : EOwn w B (.slice (some ⟨g, 0, none⟩) n c) l) (hl : l.length = n) (hx : l[j]? = some x) (a b : Int) :
    EOwn ((w.setCell ⟨g, j * 3 + 1, none⟩ (.int .i64 a)).setCell ⟨g, j * 3 + 2, none⟩ (.int .i64 b)) B (.slice (some ⟨g, 0, none⟩) n c) (l.set j ⟨x.s, a, b⟩) := by
  subst hl
  have h1 := ((h.stored (j * 3 + 1) (.int .i64 a)).1.stored (j * 3 + 2) (.int .i64 b)).1
  rw [EC_set hx] at h1
  show World.ownsRow _ _ _ _ _ _ _
  rw [List.length_set]
  exact h1
theorem ris_point {D : List En} {i : Nat} {x : En} (h : RisE D) (hx : D[i]? = some x) (a b : Int) : RisE (D.set i ⟨x.s, a, b⟩) := by
  have hi := (List.getElem?_eq_some_iff.1 hx).1
  unfold RisE
  rw [List.pairwise_iff_getElem]
  have hs : ∀ (q : Nat) (hq : q < (D.set i ⟨x.s, a, b⟩).length), ∃ y, D[q]? = some y ∧ (D.set i ⟨x.s, a, b⟩)[q].s = y.s := fun q hq => by
    rw [List.length_set] at hq
    by_cases e : i = q
    · subst e
      exact ⟨x, hx, by simp⟩
    · exact ⟨D[q], List.getElem?_eq_getElem hq, by rw [List.getElem_set_ne e]⟩
  intro p q hp hq hpq
  obtain ⟨y, hy, ey⟩ := hs p hp
  obtain ⟨z, hz, ez⟩ := hs q hq
  rw [ey, ez]
  exact h.lt hpq hy hz
section
variable {w : World} {g : Nat} {D : List En} {F : Nat → Prop}
set_option maxRecDepth 100000 in
set_option maxHeartbeats 4000000 in
theorem dirSet_any (s : Nam) (e : En) (h : DirR w g D F) (hD : D.length ≤ 100000) :
    Calls Tryd.prog 18 #[.pointer (some ⟨g, 0, none⟩), encStr s, enV e] w fun r w' => r = .returned (.bool (isIn D s && rightE e)) ∧ Turned (fun w F => DirR w g (setE D s e) F) w F w' := by
  obtain ⟨es, en, ek⟩ := e
  have hb0 : Below w.heap.size w (w.alloc (Obj.cells #[encStr es, .int .i64 en, .int .i64 ek] 29)) := (Below.refl _ _).alloc (Nat.le_refl _) _
  have HH := hid (h.on hb0)
  have HP := hid (place_any s HH.out hD)
  have HB := hid hb0
  have HBk := hid (Blk.new w 29 #[encStr es, .int .i64 en, .int .i64 ek])
  have HR := hid h.ris
  have HD := hid hD
  have HG := hid (h.lt)
  have HHw := hid h
  clear h hD hb0
  go_enter Tryd.func18, Tryd.ntmps18
  go_wp2_with fail
  refine HP.out.mono ?_
  rintro e w1 ⟨i, rfl, hl, hb⟩
  have HB1 := hid (HB.out.trans (hb.mono HB.out.size))
  have HL := hid hl
  have HBk1 := hid (HBk.out.below hb (by simp))
  have HH1 := hid (HH.out.on hb)
  clear hl hb
  have b0 := HBk1.out.cell 0
  have b1 := HBk1.out.cell 1
  have b2 := HBk1.out.cell 2
  simp at b0 b1 b2
  rcases HL.out.ways HR.out with ⟨hi, hlt, hf, x, hx, hxs⟩ | ⟨hi, hf, hn⟩
  · have HI := hid hi
    rw [hi]
    rcases hr : rightE ⟨es, en, ek⟩ with _ | _
    · have HRt := hid hr
      have HF := hid (show ∀ w2, Below w1.heap.size w1 w2 → Turned (fun w F => DirR w g (setE D s ⟨es, en, ek⟩) F) w F w2 from fun w2 hb2 => by
        have e1 : setE D s ⟨es, en, ek⟩ = D := by unfold setE; rw [if_neg (by rw [HRt.out]; simp)]
        rw [e1]
        have hb3 := HB1.out.trans (hb2.mono HB1.out.size)
        exact ⟨F, HHw.out.on hb3, Only.of_below hb3, fun _ hk => .inl hk⟩)
      clear hr hx hxs hf hi
      go_wp2_with fail
      refine (mayPoint_any ⟨es, en, ek⟩ _).mono ?_
      rw [HRt.out]
      rintro e w2 ⟨rfl, hb2⟩
      have HF2 := hid (HF.out _ hb2)
      clear hb2
      go_wp2
      go_ret
      exact ⟨by rw [HI.out, HRt.out]; rfl, HF2.out⟩
    · have HRt := hid hr
      clear hr
      go_wp2_with fail
      refine (mayPoint_any ⟨es, en, ek⟩ _).mono ?_
      rw [HRt.out]
      rintro e w2 ⟨rfl, hb2⟩
      have HB2 := hid (HB1.out.trans (hb2.mono HB1.out.size))
      obtain ⟨v, hbx, ho, hap⟩ := (HH1.out.on hb2).box
      obtain ⟨A, n, c, rfl, hln, hnc, hcm, hnil, hat⟩ := ho.formK
      cases A with
      | none => have := (hnil rfl).1; omega
      | some ad =>
      obtain ⟨r, rfl, _, hrl⟩ := hat ad rfl
      have hbk2 := HBk1.out.below hb2 HBk1.out.lt
      have hrg := hap r rfl
      have hwl : r < w.heap.size := HG.out r hrg.2
      have hne : r ≠ w.heap.size := by omega
      have d0 := hbx.cell 0
      simp at d0
      have k1 := hbk2.cell 1
      have k2 := hbk2.cell 2
      simp at k1 k2
      have ho' : w2.ownsRow 0 29 3 (.slice (some ⟨r, 0, none⟩) n c) n (EC D) := by
        have h5 := ho
        unfold EOwn at h5
        rwa [hln] at h5
      have r1 : w2.cell? ⟨r, i * 3 + 1, none⟩ = some (.int .i64 x.n) := by
        rw [World.ownsRow.cellAt ho' (i * 3 + 1) (by omega)]
        exact (EC_get hx).2.1
      have r2 : w2.cell? ⟨r, i * 3 + 2, none⟩ = some (.int .i64 x.k) := by
        rw [World.ownsRow.cellAt ho' (i * 3 + 2) (by omega)]
        exact (EC_get hx).2.2
      have f1 : w2.frozen? ⟨r, i * 3 + 1, none⟩ = false := World.ownsRow.frozenAt ho' _
      have f2 : w2.frozen? ⟨r, i * 3 + 2, none⟩ = false := World.ownsRow.frozenAt ho' _
      have HFin := hid (show Turned (fun w F => DirR w g (setE D s ⟨es, en, ek⟩) F) w F ((w2.setCell ⟨r, i * 3 + 1, none⟩ (.int .i64 en)).setCell ⟨r, i * 3 + 2, none⟩ (.int .i64 ek)).drew from by
        have e1 : setE D s ⟨es, en, ek⟩ = D.set i ⟨x.s, en, ek⟩ := by
          unfold setE
          rw [if_pos ⟨by omega, HRt.out⟩, hf]
          exact modify_set hx
        rw [e1]
        refine ⟨F, ⟨⟨_, ?_, ?_, hap⟩, HHw.out.own, fun k hk => ?_, ris_point HR.out hx en ek⟩, ?_, fun k hk => .inl hk⟩
        · exact ((hbx.far (p := ⟨r, i * 3 + 1, none⟩) (fun e => hrg.1 e.symm) _).far (p := ⟨r, i * 3 + 2, none⟩) (fun e => hrg.1 e.symm) _).drew
        · exact ho.point hln hx en ek
        · have := HG.out k hk
          have := HB2.out.size
          show k < ((w2.setCell _ _).setCell _ _).heap.size
          simp
          omega
        · exact (((Only.of_below HB2.out).put hrg.2 _).put hrg.2 _).drew)
      have hi0 : (i : Int) < (n : Int) := by omega
      have hrw : ¬ (r = w.heap.size) := hne
      have hgr : ¬ (r = g) := hrg.1
      have hgr2 : ¬ (g = r) := fun e => hrg.1 e.symm
      have hwr2 : ¬ (w.heap.size = r) := fun e => hne e.symm
      clear hb2 hbx ho ho' hap hat hnil hln hnc hcm hbk2 hrg b0 b1 b2 hx hxs hf hi hne
      go_wp2
      go_region
      go_wp2
      go_ret
      exact ⟨by rw [HI.out, HRt.out]; rfl, HFin.out⟩
  · have HI := hid hi
    rw [hi]
    have HF := hid (show Turned (fun w F => DirR w g (setE D s ⟨es, en, ek⟩) F) w F w1 from by
      have e1 : setE D s ⟨es, en, ek⟩ = D := by unfold setE; rw [if_neg (by rw [hf]; simp)]
      rw [e1]
      exact ⟨F, HHw.out.on HB1.out, Only.of_below HB1.out, fun _ hk => .inl hk⟩)
    clear hi hf hn
    go_wp2
    go_ret
    exact ⟨by rw [HI.out]; rfl, HF.out⟩
end
end Go.Proofs.YtcjiimfgmmgifaaDoor
