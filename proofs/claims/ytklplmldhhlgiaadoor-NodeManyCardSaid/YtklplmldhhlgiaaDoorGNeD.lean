/- Package node: a node set in; an empty one. -/
import Derived.Test.YtklplmldhhlgiaaDoorGNeC
namespace Go.Proofs.YtklplmldhhlgiaaDoor
open Go.RowKit Go.Maps Go.Sort

set_option linter.unusedSimpArgs false in
set_option maxRecDepth 100000 in
set_option maxHeartbeats 1000000 in
theorem emptyN_any (id k : Int) (hk : okK k = true) (w : World) : Calls Tryd.prog 22 #[.int .i64 id, .int .i64 k] w fun r w' => r = .returned (ndV (newN id k)) ∧ Below w.heap.size w w' := by
  have hk3 : k = 1 ∨ k = 2 ∨ k = 3 := by unfold okK at hk; simp at hk; omega
  rcases hk3 with rfl | rfl | rfl
  · go_enter Tryd.func22, Tryd.ntmps22
    go_wp2
    refine bodyPost_ret (v := ndV ⟨id, 1, 0, 0, [], 0⟩) (by simp [results, Tryd.results22, go_sem, *]) rfl ⟨rfl, ?_⟩
    repeat (first | exact Below.refl _ _ | refine Below.setCell ?_ (by simp) _ | refine Below.alloc ?_ (by simp) _)
  · go_enter Tryd.func22, Tryd.ntmps22
    go_wp2
    refine bodyPost_ret (v := ndV ⟨id, 2, 0, 0, [], 1⟩) (by simp [results, Tryd.results22, go_sem, *]) rfl ⟨rfl, ?_⟩
    repeat (first | exact Below.refl _ _ | refine Below.setCell ?_ (by simp) _ | refine Below.alloc ?_ (by simp) _)
  · go_enter Tryd.func22, Tryd.ntmps22
    go_wp2
    refine bodyPost_ret (v := ndV ⟨id, 3, 0, 0, [47], 0⟩) (by simp [results, Tryd.results22, go_sem, *]) rfl ⟨rfl, ?_⟩
    repeat (first | exact Below.refl _ _ | refine Below.setCell ?_ (by simp) _ | refine Below.alloc ?_ (by simp) _)
theorem turned_drew {R' : World → (Nat → Prop) → Prop} {w w' : World} {F : Nat → Prop} (S : Stays R') (h : Turned R' w F w') : Turned R' w F w'.drew := by
  obtain ⟨F', h1, h2, h3⟩ := h
  exact ⟨F', S.kept h1 ⟨fun _ _ => rfl, Nat.le_refl _⟩, h2.drew, h3⟩
section
variable {w : World} {g : Nat} {T : Tab} {F : Nat → Prop}
/-- what is left once a node was put into the map at b, and the greatest number told -/
theorem TabN.setIn {W w3 : World} {b : Nat} {D : DataW Unit} {e : Nd} (h : TabN w g T F) (hf : fitsN e = true) (hl : isInN T.L e.id = true ∨ T.L.length < 512)
    (hW : Blk W g 27 #[.map (some b), .int .i64 T.last]) (hM : MapAt w3 (some b) (D.put (kz e.id) (ndD e))) (hT : TabM D T.L) (ht : Tidy D) (hne : b ≠ g) (ho : Only F w W) (hg : W.grownBy w3 (some b)) (hF : F b ∨ w.heap.size ≤ b) :
    Turned (fun w F => TabN w g ⟨putL T.L e, max T.last e.id⟩ F) w F (w3.setCell ⟨g, 1, none⟩ (.int .i64 (max T.last e.id))) := by
  have hB : Blk w3 g 27 #[.map (some b), .int .i64 T.last] := hW.grown hg (fun e => hne (by injection e with e; exact e.symm))
  have hsz : w.heap.size ≤ w3.heap.size := Nat.le_trans ho.size hg.size
  refine ⟨fun k => F k ∨ k = b, ⟨⟨some b, D.put (kz e.id) (ndD e), hB.put 1 _, ?_, hT.put h.is.ris ht e, ?_⟩, .inl h.own, ?_, h.is.put hf hl⟩, ?_, ?_⟩
  · exact hM.same fun b' hb' => by
      injection hb' with hb'
      subst hb'
      exact Below.heap_setCell w3 ⟨g, 1, none⟩ _ b hne
  · intro b' hb'
    injection hb' with hb'
    subst hb'
    exact ⟨hne, .inr rfl⟩
  · intro k hk
    show k < (w3.setCell _ _).heap.size
    rw [World.size_setCell]
    rcases hk with hk | rfl
    · exact Nat.lt_of_lt_of_le (h.lt k hk) hsz
    · exact hM.lt _ rfl
  · refine Only.put (p := ⟨g, 1, none⟩) ?_ h.own _
    refine ⟨hg.os.trans ho.os, hg.tape.trans ho.tape, hg.output.trans ho.output, hsz, fun k hk hkF => ?_⟩
    rw [hg.block k (Nat.lt_of_lt_of_le hk ho.size) (fun e => ?_), ho.block k hk hkF]
    injection e with e
    subst e
    rcases hF with hF | hF
    · exact hkF hF
    · omega
  · rintro k (hk | rfl)
    · exact .inl hk
    · exact hF
set_option linter.unusedSimpArgs false in
set_option maxRecDepth 100000 in
set_option maxHeartbeats 4000000 in
theorem tabSet_any (e : Nd) (h : TabN w g T F) (hf : fitsN e = true) (hl : isInN T.L e.id = true ∨ T.L.length < 512) :
    Calls Tryd.prog 23 #[.pointer (some ⟨g, 0, none⟩), ndV e] w fun r w' => (∃ v, r = .returned v) ∧ Turned (fun w F => TabN w g ⟨putL T.L e, max T.last e.id⟩ F) w F w' := by
  have hi := fitsN_id hf
  have hI : I64 e.id := ⟨by omega, by omega⟩
  have hlast := h.is.last
  obtain ⟨id, ek, el, es, et, ep⟩ := e
  obtain ⟨mb, D, hbx, hM, hT, hap⟩ := h.box
  have HH := hid h
  have HL := hid hl
  have HF := hid hf
  have ht := hM.tidy
  have hgl := h.lt g h.own
  simp only at hI hi
  rcases mb with _ | b
  · obtain rfl : D = .map [] := hM
    have hq := fun w => Go.Proofs.run_eql_map_nil_sl (P := Tryd.prog) w 25 _ _ none Tryd.underlying25
    have hmm := @run_makeMap Tryd.prog
    have hc1 := ((hbx.alloc (.cells #[.int .i64 id, .int .i64 ek, .int .i64 el, .int .i64 es, encStr et, .int .i64 ep] 30))).cell 0
    have hf1 := (((hbx.alloc (.cells #[.int .i64 id, .int .i64 ek, .int .i64 el, .int .i64 es, encStr et, .int .i64 ep] 30))).alloc (.map #[] 0)).free 0
    have hc2 := (((hbx.alloc (.cells #[.int .i64 id, .int .i64 ek, .int .i64 el, .int .i64 es, encStr et, .int .i64 ep] 30))).alloc (.map #[] 0)).cell 0
    simp at hc1 hc2
    have hM2 : MapAt (((w.setCell ⟨g, 0, none⟩ (.map (some (w.heap.size + 1)))).alloc (.cells #[.int .i64 id, .int .i64 ek, .int .i64 el, .int .i64 es, encStr et, .int .i64 ep] 30)).alloc (.map #[] 0)).drew (some (w.heap.size + 1)) (.map []) := (by have h1 := World.ownsMap_made ((w.setCell ⟨g, 0, none⟩ (.map (some (w.heap.size + 1)))).alloc (.cells #[.int .i64 id, .int .i64 ek, .int .i64 el, .int .i64 es, encStr et, .int .i64 ep] 30)) Tryd.prog 3 ndR; simp only [World.size_alloc, World.size_setCell] at h1; exact h1)
    have hB2 : Blk (((w.setCell ⟨g, 0, none⟩ (.map (some (w.heap.size + 1)))).alloc (.cells #[.int .i64 id, .int .i64 ek, .int .i64 el, .int .i64 es, encStr et, .int .i64 ep] 30)).alloc (.map #[] 0)) g 27 #[.map (some (w.heap.size + 1)), .int .i64 T.last] := ((hbx.put 0 _).alloc _).alloc _
    have hN2 : Blk (((w.setCell ⟨g, 0, none⟩ (.map (some (w.heap.size + 1)))).alloc (.cells #[.int .i64 id, .int .i64 ek, .int .i64 el, .int .i64 es, encStr et, .int .i64 ep] 30)).alloc (.map #[] 0)) w.heap.size 30 #[.int .i64 id, .int .i64 ek, .int .i64 el, .int .i64 es, encStr et, .int .i64 ep] := (by have h1 := (Blk.new (w.setCell ⟨g, 0, none⟩ (.map (some (w.heap.size + 1)))) 30 #[.int .i64 id, .int .i64 ek, .int .i64 el, .int .i64 es, encStr et, .int .i64 ep]).alloc (.map #[] 0); rw [World.size_setCell] at h1; exact h1)
    have hne : (w.heap.size + 1) ≠ g := by omega
    have hne2 : w.heap.size ≠ (w.heap.size + 1) := by omega
    obtain ⟨w3, hrun, hM3, hg3⟩ := hM2.put (by rw [hT.size]; have := h.is.len; unfold maxLen; omega) hI (⟨id, ek, el, es, et, ep⟩ : Nd)
    have hB3 := hB2.drew.grown hg3 (fun e => hne (by injection e with e; exact e.symm))
    have hN3 := hN2.drew.grown hg3 (fun e => hne2 (by injection e with e))
    have HFin := hid (h.setIn hf hl (hB2.drew) hM3 hT ht hne (Only.drew ((((Only.refl F w).put (p := ⟨g, 0, none⟩) h.own (.map (some (w.heap.size + 1)))).then_below (((Below.refl _ _).alloc (Nat.le_refl _) (.cells #[.int .i64 id, .int .i64 ek, .int .i64 el, .int .i64 es, encStr et, .int .i64 ep] 30)).alloc (by simp) (.map #[] 0))))) hg3 (.inr (by omega)))
    have c0 := hB2.cell 0
    have n0 := hN2.cell 0
    have n1 := hN2.cell 1
    have n2 := hN2.cell 2
    have n3 := hN2.cell 3
    have n4 := hN2.cell 4
    have n5 := hN2.cell 5
    have d1 := hB3.cell 1
    have f1 := hB3.free 1
    have m0 := hN3.cell 0
    simp at c0 n0 n1 n2 n3 n4 n5 d1 m0
    clear hM2 hB2 hN2 hM3 hg3 hB3 hN3 hne hne2
    clear h hl hf hbx hT ht hap HH HL HF
    go_enter Tryd.func23, Tryd.ntmps23
    go_upto_region 3 with fail
    go_region
    all_goals
      go_upto_region 4 with fail
      go_region
      all_goals
        go_wp2
        go_end0
        exact ⟨⟨_, rfl⟩, turned_drew (TabN.stays g _) HFin.out⟩
  · have hq := fun w => Go.Proofs.run_eql_map_nil_sl (P := Tryd.prog) w 25 _ _ (some b) Tryd.underlying25
    have hM2 : MapAt (w.alloc (.cells #[.int .i64 id, .int .i64 ek, .int .i64 el, .int .i64 es, encStr et, .int .i64 ep] 30)).drew (some b) D := hM.on ((Below.refl _ _).alloc (Nat.le_refl _) _).drew
    have hB2 : Blk (w.alloc (.cells #[.int .i64 id, .int .i64 ek, .int .i64 el, .int .i64 es, encStr et, .int .i64 ep] 30)) g 27 #[.map (some b), .int .i64 T.last] := hbx.alloc _
    have hN2 : Blk (w.alloc (.cells #[.int .i64 id, .int .i64 ek, .int .i64 el, .int .i64 es, encStr et, .int .i64 ep] 30)) w.heap.size 30 #[.int .i64 id, .int .i64 ek, .int .i64 el, .int .i64 es, encStr et, .int .i64 ep] := Blk.new w _ _
    have hne : b ≠ g := by exact (hap b rfl).1
    have hne2 : w.heap.size ≠ b := by have := hM.lt b rfl; omega
    obtain ⟨w3, hrun, hM3, hg3⟩ := hM2.put (by rw [hT.size]; have := h.is.len; unfold maxLen; omega) hI (⟨id, ek, el, es, et, ep⟩ : Nd)
    have hB3 := hB2.drew.grown hg3 (fun e => hne (by injection e with e; exact e.symm))
    have hN3 := hN2.drew.grown hg3 (fun e => hne2 (by injection e with e))
    have HFin := hid (h.setIn hf hl (hB2.drew) hM3 hT ht hne (Only.drew (Only.of_below ((Below.refl _ _).alloc (Nat.le_refl _) _))) hg3 (.inl (hap b rfl).2))
    have c0 := hB2.cell 0
    have n0 := hN2.cell 0
    have n1 := hN2.cell 1
    have n2 := hN2.cell 2
    have n3 := hN2.cell 3
    have n4 := hN2.cell 4
    have n5 := hN2.cell 5
    have d1 := hB3.cell 1
    have f1 := hB3.free 1
    have m0 := hN3.cell 0
    simp at c0 n0 n1 n2 n3 n4 n5 d1 m0
    clear hM2 hB2 hN2 hM3 hg3 hB3 hN3 hne hne2
    clear h hl hf hbx hT ht hap HH HL HF hM
    go_enter Tryd.func23, Tryd.ntmps23
    go_upto_region 3 with fail
    go_region
    all_goals
      go_upto_region 4 with fail
      go_region
      all_goals
        go_wp2
        go_end0
        exact ⟨⟨_, rfl⟩, turned_drew (TabN.stays g _) HFin.out⟩
end
end Go.Proofs.YtklplmldhhlgiaaDoor
