/- Package dir: Add. -/
import Derived.Test.YtcjiimfgmmgifaaDoorGDrG
namespace Go.Proofs.YtcjiimfgmmgifaaDoor
open Go.RowKit Go.Shelf Go.Sort

theorem eown_ne {w : World} {B g : Nat} {v : Value} {l : List En} {cs : Array Value} (h : EOwn w B v l) (hb : Blk w g 27 cs) : ∀ k, v.ownBlock = some k → k ≠ g := fun k hk e2 => by
  subst e2
  rcases h.2 with ⟨rfl, _⟩ | ⟨g', cap, cu, rfl, _, hg, _⟩
  · cases hk
  · have e3 : g' = k := by injection hk
    rw [e3] at hg
    have := hg.symm.trans hb
    injection this with this
    injection this with _ this
    exact absurd this (by decide)
section
variable {w : World} {g : Nat} {D : List En} {F : Nat → Prop}
set_option maxRecDepth 100000 in
set_option maxHeartbeats 4000000 in
theorem dirAdd_any (S : Nat → Addr) (e : En) (hS : Sent w S) (h : DirR w g D F) (hD : D.length ≤ 90000) :
    Calls Tryd.prog 14 #[.pointer (some ⟨g, 0, none⟩), enV e] w fun r w' => (∃ v, r = .returned v ∧ EV S (addC D e) v) ∧ Turned (fun w F => DirR w g (addE D e) F) w F w' := by
  obtain ⟨es, en, ek⟩ := e
  have hb0 : Below w.heap.size w (w.alloc (Obj.cells #[encStr es, .int .i64 en, .int .i64 ek] 29)) := (Below.refl _ _).alloc (Nat.le_refl _) _
  have HH := hid h
  have HB := hid hb0
  have HBk := hid (Blk.new w 29 #[encStr es, .int .i64 en, .int .i64 ek])
  have HR := hid h.ris
  have HD := hid hD
  have HG := hid (h.lt)
  have HS := hid hS
  have HN := hid (show ∀ w2, addC D ⟨es, en, ek⟩ ≠ 0 → Below w.heap.size w w2 → Turned (fun w F => DirR w g (addE D ⟨es, en, ek⟩) F) w F w2 from fun w2 hc hb2 => by
    have e1 : addE D ⟨es, en, ek⟩ = D := by unfold addE; rw [if_neg hc]
    rw [e1]
    exact ⟨F, HH.out.on hb2, Only.of_below hb2, fun _ hk => .inl hk⟩)
  have HV := hid (valid_any S ⟨es.toArray⟩ _ (hS.on hb0))
  obtain ⟨vc, hvc⟩ : ∃ vc, vldC ⟨es.toArray⟩ = vc := ⟨_, rfl⟩
  have HVc := hid hvc
  rw [hvc] at HV
  clear h hD hb0 hS hvc
  go_enter Tryd.func14, Tryd.ntmps14
  go_wp2_with fail
  refine HV.out.mono ?_
  rintro e w1 ⟨⟨v, rfl, hv⟩, hb⟩
  have HB1 := hid (HB.out.trans (hb.mono HB.out.size))
  have HBk1 := hid (HBk.out.below hb (by simp))
  clear hb
  by_cases hc0 : vc = 0
  · subst hc0
    obtain rfl := hv.nil
    clear hv
    have HH1 := hid (HH.out.on HB1.out)
    have b0 := HBk1.out.cell 0
    simp at b0
    go_wp2_with fail
    refine (place_any es HH1.out (by have := HD.out; omega)).mono ?_
    rintro e w2 ⟨i, rfl, hl, hb⟩
    have HL := hid hl
    have HB2 := hid (HB1.out.trans (hb.mono HB1.out.size))
    have HBk2 := hid (HBk1.out.below hb HBk1.out.lt)
    clear hl hb b0
    have b0 := HBk2.out.cell 0
    have b1 := HBk2.out.cell 1
    have b2 := HBk2.out.cell 2
    simp at b0 b1 b2
    obtain ⟨bi, hbi⟩ : ∃ bi, isIn D es = bi := ⟨_, rfl⟩
    have HBi := hid hbi
    rw [hbi]
    clear hbi
    go_wp2_with fail
    refine (special_any ⟨es.toArray⟩ w2).mono ?_
    rcases hsp : spec ⟨es.toArray⟩ with _ | _
    · have HSp := hid hsp
      clear hsp
      rintro e w2' ⟨rfl, rfl⟩
      go_wp2_with fail
      refine (mayPoint_any ⟨es, en, ek⟩ _).mono ?_
      rcases hr : rightE ⟨es, en, ek⟩ with _ | _
      · have HRt := hid hr
        clear hr
        rintro e w3 ⟨rfl, hb3⟩
        have HB3 := hid (HB2.out.trans (hb3.mono HB2.out.size))
        have g3 : w3.cell? ⟨1, 0, none⟩ = some (.iface 112 (.pointer (some (S 2)))) := (HS.out.on HB3.out).at_ 2 (by decide)
        have HC := hid (show addC D ⟨es, en, ek⟩ = 103 from by unfold addC; rw [HVc.out, HSp.out, HRt.out]; simp)
        clear hb3 b0 b1 b2
        go_wp2
        go_ret
        exact ⟨⟨_, rfl, by rw [HC.out]; exact EV.err 2 (by decide)⟩, HN.out _ (by rw [HC.out]; decide) HB3.out⟩
      · have HRt := hid hr
        clear hr
        rintro e w3 ⟨rfl, hb3⟩
        have HB3 := hid (HB2.out.trans (hb3.mono HB2.out.size))
        have HBk3 := hid (HBk2.out.below hb3 HBk2.out.lt)
        clear hb3 b0 b1 b2
        cases bi
        · obtain ⟨v, hbx, ho, hap⟩ := (HH.out.on HB3.out).box
          obtain ⟨A3, n3, c3, rfl, hln, hnc, hcm, hnil, hat⟩ := ho.formK
          have HBx := hid hbx
          have HO := hid ho
          have HAp := hid hap
          have hsz0 := HB3.out.size
          have hlow := HL.out.low
          have hle := HL.out.le
          have HIs : ∀ x, D[i]? = some x → x.s ≠ es := fun x hx => by
            rcases HL.out.ways HR.out with ⟨hi, _⟩ | ⟨_, _, hn⟩
            · rw [HBi.out] at hi; cases hi
            · exact hn x hx
          have hno : ¬ fnd D es < D.length := by have := HBi.out; unfold isIn at this; simpa using this
          have HC := hid (show addC D ⟨es, en, ek⟩ = 0 from by
            unfold addC; rw [HVc.out, HSp.out, HRt.out]; simp [hno])
          have HAd := hid (show addE D ⟨es, en, ek⟩ = D.take i ++ (⟨es, en, ek⟩ : En) :: D.drop i from by
            unfold addE
            rw [if_pos HC.out]
            unfold insE
            show D.take (lowE D es) ++ [_] ++ D.drop (lowE D es) = _
            rw [hlow, List.append_assoc]
            rfl)
          have HRi := hid (ris_ins (e := (⟨es, en, ek⟩ : En)) HR.out HL.out rfl HIs)
          obtain ⟨W4, hW4⟩ : ∃ W, (w3.alloc (.cells #[encStr es, .int .i64 en, .int .i64 ek] 29)).drew = W := ⟨_, rfl⟩
          obtain ⟨vb, hvb⟩ : ∃ vb, w3.heap.size = vb := ⟨_, rfl⟩
          have hb4 : Below w3.heap.size w3 W4 := by rw [← hW4]; exact ((Below.refl _ _).alloc (Nat.le_refl _) _).drew
          have hr4 : ArgE W4 vb ⟨es, en, ek⟩ := by rw [← hW4, ← hvb]; exact (Blk.new w3 _ _).drew
          have HIn := hid (insertE_any (.slice A3 n3 c3) 0 vb i D ⟨es, en, ek⟩ W4 (HO.out.on hb4) (by have := HD.out; omega) (Nat.zero_le _) hr4 (fun k hk => by have := (HO.out.lt k hk).2; omega) hle)
          have HB4 := hid hb4
          have HMd := hid (show ∀ w5, W4.grownBy w5 (Value.slice A3 n3 c3).ownBlock → w5.frozen? ⟨g, 0, none⟩ = false ∧ ∃ u, w5.cell? ⟨g, 0, none⟩ = some u from fun w5 hg => by
            have h2 : Blk w5 g 27 #[.slice A3 n3 c3] := (HBx.out.below HB4.out HBx.out.lt).grown hg (fun e => (HAp.out g e.symm).1 rfl)
            exact ⟨h2.free 0, _, by rw [Blk.cell h2]; rfl⟩)
          have HGo := hid (show ∀ w5 v', EOwn w5 0 v' (D.take i ++ (⟨es, en, ek⟩ : En) :: D.drop i) → W4.grownBy w5 (Value.slice A3 n3 c3).ownBlock → (∀ k, v'.ownBlock = some k → (Value.slice A3 n3 c3).ownBlock = some k ∨ W4.heap.size ≤ k) → Turned (fun w F => DirR w g (addE D ⟨es, en, ek⟩) F) w F (w5.setCell ⟨g, 0, none⟩ v') from fun w5 v' h1 h2 h5 => by
            rw [HAd.out]
            have hbx5 : Blk w5 g 27 #[.slice A3 n3 c3] := (HBx.out.below HB4.out HBx.out.lt).grown h2 (fun e => (HAp.out g e.symm).1 rfl)
            have hlw : w.heap.size ≤ w5.heap.size := Nat.le_trans HB3.out.size (Nat.le_trans HB4.out.size h2.size)
            have hne := eown_ne h1 hbx5
            refine ⟨fun k => F k ∨ v'.ownBlock = some k, ⟨⟨v', hbx5.put 0 v', ?_, fun k hk => ⟨hne k hk, .inr hk⟩⟩, .inl HH.out.own, fun k hk => ?_, HRi.out⟩, ?_, ?_⟩
            · exact World.ownsRow.kept h1 (only_put (only_refl w5 (some g)) 0 v') (by
                cases hv : v'.ownBlock with
                | none => exact .inl rfl
                | some k => exact .inr fun e => hne k hv (Option.some.inj e))
            · show k < (w5.setCell _ _).heap.size
              rcases hk with hk | hk
              · have := HG.out k hk
                simp; omega
              · have := (h1.lt k hk).2
                simp; omega
            · refine Only.put (p := ⟨g, 0, none⟩) ?_ HH.out.own _
              exact ⟨h2.os.trans (HB4.out.os.trans HB3.out.os), h2.tape.trans (HB4.out.tape.trans HB3.out.tape), h2.output.trans (HB4.out.output.trans HB3.out.output), hlw, fun k hk hkF => by
                have s1 := HB3.out.size
                have s2 := HB4.out.size
                rw [h2.block k (by omega) (fun e => hkF (HAp.out k e.symm).2), HB4.out.block k (by omega), HB3.out.block k hk]⟩
            · rintro k (hk | hk)
              · exact .inl hk
              · rcases h5 k hk with h | h
                · exact .inl (HAp.out k h).2
                · have s1 := HB3.out.size
                  have s2 := HB4.out.size
                  exact .inr (by omega))
          clear hb4 hr4 hnil hat hlow hle HIs hno hbx ho hap hln hnc hcm
          subst hW4
          subst hvb
          have b0 := HBk3.out.cell 0
          have b1 := HBk3.out.cell 1
          have b2 := HBk3.out.cell 2
          have d0 := HBx.out.cell 0
          simp at b0 b1 b2 d0
          have a0 : (w3.alloc (.cells #[encStr es, .int .i64 en, .int .i64 ek] 29)).cell? ⟨g, 0, none⟩ = some (.slice A3 n3 c3) := (Blk.cell (HBx.out.below HB4.out HBx.out.lt) 0).trans rfl
          have hk3 := HBk3.out.below HB4.out HBk3.out.lt
          have a1 : (w3.alloc (.cells #[encStr es, .int .i64 en, .int .i64 ek] 29)).cell? ⟨w.heap.size, 0, none⟩ = some (encStr es) := (Blk.cell hk3 0).trans rfl
          have a2 : (w3.alloc (.cells #[encStr es, .int .i64 en, .int .i64 ek] 29)).cell? ⟨w.heap.size, 1, none⟩ = some (.int .i64 en) := (Blk.cell hk3 1).trans rfl
          have a3 : (w3.alloc (.cells #[encStr es, .int .i64 en, .int .i64 ek] 29)).cell? ⟨w.heap.size, 2, none⟩ = some (.int .i64 ek) := (Blk.cell hk3 2).trans rfl
          clear hk3
          go_wp2
          go_region_law (first | (go_simp; go_at_call 33; refine HIn.out.mono ?_; rintro e w5 ⟨v', rfl, h1, h2, h5⟩; obtain ⟨fz, u, hu⟩ := HMd.out w5 h2; have HF3 := hid (HGo.out w5 v' h1 h2 h5); obtain ⟨A5, n5, c5, rfl, _⟩ := h1.formK; clear h1 h2 h5))
          all_goals (go_wp2; go_ret; exact ⟨⟨_, rfl, by rw [HC.out]; exact EV.fine⟩, HF3.out⟩)
        · have g3 : w3.cell? ⟨2, 0, none⟩ = some (.iface 112 (.pointer (some (S 9)))) := (HS.out.on HB3.out).at_ 9 (by decide)
          have HC := hid (show addC D ⟨es, en, ek⟩ = 110 from by
            have h1 : fnd D es < D.length := by have := HBi.out; unfold isIn at this; simpa using this
            unfold addC; rw [HVc.out, HSp.out, HRt.out]; simp [h1])
          go_wp2
          go_ret
          exact ⟨⟨_, rfl, by rw [HC.out]; exact EV.err 9 (by decide)⟩, HN.out _ (by rw [HC.out]; decide) HB3.out⟩
    · have HSp := hid hsp
      clear hsp
      rintro e w2' ⟨rfl, rfl⟩
      have g3 : w2'.cell? ⟨0, 0, none⟩ = some (.iface 112 (.pointer (some (S 13)))) := (HS.out.on HB2.out).at_ 13 (by decide)
      have HC := hid (show addC D ⟨es, en, ek⟩ = 114 from by unfold addC; rw [HVc.out, HSp.out]; simp)
      clear b0 b1 b2
      go_wp2
      go_ret
      exact ⟨⟨_, rfl, by rw [HC.out]; exact EV.err 13 (by decide)⟩, HN.out _ (by rw [HC.out]; decide) HB2.out⟩
  · obtain ⟨j, hj, hcj, rfl⟩ := hv.one hc0
    have HC := hid (show addC D ⟨es, en, ek⟩ = vc from by unfold addC; rw [if_neg (by rw [HVc.out]; exact hc0), HVc.out])
    have HV2 := hid hv
    have HNe := hid hc0
    clear hv hcj hc0
    go_wp2
    go_ret
    exact ⟨⟨_, rfl, by rw [HC.out]; exact HV2.out⟩, HN.out _ (by rw [HC.out]; exact HNe.out) HB1.out⟩
end
end Go.Proofs.YtcjiimfgmmgifaaDoor
