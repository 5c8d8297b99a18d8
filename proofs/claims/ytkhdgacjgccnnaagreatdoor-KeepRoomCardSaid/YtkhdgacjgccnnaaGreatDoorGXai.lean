/- Put together out of 1 texts. Package dev: Raw, Write, Read, Spoil, Clone. -/
import Derived.Test.YtkhdgacjgccnnaaGreatDoorGXah
import Derived.Lib.ConvBytes
namespace Go.Proofs.YtkhdgacjgccnnaaGreatDoor
open Go.RowKit Go.Maps

theorem split_at {α : Type} {l : List α} {k : Nat} {x : α} (h : l[k]? = some x) : l = l.take k ++ x :: l.drop (k + 1) ∧ ∀ y, l.set k y = l.take k ++ y :: l.drop (k + 1) := by
  have hk : k < l.length := (List.getElem?_eq_some_iff.1 h).1
  have e0 : l.drop k = x :: l.drop (k + 1) := by rw [List.drop_eq_getElem_cons hk, (List.getElem?_eq_some_iff.1 h).2]
  exact ⟨by rw [← e0, List.take_append_drop], fun y => by rw [List.set_eq_take_append_cons_drop, if_pos hk]⟩
theorem countP_set {l : List BSt} {k : Nat} {x : BSt} (h : l[k]? = some x) (y : BSt) (p : BSt → Bool) : (l.set k y).countP p + (if p x = true then 1 else 0) = l.countP p + (if p y = true then 1 else 0) := by
  obtain ⟨e1, e2⟩ := split_at h
  rw [e2 y]
  conv => rhs; rw [e1]
  simp only [List.countP_append, List.countP_cons]
  omega
theorem kl_key (i : Nat) : WideAt.IsKeyLit (kl i) := trivial
theorem kl_inj {i k : Nat} (h : kl i = kl k) : i = k := by simp only [kl, Lit.int.injEq, true_and] at h; omega
theorem set_get {α : Type} {l : List α} {k i : Nat} {y z : α} (h : (l.set k y)[i]? = some z) : (i = k ∧ z = y) ∨ (i ≠ k ∧ l[i]? = some z) := by
  rw [List.getElem?_set] at h
  by_cases e : k = i
  · subst e
    rw [if_pos rfl] at h
    split at h
    · exact .inl ⟨rfl, by injection h with h; exact h.symm⟩
    · cases h
  · rw [if_neg e] at h
    exact .inr ⟨fun e' => e e'.symm, h⟩
theorem pend_put {D : DataW Unit} {l : List BSt} {k : Nat} {x x' : BSt} (h : Pend D l) (ht : Tidy D) (hx : l[k]? = some x) (hp : x'.pend = true) : Pend (D.put (kl k) (blkD (strOfNums x'.next) 0 x'.ever)) (l.set k x') := by
  have hk : k < l.length := (List.getElem?_eq_some_iff.1 hx).1
  refine ⟨fun i y hy => ?_, fun i y hy hyp z => ?_, fun z hz => ?_, ?_⟩
  · rcases set_get hy with ⟨rfl, rfl⟩ | ⟨hne, hy'⟩
    · rw [has_put_same ht.isMap (kl_key _), hp]
    · rw [has_put_other (fun e => hne (kl_inj e))]; exact h.has i y hy'
  · rcases set_get hy with ⟨rfl, rfl⟩ | ⟨hne, hy'⟩
    · rw [atKey_put_same ht.isMap (kl_key _)]
    · rw [atKey_put_other (fun e => hne (kl_inj e))]; exact h.val i y hy' hyp z
  · by_cases e : z = kl k
    · exact ⟨k, by simpa using hk, e⟩
    · rw [has_put_other e] at hz
      obtain ⟨i, hi, he⟩ := h.key z hz
      exact ⟨i, by simpa using hi, he⟩
  · have h1 := countP_set hx x' BSt.pend
    rw [size_put ht, h.has k x hx, h.size]
    rw [hp] at h1
    rcases hxp : x.pend with _ | _
    · rw [hxp] at h1; simp at h1 ⊢; omega
    · rw [hxp] at h1; simp at h1 ⊢; omega
/-- a whole block stored into the row: three cells -/
theorem row_put3 {w : World} {g c n : Nat} {l : List BSt} {k : Nat} {x x' : BSt} (h : w.ownsRow 0 66 3 (.slice (some ⟨g, 0, none⟩) n c) n (cellsOf l)) (hx : l[k]? = some x) :
    (((w.setCell ⟨g, k * 3, none⟩ (.string (strOfNums x'.has))).setCell ⟨g, k * 3 + 1, none⟩ (.int .i8 (faultN x'))).setCell ⟨g, k * 3 + 2, none⟩ (.bool x'.ever)).ownsRow 0 66 3 (.slice (some ⟨g, 0, none⟩) n c) n (cellsOf (l.set k x')) := by
  have h1 := (((h.stored (k * 3 + 0) (.string (strOfNums x'.has))).1.stored (k * 3 + 1) (.int .i8 (faultN x'))).1.stored (k * 3 + 2) (.bool x'.ever)).1
  obtain ⟨e1, e2⟩ := split_at hx
  have hk : k < l.length := (List.getElem?_eq_some_iff.1 hx).1
  have hl : (cellsOf (l.take k)).length = k * 3 := by rw [cellsOf_len, List.length_take, Nat.min_eq_left (by omega)]
  have e3 : (((cellsOf l).set (k * 3 + 0) (.string (strOfNums x'.has))).set (k * 3 + 1) (.int .i8 (faultN x'))).set (k * 3 + 2) (.bool x'.ever) = cellsOf (l.set k x') := by
    rw [e2 x']
    conv => lhs; rw [e1]
    have ea : cellsOf (l.take k ++ x :: l.drop (k + 1)) = cellsOf (l.take k) ++ (cells3 x ++ cellsOf (l.drop (k + 1))) := by simp [cellsOf]
    have eb : cellsOf (l.take k ++ x' :: l.drop (k + 1)) = cellsOf (l.take k) ++ (cells3 x' ++ cellsOf (l.drop (k + 1))) := by simp [cellsOf]
    rw [ea, eb]
    rw [List.set_append_right _ _ (by omega), List.set_append_right _ _ (by omega), List.set_append_right _ _ (by omega)]
    rw [hl]
    simp [cells3]
  rw [e3] at h1
  exact h1
/-- a block's cells in the row -/
theorem row_cells {w : World} {g c n : Nat} {l : List BSt} {k : Nat} {x : BSt} (h : w.ownsRow 0 66 3 (.slice (some ⟨g, 0, none⟩) n c) n (cellsOf l)) (hx : l[k]? = some x) (hn : l.length = n) :
    w.cell? ⟨g, k * 3, none⟩ = some (.string (strOfNums x.has)) ∧ w.cell? ⟨g, k * 3 + 1, none⟩ = some (.int .i8 (faultN x)) ∧ w.cell? ⟨g, k * 3 + 2, none⟩ = some (.bool x.ever) ∧ w.frozen? ⟨g, k * 3, none⟩ = false ∧ w.frozen? ⟨g, k * 3 + 1, none⟩ = false ∧ w.frozen? ⟨g, k * 3 + 2, none⟩ = false := by
  have hk : k < l.length := (List.getElem?_eq_some_iff.1 hx).1
  refine ⟨?_, ?_, ?_, h.frozenAt _, h.frozenAt _, h.frozenAt _⟩
  · rw [h.cellAt (k * 3) (by omega)]; exact cellsOf_get (j := 0) hx (by omega)
  · rw [h.cellAt (k * 3 + 1) (by omega)]; exact cellsOf_get (j := 1) hx (by omega)
  · rw [h.cellAt (k * 3 + 2) (by omega)]; exact cellsOf_get (j := 2) hx (by omega)
end Go.Proofs.YtkhdgacjgccnnaaGreatDoor
namespace Go.Proofs.YtkhdgacjgccnnaaGreatDoor
open Go.RowKit Go.Maps

def WriteDv (S : Nat → Addr) (w : World) (p : Nat) (r : Int × DSt) (F : Nat → Prop) (e : Ending) (w' : World) : Prop := (∃ v, EV S r.1 v ∧ e = .returned v) ∧ RealUpd DvReal w p r.2 F w'
theorem DvReal.here {w : World} {p : Nat} {s : DSt} {F : Nat → Prop} (h : DvReal w p s F) : F p := by
  obtain ⟨b, D, arm, rfl, hin, hF, _⟩ := h
  exact hF _ (by simp [DB.all])
/-- only the struct has turned -/
theorem only_p {w w' : World} {p : Nat} {s : DSt} {F : Nat → Prop} (h : DvReal w p s F) (ho : Only (fun k => k = p) w w') : Only F w w' := ho.mono (fun i hi => .inl (by rw [hi]; exact h.here))
theorem RealUpd.of_p {w w' : World} {p : Nat} {s t : DSt} {F : Nat → Prop} (h : DvReal w p s F) (h' : DvReal w' p t F) (ho : Only (fun k => k = p) w w') : RealUpd DvReal w p t F w' := ⟨F, h', only_p h ho, fun _ h => .inl h⟩
theorem cellsOf_same {l : List BSt} {k : Nat} {x x' : BSt} (hx : l[k]? = some x) (e : cells3 x' = cells3 x) : cellsOf (l.set k x') = cellsOf l := by
  obtain ⟨e1, e2⟩ := split_at hx
  rw [e2 x']
  conv => rhs; rw [e1]
  simp [cellsOf, e]
set_option maxRecDepth 100000 in
set_option maxHeartbeats 2000000 in
theorem dvWrite_any (S : Nat → Addr) (p : Nat) (s : DSt) (F : Nat → Prop) (i : Int) (A : Option Addr) (n c : Nat) (l : List Int) (w : World) (hS : Sent5 w S) (h : DvReal w p s F) (hok : s.ok) (hs : Sl w w.heap.size A n c l) (hA : ∀ ad, A = some ad → 0 < n → ¬ F ad.block) :
    Calls Tryz.prog 126 #[.pointer (some ⟨p, 0, none⟩), .int .i64 i, .slice A n c] w (WriteDv S w p (s.write i l) F) := by
  have HD := hid h
  have HK := hid hok
  have HSn := hid hS
  have HS := hid hs
  have HA := hid hA
  have HL := hid hs.len
  clear h hok hs hA hS
  by_cases hp : s.power.1 = 0
  · have hI : ∀ i, s.power.2.inB i = s.inB i := fun i => by unfold DSt.inB; rw [s.power_blks.1]
    have HW := hid (show s.write i l = s.power.2.write1 i l by unfold DSt.write; rw [if_pos hp])
    have HP := hid (show (s.power.1 != 0) = false by rw [hp]; rfl)
    clear hp
    by_cases hin : s.inB i = true
    · obtain ⟨hi0, hi1⟩ := DSt.in_iff.1 hin
      have HI := hid ((hI i).trans hin)
      obtain ⟨j, rfl⟩ : ∃ j : Nat, i = (j : Int) := ⟨i.toNat, by omega⟩
      clear hI hin
      by_cases h256 : n = 256
      · subst h256
        have HW1 := hid (show s.power.2.write1 (j : Int) l = (0, { s.power.2.turn j (BSt.write l) with calls := s.power.2.calls + 1 }) by unfold DSt.write1; rw [if_neg (by rw [HI.out]; decide), if_neg (by rw [HL.out]; decide)])
        go_enter Tryz.func126, Tryz.ntmps126
        go_wp2_with fail
        refine (dvPower_any p s F w HD.out HK.out.2.2.1).mono ?_
        rintro e w1 ⟨he, hd, ho⟩
        rw [HP.out] at he
        subst he
        have HD1 := hid hd
        have HO1 := hid ho
        clear hd ho
        go_wp2_with fail
        refine (dvThere_any p s.power.2 F _ w1 HD1.out).mono ?_
        rintro e w' ⟨rfl, rfl⟩
        rw [HI.out]
        have HS1 := hid (HS.out.only (only_p HD.out HO1.out) HA.out)
        obtain ⟨b, D, arm, hbp, hin, hF, hl⟩ := HD1.out
        subst hbp
        have HIN := hid hin
        have HF := hid hF
        have HLL := hid hl
        have c1 := hin.box.cell 1
        have c0 := hin.box.cell 0
        simp [DB.cells] at c1 c0
        obtain ⟨x, hx⟩ : ∃ x, s.power.2.blks[j]? = some x := ⟨_, List.getElem?_eq_getElem (by rw [s.power_blks.1]; omega)⟩
        have HX := hid hx
        obtain ⟨N, hN⟩ : ∃ N, s.power.2.blks.length = N := ⟨_, rfl⟩
        have HN := hid hN
        have hjN : (j : Int) < N := by rw [← hN, s.power_blks.1]; exact hi1
        rw [hN] at c0
        have HC0 := hid c0
        have HC1 := hid c1
        have HC2 := hid (row_cells hin.row hx rfl).2.2.1
        have HSd := hid (show Sl w1.drew w1.drew.heap.size A 256 c l from HS1.out.drew)
        have HKey := hid (key_of (i := j) (by have := HK.out.2.2.2; rw [s.power_blks.1] at hN; omega))
        have HU := hid (show ∀ w2, Below w1.drew.heap.size w1.drew w2 → w2.cell? ⟨b.p, 1, none⟩ = some (.map (some b.m)) ∧ ∃ w3, (Instr.mapUpdate 69 (.map (some b.m)) (.int .i64 (j : Int)) (.agg #[.string (strOfNums l), .int .i8 0, .bool x.ever])).run Tryz.prog w2 = .ok () w3 ∧ w3.ownsMap Tryz.prog 3 blkR b.m (Maps.size D + 1) (D.put (kl j) (blkD (strOfNums l) 0 x.ever)) ∧ w2.grownBy w3 (some b.m) ∧ w3.cell? ⟨b.p, 1, none⟩ = some (.map (some b.m)) from by
          intro w2 hb2
          have hm2 := ownsMap_same (w' := w2) HIN.out.map (hb2.block b.m HIN.out.map.lt)
          have e1 := (hb2.cell (World.block_lt_of_cell? w1 _ HC1.out)).trans HC1.out
          obtain ⟨w3, hrun, ho3, hg3⟩ := hm2.update law Tryz.underlying69 (by rw [HIN.out.pend.size]; have := List.countP_le_length (p := BSt.pend) (l := s.power.2.blks); have := HK.out.2.2.2; rw [s.power_blks.1] at *; unfold maxLen; omega) HKey.out (blkR_mk (strOfNums l) 0 x.ever)
          exact ⟨e1, w3, hrun, ho3, hg3, hg3.cell e1 (by simp [HIN.out.nd.2.1])⟩)
        clear hin hF hl hx hN hi1 c0
        go_wp2_with fail
        go_region_held3 (fun w' => w'.cell? ⟨b.p, 1, none⟩ = some (.map (some b.m))) (first | exact c1 | exact e1 | exact e3 | go_keep)
          ((first | (go_at_call 156; refine (dvAnew_any b.p b.g N b.c x.ever j A 256 c l w1.drew HC0.out HC2.out hjN HSd.out).mono ?_; rintro e w2 ⟨rfl, hb2⟩; obtain ⟨e1, w3, hrun, ho3, hg3, e3⟩ := HU.out w2 hb2; have HB2 := hid hb2; have HO3 := hid ho3; have HG3 := hid hg3; clear hb2 ho3 hg3)))
        clear e1 hrun
        have hB2 : Below w1.heap.size w1 w2 := ⟨HB2.out.os, HB2.out.tape, HB2.out.output, HB2.out.size, HB2.out.block⟩
        have hbox3 := (HIN.out.box.below hB2 HIN.out.box.lt).grown HG3.out (by simp [HIN.out.nd.2.1])
        have e2 := hbox3.cell 2
        have f2 := hbox3.free 2
        simp [DB.cells] at e2
        have hcl : (s.power.2.calls : Int) + 1 ≤ 9223372036854775807 := by have := HK.out.2.1; rw [s.power_blks.2]; omega
        have HE := hid (show WriteDv S w b.p (s.write (j : Int) l) F (.returned .nilIface) (w3.setCell ⟨b.p, 2, none⟩ (.int .i64 ((s.power.2.calls : Int) + 1))) by
          unfold WriteDv
          rw [HW.out, HW1.out]
          refine ⟨⟨_, EV.fine, rfl⟩, ?_⟩
          have ht : (s.power.2.turn (j : Int) (BSt.write l)) = { s.power.2 with blks := s.power.2.blks.set j (x.write l) } := turn_set _ HX.out
          show RealUpd DvReal w b.p { s.power.2.turn (j : Int) (BSt.write l) with calls := s.power.2.calls + 1 } F _
          rw [ht]
          have hmp := ownsMap_size (ownsMap_same (w' := w3.setCell ⟨b.p, 2, none⟩ (.int .i64 ((s.power.2.calls : Int) + 1))) HO3.out (Below.heap_setCell w3 ⟨b.p, 2, none⟩ _ b.m (Ne.symm HIN.out.nd.2.1)))
          have hrow : (w3.setCell ⟨b.p, 2, none⟩ (.int .i64 ((s.power.2.calls : Int) + 1))).ownsRow 0 66 3 (.slice (some ⟨b.g, 0, none⟩) s.power.2.blks.length b.c) s.power.2.blks.length (cellsOf s.power.2.blks) := ownsRow_same HIN.out.row (by
            rw [Below.heap_setCell w3 ⟨b.p, 2, none⟩ _ b.g (Ne.symm HIN.out.nd.1), HG3.out.block b.g (Nat.lt_of_lt_of_le (HIN.out.lt b.g (by simp [DB.all])) hB2.size) (by simp [HIN.out.nd.2.2])]
            exact hB2.block b.g (HIN.out.lt b.g (by simp [DB.all])))
          have ho : Only F w1 (w3.setCell ⟨b.p, 2, none⟩ (.int .i64 ((s.power.2.calls : Int) + 1))) := by
            have h2 : Only F w1 w2 := Only.of_below hB2
            have h3 : Only F w2 w3 := ⟨HG3.out.os, HG3.out.tape, HG3.out.output, HG3.out.size, fun k hk hn => HG3.out.block k hk (fun e => hn (by injection e with e; rw [e]; exact HF.out _ (by simp [DB.all])))⟩
            exact (h2.trans h3 (fun _ h => .inl h)).put (HF.out b.p (by simp [DB.all])) _
          refine ⟨F, ⟨b, D.put (kl j) (blkD (strOfNums l) 0 x.ever), arm, rfl, ⟨?_, ?_, hmp, HIN.out.nd, pend_put HIN.out.pend (HIN.out.map.tidy law) HX.out (x' := x.write l) rfl, HIN.out.arm, fun y hy => ?_⟩, HF.out, fun k hk => Nat.lt_of_lt_of_le (HLL.out k hk) ho.size⟩, (only_p HD.out HO1.out).trans ho (fun _ h => .inl h), fun _ h => .inl h⟩
          · show Blk _ b.p _ (b.cells (s.power.2.blks.set j (x.write l)).length (s.power.2.calls + 1) arm s.power.2.down)
            rw [List.length_set]
            exact hbox3.put 2 _
          · show World.ownsRow _ 0 _ 3 (.slice _ (s.power.2.blks.set j (x.write l)).length b.c) (s.power.2.blks.set j (x.write l)).length (cellsOf (s.power.2.blks.set j (x.write l)))
            rw [List.length_set, cellsOf_same HX.out (x' := x.write l) rfl]
            exact hrow
          · rcases List.mem_or_eq_of_mem_set hy with h' | rfl
            · exact HIN.out.bad y h'
            · exact HIN.out.bad x (List.mem_of_getElem? HX.out))
        clear hbox3 hB2 e3
        go_wp2
        go_ret
        exact HE.out
      · have hne : ((n : Int) != 256) = true := by rw [bne_iff_ne]; omega
        have HW1 := hid (show s.power.2.write1 (j : Int) l = (102, s.power.2) by unfold DSt.write1; rw [if_neg (by rw [HI.out]; decide), if_pos (by rw [HL.out]; exact h256)])
        clear h256
        go_enter Tryz.func126, Tryz.ntmps126
        go_wp2_with fail
        refine (dvPower_any p s F w HD.out HK.out.2.2.1).mono ?_
        rintro e w1 ⟨he, hd, ho⟩
        rw [HP.out] at he
        subst he
        have HD1 := hid hd
        have HO1 := hid ho
        clear hd ho
        go_wp2_with fail
        refine (dvThere_any p s.power.2 F _ w1 HD1.out).mono ?_
        rintro e w' ⟨rfl, rfl⟩
        rw [HI.out]
        have hc : w1.cell? ⟨3, 0, none⟩ = some (.iface 261 (.pointer (some (S 1)))) := HD.out.sent HSn.out HO1.out 1 (by decide)
        have HF := hid (show WriteDv S w p (s.write (j : Int) l) F (.returned (.iface 261 (.pointer (some (S 1))))) w1 by
          unfold WriteDv
          rw [HW.out, HW1.out]
          exact ⟨⟨_, EV.err 1 (by decide), rfl⟩, RealUpd.of_p HD.out HD1.out HO1.out⟩)
        go_wp2
        go_ret
        exact HF.out
    · have HI := hid ((hI i).trans (Bool.not_eq_true _ ▸ hin))
      have HW1 := hid (show s.power.2.write1 i l = (105, s.power.2) by unfold DSt.write1; rw [if_pos HI.out])
      clear hI hin
      go_enter Tryz.func126, Tryz.ntmps126
      go_wp2_with fail
      refine (dvPower_any p s F w HD.out HK.out.2.2.1).mono ?_
      rintro e w1 ⟨he, hd, ho⟩
      rw [HP.out] at he
      subst he
      have HD1 := hid hd
      have HO1 := hid ho
      clear hd ho
      go_wp2_with fail
      refine (dvThere_any p s.power.2 F _ w1 HD1.out).mono ?_
      rintro e w' ⟨rfl, rfl⟩
      rw [HI.out]
      have hc : w1.cell? ⟨1, 0, none⟩ = some (.iface 261 (.pointer (some (S 4)))) := HD.out.sent HSn.out HO1.out 4 (by decide)
      have HF := hid (show WriteDv S w p (s.write i l) F (.returned (.iface 261 (.pointer (some (S 4))))) w1 by
        unfold WriteDv
        rw [HW.out, HW1.out]
        exact ⟨⟨_, EV.err 4 (by decide), rfl⟩, RealUpd.of_p HD.out HD1.out HO1.out⟩)
      go_wp2
      go_ret
      exact HF.out
  · have HW := hid (show s.write i l = (106, s.power.2) by unfold DSt.write; rw [if_neg hp]; exact Prod.ext (DSt.power_ok hp) rfl)
    have HP := hid (show (s.power.1 != 0) = true by rw [bne_iff_ne]; exact hp)
    clear hp
    go_enter Tryz.func126, Tryz.ntmps126
    go_wp2_with fail
    refine (dvPower_any p s F w HD.out HK.out.2.2.1).mono ?_
    rintro e w1 ⟨he, hd, ho⟩
    rw [HP.out] at he
    subst he
    have hc : w1.cell? ⟨5, 0, none⟩ = some (.iface 261 (.pointer (some (S 5)))) := HD.out.sent HSn.out ho 5 (by decide)
    have HF := hid (show WriteDv S w p (s.write i l) F (.returned (.iface 261 (.pointer (some (S 5))))) w1 by
      unfold WriteDv
      rw [HW.out]
      exact ⟨⟨_, EV.err 5 (by decide), rfl⟩, RealUpd.of_p HD.out hd ho⟩)
    clear hd ho
    go_wp2
    go_ret
    exact HF.out
end Go.Proofs.YtkhdgacjgccnnaaGreatDoor
namespace Go.Proofs.YtkhdgacjgccnnaaGreatDoor
open Go.RowKit Go.Maps

theorem str_back {l : List Int} (h : Byt l) : str (strOfNums l) = l := by
  simp only [str, strOfNums, List.map_map]
  conv => rhs; rw [← List.map_id l]
  apply List.map_congr_left
  intro x hx
  obtain ⟨h0, h1⟩ := h x hx
  simp only [Function.comp, id]
  obtain ⟨y, rfl⟩ : ∃ y : Nat, x = (y : Int) := ⟨x.toNat, by omega⟩
  simp
  omega
theorem str_size {l : List Int} (h : Byt l) : (strOfNums l).size = l.length := by rw [← str_len, str_back h]
/-- a text's bytes, laid anew -/
def Laid (W : World) (l : List Int) (C : Nat) (W' : World) : Prop := (∀ j x, l[j]? = some x → W'.cell? ⟨W.heap.size, j, none⟩ = some (.int .u8 x)) ∧ (∀ j, j < l.length → W'.frozen? ⟨W.heap.size, j, none⟩ = false) ∧ Below W.heap.size W W' ∧ W'.heap.size = W.heap.size + 1 ∧ l.length ≤ C ∧ C ≤ maxLen
theorem conv_back (W : World) {l : List Int} (hy : Byt l) (hn : l.length ≤ 100000) : ∃ C W', (convert 9 29 (.string (strOfNums l))).run Tryz.prog W = .ok (.slice (some ⟨W.heap.size, 0, none⟩) l.length C) W' ∧ Laid W l C W' := by
  have hsz := str_size hy
  have hge := grownCap_ge W (strOfNums l).size 0 5
  have hnew := Lib.bytesWorld_at_new W 5 (strOfNums l)
  refine ⟨_, _, (by rw [← hsz]; exact Lib.run_convert_string_bytes W 9 29 5 (strOfNums l) Tryz.underlying9 Tryz.underlying29 Tryz.underlying5), ?_, ?_, ?_, Lib.bytesWorld_size _ _ _, by omega, grownCap_le_maxLen _ _ _ _ (by unfold maxLen; omega)⟩
  · intro j x hx
    have hj : j < l.length := (List.getElem?_eq_some_iff.1 hx).1
    rw [Lib.bytesWorld_cell W 5 (strOfNums l) j (by omega)]
    have e := congrArg (fun m => m[j]?) (str_back hy)
    simp only [str, List.getElem?_map] at e
    rw [hx] at e
    obtain ⟨b, hb, hx'⟩ := Option.map_eq_some_iff.1 e
    rw [List.getD_eq_getElem?_getD, hb]
    simp [hx']
  · intro j hj
    unfold World.frozen?
    simp only [hnew]
    have : (Lib.bytesCells W 5 (strOfNums l)).size = grownCap W (strOfNums l).size 0 5 := by
      have e : (strOfNums l).data.size = (strOfNums l).size := rfl
      simp [Lib.bytesCells, e]; omega
    simp [this]
    omega
  · exact ⟨rfl, rfl, rfl, by rw [Lib.bytesWorld_size]; omega, fun k hk => Lib.bytesWorld_at_old W _ _ k hk⟩
theorem Laid.sl {W W' : World} {l : List Int} {C : Nat} (h : Laid W l C W') : Sl W' W'.heap.size (some ⟨W.heap.size, 0, none⟩) l.length C l :=
  ⟨rfl, h.2.2.2.2.1, h.2.2.2.2.2, (fun h => by cases h), fun ad ha _ => by
    cases ha
    refine ⟨by show W.heap.size < _; rw [h.2.2.2.1]; omega, fun j x hx => ?_⟩
    have e : (⟨W.heap.size, 0, none⟩ : Addr).add j = ⟨W.heap.size, j, none⟩ := by unfold Addr.add; split <;> simp_all
    rw [e]
    exact h.1 j x hx⟩
/-- a look at what is pending -/
theorem look_yes {w : World} {m n : Nat} {D : DataW Unit} {l : List BSt} {k : Nat} {x : BSt} (h : w.ownsMap Tryz.prog 3 blkR m n D) (hp : Pend D l) (hx : l[k]? = some x) (hk : k ≤ 100000) (hxp : x.pend = true) :
    (Instr.lookup 69 (.map (some m)) (.int .i64 (k : Int)) true).run Tryz.prog w = .ok (.tuple #[.agg #[.string (strOfNums x.next), .int .i8 0, .bool x.ever], .bool true]) w := by
  obtain ⟨v, ps, hrun, hv⟩ := h.look_ok law Tryz.underlying69 (Tryz.zeroBlk w) (blkR_mk _ _ _) (key_of hk)
  rw [hp.val k x hx hxp] at hv
  rw [hp.has k x hx, hxp] at hrun
  obtain ⟨a, c, e, rfl, he⟩ := blkR_inv hv
  obtain ⟨rfl, rfl, rfl⟩ := blkD_inj (congrArg Prod.fst he)
  exact hrun
theorem look_no {w : World} {m n : Nat} {D : DataW Unit} {l : List BSt} {k : Nat} {x : BSt} (h : w.ownsMap Tryz.prog 3 blkR m n D) (hp : Pend D l) (hx : l[k]? = some x) (hk : k ≤ 100000) (hxp : x.pend = false) :
    (Instr.lookup 69 (.map (some m)) (.int .i64 (k : Int)) true).run Tryz.prog w = .ok (.tuple #[.agg #[.string ⟨#[]⟩, .int .i8 0, .bool false], .bool false]) w := by
  obtain ⟨v, ps, hrun, hv⟩ := h.look_ok law Tryz.underlying69 (Tryz.zeroBlk w) (blkR_mk _ _ _) (key_of hk)
  have hh := hp.has k x hx
  rw [hxp] at hh
  rw [atKey_of_not_has hh] at hv
  rw [hh] at hrun
  obtain ⟨a, c, e, rfl, he⟩ := blkR_inv hv
  obtain ⟨rfl, rfl, rfl⟩ := blkD_inj (congrArg Prod.fst he)
  exact hrun
theorem read_nil {S : Nat → Addr} {w w' : World} {code : Int} {v : Value} (hv : EV S code v) (hb : Below w.heap.size w w') : RealRead S w (code, []) (.returned (.tuple #[.slice none 0 0, v])) w' :=
  ⟨none, 0, 0, v, rfl, hv, Sl.empty _ _, hb, fun _ h => by cases h⟩
theorem read_laid {S : Nat → Addr} {w W W' : World} {l : List Int} {C n : Nat} (hn : l.length = n) (h : Laid W l C W') (hb : Below w.heap.size w W) : RealRead S w (0, l) (.returned (.tuple #[.slice (some ⟨W.heap.size, 0, none⟩) n C, .nilIface])) W' := by
  subst hn
  exact ⟨_, _, C, _, rfl, EV.fine, h.sl, hb.trans (h.2.2.1.mono hb.size), fun ad ha => by cases ha; exact hb.size⟩
set_option maxRecDepth 100000 in
set_option maxHeartbeats 2000000 in
theorem dvRead_any (S : Nat → Addr) (p : Nat) (s : DSt) (F : Nat → Prop) (i : Int) (w : World) (hS : Sent5 w S) (h : DvReal w p s F) (hok : s.ok) :
    Calls Tryz.prog 65 #[.pointer (some ⟨p, 0, none⟩), .int .i64 i] w (RealRead S w (s.read i)) := by
  have HD := hid h
  obtain ⟨b, D, arm, rfl, hin⟩ := h.in_
  have c4 := hin.box.cell 4
  simp [DB.cells] at c4
  have hc5 : w.cell? ⟨5, 0, none⟩ = some (.iface 261 (.pointer (some (S 5)))) := hS 5 (by decide)
  have hc4 : w.cell? ⟨1, 0, none⟩ = some (.iface 261 (.pointer (some (S 4)))) := hS 4 (by decide)
  have hc6 : w.cell? ⟨2, 0, none⟩ = some (.iface 261 (.pointer (some (S 6)))) := hS 6 (by decide)
  have h5 := World.block_lt_of_cell? w _ hc5
  have h4 := World.block_lt_of_cell? w _ hc4
  have h6 := World.block_lt_of_cell? w _ hc6
  have HO := hid hok
  have HI := hid hin
  clear h hS hok hin
  rcases hd : s.down with _ | _
  · rw [hd] at c4
    by_cases hn : s.inB i = true
    · obtain ⟨hi0, hi1⟩ := DSt.in_iff.1 hn
      obtain ⟨j, rfl⟩ : ∃ j : Nat, i = (j : Int) := ⟨i.toNat, by omega⟩
      obtain ⟨x, hx⟩ : ∃ x, s.blks[j]? = some x := ⟨_, List.getElem?_eq_getElem (by omega)⟩
      have HE := hid (show s.read (j : Int) = x.read by unfold DSt.read; rw [hd, hn, Int.toNat_natCast, hx]; rfl)
      have HX := hid hx
      have HN := hid hn
      have hxk := HO.out.1 x (List.mem_of_getElem? hx)
      have hj5 : j ≤ 100000 := by have := HO.out.2.2.2; omega
      have c1 := HI.out.box.cell 1
      simp [DB.cells] at c1
      clear hn hd hi0
      rw [HE.out]
      rcases hp : x.pend with _ | _
      · have hq := look_no HI.out.map HI.out.pend HX.out hj5 hp
        have c0 := HI.out.box.cell 0
        simp [DB.cells] at c0
        obtain ⟨N, hN⟩ : ∃ N, s.blks.length = N := ⟨_, rfl⟩
        rw [hN] at c0 hi1
        obtain ⟨r0, r1, _⟩ := row_cells HI.out.row hx rfl
        have hbp : b.p < w.heap.size := HI.out.box.lt
        have hbg : b.g < w.heap.size := HI.out.lt b.g (by simp [DB.all])
        rcases hf : x.fail with _ | _
        · have hr : x.read = (0, x.has) := by unfold BSt.read; rw [hp, hf]; rfl
          rw [hr]
          obtain ⟨C, W', hcv, hL⟩ := conv_back (w.alloc (.cells #[.string ⟨#[]⟩, .int .i8 0, .bool false] 66)) hxk.1 (by rw [hxk.2.1]; decide)
          rw [hxk.2.1] at hcv
          have HF := hid (show RealRead S w (0, x.has) (.returned (.tuple #[.slice (some ⟨(w.alloc (.cells #[.string ⟨#[]⟩, .int .i8 0, .bool false] 66)).heap.size, 0, none⟩) 256 C, .nilIface])) W' from read_laid hxk.2.1 hL ((Below.refl _ _).alloc (Nat.le_refl _) _))
          have hne : (faultN x == 2) = false := by unfold faultN; rw [hf]; cases x.fault <;> rfl
          obtain ⟨q, hfq⟩ : ∃ q, faultN x = q := ⟨_, rfl⟩
          rw [hfq] at r1 hne
          clear hr hL hf hp hfq hx hxk hN
          simp at hcv HF
          go_enter Tryz.func65, Tryz.ntmps65
          go_wp2_with fail
          refine (dvThere_any b.p s F _ w HD.out).mono ?_
          rintro e w' ⟨rfl, rfl⟩
          rw [HN.out]
          go_wp2
          go_ret2
          exact HF.out
        · have hr : x.read = (107, []) := by unfold BSt.read; rw [hp, hf]; rfl
          rw [hr]
          have hfn : faultN x = 2 := by unfold faultN; rw [hf]; rfl
          rw [hfn] at r1
          have HF := hid (fun W (hb : Below w.heap.size w W) => read_nil (S := S) (code := 107) (EV.err 6 (by decide)) hb)
          clear hr hf hp hfn hx hxk hN
          go_enter Tryz.func65, Tryz.ntmps65
          go_wp2_with fail
          refine (dvThere_any b.p s F _ w HD.out).mono ?_
          rintro e w' ⟨rfl, rfl⟩
          rw [HN.out]
          go_wp2
          go_region
          all_goals
            go_wp2
            go_ret2
            exact HF.out _ (by repeat (first | exact Below.refl _ _ | refine Below.drew ?_ | refine Below.alloc ?_ (by simp) _))
      · have hq := look_yes HI.out.map HI.out.pend HX.out hj5 hp
        have hr : x.read = (0, x.next) := by unfold BSt.read; rw [hp]; rfl
        rw [hr]
        obtain ⟨C, W', hcv, hL⟩ := conv_back (w.alloc (.cells #[.string (strOfNums x.next), .int .i8 0, .bool x.ever] 66)) hxk.2.2.1 (by rw [hxk.2.2.2]; decide)
        rw [hxk.2.2.2] at hcv
        have HF := hid (show RealRead S w (0, x.next) (.returned (.tuple #[.slice (some ⟨(w.alloc (.cells #[.string (strOfNums x.next), .int .i8 0, .bool x.ever] 66)).heap.size, 0, none⟩) 256 C, .nilIface])) W' from read_laid hxk.2.2.2 hL ((Below.refl _ _).alloc (Nat.le_refl _) _))
        clear hr hL hp hx hxk
        simp at hcv HF
        go_enter Tryz.func65, Tryz.ntmps65
        go_wp2_with fail
        refine (dvThere_any b.p s F _ w HD.out).mono ?_
        rintro e w' ⟨rfl, rfl⟩
        rw [HN.out]
        go_wp2
        go_ret2
        exact HF.out
    · have hn' : s.inB i = false := Bool.not_eq_true _ ▸ hn
      have HN := hid hn'
      have hr : s.read i = (105, []) := by unfold DSt.read; rw [hd, hn']; rfl
      rw [hr]
      have HF := hid (fun W (hb : Below w.heap.size w W) => read_nil (S := S) (code := 105) (EV.err 4 (by decide)) hb)
      clear hn hn' hr hd
      go_enter Tryz.func65, Tryz.ntmps65
      go_wp2_with fail
      refine (dvThere_any b.p s F _ w HD.out).mono ?_
      rintro e w' ⟨rfl, rfl⟩
      rw [HN.out]
      go_wp2
      go_region
      all_goals
        go_wp2
        go_ret2
        exact HF.out _ (by repeat (first | exact Below.refl _ _ | refine Below.drew ?_ | refine Below.alloc ?_ (by simp) _))
  · rw [hd] at c4
    have hr : s.read i = (106, []) := by unfold DSt.read; rw [hd]; rfl
    rw [hr]
    have HF := hid (fun W (hb : Below w.heap.size w W) => read_nil (S := S) (code := 106) (EV.err 5 (by decide)) hb)
    clear hr hd
    go_enter Tryz.func65, Tryz.ntmps65
    go_wp2
    go_region
    all_goals
      go_wp2
      go_ret2
      exact HF.out _ (by repeat (first | exact Below.refl _ _ | refine Below.drew ?_ | refine Below.alloc ?_ (by simp) _))
end Go.Proofs.YtkhdgacjgccnnaaGreatDoor
namespace Go.Proofs.YtkhdgacjgccnnaaGreatDoor
open Go.RowKit Go.Maps

/-- bytes in a block's cells, from its first on -/
structure Cels (W : World) (g : Nat) (m : List Int) : Prop where
  cell : ∀ j x, m[j]? = some x → W.cell? ⟨g, j, none⟩ = some (.int .u8 x)
  free : ∀ j, j < m.length → W.frozen? ⟨g, j, none⟩ = false
theorem Cels.put {W : World} {g k : Nat} {m : List Int} {y z : Int} (h : Cels W g m) (hk : m[k]? = some z) : Cels (W.setCell ⟨g, k, none⟩ (.int .u8 y)) g (m.set k y) := by
  have hc := h.cell k z hk
  refine ⟨fun j x hx => ?_, fun j hj => ?_⟩
  · rcases set_get hx with ⟨rfl, rfl⟩ | ⟨hne, hx'⟩
    · exact World.cell?_setCell_same' W ⟨g, j, none⟩ _ (by rw [hc]; rfl)
    · rw [World.cell?_setCell_other W ⟨g, k, none⟩ ⟨g, j, none⟩ _ (by intro e; injection e with _ e; exact hne e.symm)]
      exact h.cell j x hx'
  · rw [World.frozen?_setCell]; exact h.free j (by simpa using hj)
theorem Cels.drew {W : World} {g : Nat} {m : List Int} (h : Cels W g m) : Cels W.drew g m := ⟨h.cell, h.free⟩
theorem Cels.sl {W : World} {g C : Nat} {m : List Int} (h : Cels W g m) (hg : g < W.heap.size) (hC : m.length ≤ C) (hM : C ≤ maxLen) : Sl W W.heap.size (some ⟨g, 0, none⟩) m.length C m :=
  ⟨rfl, hC, hM, (fun h => by cases h), fun ad ha _ => by
    cases ha
    refine ⟨hg, fun j x hx => ?_⟩
    have e : (⟨g, 0, none⟩ : Addr).add j = ⟨g, j, none⟩ := by unfold Addr.add; split <;> simp_all
    rw [e]
    exact h.cell j x hx⟩
end Go.Proofs.YtkhdgacjgccnnaaGreatDoor
namespace Go.Proofs.YtkhdgacjgccnnaaGreatDoor
open Go.RowKit Go.Maps

theorem Blk.on {w w' : World} {g : Nat} {t : TypeId} {cs : Array Value} (h : Blk w g t cs) (hb : Below w.heap.size w w') : Blk w' g t cs := h.below hb h.lt
theorem Tryz.infoBlk : (Tryz.prog.info? 66).map (fun i => (i.zero, i.size, i.bytes)) = some (some (.agg #[.string ⟨#[]⟩, .int .i8 0, .bool false]), 3, 24) := by kernel_rfl
theorem cellsOf_one (l : List BSt) : ∀ u ∈ cellsOf l, u.oneCell' = true := by
  intro u hu
  simp only [cellsOf, List.mem_flatMap, cells3, List.mem_cons, List.not_mem_nil, or_false] at hu
  obtain ⟨x, _, rfl | rfl | rfl⟩ := hu <;> rfl
end Go.Proofs.YtkhdgacjgccnnaaGreatDoor
