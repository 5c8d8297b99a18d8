/- Put together out of 1 texts. Package dev: Flush, Crash, Ever. -/
import Derived.Test.YtkhdgacjgccnnaaGreatDoorGXai
namespace Go.Proofs.YtkhdgacjgccnnaaGreatDoor
open Go.RowKit Go.Maps
open Go.ChangeMaps (setBlock heap_setBlock_same heap_setBlock_other)

/-- clear, at a map -/
theorem clear_run {w : World} {b n : Nat} {D : DataW Unit} (h : w.ownsMap Tryz.prog 3 blkR b n D) : ∃ w', (∀ ty, (Builtin.clear_ #[69] ty #[.map (some b)]).run Tryz.prog w = .ok (.tuple #[]) w') ∧ w'.ownsMap Tryz.prog 3 blkR b 0 (.map []) ∧ w.grownBy w' (some b) := by
  obtain ⟨es, clock, hb, F, hs, hD⟩ := h
  refine ⟨setBlock w b (.map #[] clock), fun ty => ?_, ⟨#[], clock, heap_setBlock_same hb _, ⟨by simp, MapKept.stamped_empty clock, by simp⟩, Nat.le_refl _, rfl⟩, ⟨rfl, rfl, rfl, by simp [setBlock], fun i _ hi => heap_setBlock_other hb _ (fun e => hi (by rw [e]))⟩⟩
  simp [Builtin.clear_, run_underlying Tryz.underlying69, MapKept.run_getObj_map hb, MapKept.run_setObj_map _ hb, Result.andThen, setBlock]
/-- a step of a range over what is pending -/
theorem wpList_next_dv {w : World} {ops : Array Oper} {rest : List Oper} {o : Oper} {a : Act} {Q : Exit → Act → World → Prop} (hg : o.guard = none) (it : Operand) (hop : o.op = Op.next it false) (l : List BSt) (b r n : Nat) (D : DataW Unit) (hp : Pend D l) (left : Lit → Bool) (cnt : Nat)
    (hit : a.eval it = .pointer (some ⟨r, 0, none⟩)) (h : w.ranges Tryz.prog 3 blkR b r n D left cnt)
    (hDone : (∀ z, left z = false) → wpList Tryz.prog ops Q rest (a.put o.dst (.tuple #[.bool false])) w)
    (hMore : ∀ (k : Nat) (x : BSt) (w' : World) (cnt' : Nat), l[k]? = some x → x.pend = true → left (kl k) = true → w'.ranges Tryz.prog 3 blkR b r n D (fun z => left z && !z.sameKey (kl k)) cnt' → cnt' < cnt → w.grownBy w' (some r) → w'.heap.size = w.heap.size →
      (Instr.entry (.pointer (some ⟨r, 0, none⟩))).run Tryz.prog w' = .ok (.tuple #[.int .i64 (k : Int), .agg #[.string (strOfNums x.next), .int .i8 0, .bool x.ever]]) w' → wpList Tryz.prog ops Q rest (a.put o.dst (.tuple #[.bool true, .int .i64 (k : Int), .agg #[.string (strOfNums x.next), .int .i8 0, .bool x.ever]])) w') :
    wpList Tryz.prog ops Q (o :: rest) a w := by
  refine wpList_next_ranges w hg it hop 3 law blkR (Value.int .i64) (fun y : ByteArray × Int × Bool => .agg #[.string y.1, .int .i8 y.2.1, .bool y.2.2]) (fun key z hk => by obtain ⟨x, hx, _⟩ := Maps.keyOf_i64 Tryz.underlying3 hk; exact ⟨x, hx⟩) (fun v y hv => by obtain ⟨x, c, e, hx, _⟩ := blkR_inv hv; exact ⟨(x, c, e), hx⟩)
    b r n D left cnt hit h (fun _ hl => hDone hl) (fun x c z y w' cnt' hkey hlk hv hat hrg hlt hgr hsz hen => ?_)
  obtain ⟨x', ex, rfl, _⟩ := Maps.keyOf_i64 Tryz.underlying3 hkey
  obtain rfl : x = x' := by injection ex
  obtain ⟨k, hk, he⟩ := hp.key _ (has_true_of_atKey hat)
  obtain rfl : x = (k : Int) := by injection he
  obtain ⟨u, hu⟩ : ∃ u, l[k]? = some u := ⟨_, List.getElem?_eq_getElem hk⟩
  have hpd : u.pend = true := by rw [← hp.has k u hu]; exact has_true_of_atKey hat
  have hva := hp.val k u hu hpd (blkD ⟨#[]⟩ 0 false)
  rw [hat] at hva
  obtain ⟨c1, c2, c3⟩ := c
  obtain ⟨x2, c4, e2, hx2, hy2⟩ := blkR_inv hv
  obtain ⟨rfl, rfl, rfl⟩ : c1 = x2 ∧ c2 = c4 ∧ c3 = e2 := by simpa using hx2
  rw [hy2] at hva
  obtain ⟨rfl, rfl, rfl⟩ := blkD_inj hva
  exact hMore k u w' cnt' hu hpd hlk hrg hlt hgr hsz hen
/-- those blocks settled that are pending and no more to come -/
def flD (left : Lit → Bool) (l : List BSt) : List BSt := l.mapIdx fun i x => if x.pend = true ∧ left (kl i) = false then x.settle else x
theorem fl_get (left : Lit → Bool) (l : List BSt) (i : Nat) : (flD left l)[i]? = (l[i]?).map fun x => if x.pend = true ∧ left (kl i) = false then x.settle else x := by
  unfold flD; rw [List.getElem?_mapIdx]
theorem fl_len (left : Lit → Bool) (l : List BSt) : (flD left l).length = l.length := by simp [flD]
theorem fl_start {D : DataW Unit} {l : List BSt} (h : Pend D l) : flD (Maps.has D) l = l := by
  apply List.ext_getElem?
  intro i
  rw [fl_get]
  rcases hx : l[i]? with _ | x
  · rfl
  · have := h.has i x hx
    simp only [Option.map_some, Option.some.injEq]
    rw [if_neg]
    rintro ⟨h1, h2⟩
    rw [this, h1] at h2
    cases h2
theorem fl_step {left : Lit → Bool} {l : List BSt} {k : Nat} {x : BSt} (hx : l[k]? = some x) (hp : x.pend = true) (hl : left (kl k) = true) : flD (fun z => left z && !z.sameKey (kl k)) l = (flD left l).set k x.settle ∧ (flD left l)[k]? = some x := by
  have hk : k < l.length := (List.getElem?_eq_some_iff.1 hx).1
  refine ⟨?_, by rw [fl_get, hx]; simp [hl]⟩
  apply List.ext_getElem?
  intro i
  rw [fl_get, List.getElem?_set, fl_get, fl_len]
  by_cases e : k = i
  · subst e
    rw [hx, if_pos rfl, if_pos hk]
    simp [hp, Lit.sameKey]
  · rw [if_neg e]
    have : (kl i).sameKey (kl k) = false := sameKey_ne (fun h => e (kl_inj h).symm)
    simp [this]
theorem fl_end {left : Lit → Bool} {l : List BSt} (h : ∀ z, left z = false) : cellsOf (flD left l) = cellsOf (l.map BSt.flush) := by
  have e : ∀ (l' : List BSt), (∀ i, (flD left l)[i]? = l'[i]?) → flD left l = l' := fun l' h' => List.ext_getElem? h'
  have e1 : flD left l = l.map fun x => if x.pend = true then x.settle else x := e _ (fun i => by rw [fl_get, List.getElem?_map]; rcases l[i]? with _ | x <;> simp [h])
  rw [e1]
  simp only [cellsOf, List.flatMap_map]
  congr 1
  funext x
  unfold BSt.flush
  rcases hp : x.pend with _ | _
  · rfl
  · rfl
theorem pend_none {l : List BSt} (h : ∀ x, x ∈ l → x.pend = false) : Pend (.map []) l := by
  refine ⟨fun k x hx => ?_, fun k x hx hp => ?_, fun z hz => ?_, ?_⟩
  · rw [h x (List.mem_of_getElem? hx)]; rfl
  · rw [h x (List.mem_of_getElem? hx)] at hp; cases hp
  · cases hz
  · rw [List.countP_eq_zero.2 (fun x hx => by rw [h x hx]; decide)]; rfl
theorem flush_pend (x : BSt) : x.flush.pend = false := by
  unfold BSt.flush
  rcases hp : x.pend with _ | _
  · simp [hp]
  · rfl
theorem flush_bad {x : BSt} (h : x.fail = true → x.fault = true) : x.flush.fail = true → x.flush.fault = true := by
  unfold BSt.flush
  split
  · intro h'; cases h'
  · exact h
set_option maxRecDepth 100000 in
set_option maxHeartbeats 2000000 in
theorem dvFlush_any (S : Nat → Addr) (p : Nat) (s : DSt) (F : Nat → Prop) (w : World) (hS : Sent5 w S) (h : DvReal w p s F) (hok : s.ok) :
    Calls Tryz.prog 51 #[.pointer (some ⟨p, 0, none⟩)] w (WriteDv S w p s.flush F) := by
  have HD := hid h
  have HK := hid hok
  have HSn := hid hS
  clear h hok hS
  by_cases hp : s.power.1 = 0
  · have HW := hid (show s.flush = s.power.2.flush1 by unfold DSt.flush; rw [if_pos hp])
    have HP := hid (show (s.power.1 != 0) = false by rw [hp]; rfl)
    clear hp
    go_enter Tryz.func51, Tryz.ntmps51
    go_wp2_with fail
    refine (dvPower_any p s F w HD.out HK.out.2.2.1).mono ?_
    rintro e w1 ⟨he, hd, ho⟩
    rw [HP.out] at he
    subst he
    have HD1 := hid hd
    have HO1 := hid ho
    clear hd ho
    obtain ⟨b, D, arm, hbp, hin, hF, hl⟩ := HD1.out
    subst hbp
    have HIN := hid hin
    have HF := hid hF
    have HLL := hid hl
    have c1 := hin.box.cell 1
    simp [DB.cells] at c1
    have HM := hid hin.map
    obtain ⟨N, hN⟩ : ∃ N, s.power.2.blks.length = N := ⟨_, rfl⟩
    have HN := hid hN
    have HN6 := hid (show N ≤ 6000 by rw [← hN, s.power_blks.1]; exact HK.out.2.2.2)
    clear hin hF hl hN
    go_wp2_with (at_range; refine wpList_range_own _ rfl _ 69 rfl 3 66 law Tryz.underlying69 blkR b.m _ D rfl HM.out ?_; intro w0 hrg0 hg0 hs0)
    go_frame
    have HR0 := hid (show ∃ left cnt, w0.ranges Tryz.prog 3 blkR b.m w1.heap.size (Maps.size D) D left cnt ∧ w0.ownsRow 0 66 3 (.slice (some ⟨b.g, 0, none⟩) s.power.2.blks.length b.c) s.power.2.blks.length (cellsOf (flD left s.power.2.blks)) ∧ w1.grownBy w0 (some b.g) ∧ Blk w0 b.p 71 (b.cells s.power.2.blks.length s.power.2.calls arm s.power.2.down) from ⟨Maps.has D, Maps.size D, hrg0, by rw [fl_start HIN.out.pend]; exact ownsRow_same HIN.out.row (hg0.block b.g (HIN.out.lt b.g (by simp [DB.all])) (by simp)), hg0.but _, HIN.out.box.grown hg0 (by simp)⟩)
    clear hrg0 hg0 hs0
    go_loopw [3] (fun _ wr => ∃ left cnt, wr.ranges Tryz.prog 3 blkR b.m w1.heap.size (Maps.size D) D left cnt ∧ wr.ownsRow 0 66 3 (.slice (some ⟨b.g, 0, none⟩) s.power.2.blks.length b.c) s.power.2.blks.length (cellsOf (flD left s.power.2.blks)) ∧ w1.grownBy wr (some b.g) ∧ Blk wr b.p 71 (b.cells s.power.2.blks.length s.power.2.calls arm s.power.2.down)) (fun _ wr => wr.rangeLeft b.m w1.heap.size)
    case atStart => exact HR0.out
    case round =>
      obtain ⟨left, cnt, hrg, hrow, hgr, hbx⟩ := hrel
      have HRG := hid hrg
      have HROW := hid hrow
      have HGR := hid hgr
      have HBX := hid hbx
      have hbp : b.p < w1.heap.size := HIN.out.box.lt
      have hbg : b.g < w1.heap.size := HIN.out.lt b.g (by simp [DB.all])
      clear hrg hrow hgr hbx
      go_wp2_with (at_next; refine wpList_next_dv rfl _ rfl s.power.2.blks b.m w1.heap.size _ D HIN.out.pend left cnt rfl HRG.out ?_ ?_)
      · intro hl0
        obtain ⟨w4, hcl, hm4, hg4⟩ := clear_run HRG.out.owns
        have e1 := HBX.out.cell 1
        simp [DB.cells] at e1
        have hbx4 := HBX.out.grown hg4 (by simp [HIN.out.nd.2.1])
        have e2 := hbx4.cell 2
        have f2 := hbx4.free 2
        simp [DB.cells] at e2
        have hcl2 : (s.power.2.calls : Int) + 1 ≤ 9223372036854775807 := by have := HK.out.2.1; rw [s.power_blks.2]; omega
        have HE := hid (show WriteDv S w b.p s.flush F (.returned .nilIface) (w4.setCell ⟨b.p, 2, none⟩ (.int .i64 ((s.power.2.calls : Int) + 1))) by
          unfold WriteDv
          rw [HW.out]
          refine ⟨⟨_, EV.fine, rfl⟩, ?_⟩
          show RealUpd DvReal w b.p { s.power.2 with blks := s.power.2.blks.map BSt.flush, calls := s.power.2.calls + 1 } F _
          have ho : Only F w1 (w4.setCell ⟨b.p, 2, none⟩ (.int .i64 ((s.power.2.calls : Int) + 1))) := by
            have h2 : Only F w1 wr := ⟨HGR.out.os, HGR.out.tape, HGR.out.output, HGR.out.size, fun k hk hn => HGR.out.block k hk (fun e => hn (by injection e with e; rw [e]; exact HF.out _ (by simp [DB.all])))⟩
            have h3 : Only F wr w4 := ⟨hg4.os, hg4.tape, hg4.output, hg4.size, fun k hk hn => hg4.block k hk (fun e => hn (by injection e with e; rw [e]; exact HF.out _ (by simp [DB.all])))⟩
            exact (h2.trans h3 (fun _ h => .inl h)).put (HF.out b.p (by simp [DB.all])) _
          refine ⟨F, ⟨b, .map [], arm, rfl, ⟨?_, ?_, ?_, HIN.out.nd, pend_none (fun y hy => ?_), HIN.out.arm, fun y hy => ?_⟩, HF.out, fun k hk => Nat.lt_of_lt_of_le (HLL.out k hk) ho.size⟩, (only_p HD.out HO1.out).trans ho (fun _ h => .inl h), fun _ h => .inl h⟩
          · show Blk _ b.p _ (b.cells (s.power.2.blks.map BSt.flush).length (s.power.2.calls + 1) arm s.power.2.down)
            rw [List.length_map]
            exact hbx4.put 2 _
          · show World.ownsRow _ 0 _ 3 (.slice _ (s.power.2.blks.map BSt.flush).length b.c) (s.power.2.blks.map BSt.flush).length (cellsOf (s.power.2.blks.map BSt.flush))
            rw [List.length_map, ← fl_end hl0]
            refine ownsRow_same HROW.out ?_
            rw [Below.heap_setCell w4 ⟨b.p, 2, none⟩ _ b.g (Ne.symm HIN.out.nd.1)]
            exact hg4.block b.g (HROW.out.lt b.g rfl).2 (by simp [HIN.out.nd.2.2])
          · exact ownsMap_same hm4 (Below.heap_setCell w4 ⟨b.p, 2, none⟩ _ b.m (Ne.symm HIN.out.nd.2.1))
          · obtain ⟨z, _, rfl⟩ := List.mem_map.1 hy
            exact flush_pend z
          · obtain ⟨z, hz, rfl⟩ := List.mem_map.1 hy
            exact flush_bad (HIN.out.bad z hz))
        clear hbx4 hm4 hg4
        go_wp2
        go_ret
        exact HE.out
      · intro k x w2 cnt2 hx hp hlk hrg2 hlt hg2 hs2 hen
        have hbx2 := HBX.out.grown hg2 (by simp; omega)
        have hrow2 := ownsRow_same (w' := w2) HROW.out (hg2.block b.g (HROW.out.lt b.g rfl).2 (by simp; omega))
        obtain ⟨hst, hfk⟩ := fl_step hx hp hlk
        obtain ⟨q0, q1, q2, g0, g1, g2⟩ := row_cells hrow2 hfk (by rw [fl_len])
        have hgr2 := HGR.out.andThen hg2 (fun j hj => by cases hj; exact .inl (Nat.le_refl _))
        have d0 := hbx2.cell 0
        simp [DB.cells] at d0
        rw [HN.out] at d0
        have hkN : (k : Int) < N := by have := (List.getElem?_eq_some_iff.1 hx).1; have := HN.out; omega
        have hbp2 : b.p < w2.heap.size := hbx2.lt
        have hbg2 : b.g < w2.heap.size := (hrow2.lt b.g rfl).2
        have HFIN := hid (show ∀ o, (∃ left cnt, ((((w2.setCell ⟨b.g, k * 3, none⟩ (.string (strOfNums x.next))).setCell ⟨b.g, k * 3 + 1, none⟩ (.int .i8 0)).setCell ⟨b.g, k * 3 + 2, none⟩ (.bool x.ever)).alloc o).drew.ranges Tryz.prog 3 blkR b.m w1.heap.size (Maps.size D) D left cnt ∧ ((((w2.setCell ⟨b.g, k * 3, none⟩ (.string (strOfNums x.next))).setCell ⟨b.g, k * 3 + 1, none⟩ (.int .i8 0)).setCell ⟨b.g, k * 3 + 2, none⟩ (.bool x.ever)).alloc o).drew.ownsRow 0 66 3 (.slice (some ⟨b.g, 0, none⟩) s.power.2.blks.length b.c) s.power.2.blks.length (cellsOf (flD left s.power.2.blks)) ∧ w1.grownBy ((((w2.setCell ⟨b.g, k * 3, none⟩ (.string (strOfNums x.next))).setCell ⟨b.g, k * 3 + 1, none⟩ (.int .i8 0)).setCell ⟨b.g, k * 3 + 2, none⟩ (.bool x.ever)).alloc o).drew (some b.g) ∧ Blk ((((w2.setCell ⟨b.g, k * 3, none⟩ (.string (strOfNums x.next))).setCell ⟨b.g, k * 3 + 1, none⟩ (.int .i8 0)).setCell ⟨b.g, k * 3 + 2, none⟩ (.bool x.ever)).alloc o).drew b.p 71 (b.cells s.power.2.blks.length s.power.2.calls arm s.power.2.down)) ∧ ((((w2.setCell ⟨b.g, k * 3, none⟩ (.string (strOfNums x.next))).setCell ⟨b.g, k * 3 + 1, none⟩ (.int .i8 0)).setCell ⟨b.g, k * 3 + 2, none⟩ (.bool x.ever)).alloc o).drew.rangeLeft b.m w1.heap.size < wr.rangeLeft b.m w1.heap.size from by
          intro o
          have hg3 : w2.grownBy ((((w2.setCell ⟨b.g, k * 3, none⟩ (.string (strOfNums x.next))).setCell ⟨b.g, k * 3 + 1, none⟩ (.int .i8 0)).setCell ⟨b.g, k * 3 + 2, none⟩ (.bool x.ever)).alloc o).drew (some b.g) := only_drew (only_alloc (only_put (only_put (only_put (only_refl w2 (some b.g)) _ _) _ _) _ _) o)
          have hrg3 := hrg2.kept hg3 (by simp [HIN.out.nd.2.2.symm]) (by simp; omega)
          refine ⟨⟨_, cnt2, hrg3, ?_, hgr2.andThen hg3 (fun j hj => .inr hj), hbx2.grown hg3 (by simp [HIN.out.nd.1])⟩, by rw [hrg3.left_eq, HRG.out.left_eq]; exact hlt⟩
          rw [hst]
          exact ((row_put3 (x' := x.settle) hrow2 hfk).alloc o).drew)
        clear hrg2 hg2 hs2 hbx2 hrow2 hgr2 hst hfk hlt
        go_wp2
        go_region
        go_wp2
        go_roundw
        case rel => exact (HFIN.out _).1
        case measure => exact (HFIN.out _).2
  · have HW := hid (show s.flush = (106, s.power.2) by unfold DSt.flush; rw [if_neg hp]; exact Prod.ext (DSt.power_ok hp) rfl)
    have HP := hid (show (s.power.1 != 0) = true by rw [bne_iff_ne]; exact hp)
    clear hp
    go_enter Tryz.func51, Tryz.ntmps51
    go_wp2_with fail
    refine (dvPower_any p s F w HD.out HK.out.2.2.1).mono ?_
    rintro e w1 ⟨he, hd, ho⟩
    rw [HP.out] at he
    subst he
    have hc : w1.cell? ⟨5, 0, none⟩ = some (.iface 261 (.pointer (some (S 5)))) := HD.out.sent HSn.out ho 5 (by decide)
    have HF := hid (show WriteDv S w p s.flush F (.returned (.iface 261 (.pointer (some (S 5))))) w1 by
      unfold WriteDv
      rw [HW.out]
      exact ⟨⟨_, EV.err 5 (by decide), rfl⟩, RealUpd.of_p HD.out hd ho⟩)
    clear hd ho
    go_wp2
    go_ret
    exact HF.out
end Go.Proofs.YtkhdgacjgccnnaaGreatDoor
namespace Go.Proofs.YtkhdgacjgccnnaaGreatDoor
open Go.RowKit Go.Maps

/-- how many of the blocks ahead are pending -/
def rank (l : List BSt) (i : Nat) : Nat := (l.take i).countP BSt.pend
/-- the first t of the pending blocks settled, those that the picks keep -/
def cr (picks : List Int) (t : Nat) (l : List BSt) : List BSt := l.mapIdx fun i x => if x.pend = true ∧ rank l i < t ∧ keepP picks (rank l i) = true then x.settle else x
end Go.Proofs.YtkhdgacjgccnnaaGreatDoor
namespace Go.Proofs.YtkhdgacjgccnnaaGreatDoor
open Go.RowKit Go.Maps

theorem OwnN.at_ {w wr : World} {B g m c : Nat} {A : Option Addr} {l : List Int} (h : OwnN w B (.slice A m c) l) (hg : w.grownBy wr (some g)) (hB : g < B) : Sn wr wr.heap.size A m c l := by
  have h' : OwnN wr B (.slice A m c) l := World.ownsRow.kept h hg (by
    rcases e : (Value.slice A m c).ownBlock with _ | k
    · exact .inl rfl
    · have := (World.ownsRow.lt h k e).1
      exact .inr (by intro e'; injection e' with e'; omega))
  obtain ⟨A', c', hv, hs⟩ := h'.form
  cases hv
  exact hs
end Go.Proofs.YtkhdgacjgccnnaaGreatDoor
namespace Go.Proofs.YtkhdgacjgccnnaaGreatDoor
open Go.RowKit Go.Maps

end Go.Proofs.YtkhdgacjgccnnaaGreatDoor
