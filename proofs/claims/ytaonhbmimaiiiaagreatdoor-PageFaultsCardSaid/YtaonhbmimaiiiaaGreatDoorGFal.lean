/- Put together out of 4 texts. Package page: healRoot. -/
import Derived.Test.YtaonhbmimaiiiaaGreatDoorGFak
namespace Go.Proofs.YtaonhbmimaiiiaaGreatDoor
open Go.RowKit

/-- is what stands at a place wrong, in block i? -/
def wrongB (s : DSt) (P : PS) (i a : Nat) : Bool := !(decide ((s.read (a : Int)).1 = 0) && rightB P i (s.read (a : Int)).2)
def wrongs (s : DSt) (P : PS) (H i k : Nat) : List Nat := (([i, i + H] : List Nat).take k).filter (wrongB s P i)
theorem wrongs_one (s : DSt) (P : PS) (H i : Nat) : wrongs s P H i 1 = if wrongB s P i i = true then [i] else [] := by
  unfold wrongs
  simp [List.filter_cons]
theorem wrongs_two (s : DSt) (P : PS) (H i : Nat) : wrongs s P H i 2 = wrongs s P H i 1 ++ if wrongB s P i (i + H) = true then [i + H] else [] := by
  rw [wrongs_one]
  unfold wrongs
  simp only [List.take_succ_cons, List.take_zero, List.filter_cons, List.filter_nil]
  split <;> rfl
theorem wrongs_le (s : DSt) (P : PS) (H i k : Nat) : (natsI (wrongs s P H i k)).length ≤ 2 := by
  rw [natsI_len]
  have h1 := List.length_filter_le (wrongB s P i) (([i, i + H] : List Nat).take k)
  have h2 : (([i, i + H] : List Nat).take k).length ≤ 2 := by rw [List.length_take]; exact Nat.min_le_right _ _
  unfold wrongs
  omega
theorem natsI_add (l : List Nat) (x : Nat) : natsI (l ++ [x]) = natsI l ++ [(x : Int)] := by simp [natsI]
/-- what it answers, how many it writes, what it leaves -/
def healR (s : DSt) (H : Nat) (P : PS) (i : Nat) : Int × Nat × DSt :=
  if wrongB s P i i then (if wrongB s P i (i + H) then (107, 0, s) else (0, 1, s.put i (hasB P)))
  else (if wrongB s P i (i + H) then (0, 1, s.put (i + H) (hasB P)) else (0, 0, s))
/-- what a Heal of a root's block leaves -/
def HealO (Real : World → Nat → DSt → (Nat → Prop) → Prop) (S : Nat → Addr) (w : World) (d : Nat) (F : Nat → Prop) (r : Int × Nat × DSt) (e : Ending) (w' : World) : Prop := ∃ v, e = .returned (.tuple #[.int .i64 (r.2.1 : Int), v]) ∧ EV S r.1 v ∧ RealUpd Real w d r.2.2 F w'
section
variable {Real : World → Nat → DSt → (Nat → Prop) → Prop} {PR : World → Nat → Nat → Nat → Nat → (Nat → Prop) → Prop} {P : PS} {ch : Chg} {S : Nat → Addr}
set_option maxRecDepth 100000 in
set_option maxHeartbeats 8000000 in
theorem healRoot_any (DD : DevOk Real) (O : PairOk Real PR) (w0 w : World) (g d p mm n m q i : Nat) (D : DataW Unit) (C F G : Nat → Prop) (s : DSt) (hpd : Pd Real PR S w0 w d p s n m q F G) (hS : Sent6 w S) (h : Sto w g d p mm P ch D C) (hr : RtOk P) (hi : i < 2) :
    Calls Tryz.prog 69 #[.pointer (some ⟨g, 0, none⟩), .int .i64 (i : Int)] w (HealO Real S w d F (healR s (halN n) P i)) := by
  obtain ⟨i0, hi0, hz0, hz1, hz2⟩ := info_parts Tryz.info3
  have hsy : Says s n := ⟨hpd.up.down, hpd.up.len, hpd.ok⟩
  have hh := half_facts hpd.n0
  obtain ⟨H, hH⟩ : ∃ H, halN n = H := ⟨_, rfl⟩
  rw [hH] at hh ⊢
  have HHn := hid (show 75 ≤ H ∧ 2 * H ≤ n from ⟨hh.1, hh.2.2⟩)
  obtain ⟨p0, hp0⟩ : ∃ p0, i = p0 := ⟨_, rfl⟩
  obtain ⟨p1, hp1⟩ : ∃ p1, i + H = p1 := ⟨_, rfl⟩
  have HG := hid (by have := halN_gm hpd.n0 hpd.n1; rwa [hH] at this : Gm (n : Int) (H : Int))
  have HP := hid (show prt (H : Int) (i : Int) = (p1 : Int) by unfold prt; rw [if_pos ⟨by omega, by omega⟩]; omega)
  have HS := hid hS
  have HRd := hid (fun (i : Int) h0 h1 => hsy.read (i := i) h0 h1)
  have HRe := hid (fun w' (hb : Below w.heap.size w w') (i : Int) => DD.read S d s F i w' (Sent6.five (hS.on hb)) (DD.kept hpd.real (Kept.of_below hb (DD.lt hpd.real))) hpd.ok)
  have HRb := hid (rootBlock_any g d p mm D C w hS h hr)
  have HSt := hid h
  have HR := hid hr
  have HPd := hid hpd
  have HDD := hid DD
  have HO := hid O
  have HGeo := hid (fun w' (hb : Below w.heap.size w w') => by
    have := O.geo p d n m G w' (O.kept hpd.pr (Kept.of_below hb (O.lt hpd.pr)))
    rwa [hH] at this)
  have q1 := fun W => Tryz.neqSame (S 6) W
  have HP0 := hid hp0
  have HP1 := hid hp1
  have hi2 : (i : Int) < 2 := by omega
  clear DD O hpd hS h hr hsy hh hH hp0 hp1
  go_enter Tryz.func69, Tryz.ntmps69
  go_wp2_with fail
  refine HRb.out.mono ?_
  rintro e w1 ⟨A1, c1, rfl, hs1, hap1, hb1⟩
  have HHas := hid hs1
  have HAp1 := hid hap1
  have HB1 := hid hb1
  have k1 := (HSt.out.below hb1).prs
  have HG1 := hid (HGeo.out w1 hb1)
  clear hs1 hap1 hb1
  go_wp2_with fail
  refine HG1.out.mono ?_
  rintro e w2 ⟨rfl, hb2⟩
  have HB2 := hid (HB1.out.trans (hb2.mono HB1.out.size))
  have HHas2 := hid (HHas.out.on hb2)
  clear hb2 k1
  go_wp2_with fail
  refine (places_any (n : Int) (H : Int) (i : Int) _ HG.out).mono ?_
  rw [HP.out]
  rintro e w3 ⟨rfl, hb3⟩
  have HB3 := hid (HB2.out.trans (hb3.mono HB2.out.size))
  have HHas3 := hid (HHas2.out.on hb3)
  clear hb3
  go_wp2
  go_loopw [8, 31] (fun v iv wr => ∃ k : Nat, iv = .int .i64 (k : Int) ∧ k ≤ 2 ∧ OwnN wr w3.heap.size v (natsI (wrongs s P H i k)) ∧ Below w.heap.size w wr ∧ Below w3.heap.size w3 wr) (fun _ iv _ => 2 - (intOf iv).toNat)
  case atStart => exact ⟨0, rfl, by omega, World.ownsRow_nil _ _ _ _, HB3.out, Below.refl _ _⟩
  case round =>
    obtain ⟨k, rfl, hk, hown, hb, hbr⟩ := hrel
    have HOw := hid hown
    have HB := hid hb
    have HBr := hid hbr
    clear hown hb hbr
    rcases (show k = 0 ∨ k = 1 ∨ k = 2 by omega) with rfl | rfl | rfl
    · have hrd := HRd.out (i : Int) (by omega) (by have := HHn.out; have := HP1.out; omega)
      have x0 := fun W => Tryz.idx0 (i : Int) (p1 : Int) W
      have kd := (HSt.out.below HB.out).dev
      have HWs := hid (show wrongs s P H i (0 + 1) = wrongs s P H i 0 ++ (if wrongB s P i i = true then [i] else []) from by rw [wrongs_one]; simp [wrongs])
      have HLe := hid (wrongs_le s P H i 0)
      obtain ⟨rb, hrb⟩ : ∃ rb, rightB P i (s.read (i : Int)).2 = rb := ⟨_, rfl⟩
      have HRbb := hid hrb
      have HY := hid hrd.2
      clear hrb
      go_wp2_with fail
      refine (HRe.out _ HB.out (i : Int)).mono ?_
      rintro e w4 ⟨B, nb, cb, v4, rfl, hv, hbs, hbl, _⟩
      have HB4 := hid (HB.out.trans (hbl.mono HB.out.size))
      have HBr4 := hid (HBr.out.trans (hbl.mono HBr.out.size))
      have HOw4 := hid (HOw.out.on hbl)
      have hv1 : w4.cell? ⟨5, 0, none⟩ = some (.iface 307 (.pointer (some (S 6)))) := (HS.out.on HB4.out) 6 (by decide)
      have HRt := hid (rightRoot_any g d p mm i nb cb c1 B A1 _ D C w4 (HS.out.on HB4.out) (HSt.out.below HB4.out) HR.out hbs HY.out (HHas3.out.on HBr4.out))
      rw [HRbb.out] at HRt
      clear hbs hbl kd
      rcases hrd.1 with hc | hc
      · have HWr0 := hid (show wrongB s P i i = !rb from by unfold wrongB; rw [hc, HRbb.out]; simp)
        rw [hc] at hv
        obtain rfl := hv.nil
        clear hv hc hrd
        go_wp2_with fail
        refine HRt.out.mono ?_
        rintro e w5 ⟨rfl, hb5⟩
        have HB5 := hid (HB4.out.trans (hb5.mono HB4.out.size))
        have HBr5 := hid (HBr4.out.trans (hb5.mono HBr4.out.size))
        have HOw5 := hid (HOw4.out.on hb5)
        clear hb5
        cases rb
        · have HWr := hid (show wrongB s P i i = true from HWr0.out)
          go_wp2_with (at_builtin; refine wpList_append_own _ rfl _ _ 44 rfl w3.heap.size 3 i0 (.int .i64 0) 1 8 Tryz.underlying44 hi0 hz0 hz1 hz2 rfl (by decide) _ _ _ rfl (World.ownsRow.alloc HOw5.out _) ⟨w5.heap.size, 0, none⟩ 1 1 [.int .i64 (i : Int)] rfl rfl (cell_one_new _ _ _) (by intro u hu; simp at hu; subst hu; rfl) (by have := HLe.out; unfold maxLen; omega) (by have := HLe.out; omega) (by have := HBr5.out.size; simp; omega) ?_)
          intro v' w6 hown' hgrow _
          have HO6 := hid (show OwnN w6 w3.heap.size v' (natsI (wrongs s P H i (0 + 1))) from by
            rw [HWs.out, if_pos HWr.out, natsI_add]
            exact ownN_more (l := natsI (wrongs s P H i 0)) hown' HOw5.out)
          have HBr6 := hid (show Below w3.heap.size w3 w6 from (HBr5.out.alloc HBr5.out.size _).grown hgrow (by have := HBr5.out.size; simp; omega) (fun j hj => (World.ownsRow.lt HOw5.out j hj).1))
          have HB6 := hid (HB3.out.trans (HBr6.out.mono HB3.out.size))
          clear hown' hgrow
          go_wp2
          go_roundw
          case rel => exact ⟨0 + 1, rfl, by omega, HO6.out, HB6.out, HBr6.out⟩
          case measure => simp [intOf]
        · have HWr := hid (show wrongB s P i i = false from HWr0.out)
          have HO6 := hid (show OwnN w5 w3.heap.size u8 (natsI (wrongs s P H i (0 + 1))) from by
            rw [HWs.out, if_neg (by rw [HWr.out]; decide), List.append_nil]
            exact HOw5.out)
          go_wp2
          go_roundw
          case rel => exact ⟨0 + 1, rfl, by omega, HO6.out, HB5.out, HBr5.out⟩
          case measure => simp [intOf]
      · have HWr := hid (show wrongB s P i i = true from by unfold wrongB; rw [hc]; rfl)
        rw [hc] at hv
        obtain rfl := ev_io hv
        clear hv hc hrd HRt
        go_wp2_with (at_builtin; refine wpList_append_own _ rfl _ _ 44 rfl w3.heap.size 3 i0 (.int .i64 0) 1 8 Tryz.underlying44 hi0 hz0 hz1 hz2 rfl (by decide) _ _ _ rfl (World.ownsRow.alloc HOw4.out _) ⟨w4.heap.size, 0, none⟩ 1 1 [.int .i64 (i : Int)] rfl rfl (cell_one_new _ _ _) (by intro u hu; simp at hu; subst hu; rfl) (by have := HLe.out; unfold maxLen; omega) (by have := HLe.out; omega) (by have := HBr4.out.size; simp; omega) ?_)
        intro v' w6 hown' hgrow _
        have HO6 := hid (show OwnN w6 w3.heap.size v' (natsI (wrongs s P H i (0 + 1))) from by
          rw [HWs.out, if_pos HWr.out, natsI_add]
          exact ownN_more (l := natsI (wrongs s P H i 0)) hown' HOw4.out)
        have HBr6 := hid (show Below w3.heap.size w3 w6 from (HBr4.out.alloc HBr4.out.size _).grown hgrow (by have := HBr4.out.size; simp; omega) (fun j hj => (World.ownsRow.lt HOw4.out j hj).1))
        have HB6 := hid (HB3.out.trans (HBr6.out.mono HB3.out.size))
        clear hown' hgrow
        go_wp2
        go_roundw
        case rel => exact ⟨0 + 1, rfl, by omega, HO6.out, HB6.out, HBr6.out⟩
        case measure => simp [intOf]
    · have hrd := HRd.out (p1 : Int) (by omega) (by have := HHn.out; have := HP1.out; omega)
      have x0 := fun W => Tryz.idx1 (i : Int) (p1 : Int) W
      have kd := (HSt.out.below HB.out).dev
      have HWs := hid (show wrongs s P H i (1 + 1) = wrongs s P H i 1 ++ (if wrongB s P i p1 = true then [p1] else []) from by rw [← HP1.out]; exact wrongs_two s P H i)
      have HLe := hid (wrongs_le s P H i 1)
      obtain ⟨rb, hrb⟩ : ∃ rb, rightB P i (s.read (p1 : Int)).2 = rb := ⟨_, rfl⟩
      have HRbb := hid hrb
      have HY := hid hrd.2
      clear hrb
      go_wp2_with fail
      refine (HRe.out _ HB.out (p1 : Int)).mono ?_
      rintro e w4 ⟨B, nb, cb, v4, rfl, hv, hbs, hbl, _⟩
      have HB4 := hid (HB.out.trans (hbl.mono HB.out.size))
      have HBr4 := hid (HBr.out.trans (hbl.mono HBr.out.size))
      have HOw4 := hid (HOw.out.on hbl)
      have hv1 : w4.cell? ⟨5, 0, none⟩ = some (.iface 307 (.pointer (some (S 6)))) := (HS.out.on HB4.out) 6 (by decide)
      have HRt := hid (rightRoot_any g d p mm i nb cb c1 B A1 _ D C w4 (HS.out.on HB4.out) (HSt.out.below HB4.out) HR.out hbs HY.out (HHas3.out.on HBr4.out))
      rw [HRbb.out] at HRt
      clear hbs hbl kd
      rcases hrd.1 with hc | hc
      · have HWr0 := hid (show wrongB s P i p1 = !rb from by unfold wrongB; rw [hc, HRbb.out]; simp)
        rw [hc] at hv
        obtain rfl := hv.nil
        clear hv hc hrd
        go_wp2_with fail
        refine HRt.out.mono ?_
        rintro e w5 ⟨rfl, hb5⟩
        have HB5 := hid (HB4.out.trans (hb5.mono HB4.out.size))
        have HBr5 := hid (HBr4.out.trans (hb5.mono HBr4.out.size))
        have HOw5 := hid (HOw4.out.on hb5)
        clear hb5
        cases rb
        · have HWr := hid (show wrongB s P i p1 = true from HWr0.out)
          go_wp2_with (at_builtin; refine wpList_append_own _ rfl _ _ 44 rfl w3.heap.size 3 i0 (.int .i64 0) 1 8 Tryz.underlying44 hi0 hz0 hz1 hz2 rfl (by decide) _ _ _ rfl (World.ownsRow.alloc HOw5.out _) ⟨w5.heap.size, 0, none⟩ 1 1 [.int .i64 (p1 : Int)] rfl rfl (cell_one_new _ _ _) (by intro u hu; simp at hu; subst hu; rfl) (by have := HLe.out; unfold maxLen; omega) (by have := HLe.out; omega) (by have := HBr5.out.size; simp; omega) ?_)
          intro v' w6 hown' hgrow _
          have HO6 := hid (show OwnN w6 w3.heap.size v' (natsI (wrongs s P H i (1 + 1))) from by
            rw [HWs.out, if_pos HWr.out, natsI_add]
            exact ownN_more (l := natsI (wrongs s P H i 1)) hown' HOw5.out)
          have HBr6 := hid (show Below w3.heap.size w3 w6 from (HBr5.out.alloc HBr5.out.size _).grown hgrow (by have := HBr5.out.size; simp; omega) (fun j hj => (World.ownsRow.lt HOw5.out j hj).1))
          have HB6 := hid (HB3.out.trans (HBr6.out.mono HB3.out.size))
          clear hown' hgrow
          go_wp2
          go_roundw
          case rel => exact ⟨1 + 1, rfl, by omega, HO6.out, HB6.out, HBr6.out⟩
          case measure => simp [intOf]
        · have HWr := hid (show wrongB s P i p1 = false from HWr0.out)
          have HO6 := hid (show OwnN w5 w3.heap.size u8 (natsI (wrongs s P H i (1 + 1))) from by
            rw [HWs.out, if_neg (by rw [HWr.out]; decide), List.append_nil]
            exact HOw5.out)
          go_wp2
          go_roundw
          case rel => exact ⟨1 + 1, rfl, by omega, HO6.out, HB5.out, HBr5.out⟩
          case measure => simp [intOf]
      · have HWr := hid (show wrongB s P i p1 = true from by unfold wrongB; rw [hc]; rfl)
        rw [hc] at hv
        obtain rfl := ev_io hv
        clear hv hc hrd HRt
        go_wp2_with (at_builtin; refine wpList_append_own _ rfl _ _ 44 rfl w3.heap.size 3 i0 (.int .i64 0) 1 8 Tryz.underlying44 hi0 hz0 hz1 hz2 rfl (by decide) _ _ _ rfl (World.ownsRow.alloc HOw4.out _) ⟨w4.heap.size, 0, none⟩ 1 1 [.int .i64 (p1 : Int)] rfl rfl (cell_one_new _ _ _) (by intro u hu; simp at hu; subst hu; rfl) (by have := HLe.out; unfold maxLen; omega) (by have := HLe.out; omega) (by have := HBr4.out.size; simp; omega) ?_)
        intro v' w6 hown' hgrow _
        have HO6 := hid (show OwnN w6 w3.heap.size v' (natsI (wrongs s P H i (1 + 1))) from by
          rw [HWs.out, if_pos HWr.out, natsI_add]
          exact ownN_more (l := natsI (wrongs s P H i 1)) hown' HOw4.out)
        have HBr6 := hid (show Below w3.heap.size w3 w6 from (HBr4.out.alloc HBr4.out.size _).grown hgrow (by have := HBr4.out.size; simp; omega) (fun j hj => (World.ownsRow.lt HOw4.out j hj).1))
        have HB6 := hid (HB3.out.trans (HBr6.out.mono HB3.out.size))
        clear hown' hgrow
        go_wp2
        go_roundw
        case rel => exact ⟨1 + 1, rfl, by omega, HO6.out, HB6.out, HBr6.out⟩
        case measure => simp [intOf]
    · have HW2 := hid (wrongs_two s P H i)
      have HW1 := hid (wrongs_one s P H i)
      have hv1 : wr.cell? ⟨5, 0, none⟩ = some (.iface 307 (.pointer (some (S 6)))) := (HS.out.on HB.out) 6 (by decide)
      have HHasr := hid (HHas3.out.on HBr.out)
      have HRl := hid (HDD.out.kept HPd.out.real (Kept.of_below HB.out (HDD.out.lt HPd.out.real)))
      have hk2 : ¬ ((2 : Int) < 2) := by decide
      have HZ := hid (show healR s H P i = if wrongB s P i i then (if wrongB s P i (i + H) then (107, 0, s) else (0, 1, s.put i (hasB P))) else (if wrongB s P i (i + H) then (0, 1, s.put (i + H) (hasB P)) else (0, 0, s)) from rfl)
      obtain ⟨wa, hwa⟩ : ∃ wa, wrongB s P i i = wa := ⟨_, rfl⟩
      obtain ⟨wb, hwb⟩ : ∃ wb, wrongB s P i (i + H) = wb := ⟨_, rfl⟩
      rw [hwa, hwb] at HZ
      rw [hwa] at HW1
      rw [hwb] at HW2
      obtain ⟨L, hL⟩ : ∃ L, wrongs s P H i 2 = L := ⟨_, rfl⟩
      have hLe : L = (if wa = true then [i] else []) ++ (if wb = true then [i + H] else []) := by rw [← hL, HW2.out, HW1.out]
      rw [hL] at HOw
      clear hwa hwb hL HW1 HW2
      cases wa
      · cases wb
        · have hLe2 : L = [] := by rw [hLe]; rfl
          subst hLe2
          have HFi := hid (show HealO Real S w d F (healR s H P i) (.returned (.tuple #[.int .i64 0, .nilIface])) wr from ⟨.nilIface, by rw [HZ.out]; rfl, by rw [HZ.out]; exact EV.fine, by rw [HZ.out]; exact ⟨F, HRl.out, Only.of_below HB.out, fun k hk => .inl hk⟩⟩)
          obtain ⟨A8, c8, rfl, hs8⟩ := HOw.out.form
          have hl8 : (natsI []).length = 0 := rfl
          rw [hl8]
          clear hs8 hLe
          go_wp2
          go_loopw [72] (fun iv wx => iv = .int .i64 0 ∧ wx = wr) (fun _ _ => 0)
          case atStart => exact ⟨rfl, rfl⟩
          case round =>
            obtain ⟨rfl, rfl⟩ := hrel
            go_wp2
            go_ret2
            exact HFi.out
        · have hLe2 : L = [i + H] := by rw [hLe]; rfl
          subst hLe2
          have HFi := hid (show ∀ W, RealUpd Real w d (s.put (i + H) (hasB P)) F W → HealO Real S w d F (healR s H P i) (.returned (.tuple #[.int .i64 1, .nilIface])) W from fun W h => ⟨.nilIface, by rw [HZ.out]; rfl, by rw [HZ.out]; exact EV.fine, by rw [HZ.out]; exact h⟩)
          have HWt := hid (((HPd.out.up.write (i := i + H) (l := hasB P) (by have := HHn.out; omega) (hasB_len HR.out).1 (hasB_len HR.out).2).1 : s.write ((i + H : Nat) : Int) (hasB P) = (0, s.put (i + H) (hasB P))))
          have hl8 : (natsI [i + H]).length = 1 := rfl
          obtain ⟨g8, c8, rfl, _, hw8⟩ := own_someN HOw.out hl8 (by omega)
          obtain ⟨A9, c9, e9, hs8⟩ := HOw.out.form
          rw [hl8] at hs8 e9
          cases e9
          obtain ⟨ad8, x8, e8, _, hx8, cx8⟩ := hs8.get (k := 0) (by omega)
          cases e8
          rw [add0] at cx8
          obtain rfl : x8 = (((i + H : Nat)) : Int) := by simp [natsI] at hx8; omega
          clear hw8
          have kd := (HSt.out.below HB.out).dev
          obtain ⟨at8, hat8⟩ : ∃ a : Nat, i + H = a := ⟨_, rfl⟩
          rw [hat8] at cx8 HFi HWt
          have HDw := hid (HDD.out.write S d s F (at8 : Int) A1 256 c1 (hasB P) wr (Sent6.five (HS.out.on HB.out)) HRl.out HPd.out.ok HHasr.out (fun ad ha _ hF => by have h1 := HAp1.out ad ha; have h2 := HDD.out.lt HPd.out.real _ hF; omega) (hasB_len HR.out).2 (by omega))
          rw [HWt.out] at HDw
          clear hx8 hs8 hLe hat8
          have HBq := hid HB.out
          go_wp2
          go_loopw [72] (fun iv wx => (iv = .int .i64 0 ∧ wx = wr) ∨ (iv = .int .i64 1 ∧ RealUpd Real w d (s.put at8 (hasB P)) F wx)) (fun iv _ => 1 - (intOf iv).toNat)
          case atStart => exact .inl ⟨rfl, rfl⟩
          case round =>
            rcases hrel with ⟨rfl, rfl⟩ | ⟨rfl, hu⟩
            · go_wp2_with fail
              refine HDw.out.mono ?_
              rintro e w9 ⟨⟨v9, hv9, rfl⟩, F9, hr9, ho9, hf9⟩
              have h9 := hv9.nil
              subst h9
              have HU := hid (show RealUpd Real w d (s.put at8 (hasB P)) F w9 from ⟨F9, hr9, (Only.of_below HBq.out).trans ho9 (fun _ h => .inl h), fun k hk => (hf9 k hk).elim .inl (fun h => .inr (Nat.le_trans HBq.out.size h))⟩)
              clear hv9 hr9 ho9 hf9
              go_wp2
              go_roundw
              case rel => exact .inr ⟨rfl, HU.out⟩
              case measure => simp [intOf]
            · have HU := hid hu
              clear hu
              go_wp2
              go_ret2
              exact HFi.out _ HU.out
      · cases wb
        · have hLe2 : L = [i] := by rw [hLe]; rfl
          subst hLe2
          have HFi := hid (show ∀ W, RealUpd Real w d (s.put (i) (hasB P)) F W → HealO Real S w d F (healR s H P i) (.returned (.tuple #[.int .i64 1, .nilIface])) W from fun W h => ⟨.nilIface, by rw [HZ.out]; rfl, by rw [HZ.out]; exact EV.fine, by rw [HZ.out]; exact h⟩)
          have HWt := hid (((HPd.out.up.write (i := i) (l := hasB P) (by have := HHn.out; omega) (hasB_len HR.out).1 (hasB_len HR.out).2).1 : s.write ((i : Nat) : Int) (hasB P) = (0, s.put i (hasB P))))
          have hl8 : (natsI [i]).length = 1 := rfl
          obtain ⟨g8, c8, rfl, _, hw8⟩ := own_someN HOw.out hl8 (by omega)
          obtain ⟨A9, c9, e9, hs8⟩ := HOw.out.form
          rw [hl8] at hs8 e9
          cases e9
          obtain ⟨ad8, x8, e8, _, hx8, cx8⟩ := hs8.get (k := 0) (by omega)
          cases e8
          rw [add0] at cx8
          obtain rfl : x8 = (((i : Nat)) : Int) := by simp [natsI] at hx8; omega
          clear hw8
          have kd := (HSt.out.below HB.out).dev
          have HDw := hid (HDD.out.write S d s F (i : Int) A1 256 c1 (hasB P) wr (Sent6.five (HS.out.on HB.out)) HRl.out HPd.out.ok HHasr.out (fun ad ha _ hF => by have h1 := HAp1.out ad ha; have h2 := HDD.out.lt HPd.out.real _ hF; omega) (hasB_len HR.out).2 (by omega))
          rw [HWt.out] at HDw
          clear hx8 hs8 hLe
          have HBq := hid HB.out
          go_wp2
          go_loopw [72] (fun iv wx => (iv = .int .i64 0 ∧ wx = wr) ∨ (iv = .int .i64 1 ∧ RealUpd Real w d (s.put i (hasB P)) F wx)) (fun iv _ => 1 - (intOf iv).toNat)
          case atStart => exact .inl ⟨rfl, rfl⟩
          case round =>
            rcases hrel with ⟨rfl, rfl⟩ | ⟨rfl, hu⟩
            · go_wp2_with fail
              refine HDw.out.mono ?_
              rintro e w9 ⟨⟨v9, hv9, rfl⟩, F9, hr9, ho9, hf9⟩
              have h9 := hv9.nil
              subst h9
              have HU := hid (show RealUpd Real w d (s.put i (hasB P)) F w9 from ⟨F9, hr9, (Only.of_below HBq.out).trans ho9 (fun _ h => .inl h), fun k hk => (hf9 k hk).elim .inl (fun h => .inr (Nat.le_trans HBq.out.size h))⟩)
              clear hv9 hr9 ho9 hf9
              go_wp2
              go_roundw
              case rel => exact .inr ⟨rfl, HU.out⟩
              case measure => simp [intOf]
            · have HU := hid hu
              clear hu
              go_wp2
              go_ret2
              exact HFi.out _ HU.out
        · have hLe2 : L = [i, i + H] := by rw [hLe]; rfl
          subst hLe2
          have HFi := hid (show ∀ k, HealO Real S w d F (healR s H P i) (.returned (.tuple #[.int .i64 0, .iface 307 (.pointer (some (S 6)))])) (wr.drewN k) from fun k => ⟨_, by rw [HZ.out]; rfl, by rw [HZ.out]; exact EV.err 6 (by decide), by rw [HZ.out]; exact ⟨F, HDD.out.kept HRl.out (Kept.drewN _ _ _), (Only.of_below HB.out).drewN k, fun k hk => .inl hk⟩⟩)
          obtain ⟨A8, c8, rfl, hs8⟩ := HOw.out.form
          have hl8 : (natsI [i, i + H]).length = 2 := rfl
          rw [hl8]
          clear hs8 hLe
          go_wp2
          go_quiet (fail)
          go_wp2
          go_ret2
          exact HFi.out _
end
end Go.Proofs.YtaonhbmimaiiiaaGreatDoor
namespace Go.Proofs.YtaonhbmimaiiiaaGreatDoor
open Go.RowKit

/-- what Heal answers, how many it writes, what it leaves -/
def healS (s : DSt) (H : Nat) (P : PS) (i : Nat) : Int × Nat × DSt :=
  if i < 2 then healR s H P i else match P.refs.find? (fun x => x.1 == (i : Int)) with
    | some x => pMend s H i x.2
    | none => (0, 0, s)
section
variable {Real : World → Nat → DSt → (Nat → Prop) → Prop} {PR : World → Nat → Nat → Nat → Nat → (Nat → Prop) → Prop} {S : Nat → Addr} {w0 w w' : World} {d g n q mk : Nat} {T : Nat → Prop} {s : DSt} {P : PS} {ch : Chg}
theorem up_healR (u : Up s n q) {H i : Nat} (hr : RtOk P) (h1 : i < n) (h2 : i + H < n) : Up (healR s H P i).2.2 n (q + 1) := by
  have hl := hasB_len hr
  unfold healR
  split <;> split
  · exact u.more (by omega)
  · exact (u.write h1 hl.1 hl.2).2
  · exact (u.write h2 hl.1 hl.2).2
  · exact u.more (by omega)
def HealOut (Real : World → Nat → DSt → (Nat → Prop) → Prop) (PR : World → Nat → Nat → Nat → Nat → (Nat → Prop) → Prop) (S : Nat → Addr) (w0 w : World) (d g n q mk : Nat) (T : Nat → Prop) (P : PS) (ch : Chg) (r : Int × Nat × DSt) (e : Ending) (w' : World) : Prop :=
  (∃ v, e = .returned (.tuple #[.int .i64 (r.2.1 : Int), v]) ∧ EV S r.1 v) ∧ ShopUpd Real PR S w0 w d g n (q + 1) (mk + 1) T r.2.2 P ch w'
set_option maxRecDepth 100000 in
set_option maxHeartbeats 8000000 in
theorem sh_heal (D : DevOk Real) (O : PairOk Real PR) (hS : Sent7 w0 S) (h : Shop Real PR S w0 w d g n q mk T s P ch) (hr : RtOk P) (hz : ∀ x, x ∈ P.refs → x.2 < 4294967296) (hq : q + 1 ≤ 900000) (hmk : mk ≤ 999) {i : Nat} (hi : i < halN n) :
    Calls Tryz.prog 27 #[.pointer (some ⟨g, 0, none⟩), .int .i64 (i : Int)] w (HealOut Real PR S w0 w d g n q mk T P ch (healS s (halN n) P i)) := by
  have hh := h
  obtain ⟨p, mm, m, F, G, Dm, C, k1, k2, k3, k4, k5, k6, k7, k8⟩ := h
  have hpd := hh.pd
  have htw := half_facts k1.n0
  obtain ⟨H, hH⟩ : ∃ H, halN n = H := ⟨_, rfl⟩
  have HGeo := hid (fun w' (hb : Below w.heap.size w w') => by
    have := O.geo p d n m G w' (O.kept k1.pr (Kept.of_below hb (O.lt k1.pr)))
    rwa [hH] at this)
  have HMore := hid (fun (w' : World) (hb : Below w.heap.size w w') => ShopUpd.same (hh.more (q' := q + 1) (mk' := mk + 1) (by omega) hq (by omega)) D O hb)
  have q1 := fun W => Tryz.fieldHalf (n : Int) (H : Int) W
  have hiH : (i : Int) < (H : Int) := by omega
  have c1 := k3.prs
  rw [hH] at htw ⊢
  by_cases h2 : i < 2
  · have e1 : healS s H P i = healR s H P i := by unfold healS; rw [if_pos h2]
    rw [e1]
    have HHr := hid (fun (W : World) (hb : Below w.heap.size w W) => by
      have h9 := healRoot_any D O w0 W g d p mm n m q i Dm C F G s (k1.on D O hb) (Sent7.six' (hS.on (k1.below.trans (hb.mono k1.below.size)))) (k3.below hb) hr h2
      rwa [hH] at h9)
    have HUp := hid (up_healR (H := H) (i := i) k1.up hr (by omega) (by omega))
    have hi2 : (i : Int) < 2 := by omega
    have HK1 := hid k1
    have HFin := hid (fun (wa wb : World) (hb : Below w.heap.size w wa) (s' : DSt) (hu' : Up s' n (q + 1)) (hu : RealUpd Real wa d s' F wb) => (by
      obtain ⟨F', z1, z2, z3⟩ := (k1.on D O hb).dev O hu hu' hq
      exact shop_step k3 k4 k5 k6 k7 k8 z1 ((Only.of_below hb).trans z2 (fun _ h => .inl h)) (fun k hk => (z3 k hk).imp id (fun h => h.imp id (fun h => Nat.le_trans hb.size h))) (fun k hk => .inr (.inl hk)) (show m ≤ mk + 1 by omega) : ShopUpd Real PR S w0 w d g n (q + 1) (mk + 1) T s' P ch wb))
    clear hh k1 k2 k3 k4 k5 k6 k7 k8 hpd D O hS h2 e1 hr hz hmk htw hH
    go_enter Tryz.func27, Tryz.ntmps27
    go_wp2_with fail
    refine (HGeo.out w (Below.refl _ _)).mono ?_
    rintro e w1 ⟨rfl, hb1⟩
    have HB1 := hid hb1
    clear hb1
    go_wp2_with fail
    refine (HHr.out w1 HB1.out).mono ?_
    rintro e w2 ⟨v, rfl, hv, hu⟩
    have HF := hid (show HealOut Real PR S w0 w d g n q mk T P ch (healR s H P i) (.returned (.tuple #[.int .i64 ((healR s H P i).2.1 : Int), v])) w2 from ⟨⟨v, rfl, hv⟩, HFin.out w1 w2 HB1.out _ HUp.out hu⟩)
    clear hv hu
    go_wp2
    go_ret2
    exact HF.out
  · have e1 : healS s H P i = (match P.refs.find? (fun x => x.1 == (i : Int)) with
      | some x => pMend s H i x.2
      | none => (0, 0, s)) := by unfold healS; rw [if_neg h2]
    have HE1 := hid e1
    have HRf := hid (fun (w1 : World) (hb : Below w.heap.size w w1) => refs_any P g 2 _ _ _ w1 (k3.below hb).box k3.len rfl)
    have HMe := hid (fun (W : World) (z : Nat) (hb : Below w.heap.size w W) (hzz : z < 4294967296) => by
      have h9 := (k1.on D O hb)
      have h8 := O.mend S p d n m i z q s F G W h9.sent h9.real h9.pr h9.ap h9.up (by omega) (by omega) h9.n0 h9.n1 hi hzz
      rwa [hH] at h8)
    have hi2 : ¬ ((i : Int) < 2) := by omega
    have HUp := hid (fun (z : Nat) => (by have h9 := up_pMend (z := z) k1.up hi; rwa [hH] at h9 : Up (pMend s H i z).2.2 n (q + 1)))
    have HZ := hid hz
    have HFin := hid (fun (wa wb : World) (hb : Below w.heap.size w wa) (s' : DSt) (m' : Nat) (hm' : m' ≤ m + 1) (hu' : Up s' n (q + 1)) (hu : PrUpd Real PR wa d p s' n m' F G (fun _ _ => True) wb) => (by
      obtain ⟨F', G', z1, z2, z3, z4, _⟩ := (k1.on D O hb).prs hu hu' hq
      exact shop_step k3 k4 k5 k6 k7 k8 z1 ((Only.of_below hb).trans z2 (fun _ h => .inl h)) (fun k hk => (z3 k hk).imp id (fun h => h.imp id (fun h => Nat.le_trans hb.size h))) (fun k hk => (z4 k hk).imp id (fun h => h.imp id (fun h => Nat.le_trans hb.size h))) (show m' ≤ mk + 1 by omega) : ShopUpd Real PR S w0 w d g n (q + 1) (mk + 1) T s' P ch wb))
    have HSto := hid k3
    have HFw := hid (show ∀ k, F k ∨ G k → k < w.heap.size from fun k hk => hk.elim (D.lt k1.real k) (O.lt k1.pr k))
    have HgF := hid k4
    have HRl := hid (show P.refs.length ≤ 263 from by
      have h9 := List.length_filter_le points (P.idx ++ P.pgs)
      rw [List.length_append, k3.len.i, k3.len.p] at h9
      exact h9)
    clear hh k1 k2 k3 k4 k5 k6 k7 k8 hpd D O hS h2 e1 hr hz hmk htw hH
    go_enter Tryz.func27, Tryz.ntmps27
    go_wp2_with fail
    refine (HGeo.out w (Below.refl _ _)).mono ?_
    rintro e w1 ⟨rfl, hb1⟩
    have HB1 := hid hb1
    clear hb1
    go_wp2_with fail
    refine (HRf.out w1 HB1.out).mono ?_
    rintro e w2 ⟨g8, m8, c8, rfl, hrf, hg8, hb2⟩
    have HRf2 := hid hrf
    have HB2 := hid (HB1.out.trans (hb2.mono HB1.out.size))
    have hm8 : m8 ≤ 263 := by rw [← hrf.len]; exact HRl.out
    have hm9 : (m8 : Int) ≤ 263 := by omega
    clear hrf hg8 hb2
    go_wp2
    go_loopw [33] (fun iv wr => ∃ k : Nat, iv = .int .i64 (k : Int) ∧ k ≤ m8 ∧ (∀ j x, j < k → P.refs[j]? = some x → (x.1 == (i : Int)) = false) ∧ Below w2.heap.size w2 wr) (fun iv _ => m8 - (intOf iv).toNat)
    case atStart => exact ⟨0, rfl, Nat.zero_le _, fun j x hj _ => absurd hj (Nat.not_lt_zero _), Below.refl _ _⟩
    case round =>
      obtain ⟨k, rfl, hk, hno, hb⟩ := hrel
      have HNo := hid hno
      have HB := hid hb
      clear hno hb
      by_cases hlt : k < m8
      · obtain ⟨ad8, x8, e8, _, hx8, d0, d1⟩ := (HRf2.out.on HB.out).get hlt
        cases e8
        rw [add0] at d0 d1
        have hk2 : (k : Int) < (m8 : Int) := by omega
        have HX := hid hx8
        obtain ⟨y, z⟩ := x8
        have d0' : wr.cell? ⟨g8, k * 2, none⟩ = some (.int .i64 y) := d0
        have d1' : wr.cell? ⟨g8, k * 2 + 1, none⟩ = some (.int .u32 (z : Int)) := d1
        clear hx8 d0 d1
        by_cases hyi : y = (i : Int)
        · subst hyi
          have HHit := hid (show healS s H P i = pMend s H i z from by
            rw [HE1.out]
            have e9 : P.refs.find? (fun x => x.1 == (i : Int)) = some ((i : Int), z) := by
              rw [List.find?_eq_some_iff_getElem]
              have hkl := (List.getElem?_eq_some_iff.1 HX.out).1
              refine ⟨by simp, k, hkl, (List.getElem?_eq_some_iff.1 HX.out).2, fun j hj => ?_⟩
              have h9 := HNo.out j _ hj (List.getElem?_eq_getElem (by omega))
              rw [h9]
              rfl
            rw [e9])
          have hzz : z < 4294967296 := HZ.out _ (List.mem_of_getElem? HX.out)
          have g1 : ((i : Int) == (i : Int)) = true := by simp
          go_upto_region 9 with fail
          clear d0' d1' g1
          obtain ⟨rb, hrb⟩ : ∃ rb, wr.heap.size = rb := ⟨_, rfl⟩
          obtain ⟨W9, hW9⟩ : ∃ W, wr.alloc (.cells #[.int .i64 (i : Int), .int .u32 (z : Int)] 99) = W := ⟨_, rfl⟩
          have z1 : Below wr.heap.size wr W9 := by rw [← hW9]; exact (Below.refl _ _).alloc (Nat.le_refl _) _
          have z2 : Blk W9 rb 99 #[.int .i64 (i : Int), .int .u32 (z : Int)] := by rw [← hW9, ← hrb]; exact Blk.new wr _ _
          have hbw : Below w.heap.size w wr := HB2.out.trans (HB.out.mono HB2.out.size)
          have HB9 := hid (show Below w.heap.size w W9.drew from (hbw.trans (z1.mono hbw.size)).drew)
          have HRb9 := hid (show Blk W9.drew rb 99 #[.int .i64 (i : Int), .int .u32 (z : Int)] from z2.drew)
          have hrbw : w.heap.size ≤ rb := by rw [← hrb]; exact hbw.size
          have HRbw := hid hrbw
          have HMe9 := hid (HMe.out W9.drew z HB9.out hzz)
          have HKeep := hid (show ∀ (w5 : World) (s' : DSt) (m' : Nat), PrUpd Real PR W9.drew d p s' n m' F G (fun _ _ => True) w5 → w5.cell? ⟨g, 1, none⟩ = some (.pointer (some ⟨p, 0, none⟩)) ∧ w5.cell? ⟨rb, 0, none⟩ = some (.int .i64 (i : Int)) ∧ w5.cell? ⟨rb, 1, none⟩ = some (.int .u32 (z : Int)) from fun w5 s' m' hu => by
            obtain ⟨F', G', _, _, ho, _⟩ := hu
            have hsg := HSto.out.below HB9.out
            have b1 := ho.block g hsg.box.lt (fun hk => HgF.out hk)
            have b2 := ho.block rb HRb9.out.lt (fun hk => by have h1 := HFw.out rb hk; have h2 := HRbw.out; omega)
            refine ⟨(World.cell?_of_block b1).trans hsg.prs, (World.cell?_of_block b2).trans ?_, (World.cell?_of_block b2).trans ?_⟩
            · rw [Blk.cell HRb9.out]; rfl
            · rw [Blk.cell HRb9.out]; rfl)
          have HOut := hid (show ∀ (w5 : World) (v : Value), EV S (pMend s H i z).1 v → PrUpd Real PR W9.drew d p (pMend s H i z).2.2 n (m + (pMend s H i z).2.1) F G (fun _ _ => True) w5 → HealOut Real PR S w0 w d g n q mk T P ch (healS s H P i) (.returned (.tuple #[.int .i64 ((pMend s H i z).2.1 : Int), v])) w5 from fun w5 v hv hu => by
            rw [HHit.out]
            refine ⟨⟨v, rfl, hv⟩, HFin.out W9.drew w5 HB9.out _ _ ?_ (HUp.out z) hu⟩
            unfold pMend
            split <;> split <;> simp)
          have k0 : W9.drew.cell? ⟨g, 1, none⟩ = some (.pointer (some ⟨p, 0, none⟩)) ∧ W9.drew.cell? ⟨rb, 0, none⟩ = some (.int .i64 (i : Int)) ∧ W9.drew.cell? ⟨rb, 1, none⟩ = some (.int .u32 (z : Int)) := ⟨(HSto.out.below HB9.out).prs, by rw [Blk.cell HRb9.out]; rfl, by rw [Blk.cell HRb9.out]; rfl⟩
          rw [hrb, hW9]
          clear z1 z2 hbw hrbw hrb hW9
          obtain ⟨k9, hk9⟩ : ∃ k9, (pMend s H i z).2.1 = k9 := ⟨_, rfl⟩
          rw [hk9] at HMe9 HOut
          clear hk9
          go_region_held3 (fun w' => w'.cell? ⟨g, 1, none⟩ = some (.pointer (some ⟨p, 0, none⟩)) ∧ w'.cell? ⟨rb, 0, none⟩ = some (.int .i64 (i : Int)) ∧ w'.cell? ⟨rb, 1, none⟩ = some (.int .u32 (z : Int))) (first | exact k0 | exact k5) (first | (go_at_call 71; refine HMe9.out.mono ?_; rintro e w5 ⟨⟨v, he, hv⟩, hu⟩; have k5 := HKeep.out w5 _ _ hu; have HFi := hid (HOut.out w5 v hv hu); subst he; clear hv hu))
          go_wp2
          go_ret2
          exact HFi.out
        · have g1 : (y == (i : Int)) = false := by rw [beq_eq_false_iff_ne]; exact hyi
          have HNo2 := hid (show ∀ j x, j < k + 1 → P.refs[j]? = some x → (x.1 == (i : Int)) = false from fun j x hj hx => by
            rcases Nat.lt_or_eq_of_le (Nat.lt_succ_iff.1 hj) with h | rfl
            · exact HNo.out j x h hx
            · rw [HX.out] at hx; cases hx; exact g1)
          have HBa := hid (fun (o : Obj) => HB.out.alloc HB.out.size o)
          clear hyi
          go_wp2
          go_roundw
          case rel => exact ⟨k + 1, by go_num, by omega, HNo2.out, HBa.out _⟩
          case measure => simp [intOf]; omega
      · have hkm : k = m8 := by omega
        have g1 : decide (k < m8) = false := by simp; omega
        have HNf := hid (show healS s H P i = (0, 0, s) from by
          rw [HE1.out]
          have e9 : P.refs.find? (fun x => x.1 == (i : Int)) = none := by
            rw [List.find?_eq_none]
            intro x hx
            obtain ⟨j, hj⟩ := List.mem_iff_getElem?.1 hx
            have h1 := (List.getElem?_eq_some_iff.1 hj).1
            rw [HNo.out j x (by rw [hkm, ← HRf2.out.len]; exact h1) hj]
            decide
          rw [e9])
        have HFi := hid (show HealOut Real PR S w0 w d g n q mk T P ch (healS s H P i) (.returned (.tuple #[.int .i64 0, .nilIface])) wr from by
          rw [HNf.out]
          exact ⟨⟨.nilIface, rfl, .fine⟩, HMore.out wr (HB2.out.trans (HB.out.mono HB2.out.size))⟩)
        clear hkm hlt
        go_wp2
        go_ret2
        exact HFi.out
end
end Go.Proofs.YtaonhbmimaiiiaaGreatDoor
namespace Go.Proofs.YtaonhbmimaiiiaaGreatDoor

/-- block a was written last with l -/
def Blkd (s : DSt) (a : Nat) (l : List Int) : Prop := ∃ b, s.blks[a]? = some b ∧ St l b
/-- .. and reads so -/
def Rt (s : DSt) (a : Nat) (l : List Int) : Prop := ∃ b, s.blks[a]? = some b ∧ St l b ∧ b.read = (0, l)
section
variable {s s' : DSt} {a i H n q : Nat} {l : List Int}
theorem Rt.blkd (h : Rt s a l) : Blkd s a l := by
  obtain ⟨b, h1, h2, _⟩ := h
  exact ⟨b, h1, h2⟩
theorem Blkd.same (h : Blkd s a l) (e : s'.blks[a]? = s.blks[a]?) : Blkd s' a l := by
  obtain ⟨b, h1, h2⟩ := h
  exact ⟨b, e.trans h1, h2⟩
theorem Rt.same (h : Rt s a l) (e : s'.blks[a]? = s.blks[a]?) : Rt s' a l := by
  obtain ⟨b, h1, h2⟩ := h
  exact ⟨b, e.trans h1, h2⟩
theorem Blkd.put (h : Blkd s a l) (k : List Int) : Rt (s.put a k) a k := by
  obtain ⟨b, h1, h2⟩ := h
  exact ⟨_, put_at h1, st_write b k, read_write b k⟩
theorem Blkd.else_ (h : Blkd s a l) {j : Nat} {k : List Int} (hj : j ≠ a) : Blkd (s.put j k) a l := h.same (put_else hj)
theorem Rt.else_ (h : Rt s a l) {j : Nat} {k : List Int} (hj : j ≠ a) : Rt (s.put j k) a l := h.same (put_else hj)
theorem flb_at {b : BSt} (h : s.blks[a]? = some b) : (fl s).blks[a]? = some b.flush := by
  show (s.blks.map BSt.flush)[a]? = _
  rw [List.getElem?_map, h]; rfl
theorem Blkd.flushed (h : Blkd s a l) : Blkd (fl s) a l := by
  obtain ⟨b, h1, h2⟩ := h
  exact ⟨_, flb_at h1, h2.flush⟩
theorem Rt.flushed (h : Rt s a l) : Rt (fl s) a l := by
  obtain ⟨b, h1, h2, h3⟩ := h
  exact ⟨_, flb_at h1, h2.flush, by rw [read_flush]; exact h3⟩
/-- how a block reads that was written last with l -/
theorem Blkd.reads (h : Blkd s a l) : Rt s a l ∨ ∃ b, s.blks[a]? = some b ∧ b.fault = true ∧ b.pend = false ∧ (b.read = (107, []) ∨ ∃ (at' : Int) (bits : Nat), 0 ≤ at' ∧ at' ≤ 252 ∧ bits ≠ 0 ∧ bits < 4294967296 ∧ b.read = (0, turned l at' bits)) := by
  obtain ⟨b, h1, h2⟩ := h
  have h2' := h2
  rcases h2 with ⟨h, hn⟩ | ⟨h, hf, hl, hh⟩ | ⟨at', z, h, hf, hl, h0, h3, hb, hb2, hh⟩ | ⟨h, hf, hl⟩
  · exact .inl ⟨b, h1, h2', by unfold BSt.read; rw [if_pos h, hn]⟩
  · exact .inl ⟨b, h1, h2', by unfold BSt.read; rw [if_neg (by rw [h]; decide), if_neg (by rw [hl]; decide), hh]⟩
  · exact .inr ⟨b, h1, hf, h, .inr ⟨at', z, h0, h3, hb, hb2, by unfold BSt.read; rw [if_neg (by rw [h]; decide), if_neg (by rw [hl]; decide), hh]⟩⟩
  · exact .inr ⟨b, h1, hf, h, .inl (by unfold BSt.read; rw [if_neg (by rw [h]; decide), if_pos hl])⟩
/-- behind a flush what reads right is not faulted -/
theorem Rt.sound (h : Rt (fl s) a l) (hb : Blkd s a l) (hy : Byt l) (h256 : l.length = 256) (u : Up (fl s) n q) (ha : a < n) : (fl s).faulted (a : Int) = false := by
  obtain ⟨b, h1, h2, h3⟩ := h
  have hp : b.pend = false := by
    obtain ⟨b0, k1, _⟩ := hb
    rw [flb_at k1] at h1
    have e : b0.flush = b := by injection h1
    subst e
    unfold BSt.flush
    split
    · rfl
    · rename_i hn; simpa using hn
  have hf : b.fault = false := by
    rcases h2 with ⟨h, hn⟩ | ⟨h, hf, hl, hh⟩ | ⟨at', z, h, hf, hl, h0, h4, hz, hz2, hh⟩ | ⟨h, hf, hl⟩
    · rw [hp] at h; cases h
    · exact hf
    · exfalso
      unfold BSt.read at h3
      rw [if_neg (by rw [h]; decide), if_neg (by rw [hl]; decide), hh] at h3
      exact (turned_other hy h256 h0 h4 hz hz2).1 (by injection h3)
    · exfalso
      unfold BSt.read at h3
      rw [if_neg (by rw [h]; decide), if_pos hl] at h3
      injection h3 with h3
      cases h3
  unfold DSt.faulted
  rw [u.inB ha, Int.toNat_natCast, h1]
  exact hf
/-! one block faulted -/
theorem turn_at_ {f : BSt → BSt} {b : BSt} (h : s.blks[a]? = some b) : (s.turn (a : Int) f).blks[a]? = some (f b) := turn_at h
theorem free_of {b : BSt} (h : s.blks[a]? = some b) (hf : s.free (a : Int) = true) : b.pend = false ∧ b.fault = false := by
  unfold DSt.free at hf
  rw [Int.toNat_natCast, h] at hf
  simp at hf
  exact hf.2
theorem sound_of {b : BSt} (h : St l b) (hp : b.pend = false) (hf : b.fault = false) : b.fail = false ∧ b.has = l := by
  rcases h with ⟨h, hn⟩ | ⟨h, hf', hl, hh⟩ | ⟨at', z, h, hf', hl, _⟩ | ⟨h, hf', hl⟩
  · rw [hp] at h; cases h
  · exact ⟨hl, hh⟩
  · rw [hf] at hf'; cases hf'
  · rw [hf] at hf'; cases hf'
theorem Blkd.fail (h : Blkd s a l) : Blkd (s.fail (a : Int)).2 a l := by
  obtain ⟨b, h1, h2⟩ := h
  unfold DSt.fail
  split
  · rename_i hf
    obtain ⟨hp, _⟩ := free_of h1 hf
    exact ⟨_, turn_at_ h1, .failed hp rfl rfl⟩
  · exact ⟨b, h1, h2⟩
theorem Blkd.spoil (h : Blkd s a l) {at' : Int} {bits : Nat} (hb2 : bits < 4294967296) : Blkd (s.spoil (a : Int) at' bits).2 a l := by
  obtain ⟨b, h1, h2⟩ := h
  unfold DSt.spoil
  split
  · rename_i hc
    obtain ⟨hf, h3, h4, h5⟩ := hc
    obtain ⟨hp, hfl⟩ := free_of h1 hf
    obtain ⟨hl, hh⟩ := sound_of h2 hp hfl
    exact ⟨_, turn_at_ h1, .spoilt at' bits hp rfl hl h3 h4 h5 hb2 (by show turned b.has at' bits = _; rw [hh])⟩
  · exact ⟨b, h1, h2⟩
theorem fail_else {j : Nat} (hj : j ≠ a) : (s.fail (j : Int)).2.blks[a]? = s.blks[a]? := by
  unfold DSt.fail
  split
  · exact turn_else hj
  · rfl
theorem spoil_else {j : Nat} (hj : j ≠ a) (at' : Int) (bits : Nat) : (s.spoil (j : Int) at' bits).2.blks[a]? = s.blks[a]? := by
  unfold DSt.spoil
  split
  · exact turn_else hj
  · rfl
end
end Go.Proofs.YtaonhbmimaiiiaaGreatDoor
namespace Go.Proofs.YtaonhbmimaiiiaaGreatDoor

/-- laid twice -/
structure Twice (l : List Int) : Prop where
  byt : Byt l
  len : l.length = 256
  two : ∀ j, j < 128 → l[j]? = l[j + 128]?
theorem twice_root {l : List Int} (h : (readR l).isSome = true) (hy : Byt l) : Twice l := by
  rcases hr : readR l with _ | x
  · rw [hr] at h; cases h
  · obtain ⟨h1, hc, hb, _⟩ := readR_inv hr
    have hx := (RSt.fine hc).2.2.2
    exact ⟨hy, h1, fun j hj => by rw [← hb]; exact bytesOf_twice hx hj⟩
theorem twice_zeros : Twice (zerosL 256) := by
  refine ⟨fun x hx => ?_, List.length_replicate, fun j hj => ?_⟩
  · have : x = 0 := List.eq_of_mem_replicate hx
    omega
  · unfold zerosL
    rw [List.getElem?_replicate, List.getElem?_replicate, if_pos (by omega), if_pos (by omega)]
theorem zeroB_eq {l : List Int} (h : zeroB l = true) (hl : l.length = 256) : l = zerosL 256 := by
  unfold zeroB at h
  rw [List.all_eq_true] at h
  exact List.eq_replicate_iff.2 ⟨hl, fun x hx => by simpa using h x hx⟩
theorem not_twice {l : List Int} (h : Twice l) {at' : Int} {bits : Nat} (h0 : 0 ≤ at') (h1 : at' ≤ 252) (hb : bits ≠ 0) (hb2 : bits < 4294967296) : ¬ Twice (turned l at' bits) := by
  intro ht
  refine (turned_other h.byt h.len h0 h1 hb hb2).1 ?_
  obtain ⟨p, rfl⟩ : ∃ p : Nat, at' = (p : Int) := ⟨at'.toNat, by omega⟩
  have et : turned l (p : Int) bits = turns l p bits 4 := by unfold turned; rw [if_neg (by omega), Int.toNat_natCast]
  rw [et] at ht ⊢
  have out : ∀ j, ¬ (p ≤ j ∧ j < p + 4) → (turns l p bits 4)[j]? = l[j]? := fun j hj => by
    rw [turns_get]
    cases l[j]? <;> simp [hj]
  apply List.ext_getElem?
  intro j
  by_cases hj : p ≤ j ∧ j < p + 4
  · rcases Nat.lt_or_ge j 128 with h1 | h1
    · rw [ht.two j h1, out (j + 128) (by omega), h.two j h1]
    · rcases Nat.lt_or_ge j 256 with h2 | h2
      · obtain ⟨i, rfl⟩ : ∃ i, j = i + 128 := ⟨j - 128, by omega⟩
        rw [← ht.two i (by omega), out i (by omega), h.two i (by omega)]
      · rw [List.getElem?_eq_none (by rw [turns_len, h.len]; omega), List.getElem?_eq_none (by rw [h.len]; omega)]
  · exact out j hj
/-- a pair: l on the one side, m on the other; one of both reads right; where nothing is said of faults, both -/
structure Pr (s : DSt) (H f : Nat) (l m : List Int) (d : Bool) : Prop where
  a : Blkd s f l
  b : Blkd s (f + H) m
  or : Rt s f l ∨ Rt s (f + H) m
  both : d = false → Rt s f l ∧ Rt s (f + H) m
section
variable {s s' : DSt} {f H n q : Nat} {l m : List Int} {d : Bool}
theorem Pr.same (h : Pr s H f l m d) (h1 : s'.blks[f]? = s.blks[f]?) (h2 : s'.blks[f + H]? = s.blks[f + H]?) : Pr s' H f l m d :=
  ⟨h.a.same h1, h.b.same h2, h.or.imp (fun h => h.same h1) (fun h => h.same h2), fun e => ⟨(h.both e).1.same h1, (h.both e).2.same h2⟩⟩
theorem Pr.flushed (h : Pr s H f l m d) : Pr (fl s) H f l m d :=
  ⟨h.a.flushed, h.b.flushed, h.or.imp (fun h => h.flushed) (fun h => h.flushed), fun e => ⟨(h.both e).1.flushed, (h.both e).2.flushed⟩⟩
theorem Pr.put1 (h : Pr s H f l m d) (hH : 0 < H) (k : List Int) : Pr (s.put f k) H f k m d :=
  ⟨(h.a.put k).blkd, h.b.else_ (by omega), .inl (h.a.put k), fun e => ⟨h.a.put k, (h.both e).2.else_ (by omega)⟩⟩
theorem Pr.put2 (h : Pr s H f l m d) (hH : 0 < H) (k : List Int) : Pr (s.put (f + H) k) H f l k d :=
  ⟨h.a.else_ (by omega), (h.b.put k).blkd, .inr (h.b.put k), fun e => ⟨(h.both e).1.else_ (by omega), h.b.put k⟩⟩
theorem Pr.done (h : Pr s H f l m d) : Pr s H f l m true := ⟨h.a, h.b, h.or, fun e => by cases e⟩
/-- one side is faulted -/
theorem Pr.hit1 (h : Pr s H f l m false) (ha : Blkd s' f l) (hb : s'.blks[f + H]? = s.blks[f + H]?) : Pr s' H f l m true :=
  ⟨ha, h.b.same hb, .inr ((h.both rfl).2.same hb), fun e => by cases e⟩
theorem Pr.hit2 (h : Pr s H f l m false) (ha : s'.blks[f]? = s.blks[f]?) (hb : Blkd s' (f + H) m) : Pr s' H f l m true :=
  ⟨h.a.same ha, hb, .inl ((h.both rfl).1.same ha), fun e => by cases e⟩
theorem right_rt {b : BSt} (h1 : St l b) (hy : Byt l) (h256 : l.length = 256) : b.read = (0, l) ↔ b.right (crcOf (nats l)) = true := by
  constructor
  · exact right_of
  · exact h1.right hy h256
theorem Pr.two (h : Pr s H f l l d) : Two s H f l := by
  obtain ⟨a, ha, sa⟩ := h.a
  obtain ⟨b, hb, sb⟩ := h.b
  refine ⟨a, b, ⟨ha, hb⟩, sa, sb, ?_⟩
  rcases h.or with ⟨a', h1, _, h3⟩ | ⟨b', h1, _, h3⟩
  · rw [ha] at h1; cases h1; exact .inl (right_of h3)
  · rw [hb] at h1; cases h1; exact .inr (right_of h3)
end
end Go.Proofs.YtaonhbmimaiiiaaGreatDoor
