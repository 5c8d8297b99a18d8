/- Package root: Copies. -/
import Derived.Test.YthgdofcamjkdpaaDoorGRootI
namespace Go.Proofs.YthgdofcamjkdpaaDoor
open Go.RowKit

theorem copies_zero {s : DSt} {H : Nat} (h : (s.newest H).epoch = 0) : s.copies H = 0 := by
  unfold DSt.copies copiesOf
  rw [show newestOf (s.root 0) (s.root H) (s.root 1) (s.root (1 + H)) = s.newest H from rfl, if_pos h]
theorem copies_even {s : DSt} {H : Nat} (h : 0 < (s.newest H).epoch) (he : (s.newest H).epoch % 2 = 0) : s.copies H = hasD (s.newest H) (fourR s (H : Int) 0) + hasD (s.newest H) (fourR s (H : Int) 1) := by
  obtain ⟨e0, e1, _, _⟩ := four_root s H
  rw [e0, e1, hasD_has h, hasD_has h]
  unfold DSt.copies copiesOf
  rw [show newestOf (s.root 0) (s.root H) (s.root 1) (s.root (1 + H)) = s.newest H from rfl, if_neg (by omega), if_pos he]
theorem copies_odd {s : DSt} {H : Nat} (h : 0 < (s.newest H).epoch) (he : (s.newest H).epoch % 2 = 1) : s.copies H = hasD (s.newest H) (fourR s (H : Int) 2) + hasD (s.newest H) (fourR s (H : Int) 3) := by
  obtain ⟨_, _, e2, e3⟩ := four_root s H
  rw [e2, e3, hasD_has h, hasD_has h]
  unfold DSt.copies copiesOf
  rw [show newestOf (s.root 0) (s.root H) (s.root 1) (s.root (1 + H)) = s.newest H from rfl, if_neg (by omega), if_neg (by omega)]
theorem hasD_yes {r x : RSt} (h1 : x.epoch = r.epoch) (h2 : sameR x.refs r.refs = true) : hasD r x = 1 := if_pos (RSt.ext' h1 (by simpa [sameR] using h2))
theorem hasD_epoch {r x : RSt} (h1 : x.epoch ≠ r.epoch) : hasD r x = 0 := if_neg fun e => h1 (by rw [e])
theorem hasD_refs {r x : RSt} (h2 : sameR x.refs r.refs = false) : hasD r x = 0 := if_neg fun e => by subst e; simp [sameR] at h2
section
variable {Real : World → Nat → DSt → (Nat → Prop) → Prop}
set_option maxRecDepth 100000 in
set_option maxHeartbeats 8000000 in
/-- Copies: how many have the newest -/
theorem copies_any (D : DevOk Real) (S : Nat → Addr) (d n : Nat) (s : DSt) (F : Nat → Prop) (w : World) (hS : Sent6 w S) (hr : Real w d s F) (hs : Says s n) (h0 : 300 ≤ n) :
    Calls Tryd.prog 19 #[.pointer (some ⟨d, 0, none⟩)] w fun e w' => e = .returned (.tuple #[.int .i64 ((s.copies (halN n) : Nat) : Int), .nilIface]) ∧ Below w.heap.size w w' := by
  obtain ⟨H, hH⟩ : ∃ H, halN n = H := ⟨_, rfl⟩
  have HFn := hid (find_any D S d n s F _ hS hr hs h0)
  have HNb := hid (nb_newest s H)
  have HPs := hid (newest_pos s H)
  obtain ⟨r, hrr⟩ : ∃ r, s.newest H = r := ⟨_, rfl⟩
  obtain ⟨f, hf⟩ : ∃ f, fourR s (H : Int) = f := ⟨_, rfl⟩
  obtain ⟨cp, hcp⟩ : ∃ cp, s.copies H = cp := ⟨_, rfl⟩
  have HC0 := hid (fun h => copies_zero (s := s) (H := H) h)
  have HC1 := hid (fun h he => copies_even (s := s) (H := H) h he)
  have HC2 := hid (fun h he => copies_odd (s := s) (H := H) h he)
  rw [hH] at HFn ⊢
  unfold FindOut at HFn
  rw [hrr, hf] at HNb
  rw [hf] at HFn
  rw [hrr] at HPs
  rw [hrr, hcp] at HC0
  rw [hrr, hcp, hf] at HC1 HC2
  rw [hcp]
  clear hS hr hs h0 D hH hrr hf hcp
  go_enter Tryd.func19, Tryd.ntmps19
  go_wp2_with fail
  refine HFn.out.mono ?_
  rintro e w1 ⟨x, rfl, hx, hb⟩
  have HX := hid hx
  have HB2 := hid hb
  have HBb := hid (show Below w1.heap.size w1 (w1.alloc (.cells (fnC x) 86)) from (Below.refl _ _).alloc (Nat.le_refl _) _)
  have HKf := hid (Blk.new w1 86 (fnC x))
  clear hx hb
  have k0 := HKf.out.cell 0
  have k1 := HKf.out.cell 1
  have k2 := HKf.out.cell 2
  have k3 := HKf.out.cell 3
  have k4 := HKf.out.cell 4
  have k5 := HKf.out.cell 5
  have k6 := HKf.out.cell 6
  have k7 := HKf.out.cell 7
  simp [fnC] at k0 k1 k2 k3 k4 k5 k6 k7
  go_wp2_with fail
  refine (newestR_any f x _ (fun j hj => (HX.out j hj).1.on HBb.out)).mono ?_
  rintro e w2 ⟨o, rfl, ho, hb, _⟩
  rw [HNb.out.1] at ho
  have HKf2 := hid (HKf.out.below hb HKf.out.lt)
  have HB12 := hid (show Below w1.heap.size w1 w2 from HBb.out.trans (hb.mono HBb.out.size))
  have HB3 := hid (HB2.out.trans (HB12.out.mono HB2.out.size))
  have HBn := hid (show Below w2.heap.size w2 (w2.alloc (.cells #[.int .i64 o.e, o.s] 31)) from (Below.refl _ _).alloc (Nat.le_refl _) _)
  have HO3 := hid (RV.Is.on ho HBn.out)
  have HKo := hid (Blk.new w2 31 #[.int .i64 o.e, o.s])
  have HKf3 := hid (HKf2.out.alloc (.cells #[.int .i64 o.e, o.s] 31))
  have HX3 := hid (show ∀ j, j < 4 → (x j).Is (f j) (w2.alloc (.cells #[.int .i64 o.e, o.s] 31)) from fun j hj => ((HX.out j hj).1.on HB12.out).on HBn.out)
  have HB4 := hid (HB3.out.trans (HBn.out.mono HB3.out.size))
  have HE := hid (show o.e = r.epoch from ho.1)
  have HG := hid (show w1.heap.size < w2.heap.size from by have := HKf2.out.lt; omega)
  clear ho hb k0 k1 k2 k3 k4 k5 k6 k7
  have c0 := HKo.out.cell 0
  have c1 := HKo.out.cell 1
  simp at c0 c1
  have hpo : (o.e = 0) ∨ (o.e ≠ 0 ∧ 1 ≤ o.e ∧ o.e ≤ 1099511627776 ∧ (o.e % 2 = 0 ∨ o.e % 2 = 1)) := by
    rw [HE.out]
    rcases HPs.out with h | h
    · exact .inl h
    · exact .inr ⟨by omega, h.1, h.2, by omega⟩
  rcases hpo with hz | ⟨hz, hp1, hp2, hpar⟩
  · have g1 : (o.e == 0) = true := by rw [beq_iff_eq]; exact hz
    have HF := hid (show cp = 0 from HC0.out (by rw [← HE.out]; exact hz))
    clear hz
    go_wp2
    go_ret2
    exact ⟨by rw [HF.out]; rfl, HB4.out⟩
  · have g1 : (o.e == 0) = false := by rw [beq_eq_false_iff_ne]; exact hz
    have HPl := hid (fun w' => place_any o.e o.A o.n o.c w' hp1 hp2)
    have HE0 := hid (show 0 < r.epoch from by rw [← HE.out]; omega)
    clear hz hp1 hp2
    rcases hpar with hpar | hpar
    · have HF := hid (show cp = hasD r (f 0) + hasD r (f 1) from HC1.out HE0.out (by rw [← HE.out]; exact hpar))
      rw [hpar] at HPl
      clear hpar
      go_wp2_with fail
      refine (HPl.out _).mono ?_
      rintro e w5 ⟨rfl, hb⟩
      have HB5 := hid (HB4.out.trans (hb.mono HB4.out.size))
      have HKo5 := hid (HKo.out.below hb HKo.out.lt)
      have HKf5 := hid (HKf3.out.below hb HKf3.out.lt)
      have HO5 := hid (RV.Is.on HO3.out hb)
      have HX5 := hid (show ∀ j, j < 4 → (x j).Is (f j) w5 from fun j hj => (HX3.out j hj).on hb)
      clear hb c0 c1
      have k0 := HKf5.out.cell 0
      have k1 := HKf5.out.cell 1
      have k2 := HKf5.out.cell 2
      have k3 := HKf5.out.cell 3
      simp [fnC] at k0 k1 k2 k3
      go_wp2
      go_loopw [7, 27] (fun m i wr => ∃ (k : Nat) (c : Nat), k ≤ 2 ∧ i = .int .i64 (k : Int) ∧ m = .int .i64 (c : Int) ∧ c = (if 0 < k then hasD r (f 0) else 0) + (if 1 < k then hasD r (f 1) else 0) ∧ c ≤ k ∧ Blk wr w2.heap.size 31 #[.int .i64 o.e, o.s] ∧ Below w5.heap.size w5 wr) (fun _ i _ => 2 - (intOf i).toNat)
      case atStart => exact ⟨0, 0, by omega, rfl, rfl, rfl, by omega, HKo5.out, Below.refl _ _⟩
      case round =>
        obtain ⟨k, c, hk, rfl, rfl, hc, hc2, hko, hb⟩ := hrel
        have HKr := hid hko
        have HBr := hid hb
        have HCn := hid hc
        have HC2' := hid hc2
        have HOr := hid (RV.Is.on HO5.out hb)
        clear hko hb k0 k1 k2 k3 hc hc2
        have c0 := HKr.out.cell 0
        have c1 := HKr.out.cell 1
        simp at c0 c1
        have hc9 : (c : Int) ≤ 2 := by have := HC2'.out; have := hk; omega
        rcases (show k = 0 ∨ k = 1 ∨ k = 2 by omega) with rfl | rfl | rfl
        · have xP := fun W => Tryd.idxP0 (.int .i64 (x 0).e) (x 0).s (.int .i64 (x 1).e) (x 1).s W
          have hbA : Below wr.heap.size wr (wr.alloc (.cells #[.int .i64 (x 0).e, (x 0).s] 31)) := (Below.refl _ _).alloc (Nat.le_refl _) _
          have HBA := hid hbA
          have HKb := hid (Blk.new wr 31 #[.int .i64 (x 0).e, (x 0).s])
          have HKr2 := hid (HKr.out.alloc (.cells #[.int .i64 (x 0).e, (x 0).s] 31))
          have HYj := hid ((HX5.out 0 (by omega)).on (HBr.out.trans (hbA.mono HBr.out.size)))
          have HOb := hid (RV.Is.on HOr.out hbA)
          have b0 := HKb.out.cell 0
          have b1 := HKb.out.cell 1
          have d0 := HKr2.out.cell 0
          have d1 := HKr2.out.cell 1
          simp at b0 b1 d0 d1
          have HBA2 := hid (HBr.out.trans (hbA.mono HBr.out.size))
          clear hbA c0 c1
          by_cases he : (x 0).e = o.e
          · have g2 : ((x 0).e == o.e) = true := by rw [beq_iff_eq]; exact he
            have HEe := hid (show (f 0).epoch = r.epoch from by rw [← HYj.out.1, ← HE.out]; exact he)
            clear he
            go_wp2_with fail
            refine (slEqual_any _ _ _ _ _ _ _ _ _ _ _ HYj.out.2 HOb.out.2).mono ?_
            rintro e w6 ⟨rfl, q, rfl⟩
            have HK6 := hid (HKr2.out.drewN q)
            have HB6 := hid (below_drewN HBA2.out q)
            rcases hsm : sameR (f 0).refs r.refs with _ | _
            · have HD := hid (hasD_refs hsm)
              clear hsm
              go_wp2
              go_roundw
              case rel => exact ⟨1, c, by omega, rfl, rfl, by have := HCn.out; have := HD.out; simp at *; omega, by have := HC2'.out; omega, HK6.out, HB6.out⟩
              case measure => simp [intOf]
            · have HD := hid (hasD_yes HEe.out hsm)
              clear hsm
              go_wp2
              go_roundw
              case rel => exact ⟨1, c + 1, by omega, rfl, by go_num, by have := HCn.out; have := HD.out; simp at *; omega, by have := HC2'.out; omega, HK6.out, HB6.out⟩
              case measure => simp [intOf]
          · have g2 : ((x 0).e == o.e) = false := by rw [beq_eq_false_iff_ne]; exact he
            have HD := hid (hasD_epoch (r := r) (x := f 0) (by rw [← HYj.out.1, ← HE.out]; exact he))
            clear he
            go_wp2
            go_roundw
            case rel => exact ⟨1, c, by omega, rfl, rfl, by have := HCn.out; have := HD.out; simp at *; omega, by have := HC2'.out; omega, HKr2.out, HBA2.out⟩
            case measure => simp [intOf]
        · have xP := fun W => Tryd.idxP1 (.int .i64 (x 0).e) (x 0).s (.int .i64 (x 1).e) (x 1).s W
          have hbA : Below wr.heap.size wr (wr.alloc (.cells #[.int .i64 (x 1).e, (x 1).s] 31)) := (Below.refl _ _).alloc (Nat.le_refl _) _
          have HBA := hid hbA
          have HKb := hid (Blk.new wr 31 #[.int .i64 (x 1).e, (x 1).s])
          have HKr2 := hid (HKr.out.alloc (.cells #[.int .i64 (x 1).e, (x 1).s] 31))
          have HYj := hid ((HX5.out 1 (by omega)).on (HBr.out.trans (hbA.mono HBr.out.size)))
          have HOb := hid (RV.Is.on HOr.out hbA)
          have b0 := HKb.out.cell 0
          have b1 := HKb.out.cell 1
          have d0 := HKr2.out.cell 0
          have d1 := HKr2.out.cell 1
          simp at b0 b1 d0 d1
          have HBA2 := hid (HBr.out.trans (hbA.mono HBr.out.size))
          clear hbA c0 c1
          by_cases he : (x 1).e = o.e
          · have g2 : ((x 1).e == o.e) = true := by rw [beq_iff_eq]; exact he
            have HEe := hid (show (f 1).epoch = r.epoch from by rw [← HYj.out.1, ← HE.out]; exact he)
            clear he
            go_wp2_with fail
            refine (slEqual_any _ _ _ _ _ _ _ _ _ _ _ HYj.out.2 HOb.out.2).mono ?_
            rintro e w6 ⟨rfl, q, rfl⟩
            have HK6 := hid (HKr2.out.drewN q)
            have HB6 := hid (below_drewN HBA2.out q)
            rcases hsm : sameR (f 1).refs r.refs with _ | _
            · have HD := hid (hasD_refs hsm)
              clear hsm
              go_wp2
              go_roundw
              case rel => exact ⟨2, c, by omega, rfl, rfl, by have := HCn.out; have := HD.out; simp at *; omega, by have := HC2'.out; omega, HK6.out, HB6.out⟩
              case measure => simp [intOf]
            · have HD := hid (hasD_yes HEe.out hsm)
              clear hsm
              go_wp2
              go_roundw
              case rel => exact ⟨2, c + 1, by omega, rfl, by go_num, by have := HCn.out; have := HD.out; simp at *; omega, by have := HC2'.out; omega, HK6.out, HB6.out⟩
              case measure => simp [intOf]
          · have g2 : ((x 1).e == o.e) = false := by rw [beq_eq_false_iff_ne]; exact he
            have HD := hid (hasD_epoch (r := r) (x := f 1) (by rw [← HYj.out.1, ← HE.out]; exact he))
            clear he
            go_wp2
            go_roundw
            case rel => exact ⟨2, c, by omega, rfl, rfl, by have := HCn.out; have := HD.out; simp at *; omega, by have := HC2'.out; omega, HKr2.out, HBA2.out⟩
            case measure => simp [intOf]
        · have HFc := hid (show c = cp from by have := HCn.out; have := HF.out; simp at *; omega)
          go_wp2
          go_ret2
          exact ⟨by rw [← HFc.out]; rfl, HB5.out.trans (HBr.out.mono HB5.out.size)⟩
    · have HF := hid (show cp = hasD r (f 2) + hasD r (f 3) from HC2.out HE0.out (by rw [← HE.out]; exact hpar))
      rw [hpar] at HPl
      clear hpar
      go_wp2_with fail
      refine (HPl.out _).mono ?_
      rintro e w5 ⟨rfl, hb⟩
      have HB5 := hid (HB4.out.trans (hb.mono HB4.out.size))
      have HKo5 := hid (HKo.out.below hb HKo.out.lt)
      have HKf5 := hid (HKf3.out.below hb HKf3.out.lt)
      have HO5 := hid (RV.Is.on HO3.out hb)
      have HX5 := hid (show ∀ j, j < 4 → (x j).Is (f j) w5 from fun j hj => (HX3.out j hj).on hb)
      clear hb c0 c1
      have k0 := HKf5.out.cell 4
      have k1 := HKf5.out.cell 5
      have k2 := HKf5.out.cell 6
      have k3 := HKf5.out.cell 7
      simp [fnC] at k0 k1 k2 k3
      go_wp2
      go_loopw [7, 27] (fun m i wr => ∃ (k : Nat) (c : Nat), k ≤ 2 ∧ i = .int .i64 (k : Int) ∧ m = .int .i64 (c : Int) ∧ c = (if 0 < k then hasD r (f 2) else 0) + (if 1 < k then hasD r (f 3) else 0) ∧ c ≤ k ∧ Blk wr w2.heap.size 31 #[.int .i64 o.e, o.s] ∧ Below w5.heap.size w5 wr) (fun _ i _ => 2 - (intOf i).toNat)
      case atStart => exact ⟨0, 0, by omega, rfl, rfl, rfl, by omega, HKo5.out, Below.refl _ _⟩
      case round =>
        obtain ⟨k, c, hk, rfl, rfl, hc, hc2, hko, hb⟩ := hrel
        have HKr := hid hko
        have HBr := hid hb
        have HCn := hid hc
        have HC2' := hid hc2
        have HOr := hid (RV.Is.on HO5.out hb)
        clear hko hb k0 k1 k2 k3 hc hc2
        have c0 := HKr.out.cell 0
        have c1 := HKr.out.cell 1
        simp at c0 c1
        have hc9 : (c : Int) ≤ 2 := by have := HC2'.out; have := hk; omega
        rcases (show k = 0 ∨ k = 1 ∨ k = 2 by omega) with rfl | rfl | rfl
        · have xP := fun W => Tryd.idxP0 (.int .i64 (x 2).e) (x 2).s (.int .i64 (x 3).e) (x 3).s W
          have hbA : Below wr.heap.size wr (wr.alloc (.cells #[.int .i64 (x 2).e, (x 2).s] 31)) := (Below.refl _ _).alloc (Nat.le_refl _) _
          have HBA := hid hbA
          have HKb := hid (Blk.new wr 31 #[.int .i64 (x 2).e, (x 2).s])
          have HKr2 := hid (HKr.out.alloc (.cells #[.int .i64 (x 2).e, (x 2).s] 31))
          have HYj := hid ((HX5.out 2 (by omega)).on (HBr.out.trans (hbA.mono HBr.out.size)))
          have HOb := hid (RV.Is.on HOr.out hbA)
          have b0 := HKb.out.cell 0
          have b1 := HKb.out.cell 1
          have d0 := HKr2.out.cell 0
          have d1 := HKr2.out.cell 1
          simp at b0 b1 d0 d1
          have HBA2 := hid (HBr.out.trans (hbA.mono HBr.out.size))
          clear hbA c0 c1
          by_cases he : (x 2).e = o.e
          · have g2 : ((x 2).e == o.e) = true := by rw [beq_iff_eq]; exact he
            have HEe := hid (show (f 2).epoch = r.epoch from by rw [← HYj.out.1, ← HE.out]; exact he)
            clear he
            go_wp2_with fail
            refine (slEqual_any _ _ _ _ _ _ _ _ _ _ _ HYj.out.2 HOb.out.2).mono ?_
            rintro e w6 ⟨rfl, q, rfl⟩
            have HK6 := hid (HKr2.out.drewN q)
            have HB6 := hid (below_drewN HBA2.out q)
            rcases hsm : sameR (f 2).refs r.refs with _ | _
            · have HD := hid (hasD_refs hsm)
              clear hsm
              go_wp2
              go_roundw
              case rel => exact ⟨1, c, by omega, rfl, rfl, by have := HCn.out; have := HD.out; simp at *; omega, by have := HC2'.out; omega, HK6.out, HB6.out⟩
              case measure => simp [intOf]
            · have HD := hid (hasD_yes HEe.out hsm)
              clear hsm
              go_wp2
              go_roundw
              case rel => exact ⟨1, c + 1, by omega, rfl, by go_num, by have := HCn.out; have := HD.out; simp at *; omega, by have := HC2'.out; omega, HK6.out, HB6.out⟩
              case measure => simp [intOf]
          · have g2 : ((x 2).e == o.e) = false := by rw [beq_eq_false_iff_ne]; exact he
            have HD := hid (hasD_epoch (r := r) (x := f 2) (by rw [← HYj.out.1, ← HE.out]; exact he))
            clear he
            go_wp2
            go_roundw
            case rel => exact ⟨1, c, by omega, rfl, rfl, by have := HCn.out; have := HD.out; simp at *; omega, by have := HC2'.out; omega, HKr2.out, HBA2.out⟩
            case measure => simp [intOf]
        · have xP := fun W => Tryd.idxP1 (.int .i64 (x 2).e) (x 2).s (.int .i64 (x 3).e) (x 3).s W
          have hbA : Below wr.heap.size wr (wr.alloc (.cells #[.int .i64 (x 3).e, (x 3).s] 31)) := (Below.refl _ _).alloc (Nat.le_refl _) _
          have HBA := hid hbA
          have HKb := hid (Blk.new wr 31 #[.int .i64 (x 3).e, (x 3).s])
          have HKr2 := hid (HKr.out.alloc (.cells #[.int .i64 (x 3).e, (x 3).s] 31))
          have HYj := hid ((HX5.out 3 (by omega)).on (HBr.out.trans (hbA.mono HBr.out.size)))
          have HOb := hid (RV.Is.on HOr.out hbA)
          have b0 := HKb.out.cell 0
          have b1 := HKb.out.cell 1
          have d0 := HKr2.out.cell 0
          have d1 := HKr2.out.cell 1
          simp at b0 b1 d0 d1
          have HBA2 := hid (HBr.out.trans (hbA.mono HBr.out.size))
          clear hbA c0 c1
          by_cases he : (x 3).e = o.e
          · have g2 : ((x 3).e == o.e) = true := by rw [beq_iff_eq]; exact he
            have HEe := hid (show (f 3).epoch = r.epoch from by rw [← HYj.out.1, ← HE.out]; exact he)
            clear he
            go_wp2_with fail
            refine (slEqual_any _ _ _ _ _ _ _ _ _ _ _ HYj.out.2 HOb.out.2).mono ?_
            rintro e w6 ⟨rfl, q, rfl⟩
            have HK6 := hid (HKr2.out.drewN q)
            have HB6 := hid (below_drewN HBA2.out q)
            rcases hsm : sameR (f 3).refs r.refs with _ | _
            · have HD := hid (hasD_refs hsm)
              clear hsm
              go_wp2
              go_roundw
              case rel => exact ⟨2, c, by omega, rfl, rfl, by have := HCn.out; have := HD.out; simp at *; omega, by have := HC2'.out; omega, HK6.out, HB6.out⟩
              case measure => simp [intOf]
            · have HD := hid (hasD_yes HEe.out hsm)
              clear hsm
              go_wp2
              go_roundw
              case rel => exact ⟨2, c + 1, by omega, rfl, by go_num, by have := HCn.out; have := HD.out; simp at *; omega, by have := HC2'.out; omega, HK6.out, HB6.out⟩
              case measure => simp [intOf]
          · have g2 : ((x 3).e == o.e) = false := by rw [beq_eq_false_iff_ne]; exact he
            have HD := hid (hasD_epoch (r := r) (x := f 3) (by rw [← HYj.out.1, ← HE.out]; exact he))
            clear he
            go_wp2
            go_roundw
            case rel => exact ⟨2, c, by omega, rfl, rfl, by have := HCn.out; have := HD.out; simp at *; omega, by have := HC2'.out; omega, HKr2.out, HBA2.out⟩
            case measure => simp [intOf]
        · have HFc := hid (show c = cp from by have := HCn.out; have := HF.out; simp at *; omega)
          go_wp2
          go_ret2
          exact ⟨by rw [← HFc.out]; rfl, HB5.out.trans (HBr.out.mono HB5.out.size)⟩
end
end Go.Proofs.YthgdofcamjkdpaaDoor
