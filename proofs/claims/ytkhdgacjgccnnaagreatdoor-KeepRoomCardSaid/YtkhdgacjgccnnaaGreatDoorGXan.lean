/- Put together out of 2 texts. Package root: Load, Copies. -/
import Derived.Test.YtkhdgacjgccnnaaGreatDoorGXam
import Derived.Test.YtkhdgacjgccnnaaGreatDoorGXae
namespace Go.Proofs.YtkhdgacjgccnnaaGreatDoor
open Go.RowKit

/-! the code's newest is the newest -/
theorem better_bet {out : RSt} {o : Option RSt} (h : 0 ≤ out.epoch) (ho : ∀ x, o = some x → 0 < x.epoch) : better out o = bet out (o.getD noRoot) ∧ 0 ≤ (better out o).epoch := by
  rcases o with _ | x
  · refine ⟨?_, h⟩
    have : ¬ out.epoch < noRoot.epoch := by show ¬ out.epoch < 0; omega
    show out = bet out noRoot
    unfold bet; rw [if_neg this]
  · have := ho x rfl
    refine ⟨rfl, ?_⟩
    unfold better; simp only
    split <;> omega
theorem readR_pos {b : List Int} {x : RSt} (h : readR b = some x) : 0 < x.epoch := by
  have := (RSt.fine (readR_inv h).2.1).1; omega
/-- the newest of a device's four blocks -/
def DSt.newest (s : DSt) (H : Nat) : RSt := newestOf (s.root 0) (s.root H) (s.root 1) (s.root (1 + H))
def DSt.copies (s : DSt) (H : Nat) : Nat := copiesOf (s.root 0) (s.root H) (s.root 1) (s.root (1 + H))
theorem four_root (s : DSt) (H : Nat) : fourR s (H : Int) 0 = (s.root 0).getD noRoot ∧ fourR s (H : Int) 1 = (s.root H).getD noRoot ∧ fourR s (H : Int) 2 = (s.root 1).getD noRoot ∧ fourR s (H : Int) 3 = (s.root (1 + H)).getD noRoot := by
  refine ⟨rfl, rfl, rfl, ?_⟩
  show rootOr (s.read (1 + (H : Int))).2 = _
  rw [show (1 + (H : Int)) = ((1 + H : Nat) : Int) by omega]; rfl
theorem nb_newest (s : DSt) (H : Nat) : nb (fourR s (H : Int)) 4 = s.newest H ∧ 0 ≤ (s.newest H).epoch := by
  obtain ⟨e0, e1, e2, e3⟩ := four_root s H
  have p : ∀ i x, s.root i = some x → 0 < x.epoch := fun i x h => readR_pos h
  obtain ⟨b0, n0⟩ := better_bet (out := noRoot) (o := s.root 0) (Int.le_refl _) (p 0)
  obtain ⟨b1, n1⟩ := better_bet n0 (p H)
  obtain ⟨b2, n2⟩ := better_bet n1 (p 1)
  obtain ⟨b3, n3⟩ := better_bet n2 (p (1 + H))
  refine ⟨?_, n3⟩
  show bet (bet (bet (bet noRoot _) _) _) _ = newestOf _ _ _ _
  rw [e0, e1, e2, e3, ← b0, ← b1, ← b2, ← b3]; rfl
theorem newest_pos (s : DSt) (H : Nat) : (s.newest H).epoch = 0 ∨ (1 ≤ (s.newest H).epoch ∧ (s.newest H).epoch ≤ 1099511627776) := by
  have p : ∀ i x, s.root i = some x → 1 ≤ x.epoch ∧ x.epoch ≤ 1099511627776 := fun i x h => by have := RSt.fine (readR_inv h).2.1; omega
  have st : ∀ (out : RSt) i, (out.epoch = 0 ∨ (1 ≤ out.epoch ∧ out.epoch ≤ 1099511627776)) → ((better out (s.root i)).epoch = 0 ∨ (1 ≤ (better out (s.root i)).epoch ∧ (better out (s.root i)).epoch ≤ 1099511627776)) := by
    intro out i h
    rcases ho : s.root i with _ | x
    · exact h
    · have := p i x ho
      unfold better; simp only
      split
      · exact .inr this
      · exact h
  exact st _ _ (st _ _ (st _ _ (st _ _ (.inl rfl))))
/-- how many have it, by the code -/
def hasD (r x : RSt) : Nat := if x = r then 1 else 0
theorem hasD_has {r : RSt} {o : Option RSt} (h : 0 < r.epoch) : hasD r (o.getD noRoot) = has r o := by
  rcases o with _ | x
  · unfold hasD has
    rw [if_neg, if_neg (by simp)]
    intro e
    have : noRoot.epoch = r.epoch := by rw [← e]; rfl
    have h0 : noRoot.epoch = 0 := rfl
    omega
  · unfold hasD has
    simp
theorem drewN_two (w : World) (a b : Nat) : ∃ k, (w.drewN a).drewN b = w.drewN k := ⟨a + b, World.drewN_drewN _ _ _⟩
/- slices.Equal of refs -/
def sameR (l m : List (Int × Nat)) : Bool := decide (l = m)
theorem takeR_next {l : List (Int × Nat)} {k : Nat} {x : Int × Nat} (h : l[k]? = some x) : l.take (k + 1) = l.take k ++ [x] := by rw [List.take_add_one, h]; rfl
theorem sameR_not {l m : List (Int × Nat)} {k : Nat} {x y : Int × Nat} (hx : l[k]? = some x) (hy : m[k]? = some y) (hne : x ≠ y) : sameR l m = false := by
  simp only [sameR, decide_eq_false_iff_not]
  rintro rfl
  rw [hx] at hy
  exact hne (by injection hy)
theorem sameR_end {l m : List (Int × Nat)} {n k : Nat} (hl : l.length = n) (hm : m.length = n) (hk : ¬ k < n) (h : l.take k = m.take k) : sameR l m = true := by
  rw [List.take_of_length_le (by omega), List.take_of_length_le (by omega)] at h
  simp [sameR, h]
theorem sameR_len {l m : List (Int × Nat)} (h : l.length ≠ m.length) : sameR l m = false := by
  simp only [sameR, decide_eq_false_iff_not]
  rintro rfl
  exact h rfl
set_option maxRecDepth 100000 in
set_option maxHeartbeats 4000000 in
theorem slEqual_any (A A' : Option Addr) (n c n' c' : Nat) (l m : List (Int × Nat)) (B B' : Nat) (w : World) (h : Rf w B A n c l) (h' : Rf w B' A' n' c' m) :
    Calls Tryz.prog 103 #[.slice A n c, .slice A' n' c'] w (Quiet w (.bool (sameR l m))) := by
  have HS := hid h
  have HS' := hid h'
  have hmx := h.max'
  clear h h'
  by_cases hne : n = n'
  · subst hne
    go_enter Tryz.func103, Tryz.ntmps103
    go_wp2
    go_loopw [13] (fun i wr => ∃ k q : Nat, k ≤ n ∧ i = .int .i64 (k : Int) ∧ l.take k = m.take k ∧ wr = w.drewN q) (fun i _ => n - (intOf i).toNat)
    case atStart => exact ⟨0, 0, Nat.zero_le _, rfl, rfl, rfl⟩
    case round =>
      obtain ⟨k, q, hk, rfl, ht, rfl⟩ := hrel
      have HT := hid ht
      clear ht
      by_cases hlt : k < n
      · obtain ⟨ad, x, rfl, hbl, hx, c0, c1⟩ := HS.out.get hlt
        obtain ⟨ad', y, rfl, hbl', hy, c0', c1'⟩ := HS'.out.get hlt
        have HX := hid hx
        have HY := hid hy
        clear hx hy hbl hbl'
        obtain ⟨xa, xz⟩ := x
        obtain ⟨ya, yz⟩ := y
        simp only at c0 c1 c0' c1'
        have hkn : (k : Int) < n := by omega
        have hn63 : (n : Int) ≤ 9223372036854775807 := by omega
        by_cases ha : xa = ya
        · by_cases hz : xz = yz
          · subst ha hz
            have HN := hid (show l.take (k + 1) = m.take (k + 1) by rw [takeR_next HX.out, takeR_next HY.out, HT.out])
            go_wp2_with fail
            go_quiet (fail)
            go_wp2
            go_roundw
            case rel => exact ⟨k + 1, _, by omega, by go_num, HN.out, rfl⟩
            case measure => simp [intOf]; omega
          · have g1 : ((xz : Int) == (yz : Int)) = false := by rw [beq_eq_false_iff_ne]; omega
            have HR := hid (sameR_not HX.out HY.out (fun e => hz (by injection e)))
            subst ha
            clear hz
            go_wp2_with fail
            go_quiet (fail)
            go_wp2
            go_ret
            rw [HR.out]
            exact ⟨rfl, drewN_two _ _ _⟩
        · have g1 : (xa == ya) = false := by rw [beq_eq_false_iff_ne]; exact ha
          have HR := hid (sameR_not HX.out HY.out (fun e => ha (by injection e)))
          clear ha
          go_wp2_with fail
          go_quiet (fail)
          go_wp2
          go_ret
          rw [HR.out]
          exact ⟨rfl, drewN_two _ _ _⟩
      · have HE := hid (sameR_end HS.out.len HS'.out.len hlt HT.out)
        have hnlt : decide (k < n) = false := by simpa using hlt
        go_wp2
        go_ret
        exact ⟨by rw [HE.out]; rfl, _, rfl⟩
  · have HE := hid (sameR_len (l := l) (m := m) (by rw [HS.out.len, HS'.out.len]; exact hne))
    have hq : ((n : Int) != (n' : Int)) = true := by simp; omega
    clear hne
    go_enter Tryz.func103, Tryz.ntmps103
    go_wp2
    go_ret
    exact ⟨by rw [HE.out]; rfl, 0, rfl⟩
section
variable {Real : World → Nat → DSt → (Nat → Prop) → Prop}
set_option maxRecDepth 100000 in
set_option maxHeartbeats 4000000 in
/-- Load: the newest, whether there is one -/
theorem load_any (D : DevOk Real) (S : Nat → Addr) (d n : Nat) (s : DSt) (F : Nat → Prop) (w : World) (hS : Sent6 w S) (hr : Real w d s F) (hs : Says s n) (h0 : 300 ≤ n) :
    Calls Tryz.prog 35 #[.pointer (some ⟨d, 0, none⟩)] w fun e w' => ∃ o : RV, e = .returned (.tuple #[o.v, .bool (decide (0 < (s.newest (halN n)).epoch)), .nilIface]) ∧ o.Is (s.newest (halN n)) w' ∧ Below w.heap.size w w' ∧ ∀ ad, o.A = some ad → w.heap.size ≤ ad.block := by
  obtain ⟨H, hH⟩ : ∃ H, halN n = H := ⟨_, rfl⟩
  have HB1 := hid (show Below w.heap.size w (w.alloc (.cells #[.int .i64 0, .slice none 0 0] 85)) from (Below.refl _ _).alloc (Nat.le_refl _) _)
  have HK1 := hid (Blk.new w 85 #[.int .i64 0, .slice none 0 0])
  have HFn := hid (find_any D S d n s F _ (hS.on HB1.out) (D.kept hr (Kept.of_below HB1.out (D.lt hr))) hs h0)
  have HNb := hid (nb_newest s H)
  rw [hH] at HFn ⊢
  clear hS hr hs h0 D hH
  go_enter Tryz.func35, Tryz.ntmps35
  go_wp2_with fail
  refine HFn.out.mono ?_
  rintro e w1 ⟨x, rfl, hx, hb⟩
  have HX := hid hx
  have HB2 := hid (HB1.out.trans (hb.mono HB1.out.size))
  have HK2 := hid (HK1.out.below hb HK1.out.lt)
  have HBb := hid (show Below w1.heap.size w1 (w1.alloc (.cells (fnC x) 132)) from (Below.refl _ _).alloc (Nat.le_refl _) _)
  have HKf := hid (Blk.new w1 132 (fnC x))
  clear hx hb
  have k0 := HKf.out.cell 0
  have k1 := HKf.out.cell 1
  have k2 := HKf.out.cell 2
  have k3 := HKf.out.cell 3
  have k4 := HKf.out.cell 4
  have k5 := HKf.out.cell 5
  have k6 := HKf.out.cell 6
  have k7 := HKf.out.cell 7
  simp [fnC] at k0 k1 k2 k3 k4 k5 k6 k7
  go_wp2_with fail
  refine (newestR_any (fourR s (H : Int)) x _ (fun j hj => (HX.out j hj).1.on HBb.out)).mono ?_
  rintro e w2 ⟨o, rfl, ho, hb, hA⟩
  rw [HNb.out.1] at ho
  have HO := hid ho
  have HA := hid (show ∀ ad, o.A = some ad → w.heap.size < ad.block from fun ad ha => by
    obtain ⟨j, hj, hx⟩ := hA ad ha
    have := (HX.out j hj).2 ad hx
    simp at this; omega)
  have HB3 := hid (show Below w.heap.size w w2 from (HB2.out.trans (HBb.out.mono HB2.out.size)).trans (hb.mono (by have := HB2.out.size; have := HBb.out.size; omega)))
  have HK3 := hid ((HK2.out.below HBb.out HK2.out.lt).below hb (HK2.out.below HBb.out HK2.out.lt).lt)
  have HBn := hid (show Below w2.heap.size w2 (w2.alloc (.cells #[.int .i64 o.e, o.s] 85)) from (Below.refl _ _).alloc (Nat.le_refl _) _)
  have HKo := hid (Blk.new w2 85 #[.int .i64 o.e, o.s])
  have HK4 := hid (HK3.out.alloc (.cells #[.int .i64 o.e, o.s] 85))
  have HE := hid (show o.e = (s.newest H).epoch from ho.1)
  clear ho hb hA k0 k1 k2 k3 k4 k5 k6 k7
  have c0 := HKo.out.cell 0
  have c1 := HKo.out.cell 1
  have r0 := HK4.out.cell 0
  have r1 := HK4.out.cell 1
  have fr := fun i => HK4.out.free i
  simp at c0 c1 r0 r1
  have HKn := box_put HK4.out rfl (.int .i64 o.e) o.s
  have HKs := (HKo.out.far (p := ⟨w.heap.size, 0, none⟩) (by have := HK3.out.lt; show w2.heap.size ≠ w.heap.size; omega) (.int .i64 o.e)).far (p := ⟨w.heap.size, 1, none⟩) (by have := HK3.out.lt; show w2.heap.size ≠ w.heap.size; omega) o.s
  have s0 := HKs.cell 0
  have s1 := HKs.cell 1
  simp at s0 s1
  simp only [RV.s] at s0 s1
  have m0 := HKn.cell 0
  have m1 := HKn.cell 1
  simp at m0 m1
  simp only [RV.s] at m0 m1
  have HBf := hid (show Below w.heap.size w (((w2.alloc (.cells #[.int .i64 o.e, o.s] 85)).setCell ⟨w.heap.size, 0, none⟩ (.int .i64 o.e)).setCell ⟨w.heap.size, 1, none⟩ o.s).drew from (below_box (HB3.out.trans (HBn.out.mono HB3.out.size)) (Nat.le_refl _) _ _).drew)
  have HIf := hid (show o.Is (s.newest H) (((w2.alloc (.cells #[.int .i64 o.e, o.s] 85)).setCell ⟨w.heap.size, 0, none⟩ (.int .i64 o.e)).setCell ⟨w.heap.size, 1, none⟩ o.s).drew from ((HO.out.on HBn.out).box HA.out _ _ _ _).on (Below.refl _ _).drew)
  clear HKn HKs
  go_wp2_with fail
  go_region
  go_wp2
  exact bodyPost_ret (v := .tuple #[o.v, .bool (decide (0 < o.e)), .nilIface]) (by simp [results, Tryz.results35, go_sem, m0, m1]) rfl ⟨o, by rw [HE.out], HIf.out, HBf.out, fun ad ha => Nat.le_of_lt (HA.out ad ha)⟩
end
end Go.Proofs.YtkhdgacjgccnnaaGreatDoor
namespace Go.Proofs.YtkhdgacjgccnnaaGreatDoor
open Go.RowKit

theorem copies_zero {s : DSt} {H : Nat} (h : (s.newest H).epoch = 0) : s.copies H = 0 := by
  unfold DSt.copies copiesOf
  rw [show newestOf (s.root 0) (s.root H) (s.root 1) (s.root (1 + H)) = s.newest H from rfl, if_pos h]
theorem copies_even {s : DSt} {H : Nat} (h : 0 < (s.newest H).epoch) (he : (s.newest H).epoch % 2 = 0) : s.copies H = hasD (s.newest H) (fourR s (H : Int) 0) + hasD (s.newest H) (fourR s (H : Int) 1) := by
  obtain ⟨e0, e1, _, _⟩ := four_root s H
  rw [e0, e1, hasD_has h, hasD_has h]
  unfold DSt.copies copiesOf
  rw [show newestOf (s.root 0) (s.root H) (s.root 1) (s.root (1 + H)) = s.newest H from rfl, if_neg (by omega), if_pos he]
theorem copies_odd {s : DSt} {H : Nat} (h : 0 < (s.newest H).epoch) (he : (s.newest H).epoch % 2 = 1) : s.copies H = hasD (s.newest H) (fourR s (H : Int) 2) + hasD (s.newest H) (fourR s (H : Int) 3) := by
  obtain ⟨_, _, e2, e3⟩ := four_root s H
  rw [e2, e3, hasD_has h, hasD_has h]
  unfold DSt.copies copiesOf
  rw [show newestOf (s.root 0) (s.root H) (s.root 1) (s.root (1 + H)) = s.newest H from rfl, if_neg (by omega), if_neg (by omega)]
theorem hasD_yes {r x : RSt} (h1 : x.epoch = r.epoch) (h2 : sameR x.refs r.refs = true) : hasD r x = 1 := if_pos (RSt.ext' h1 (by simpa [sameR] using h2))
theorem hasD_epoch {r x : RSt} (h1 : x.epoch ≠ r.epoch) : hasD r x = 0 := if_neg fun e => h1 (by rw [e])
theorem hasD_refs {r x : RSt} (h2 : sameR x.refs r.refs = false) : hasD r x = 0 := if_neg fun e => by subst e; simp [sameR] at h2
section
variable {Real : World → Nat → DSt → (Nat → Prop) → Prop}
set_option maxRecDepth 100000 in
set_option maxHeartbeats 8000000 in
/-- Copies: how many have the newest -/
theorem copies_any (D : DevOk Real) (S : Nat → Addr) (d n : Nat) (s : DSt) (F : Nat → Prop) (w : World) (hS : Sent6 w S) (hr : Real w d s F) (hs : Says s n) (h0 : 300 ≤ n) :
    Calls Tryz.prog 62 #[.pointer (some ⟨d, 0, none⟩)] w fun e w' => e = .returned (.tuple #[.int .i64 ((s.copies (halN n) : Nat) : Int), .nilIface]) ∧ Below w.heap.size w w' := by
  obtain ⟨H, hH⟩ : ∃ H, halN n = H := ⟨_, rfl⟩
  have HFn := hid (find_any D S d n s F _ hS hr hs h0)
  have HNb := hid (nb_newest s H)
  have HPs := hid (newest_pos s H)
  obtain ⟨r, hrr⟩ : ∃ r, s.newest H = r := ⟨_, rfl⟩
  obtain ⟨f, hf⟩ : ∃ f, fourR s (H : Int) = f := ⟨_, rfl⟩
  obtain ⟨cp, hcp⟩ : ∃ cp, s.copies H = cp := ⟨_, rfl⟩
  have HC0 := hid (fun h => copies_zero (s := s) (H := H) h)
  have HC1 := hid (fun h he => copies_even (s := s) (H := H) h he)
  have HC2 := hid (fun h he => copies_odd (s := s) (H := H) h he)
  rw [hH] at HFn ⊢
  unfold FindOut at HFn
  rw [hrr, hf] at HNb
  rw [hf] at HFn
  rw [hrr] at HPs
  rw [hrr, hcp] at HC0
  rw [hrr, hcp, hf] at HC1 HC2
  rw [hcp]
  clear hS hr hs h0 D hH hrr hf hcp
  go_enter Tryz.func62, Tryz.ntmps62
  go_wp2_with fail
  refine HFn.out.mono ?_
  rintro e w1 ⟨x, rfl, hx, hb⟩
  have HX := hid hx
  have HB2 := hid hb
  have HBb := hid (show Below w1.heap.size w1 (w1.alloc (.cells (fnC x) 132)) from (Below.refl _ _).alloc (Nat.le_refl _) _)
  have HKf := hid (Blk.new w1 132 (fnC x))
  clear hx hb
  have k0 := HKf.out.cell 0
  have k1 := HKf.out.cell 1
  have k2 := HKf.out.cell 2
  have k3 := HKf.out.cell 3
  have k4 := HKf.out.cell 4
  have k5 := HKf.out.cell 5
  have k6 := HKf.out.cell 6
  have k7 := HKf.out.cell 7
  simp [fnC] at k0 k1 k2 k3 k4 k5 k6 k7
  go_wp2_with fail
  refine (newestR_any f x _ (fun j hj => (HX.out j hj).1.on HBb.out)).mono ?_
  rintro e w2 ⟨o, rfl, ho, hb, _⟩
  rw [HNb.out.1] at ho
  have HKf2 := hid (HKf.out.below hb HKf.out.lt)
  have HB12 := hid (show Below w1.heap.size w1 w2 from HBb.out.trans (hb.mono HBb.out.size))
  have HB3 := hid (HB2.out.trans (HB12.out.mono HB2.out.size))
  have HBn := hid (show Below w2.heap.size w2 (w2.alloc (.cells #[.int .i64 o.e, o.s] 85)) from (Below.refl _ _).alloc (Nat.le_refl _) _)
  have HO3 := hid (RV.Is.on ho HBn.out)
  have HKo := hid (Blk.new w2 85 #[.int .i64 o.e, o.s])
  have HKf3 := hid (HKf2.out.alloc (.cells #[.int .i64 o.e, o.s] 85))
  have HX3 := hid (show ∀ j, j < 4 → (x j).Is (f j) (w2.alloc (.cells #[.int .i64 o.e, o.s] 85)) from fun j hj => ((HX.out j hj).1.on HB12.out).on HBn.out)
  have HB4 := hid (HB3.out.trans (HBn.out.mono HB3.out.size))
  have HE := hid (show o.e = r.epoch from ho.1)
  have HG := hid (show w1.heap.size < w2.heap.size from by have := HKf2.out.lt; omega)
  clear ho hb k0 k1 k2 k3 k4 k5 k6 k7
  have c0 := HKo.out.cell 0
  have c1 := HKo.out.cell 1
  simp at c0 c1
  have hpo : (o.e = 0) ∨ (o.e ≠ 0 ∧ 1 ≤ o.e ∧ o.e ≤ 1099511627776 ∧ (o.e % 2 = 0 ∨ o.e % 2 = 1)) := by
    rw [HE.out]
    rcases HPs.out with h | h
    · exact .inl h
    · exact .inr ⟨by omega, h.1, h.2, by omega⟩
  rcases hpo with hz | ⟨hz, hp1, hp2, hpar⟩
  · have g1 : (o.e == 0) = true := by rw [beq_iff_eq]; exact hz
    have HF := hid (show cp = 0 from HC0.out (by rw [← HE.out]; exact hz))
    clear hz
    go_wp2
    go_ret2
    exact ⟨by rw [HF.out]; rfl, HB4.out⟩
  · have g1 : (o.e == 0) = false := by rw [beq_eq_false_iff_ne]; exact hz
    have HPl := hid (fun w' => place_any o.e o.A o.n o.c w' hp1 hp2)
    have HE0 := hid (show 0 < r.epoch from by rw [← HE.out]; omega)
    clear hz hp1 hp2
    rcases hpar with hpar | hpar
    · have HF := hid (show cp = hasD r (f 0) + hasD r (f 1) from HC1.out HE0.out (by rw [← HE.out]; exact hpar))
      rw [hpar] at HPl
      clear hpar
      go_wp2_with fail
      refine (HPl.out _).mono ?_
      rintro e w5 ⟨rfl, hb⟩
      have HB5 := hid (HB4.out.trans (hb.mono HB4.out.size))
      have HKo5 := hid (HKo.out.below hb HKo.out.lt)
      have HKf5 := hid (HKf3.out.below hb HKf3.out.lt)
      have HO5 := hid (RV.Is.on HO3.out hb)
      have HX5 := hid (show ∀ j, j < 4 → (x j).Is (f j) w5 from fun j hj => (HX3.out j hj).on hb)
      clear hb c0 c1
      have k0 := HKf5.out.cell 0
      have k1 := HKf5.out.cell 1
      have k2 := HKf5.out.cell 2
      have k3 := HKf5.out.cell 3
      simp [fnC] at k0 k1 k2 k3
      go_wp2
      go_loopw [7, 27] (fun m i wr => ∃ (k : Nat) (c : Nat), k ≤ 2 ∧ i = .int .i64 (k : Int) ∧ m = .int .i64 (c : Int) ∧ c = (if 0 < k then hasD r (f 0) else 0) + (if 1 < k then hasD r (f 1) else 0) ∧ c ≤ k ∧ Blk wr w2.heap.size 85 #[.int .i64 o.e, o.s] ∧ Below w5.heap.size w5 wr) (fun _ i _ => 2 - (intOf i).toNat)
      case atStart => exact ⟨0, 0, by omega, rfl, rfl, rfl, by omega, HKo5.out, Below.refl _ _⟩
      case round =>
        obtain ⟨k, c, hk, rfl, rfl, hc, hc2, hko, hb⟩ := hrel
        have HKr := hid hko
        have HBr := hid hb
        have HCn := hid hc
        have HC2' := hid hc2
        have HOr := hid (RV.Is.on HO5.out hb)
        clear hko hb k0 k1 k2 k3 hc hc2
        have c0 := HKr.out.cell 0
        have c1 := HKr.out.cell 1
        simp at c0 c1
        have hc9 : (c : Int) ≤ 2 := by have := HC2'.out; have := hk; omega
        rcases (show k = 0 ∨ k = 1 ∨ k = 2 by omega) with rfl | rfl | rfl
        · have xP := fun W => Tryz.idxP0 (.int .i64 (x 0).e) (x 0).s (.int .i64 (x 1).e) (x 1).s W
          have hbA : Below wr.heap.size wr (wr.alloc (.cells #[.int .i64 (x 0).e, (x 0).s] 85)) := (Below.refl _ _).alloc (Nat.le_refl _) _
          have HBA := hid hbA
          have HKb := hid (Blk.new wr 85 #[.int .i64 (x 0).e, (x 0).s])
          have HKr2 := hid (HKr.out.alloc (.cells #[.int .i64 (x 0).e, (x 0).s] 85))
          have HYj := hid ((HX5.out 0 (by omega)).on (HBr.out.trans (hbA.mono HBr.out.size)))
          have HOb := hid (RV.Is.on HOr.out hbA)
          have b0 := HKb.out.cell 0
          have b1 := HKb.out.cell 1
          have d0 := HKr2.out.cell 0
          have d1 := HKr2.out.cell 1
          simp at b0 b1 d0 d1
          have HBA2 := hid (HBr.out.trans (hbA.mono HBr.out.size))
          clear hbA c0 c1
          by_cases he : (x 0).e = o.e
          · have g2 : ((x 0).e == o.e) = true := by rw [beq_iff_eq]; exact he
            have HEe := hid (show (f 0).epoch = r.epoch from by rw [← HYj.out.1, ← HE.out]; exact he)
            clear he
            go_wp2_with fail
            refine (slEqual_any _ _ _ _ _ _ _ _ _ _ _ HYj.out.2 HOb.out.2).mono ?_
            rintro e w6 ⟨rfl, q, rfl⟩
            have HK6 := hid (HKr2.out.drewN q)
            have HB6 := hid (below_drewN HBA2.out q)
            rcases hsm : sameR (f 0).refs r.refs with _ | _
            · have HD := hid (hasD_refs hsm)
              clear hsm
              go_wp2
              go_roundw
              case rel => exact ⟨1, c, by omega, rfl, rfl, by have := HCn.out; have := HD.out; simp at *; omega, by have := HC2'.out; omega, HK6.out, HB6.out⟩
              case measure => simp [intOf]
            · have HD := hid (hasD_yes HEe.out hsm)
              clear hsm
              go_wp2
              go_roundw
              case rel => exact ⟨1, c + 1, by omega, rfl, by go_num, by have := HCn.out; have := HD.out; simp at *; omega, by have := HC2'.out; omega, HK6.out, HB6.out⟩
              case measure => simp [intOf]
          · have g2 : ((x 0).e == o.e) = false := by rw [beq_eq_false_iff_ne]; exact he
            have HD := hid (hasD_epoch (r := r) (x := f 0) (by rw [← HYj.out.1, ← HE.out]; exact he))
            clear he
            go_wp2
            go_roundw
            case rel => exact ⟨1, c, by omega, rfl, rfl, by have := HCn.out; have := HD.out; simp at *; omega, by have := HC2'.out; omega, HKr2.out, HBA2.out⟩
            case measure => simp [intOf]
        · have xP := fun W => Tryz.idxP1 (.int .i64 (x 0).e) (x 0).s (.int .i64 (x 1).e) (x 1).s W
          have hbA : Below wr.heap.size wr (wr.alloc (.cells #[.int .i64 (x 1).e, (x 1).s] 85)) := (Below.refl _ _).alloc (Nat.le_refl _) _
          have HBA := hid hbA
          have HKb := hid (Blk.new wr 85 #[.int .i64 (x 1).e, (x 1).s])
          have HKr2 := hid (HKr.out.alloc (.cells #[.int .i64 (x 1).e, (x 1).s] 85))
          have HYj := hid ((HX5.out 1 (by omega)).on (HBr.out.trans (hbA.mono HBr.out.size)))
          have HOb := hid (RV.Is.on HOr.out hbA)
          have b0 := HKb.out.cell 0
          have b1 := HKb.out.cell 1
          have d0 := HKr2.out.cell 0
          have d1 := HKr2.out.cell 1
          simp at b0 b1 d0 d1
          have HBA2 := hid (HBr.out.trans (hbA.mono HBr.out.size))
          clear hbA c0 c1
          by_cases he : (x 1).e = o.e
          · have g2 : ((x 1).e == o.e) = true := by rw [beq_iff_eq]; exact he
            have HEe := hid (show (f 1).epoch = r.epoch from by rw [← HYj.out.1, ← HE.out]; exact he)
            clear he
            go_wp2_with fail
            refine (slEqual_any _ _ _ _ _ _ _ _ _ _ _ HYj.out.2 HOb.out.2).mono ?_
            rintro e w6 ⟨rfl, q, rfl⟩
            have HK6 := hid (HKr2.out.drewN q)
            have HB6 := hid (below_drewN HBA2.out q)
            rcases hsm : sameR (f 1).refs r.refs with _ | _
            · have HD := hid (hasD_refs hsm)
              clear hsm
              go_wp2
              go_roundw
              case rel => exact ⟨2, c, by omega, rfl, rfl, by have := HCn.out; have := HD.out; simp at *; omega, by have := HC2'.out; omega, HK6.out, HB6.out⟩
              case measure => simp [intOf]
            · have HD := hid (hasD_yes HEe.out hsm)
              clear hsm
              go_wp2
              go_roundw
              case rel => exact ⟨2, c + 1, by omega, rfl, by go_num, by have := HCn.out; have := HD.out; simp at *; omega, by have := HC2'.out; omega, HK6.out, HB6.out⟩
              case measure => simp [intOf]
          · have g2 : ((x 1).e == o.e) = false := by rw [beq_eq_false_iff_ne]; exact he
            have HD := hid (hasD_epoch (r := r) (x := f 1) (by rw [← HYj.out.1, ← HE.out]; exact he))
            clear he
            go_wp2
            go_roundw
            case rel => exact ⟨2, c, by omega, rfl, rfl, by have := HCn.out; have := HD.out; simp at *; omega, by have := HC2'.out; omega, HKr2.out, HBA2.out⟩
            case measure => simp [intOf]
        · have HFc := hid (show c = cp from by have := HCn.out; have := HF.out; simp at *; omega)
          go_wp2
          go_ret2
          exact ⟨by rw [← HFc.out]; rfl, HB5.out.trans (HBr.out.mono HB5.out.size)⟩
    · have HF := hid (show cp = hasD r (f 2) + hasD r (f 3) from HC2.out HE0.out (by rw [← HE.out]; exact hpar))
      rw [hpar] at HPl
      clear hpar
      go_wp2_with fail
      refine (HPl.out _).mono ?_
      rintro e w5 ⟨rfl, hb⟩
      have HB5 := hid (HB4.out.trans (hb.mono HB4.out.size))
      have HKo5 := hid (HKo.out.below hb HKo.out.lt)
      have HKf5 := hid (HKf3.out.below hb HKf3.out.lt)
      have HO5 := hid (RV.Is.on HO3.out hb)
      have HX5 := hid (show ∀ j, j < 4 → (x j).Is (f j) w5 from fun j hj => (HX3.out j hj).on hb)
      clear hb c0 c1
      have k0 := HKf5.out.cell 4
      have k1 := HKf5.out.cell 5
      have k2 := HKf5.out.cell 6
      have k3 := HKf5.out.cell 7
      simp [fnC] at k0 k1 k2 k3
      go_wp2
      go_loopw [7, 27] (fun m i wr => ∃ (k : Nat) (c : Nat), k ≤ 2 ∧ i = .int .i64 (k : Int) ∧ m = .int .i64 (c : Int) ∧ c = (if 0 < k then hasD r (f 2) else 0) + (if 1 < k then hasD r (f 3) else 0) ∧ c ≤ k ∧ Blk wr w2.heap.size 85 #[.int .i64 o.e, o.s] ∧ Below w5.heap.size w5 wr) (fun _ i _ => 2 - (intOf i).toNat)
      case atStart => exact ⟨0, 0, by omega, rfl, rfl, rfl, by omega, HKo5.out, Below.refl _ _⟩
      case round =>
        obtain ⟨k, c, hk, rfl, rfl, hc, hc2, hko, hb⟩ := hrel
        have HKr := hid hko
        have HBr := hid hb
        have HCn := hid hc
        have HC2' := hid hc2
        have HOr := hid (RV.Is.on HO5.out hb)
        clear hko hb k0 k1 k2 k3 hc hc2
        have c0 := HKr.out.cell 0
        have c1 := HKr.out.cell 1
        simp at c0 c1
        have hc9 : (c : Int) ≤ 2 := by have := HC2'.out; have := hk; omega
        rcases (show k = 0 ∨ k = 1 ∨ k = 2 by omega) with rfl | rfl | rfl
        · have xP := fun W => Tryz.idxP0 (.int .i64 (x 2).e) (x 2).s (.int .i64 (x 3).e) (x 3).s W
          have hbA : Below wr.heap.size wr (wr.alloc (.cells #[.int .i64 (x 2).e, (x 2).s] 85)) := (Below.refl _ _).alloc (Nat.le_refl _) _
          have HBA := hid hbA
          have HKb := hid (Blk.new wr 85 #[.int .i64 (x 2).e, (x 2).s])
          have HKr2 := hid (HKr.out.alloc (.cells #[.int .i64 (x 2).e, (x 2).s] 85))
          have HYj := hid ((HX5.out 2 (by omega)).on (HBr.out.trans (hbA.mono HBr.out.size)))
          have HOb := hid (RV.Is.on HOr.out hbA)
          have b0 := HKb.out.cell 0
          have b1 := HKb.out.cell 1
          have d0 := HKr2.out.cell 0
          have d1 := HKr2.out.cell 1
          simp at b0 b1 d0 d1
          have HBA2 := hid (HBr.out.trans (hbA.mono HBr.out.size))
          clear hbA c0 c1
          by_cases he : (x 2).e = o.e
          · have g2 : ((x 2).e == o.e) = true := by rw [beq_iff_eq]; exact he
            have HEe := hid (show (f 2).epoch = r.epoch from by rw [← HYj.out.1, ← HE.out]; exact he)
            clear he
            go_wp2_with fail
            refine (slEqual_any _ _ _ _ _ _ _ _ _ _ _ HYj.out.2 HOb.out.2).mono ?_
            rintro e w6 ⟨rfl, q, rfl⟩
            have HK6 := hid (HKr2.out.drewN q)
            have HB6 := hid (below_drewN HBA2.out q)
            rcases hsm : sameR (f 2).refs r.refs with _ | _
            · have HD := hid (hasD_refs hsm)
              clear hsm
              go_wp2
              go_roundw
              case rel => exact ⟨1, c, by omega, rfl, rfl, by have := HCn.out; have := HD.out; simp at *; omega, by have := HC2'.out; omega, HK6.out, HB6.out⟩
              case measure => simp [intOf]
            · have HD := hid (hasD_yes HEe.out hsm)
              clear hsm
              go_wp2
              go_roundw
              case rel => exact ⟨1, c + 1, by omega, rfl, by go_num, by have := HCn.out; have := HD.out; simp at *; omega, by have := HC2'.out; omega, HK6.out, HB6.out⟩
              case measure => simp [intOf]
          · have g2 : ((x 2).e == o.e) = false := by rw [beq_eq_false_iff_ne]; exact he
            have HD := hid (hasD_epoch (r := r) (x := f 2) (by rw [← HYj.out.1, ← HE.out]; exact he))
            clear he
            go_wp2
            go_roundw
            case rel => exact ⟨1, c, by omega, rfl, rfl, by have := HCn.out; have := HD.out; simp at *; omega, by have := HC2'.out; omega, HKr2.out, HBA2.out⟩
            case measure => simp [intOf]
        · have xP := fun W => Tryz.idxP1 (.int .i64 (x 2).e) (x 2).s (.int .i64 (x 3).e) (x 3).s W
          have hbA : Below wr.heap.size wr (wr.alloc (.cells #[.int .i64 (x 3).e, (x 3).s] 85)) := (Below.refl _ _).alloc (Nat.le_refl _) _
          have HBA := hid hbA
          have HKb := hid (Blk.new wr 85 #[.int .i64 (x 3).e, (x 3).s])
          have HKr2 := hid (HKr.out.alloc (.cells #[.int .i64 (x 3).e, (x 3).s] 85))
          have HYj := hid ((HX5.out 3 (by omega)).on (HBr.out.trans (hbA.mono HBr.out.size)))
          have HOb := hid (RV.Is.on HOr.out hbA)
          have b0 := HKb.out.cell 0
          have b1 := HKb.out.cell 1
          have d0 := HKr2.out.cell 0
          have d1 := HKr2.out.cell 1
          simp at b0 b1 d0 d1
          have HBA2 := hid (HBr.out.trans (hbA.mono HBr.out.size))
          clear hbA c0 c1
          by_cases he : (x 3).e = o.e
          · have g2 : ((x 3).e == o.e) = true := by rw [beq_iff_eq]; exact he
            have HEe := hid (show (f 3).epoch = r.epoch from by rw [← HYj.out.1, ← HE.out]; exact he)
            clear he
            go_wp2_with fail
            refine (slEqual_any _ _ _ _ _ _ _ _ _ _ _ HYj.out.2 HOb.out.2).mono ?_
            rintro e w6 ⟨rfl, q, rfl⟩
            have HK6 := hid (HKr2.out.drewN q)
            have HB6 := hid (below_drewN HBA2.out q)
            rcases hsm : sameR (f 3).refs r.refs with _ | _
            · have HD := hid (hasD_refs hsm)
              clear hsm
              go_wp2
              go_roundw
              case rel => exact ⟨2, c, by omega, rfl, rfl, by have := HCn.out; have := HD.out; simp at *; omega, by have := HC2'.out; omega, HK6.out, HB6.out⟩
              case measure => simp [intOf]
            · have HD := hid (hasD_yes HEe.out hsm)
              clear hsm
              go_wp2
              go_roundw
              case rel => exact ⟨2, c + 1, by omega, rfl, by go_num, by have := HCn.out; have := HD.out; simp at *; omega, by have := HC2'.out; omega, HK6.out, HB6.out⟩
              case measure => simp [intOf]
          · have g2 : ((x 3).e == o.e) = false := by rw [beq_eq_false_iff_ne]; exact he
            have HD := hid (hasD_epoch (r := r) (x := f 3) (by rw [← HYj.out.1, ← HE.out]; exact he))
            clear he
            go_wp2
            go_roundw
            case rel => exact ⟨2, c, by omega, rfl, rfl, by have := HCn.out; have := HD.out; simp at *; omega, by have := HC2'.out; omega, HKr2.out, HBA2.out⟩
            case measure => simp [intOf]
        · have HFc := hid (show c = cp from by have := HCn.out; have := HF.out; simp at *; omega)
          go_wp2
          go_ret2
          exact ⟨by rw [← HFc.out]; rfl, HB5.out.trans (HBr.out.mono HB5.out.size)⟩
end
end Go.Proofs.YtkhdgacjgccnnaaGreatDoor
