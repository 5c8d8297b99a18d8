/- Package dir: Get; what comes behind a name. -/
import Derived.Test.YtcjiimfgmmgifaaDoorGDrC
namespace Go.Proofs.YtcjiimfgmmgifaaDoor
open Go.RowKit Go.Shelf Go.Sort

section
variable {w : World} {g : Nat} {D : List En} {F : Nat → Prop}
set_option maxRecDepth 100000 in
set_option maxHeartbeats 1000000 in
theorem dirGet_any (s : Nam) (h : DirR w g D F) (hD : D.length ≤ 100000) :
    Calls Tryd.prog 23 #[.pointer (some ⟨g, 0, none⟩), encStr s] w fun r w' => (∃ x, r = .returned (.tuple #[enV x, .bool (isIn D s)]) ∧ ∀ e, D[fnd D s]? = some e → x = e) ∧ Below w.heap.size w w' := by
  have hb0 : Below w.heap.size w (w.alloc (Obj.cells #[.string ⟨#[]⟩, .int .i64 0, .int .i64 0] 29)) := (Below.refl _ _).alloc (Nat.le_refl _) _
  have HH := hid (h.on hb0)
  have HP := hid (place_any s HH.out hD)
  have HB := hid hb0
  have HBk := hid (Blk.new w 29 #[.string ⟨#[]⟩, .int .i64 0, .int .i64 0])
  have HR := hid h.ris
  have HD := hid hD
  clear h hD hb0
  go_enter Tryd.func23, Tryd.ntmps23
  go_wp2_with fail
  refine HP.out.mono ?_
  rintro e w1 ⟨i, rfl, hl, hb⟩
  have HB1 := hid (HB.out.trans (hb.mono HB.out.size))
  have HL := hid hl
  have HBk1 := hid (HBk.out.below hb (by simp))
  have HH1 := hid (HH.out.on hb)
  clear hl hb
  have b0 := HBk1.out.cell 0
  have b1 := HBk1.out.cell 1
  have b2 := HBk1.out.cell 2
  have f0 := HBk1.out.free 0
  have f1 := HBk1.out.free 1
  have f2 := HBk1.out.free 2
  simp at b0 b1 b2
  rcases HL.out.ways HR.out with ⟨hi, hlt, hf, x, hx, hxs⟩ | ⟨hi, hf, hn⟩
  · rw [hi]
    have HI := hid hi
    obtain ⟨A, c, hbx, _, hs⟩ := HH1.out.open
    obtain ⟨b, o, x2, rfl, hbl, hx2, c0, c1, c2⟩ := hs.get hlt
    obtain rfl : x2 = x := Option.some.inj (hx2.symm.trans hx)
    have d0 := hbx.cell 0
    simp at d0
    have HF := hid (show ∀ e, D[fnd D s]? = some e → x2 = e from fun e he => by rw [hf, hx] at he; exact Option.some.inj he)
    have hlt2 : (i : Int) < (D.length : Int) := by omega
    have hln : (D.length : Int) ≤ 100000 := by have := HD.out; omega
    clear hbx hs hx hx2 hf hi hxs hbl
    obtain ⟨xs, xn, xk⟩ := x2
    go_wp2
    refine bodyPost_ret (v := .tuple #[enV ⟨xs, xn, xk⟩, .bool true]) (by simp [results, Tryd.results23, go_sem, *]) rfl ⟨⟨⟨xs, xn, xk⟩, by rw [HI.out], HF.out⟩, ?_⟩
    exact ((HB1.out.setCell (by simp) _).setCell (by simp) _).setCell (by simp) _
  · rw [hi]
    have HI := hid hi
    have HF := hid (show ∀ (x e : En), D[fnd D s]? = some e → x = e from fun x e he => by rw [hf] at he; simp at he)
    clear hf hn hi
    go_wp2
    refine bodyPost_ret (v := .tuple #[enV ⟨[], 0, 0⟩, .bool false]) (by simp [results, Tryd.results23, go_sem, *]) rfl ⟨⟨⟨[], 0, 0⟩, by rw [HI.out], HF.out _⟩, ?_⟩
    exact ((HB1.out.setCell (by simp) _).setCell (by simp) _).setCell (by simp) _
theorem from_is {s : Nam} {j q : Nat} (h : behindE D s = D.drop j) (hq : D.length = q) (n : Int) : fromE D s n = (D.drop j).take (min (max n 0) ((q - j : Nat) : Int)).toNat ∧ moreE D s n = decide (min (max n 0) ((q - j : Nat) : Int) < ((q - j : Nat) : Int)) := by
  unfold fromE moreE
  rw [h]
  have hl : (D.drop j).length = q - j := by rw [List.length_drop, hq]
  constructor
  · by_cases hn : n.toNat ≤ q - j
    · rw [show (min (max n 0) ((q - j : Nat) : Int)).toNat = n.toNat by omega]
    · rw [show (min (max n 0) ((q - j : Nat) : Int)).toNat = q - j by omega, List.take_of_length_le (by omega), List.take_of_length_le (by omega)]
  · rw [hl]
    by_cases hn : n.toNat < q - j
    · rw [decide_eq_true hn, decide_eq_true (show min (max n 0) ((q - j : Nat) : Int) < ((q - j : Nat) : Int) by omega)]
    · rw [decide_eq_false hn, decide_eq_false (show ¬ min (max n 0) ((q - j : Nat) : Int) < ((q - j : Nat) : Int) by omega)]
theorem behind_low {s : Nam} {i : Nat} (hr : RisE D) (h : LowAt D s i) : behindE D s = D.drop (if isIn D s then i + 1 else i) := by
  obtain ⟨j, hj⟩ : ∃ j, (if isIn D s then i + 1 else i) = j := ⟨_, rfl⟩
  rw [hj]
  have h1 : ∀ (q : Nat) x, q < j → D[q]? = some x → ¬ s < x.s := fun q x hq hx => by
    rcases h.ways hr with ⟨hi, hlt, _, y, hy, hys⟩ | ⟨hi, _, _⟩
    · rw [hi] at hj
      simp at hj
      rcases Nat.lt_or_eq_of_le (show q ≤ i by omega) with h2 | rfl
      · exact fun h3 => List.lt_irrefl s (en_trans h3 (h.lo q x h2 hx))
      · rw [hy] at hx; injection hx with hx; rw [← hx, hys]; exact List.lt_irrefl s
    · rw [hi] at hj
      simp at hj
      subst hj
      exact fun h3 => List.lt_irrefl s (en_trans h3 (h.lo q x hq hx))
  have h2 : ∀ (q : Nat) x, j ≤ q → D[q]? = some x → s < x.s := fun q x hq hx => by
    rcases h.ways hr with ⟨hi, hlt, _, y, hy, hys⟩ | ⟨hi, _, hn⟩
    · rw [hi] at hj
      simp at hj
      have := hr.lt (show i < q by omega) hy hx
      rwa [hys] at this
    · rw [hi] at hj
      simp at hj
      subst hj
      have h3 := h.hi q x hq hx
      have h4 : x.s ≠ s := fun e => by
        rcases Nat.lt_or_eq_of_le hq with h5 | rfl
        · have hin : i < D.length := by have := (List.getElem?_eq_some_iff.1 hx).1; omega
          have h6 := hr.lt h5 (List.getElem?_eq_getElem hin) hx
          rw [e] at h6
          exact h.hi i _ (Nat.le_refl _) (List.getElem?_eq_getElem hin) h6
        · exact hn x hx e
      rcases nam_tri s x.s with h5 | h5 | h5
      · exact h5
      · exact absurd h5.symm h4
      · exact absurd h5 h3
  unfold behindE
  have e : D.filter (fun e => decide (s < e.s)) = (D.take j ++ D.drop j).filter (fun e => decide (s < e.s)) := by rw [List.take_append_drop]
  rw [e, List.filter_append]
  have e1 : (D.take j).filter (fun e => decide (s < e.s)) = [] := by
    rw [List.filter_eq_nil_iff]
    intro x hx
    obtain ⟨q, hq⟩ := List.getElem?_of_mem hx
    rw [List.getElem?_take] at hq
    split at hq
    · simpa using h1 q x (by omega) hq
    · cases hq
  have e2 : (D.drop j).filter (fun e => decide (s < e.s)) = D.drop j := by
    rw [List.filter_eq_self]
    intro x hx
    obtain ⟨q, hq⟩ := List.getElem?_of_mem hx
    rw [List.getElem?_drop] at hq
    simpa using h2 _ x (by omega) hq
  rw [e1, e2, List.nil_append]
set_option maxRecDepth 100000 in
set_option maxHeartbeats 1000000 in
theorem dirFrom_any (s : Nam) (n : Int) (h : DirR w g D F) (hD : D.length ≤ 100000) :
    Calls Tryd.prog 21 #[.pointer (some ⟨g, 0, none⟩), encStr s, .int .i64 n] w fun r w' => (∃ v, r = .returned (.tuple #[v, .bool (moreE D s n)]) ∧ EOwn w' w.heap.size v (fromE D s n)) ∧ Below w.heap.size w w' := by
  have HH := hid h
  have HP := hid (place_any s h hD)
  have HR := hid h.ris
  have HD := hid hD
  obtain ⟨m, hm⟩ : ∃ m : Nat, n.toNat = m := ⟨_, rfl⟩
  clear h hD
  go_enter Tryd.func21, Tryd.ntmps21
  go_wp2_with fail
  refine HP.out.mono ?_
  rintro e w1 ⟨i, rfl, hl, hb⟩
  obtain ⟨v, hbx, ho, _⟩ := (HH.out.on hb).box
  obtain ⟨A, q, c, rfl, hlq, hqc, hcm, hnil, hat⟩ := ho.formK
  have d0 := hbx.cell 0
  simp at d0
  have hle := hl.le
  rw [hlq] at hle
  have hqb : q ≤ 100000 := by have := HD.out; omega
  have HB := hid hb
  have HBe := hid (behind_low HR.out hl)
  cases A with
  | none =>
    obtain ⟨rfl, rfl⟩ := hnil rfl
    obtain rfl : i = 0 := by omega
    obtain rfl : D = [] := List.eq_nil_of_length_eq_zero hlq
    have hi : isIn [] s = false := rfl
    obtain ⟨f1, f2⟩ := from_is (D := []) (s := s) (j := 0) (q := 0) rfl rfl n
    have HC := hid (cloneE_any none 0 0 [] w1 (ESl.empty _ _) (by omega))
    have hmx : min (max n 0) 0 = 0 := by omega
    have hf1 : fromE [] s n = [] := by rw [f1]; simp
    have hf2 : moreE [] s n = false := by rw [f2]; simp; omega
    have HF := hid (show fromE [] s n = [] ∧ moreE [] s n = false from ⟨hf1, hf2⟩)
    clear hnil hat hlq ho hbx hl hb f1 f2 hf1 hf2
    go_wp2_with (simp only [hi])
    refine HC.out.mono ?_
    rintro e w2 ⟨v, rfl, ho2, hb2⟩
    have HO2 := hid (EOwn.lower ho2 HB.out.size)
    have HB2 := hid (HB.out.trans (hb2.mono HB.out.size))
    clear ho2 hb2
    go_wp2
    go_ret2
    exact ⟨⟨v, by rw [HF.out.2]; rfl, by rw [HF.out.1]; exact HO2.out⟩, HB2.out⟩
  | some ad =>
    obtain ⟨r, rfl, _⟩ := hat ad rfl
    obtain ⟨j, hj⟩ : ∃ j, (if isIn D s then i + 1 else i) = j := ⟨_, rfl⟩
    rw [hj] at HBe
    have hjq : j ≤ q := by
      rcases hl.ways HR.out with ⟨hi, hlt, _⟩ | ⟨hi, _⟩
      · rw [hi] at hj; simp at hj; omega
      · rw [hi] at hj; simp at hj; omega
    have HI := hid (from_is HBe.out hlq n)
    obtain ⟨A0, c0, hA0, hsl, _⟩ := ho.form
    simp only [Value.slice.injEq] at hA0
    obtain ⟨rfl, hq9, rfl⟩ := hA0
    clear hq9
    rw [hlq] at hsl
    have hk : (min (max n 0) ((q - j : Nat) : Int)).toNat ≤ q - j := by omega
    have HC := hid (cloneE_any _ _ _ _ w1 ((hsl.cut hjq).head hk) (by omega))
    obtain ⟨kk, hkk⟩ : ∃ kk, min (max n 0) ((q - j : Nat) : Int) = kk := ⟨_, rfl⟩
    rw [hkk] at HC HI
    have hj1 : (j : Int) ≤ (q : Int) := by omega
    have hj0 : (0 : Int) ≤ (j : Int) := by omega
    have hk0 : (0 : Int) ≤ kk := by omega
    have hk1 : kk ≤ ((q - j : Nat) : Int) := by omega
    have hqj : q - j ≤ c - j := by omega
    clear hnil hat hlq ho hbx hl hb hsl hk
    rcases hi : isIn D s with _ | _
    · rw [hi] at hj
      simp at hj
      subst hj
      by_cases hci : c = i
      · subst hci
        simp at HC
        have hkk2 : min (max n 0) 0 = kk := by omega
        have hqc : q - c = 0 := by omega
        have HM := hid (show moreE D s n = decide (kk < 0) from by rw [HI.out.2, hqc]; rfl)
        clear hkk hqj hk1
        go_wp2_with fail
        refine HC.out.mono ?_
        rintro e w2 ⟨v, rfl, ho2, hb2⟩
        have HO2 := hid (EOwn.lower ho2 HB.out.size)
        have HB2 := hid (HB.out.trans (hb2.mono HB.out.size))
        clear ho2 hb2
        go_wp2
        go_ret2
        exact ⟨⟨v, by rw [HM.out]; rfl, by rw [HI.out.1]; exact HO2.out⟩, HB2.out⟩
      · rw [if_neg hci] at HC
        simp only [Option.map_some, eadd0] at HC
        go_wp2_with fail
        refine HC.out.mono ?_
        rintro e w2 ⟨v, rfl, ho2, hb2⟩
        have HO2 := hid (EOwn.lower ho2 HB.out.size)
        have HB2 := hid (HB.out.trans (hb2.mono HB.out.size))
        clear ho2 hb2
        go_wp2
        go_ret2
        exact ⟨⟨v, by rw [HI.out.2]; rfl, by rw [HI.out.1]; exact HO2.out⟩, HB2.out⟩
    · rw [hi] at hj
      simp at hj
      have hw : IntKind.i64.wrap ((i : Int) + 1) = (j : Int) := by rw [IntKind.wrap_i64]; omega
      clear hj
      by_cases hci : c = j
      · subst hci
        simp at HC
        have hkk2 : min (max n 0) 0 = kk := by omega
        have hqc : q - c = 0 := by omega
        have HM := hid (show moreE D s n = decide (kk < 0) from by rw [HI.out.2, hqc]; rfl)
        clear hkk hqj hk1
        go_wp2_with fail
        refine HC.out.mono ?_
        rintro e w2 ⟨v, rfl, ho2, hb2⟩
        have HO2 := hid (EOwn.lower ho2 HB.out.size)
        have HB2 := hid (HB.out.trans (hb2.mono HB.out.size))
        clear ho2 hb2
        go_wp2
        go_ret2
        exact ⟨⟨v, by rw [HM.out]; rfl, by rw [HI.out.1]; exact HO2.out⟩, HB2.out⟩
      · rw [if_neg hci] at HC
        simp only [Option.map_some, eadd0] at HC
        go_wp2_with fail
        refine HC.out.mono ?_
        rintro e w2 ⟨v, rfl, ho2, hb2⟩
        have HO2 := hid (EOwn.lower ho2 HB.out.size)
        have HB2 := hid (HB.out.trans (hb2.mono HB.out.size))
        clear ho2 hb2
        go_wp2
        go_ret2
        exact ⟨⟨v, by rw [HI.out.2]; rfl, by rw [HI.out.1]; exact HO2.out⟩, HB2.out⟩
end
end Go.Proofs.YtcjiimfgmmgifaaDoor
