/- Put together out of 4 texts. Records cut in parts, each of them a page's. -/
import Derived.Test.YtkhdgacjgccnnaaGreatDoorGXbh
import Derived.Deep.RegionHeld3
namespace Go.Proofs.YtkhdgacjgccnnaaGreatDoor
open Go.RowKit

/-- parts of records, each with room on a page -/
structure CutOk (l : List Rec) (P : List (List Rec)) : Prop where
  flat : P.flatten = l
  fit : ∀ p, p ∈ P → p ≠ [] ∧ (laidR p).length ≤ 248
  tight : ∀ j p q, P[j]? = some p → P[j + 1]? = some q → ∃ x, q.head? = some x ∧ 248 < (laidR p).length + (recB x).length
  few : (laidR l).length ≤ 248 → P.length ≤ 1
/-- the cells xs hold the parts -/
def PartsV (w : World) (B : Nat) (Q : Nat → Prop) (xs : List Value) (P : List (List Rec)) : Prop := xs.length = P.length ∧ ∀ (j : Nat) (p : List Rec), P[j]? = some p → ∃ ad n c, xs[j]? = some (Value.slice (some ad) n c) ∧ RSl w B (some ad) n c p ∧ Q ad.block
theorem PartsV.below {w w' : World} {B : Nat} {Q : Nat → Prop} {xs : List Value} {P : List (List Rec)} (h : PartsV w B Q xs P) (hb : Below B w w') : PartsV w' B Q xs P :=
  ⟨h.1, fun j p hp => by obtain ⟨ad, n, c, h1, h2, h3⟩ := h.2 j p hp; exact ⟨ad, n, c, h1, h2.below hb, h3⟩⟩
theorem PartsV.add {w : World} {B n c : Nat} {Q : Nat → Prop} {xs : List Value} {P : List (List Rec)} {ad : Addr} {p : List Rec} (h : PartsV w B Q xs P) (hp : RSl w B (some ad) n c p) (hq : Q ad.block) : PartsV w B Q (xs ++ [.slice (some ad) n c]) (P ++ [p]) := by
  refine ⟨by simp [h.1], fun j q hj' => ?_⟩
  have hq' := hq
  have hq := hj'
  rcases Nat.lt_or_ge j P.length with hj | hj
  · rw [List.getElem?_append_left hj] at hq
    obtain ⟨a, n', c', h1, h2, h3⟩ := h.2 j q hq
    exact ⟨a, n', c', by rw [List.getElem?_append_left (by rw [h.1]; exact hj)]; exact h1, h2, h3⟩
  · rw [List.getElem?_append_right hj] at hq
    have h0 : j - P.length = 0 := by
      have := (List.getElem?_eq_some_iff.1 hq).1
      simp at this; omega
    rw [h0] at hq
    simp at hq
    subst hq
    exact ⟨ad, n, c, by rw [List.getElem?_append_right (by rw [h.1]; exact hj), h.1, h0]; rfl, hp, hq'⟩
theorem RSl.sub {w : World} {B n c b e : Nat} {ad : Addr} {l : List Rec} (h : RSl w B (some ad) n c l) (hbe : b ≤ e) (he : e ≤ n) (hB : ad.block < B) : RSl w B (some (ad.add (b * 2))) (e - b) (c - b) ((l.take e).drop b) := by
  have hl := h.len
  have hc := h.cap
  have hm := h.max
  refine ⟨by rw [List.length_drop, List.length_take]; omega, by omega, by omega, (fun h => by cases h), fun a ha h0 => ?_⟩
  cases ha
  refine ⟨by rw [add_block]; exact hB, fun j x hx => ?_⟩
  rw [List.getElem?_drop, List.getElem?_take] at hx
  split at hx
  · obtain ⟨h1, h2⟩ := (h.at_ ad rfl (by omega)).2 (b + j) x hx
    rw [add_add', add_add', show b * 2 + j * 2 = (b + j) * 2 by omega, show b * 2 + (j * 2 + 1) = (b + j) * 2 + 1 by omega]
    exact ⟨h1, h2⟩
  · cases hx
/-- the cutting, under way -/
structure Cutting (l : List Rec) (k b : Nat) (left : Nat) (P : List (List Rec)) : Prop where
  bk : b ≤ k
  flat : P.flatten = l.take b
  left : (laidR ((l.take k).drop b)).length + left = 248
  fit : ∀ p, p ∈ P → p ≠ [] ∧ (laidR p).length ≤ 248
  tight : ∀ j p q, P[j]? = some p → P[j + 1]? = some q → ∃ x, q.head? = some x ∧ 248 < (laidR p).length + (recB x).length
  last : ∀ p, P.getLast? = some p → b < k ∧ ∃ x, l[b]? = some x ∧ 248 < (laidR p).length + (recB x).length
  few : P ≠ [] → 248 < (laidR (l.take k)).length
  open_ : P = [] → b = 0
  num : P.length ≤ b
theorem cutting_new (l : List Rec) : Cutting l 0 0 248 [] :=
  ⟨Nat.le_refl _, rfl, rfl, fun p h => (by cases h), fun j p q h => (by simp at h), fun p h => (by simp at h), fun h => absurd rfl h, fun _ => rfl, Nat.le_refl _⟩
theorem drop_take_next {l : List Rec} {k b : Nat} {x : Rec} (h : l[k]? = some x) (hb : b ≤ k) : (l.take (k + 1)).drop b = (l.take k).drop b ++ [x] := by
  rw [takeRc_next h, List.drop_append_of_le_length (by have := (List.getElem?_eq_some_iff.1 h).1; rw [List.length_take]; omega)]
theorem Cutting.stay {l : List Rec} {k b left : Nat} {P : List (List Rec)} {x : Rec} (h : Cutting l k b left P) (hx : l[k]? = some x) (hs : (recB x).length ≤ left) : Cutting l (k + 1) b (left - (recB x).length) P := by
  refine ⟨by have := h.bk; omega, h.flat, ?_, h.fit, h.tight, fun p hp => ?_, fun hp => ?_, h.open_, h.num⟩
  · rw [drop_take_next hx h.bk, laidR_append, List.length_append, laidR_one]
    have := h.left
    omega
  · obtain ⟨h1, h2⟩ := h.last p hp
    exact ⟨by omega, h2⟩
  · have h1 := h.few hp
    rw [takeRc_next hx, laidR_append, List.length_append]
    omega
theorem Cutting.cut {l : List Rec} {k b left : Nat} {P : List (List Rec)} {x : Rec} (h : Cutting l k b left P) (hx : l[k]? = some x) (hs : left < (recB x).length) (h248 : (recB x).length ≤ 248) : b < k ∧ Cutting l (k + 1) k (248 - (recB x).length) (P ++ [(l.take k).drop b]) := by
  have hl := h.left
  have hkl := (List.getElem?_eq_some_iff.1 hx).1
  have hbk : b < k := by
    rcases Nat.lt_or_ge b k with hh | hh
    · exact hh
    · have := h.bk
      rw [show b = k by omega, List.drop_eq_nil_of_le (by rw [List.length_take]; omega)] at hl
      have : (laidR ([] : List Rec)).length = 0 := rfl
      omega
  have hne : (l.take k).drop b ≠ [] := fun e => by
    have := congrArg List.length e
    rw [List.length_drop, List.length_take] at this
    simp at this
    omega
  have hbk' := h.bk
  refine ⟨hbk, Nat.le_succ _, ?_, ?_, fun p hp => ?_, fun j p q hp hq => ?_, fun p hp => ?_, fun _ => ?_, fun hp => ?_, by rw [List.length_append]; have := h.num; simp; omega⟩
  · rw [List.flatten_append, h.flat]
    simp only [List.flatten_cons, List.flatten_nil, List.append_nil]
    have e : l.take b = (l.take k).take b := by rw [List.take_take, Nat.min_eq_left hbk']
    rw [e, List.take_append_drop]
  · rw [takeRc_next hx, List.drop_append_of_le_length (by rw [List.length_take]; omega), List.drop_eq_nil_of_le (by rw [List.length_take]; omega), List.nil_append, laidR_one]
    omega
  · rcases List.mem_append.1 hp with hp | hp
    · exact h.fit p hp
    · have : p = (l.take k).drop b := by simpa using hp
      rw [this]
      exact ⟨hne, by omega⟩
  · have hjl : j + 1 < (P ++ [(l.take k).drop b]).length := (List.getElem?_eq_some_iff.1 hq).1
    rw [List.length_append] at hjl
    simp at hjl
    rw [List.getElem?_append_left (by omega)] at hp
    rcases Nat.lt_or_ge (j + 1) P.length with h1 | h1
    · rw [List.getElem?_append_left h1] at hq
      exact h.tight j p q hp hq
    · have hj : j + 1 = P.length := by omega
      rw [List.getElem?_append_right h1, hj, Nat.sub_self] at hq
      have hq' : (l.take k).drop b = q := by simpa using hq
      have hlast : P.getLast? = some p := by
        rw [List.getLast?_eq_getElem?, show P.length - 1 = j by omega]
        exact hp
      obtain ⟨h2, y, hy, hz⟩ := h.last p hlast
      refine ⟨y, ?_, hz⟩
      rw [← hq', List.head?_drop, List.getElem?_take, if_pos h2]
      exact hy
  · have e : p = (l.take k).drop b := by
      rw [List.getLast?_append] at hp
      simpa using hp.symm
    refine ⟨Nat.lt_succ_self _, x, hx, ?_⟩
    rw [e]
    omega
  · rw [takeRc_next hx, laidR_append, List.length_append, laidR_one]
    have e : l.take k = (l.take k).take b ++ (l.take k).drop b := (List.take_append_drop b _).symm
    have e2 : (laidR (l.take k)).length = (laidR ((l.take k).take b)).length + (laidR ((l.take k).drop b)).length := by
      conv => lhs; rw [e]
      rw [laidR_append, List.length_append]
    omega
  · exact absurd hp (by simp)
theorem Cutting.done {l : List Rec} {b left : Nat} {P : List (List Rec)} (h : Cutting l l.length b left P) (hb : b < l.length) : CutOk l (P ++ [l.drop b]) := by
  have hl := h.left
  rw [List.take_length] at hl
  have hne : l.drop b ≠ [] := fun e => by
    have := congrArg List.length e
    rw [List.length_drop] at this
    simp at this
    omega
  refine ⟨?_, fun p hp => ?_, fun j p q hp hq => ?_, fun hf => ?_⟩
  · rw [List.flatten_append, h.flat]
    simp
  · rcases List.mem_append.1 hp with hp | hp
    · exact h.fit p hp
    · have : p = l.drop b := by simpa using hp
      rw [this]
      exact ⟨hne, by omega⟩
  · have hjl : j + 1 < (P ++ [l.drop b]).length := (List.getElem?_eq_some_iff.1 hq).1
    rw [List.length_append] at hjl
    simp at hjl
    rw [List.getElem?_append_left (by omega)] at hp
    rcases Nat.lt_or_ge (j + 1) P.length with h1 | h1
    · rw [List.getElem?_append_left h1] at hq
      exact h.tight j p q hp hq
    · have hj : j + 1 = P.length := by omega
      rw [List.getElem?_append_right h1, hj, Nat.sub_self] at hq
      have hq' : l.drop b = q := by simpa using hq
      have hlast : P.getLast? = some p := by
        rw [List.getLast?_eq_getElem?, show P.length - 1 = j by omega]
        exact hp
      obtain ⟨h2, y, hy, hz⟩ := h.last p hlast
      refine ⟨y, ?_, hz⟩
      rw [← hq', List.head?_drop]
      exact hy
  · by_cases hp : P = []
    · subst hp; simp
    · have h1 := h.few hp
      rw [List.take_length] at h1
      omega
theorem cut_nil : CutOk [] [] := ⟨rfl, fun p h => (by cases h), fun j p q h => (by simp at h), fun _ => Nat.zero_le _⟩
theorem Tryz.infoRecs : (Tryz.prog.info? 48).map (fun i => (i.zero, i.size, i.bytes)) = some (some (.slice none 0 0), 1, 24) := by kernel_rfl
/-- records cut -/
def CutO (w : World) (A : Option Addr) (l : List Rec) (e : Ending) (w' : World) : Prop := ∃ v xs P, e = .returned v ∧ OwnV 48 w' w.heap.size v xs ∧ PartsV w' w.heap.size (fun z => ∃ a, A = some a ∧ a.block = z) xs P ∧ CutOk l P ∧ Below w.heap.size w w'
set_option maxRecDepth 100000 in
set_option maxHeartbeats 4000000 in
theorem cut_any (A : Option Addr) (n c : Nat) (l : List Rec) (w : World) (h : RSl w w.heap.size A n c l) (hn : n ≤ 10000) (hs : RszS l) (h248 : ∀ x, x ∈ l → (recB x).length ≤ 248) :
    Calls Tryz.prog 54 #[.slice A n c] w (CutO w A l) := by
  obtain ⟨i0, hi, hz0, hz1, hz2⟩ := info_parts Tryz.infoRecs
  have HR := hid h
  have HS := hid hs
  have HL := hid h248
  have hnI : (n : Int) ≤ 10000 := by omega
  have hnc : n ≤ c := h.cap
  have hcI : (c : Int) ≤ 9223372036854775807 := by have := h.max; unfold maxLen at this; omega
  clear h hs h248
  go_enter Tryz.func54, Tryz.ntmps54
  go_wp2
  go_loopw [3, 4, 5, 10] (fun ov bv lv iv wr => ∃ (k b left : Nat) (P : List (List Rec)) (xs : List Value), k ≤ n ∧ iv = .int .i64 (k : Int) ∧ bv = .int .i64 (b : Int) ∧ lv = .int .i64 (left : Int) ∧ Cutting l k b left P ∧ OwnV 48 wr w.heap.size ov xs ∧ PartsV wr w.heap.size (fun z => ∃ a, A = some a ∧ a.block = z) xs P ∧ Below w.heap.size w wr) (fun _ _ _ iv _ => n - (intOf iv).toNat)
  case atStart => exact ⟨0, 0, 248, [], [], Nat.zero_le _, rfl, rfl, rfl, cutting_new l, OwnV.nil _ _ _, ⟨rfl, fun j p h => by simp at h⟩, Below.refl _ _⟩
  case round =>
    obtain ⟨k, b, left, P, xs, hk, rfl, rfl, rfl, hcut, hown, hpv, hb⟩ := hrel
    have HB := hid hb
    have HC := hid hcut
    have HO := hid hown
    have HP := hid hpv
    have hl248 : left ≤ 248 := by have := hcut.left; omega
    have hbk : b ≤ k := hcut.bk
    clear hcut hown hpv
    by_cases hlt : k < n
    · obtain ⟨ad, x, rfl, _, hx, c0, c1⟩ := (HR.out.on hb).get hlt
      have HSx := hid (HS.out x (List.mem_of_getElem? hx))
      have HLx := hid (HL.out x (List.mem_of_getElem? hx))
      obtain ⟨z, hz⟩ : ∃ z : Nat, (recB x).length = z := ⟨_, rfl⟩
      have HZ := hid hz
      have HX := hid hx
      have hz8 : z ≤ 248 := by rw [← hz]; exact HLx.out
      have hki : (k : Int) < n := by omega
      clear hb hx hz
      go_wp2_with fail
      refine (size_any _ 1 1 [x] _ (rsl_two _ _ x) (by omega) (fun y hy => by obtain rfl : y = x := (by simpa using hy); exact HSx.out) (by rw [laidR_one, HZ.out]; omega)).mono ?_
      rintro e w2 ⟨rfl, hb2⟩
      rw [laidR_one, HZ.out]
      have HBr := hid (show Below wr.heap.size wr w2 from (((Below.refl _ _).alloc (Nat.le_refl _) _).alloc (by simp) _).trans (hb2.mono (by simp; omega)))
      have HB2 := hid (HB.out.trans (HBr.out.mono HB.out.size))
      have hbox := ((Blk.new wr 44 #[.string x.1, .string x.2]).alloc (.cells #[.string x.1, .string x.2] 44)).below hb2 (by simp; omega)
      have HBox := hid hbox
      have b0 := hbox.cell 0
      have b1 := hbox.cell 1
      simp at b0 b1
      clear hb2 hbox
      by_cases hgt : left < z
      · have hgI : (left : Int) < (z : Int) := by omega
        have HO2 := hid (HO.out.on HBr.out)
        have HP2 := hid (HP.out.below (HBr.out.mono HB.out.size))
        obtain ⟨hbk2, hc2⟩ := HC.out.cut HX.out (by rw [HZ.out]; omega) HLx.out
        rw [HZ.out] at hc2
        have HC2 := hid hc2
        have HNm := hid HC.out.num
        have HLv := hid HP.out.1
        have hsub := (HR.out.sub (b := b) (e := k) (by omega) (by omega) (HR.out.at_ ad rfl (by omega)).1)
        have HSub := hid hsub
        clear hc2 hsub
        go_wp2_with (at_builtin; refine wpList_append_own _ rfl _ _ 120 rfl w.heap.size 48 i0 (.slice none 0 0) 1 24 Tryz.underlying120 hi hz0 hz1 hz2 rfl (by decide) _ _ _ rfl (World.ownsRow.alloc HO2.out _) ⟨w2.heap.size, 0, none⟩ 1 1 [.slice (some (ad.add (b * 2))) (k - b) (c - b)] rfl rfl ?c1 ?c2 ?c3 ?c4 ?c5 ?_)
        case c1 => exact cell_one_new _ _ _
        case c2 => intro u hu; simp at hu; subst hu; rfl
        case c3 => have h1 := HNm.out; have h2 := HLv.out; unfold maxLen; omega
        case c4 => have h1 := HNm.out; have h2 := HLv.out; omega
        case c5 => have := HB2.out.size; simp; omega
        intro v' w3 hown' hgrow _
        have HBg' := hid (show Below w.heap.size w2 w3 from ((Below.refl _ _).alloc HB2.out.size _).grown hgrow (by have := HB2.out.size; simp; omega) (fun q hq => (OwnV.lt HO2.out q hq).1))
        have HBg := hid (HB2.out.trans HBg'.out)
        have HO3 := hid (show OwnV 48 w3 w.heap.size v' (xs ++ [.slice (some (ad.add (b * 2))) (k - b) (c - b)]) from by
          unfold OwnV
          rw [List.length_append]
          simpa using hown')
        have HP3 := hid ((HP2.out.below HBg'.out).add (HSub.out.below HBg.out) ⟨ad, rfl, (add_block _ _).symm⟩)
        have hbox3 := (HBox.out.alloc (.cells #[.slice (some (ad.add (b * 2))) (k - b) (c - b)] 48)).grown hgrow (fun e => by
          have h1 := OwnV.lt HO.out _ e.symm
          omega)
        have b2 := hbox3.cell 0
        have b3 := hbox3.cell 1
        simp at b2 b3
        clear hown' hgrow hbox3 b0 b1
        go_wp2_with fail
        refine (size_any _ 1 1 [x] _ (rsl_own _ x) (by omega) (fun y hy => by obtain rfl : y = x := (by simpa using hy); exact HSx.out) (by rw [laidR_one, HZ.out]; omega)).mono ?_
        rintro e w4 ⟨rfl, hb4⟩
        rw [laidR_one, HZ.out]
        have HBq := hid (show Below w3.heap.size w3 w4 from ((Below.refl _ _).alloc (Nat.le_refl _) _).trans (hb4.mono (by simp)))
        have HB4 := hid (HBg.out.trans (HBq.out.mono HBg.out.size))
        clear hb4
        have HO4 := hid (HO3.out.on HBq.out)
        have HP4 := hid (HP3.out.below (HBq.out.mono HBg.out.size))
        go_wp2
        go_roundw
        case rel => exact ⟨k + 1, k, 248 - z, P ++ [(l.take k).drop b], xs ++ [.slice (some (ad.add (b * 2))) (k - b) (c - b)], by omega, by go_num, rfl, by go_num, HC2.out, HO4.out, HP4.out, HB4.out⟩
        case measure => simp [intOf]; omega
      · have hgI : ¬ (left : Int) < (z : Int) := by omega
        have hst := HC.out.stay HX.out (by rw [HZ.out]; omega)
        rw [HZ.out] at hst
        have HC2 := hid hst
        clear hst
        go_wp2_with fail
        refine (size_any _ 1 1 [x] _ (rsl_own _ x) (by omega) (fun y hy => by obtain rfl : y = x := (by simpa using hy); exact HSx.out) (by rw [laidR_one, HZ.out]; omega)).mono ?_
        rintro e w4 ⟨rfl, hb4⟩
        rw [laidR_one, HZ.out]
        have HBq := hid (show Below w2.heap.size w2 w4 from ((Below.refl _ _).alloc (Nat.le_refl _) _).trans (hb4.mono (by simp)))
        have HB4 := hid (HB2.out.trans (HBq.out.mono HB2.out.size))
        clear hb4
        have HO4 := hid ((HO.out.on HBr.out).on HBq.out)
        have HP4 := hid ((HP.out.below (HBr.out.mono HB.out.size)).below (HBq.out.mono HB2.out.size))
        go_wp2
        go_roundw
        case rel => exact ⟨k + 1, b, left - z, P, xs, by omega, by go_num, rfl, by go_num, HC2.out, HO4.out, HP4.out, HB4.out⟩
        case measure => simp [intOf]; omega
    · obtain rfl : k = n := by omega
      have hkl := HR.out.len
      have HNm := hid HC.out.num
      have HLv := hid HP.out.1
      clear hb
      by_cases hbn : b < k
      · have hcp := hid (show Cutting l l.length b left P from by rw [hkl]; exact HC.out)
        obtain ⟨ad, hA⟩ : ∃ ad, A = some ad := by
          cases A with
          | none => exact absurd (HR.out.nil rfl) (by omega)
          | some ad => exact ⟨ad, rfl⟩
        subst hA
        have hdn := hid (hcp.out.done (by omega))
        have hsub := (HR.out.sub (b := b) (e := k) (by omega) (Nat.le_refl _) (HR.out.at_ ad rfl (by omega)).1)
        rw [List.take_of_length_le (by omega)] at hsub
        have HSub := hid hsub
        clear hsub
        have hbI : (b : Int) < (k : Int) := by omega
        go_wp2_with (at_builtin; refine wpList_append_own _ rfl _ _ 120 rfl w.heap.size 48 i0 (.slice none 0 0) 1 24 Tryz.underlying120 hi hz0 hz1 hz2 rfl (by decide) _ _ _ rfl (World.ownsRow.alloc HO.out _) ⟨wr.heap.size, 0, none⟩ 1 1 [.slice (some (ad.add (b * 2))) (k - b) (c - b)] rfl rfl ?c1 ?c2 ?c3 ?c4 ?c5 ?_)
        case c1 => exact cell_one_new _ _ _
        case c2 => intro u hu; simp at hu; subst hu; rfl
        case c3 => have h1 := HNm.out; have h2 := HLv.out; unfold maxLen; omega
        case c4 => have h1 := HNm.out; have h2 := HLv.out; omega
        case c5 => have := HB.out.size; simp; omega
        intro v' w3 hown' hgrow _
        have HBg' := hid (show Below w.heap.size wr w3 from ((Below.refl _ _).alloc HB.out.size _).grown hgrow (by have := HB.out.size; simp; omega) (fun q hq => (OwnV.lt HO.out q hq).1))
        have HBg := hid (HB.out.trans HBg'.out)
        have HO3 := hid (show OwnV 48 w3 w.heap.size v' (xs ++ [.slice (some (ad.add (b * 2))) (k - b) (c - b)]) from by
          unfold OwnV
          rw [List.length_append]
          simpa using hown')
        have HP3 := hid ((HP.out.below HBg'.out).add (HSub.out.below HBg.out) ⟨ad, rfl, (add_block _ _).symm⟩)
        clear hown' hgrow
        go_wp2
        go_ret
        exact ⟨v', _, _, rfl, HO3.out, HP3.out, hdn.out, HBg.out⟩
      · have hl0 : l = [] ∧ P = [] := by
          have h1 := HC.out.bk
          have h2 := HC.out.left
          have hb0 : b = k := by omega
          by_cases hP : P = []
          · have h3 := HC.out.open_ hP
            have : k = 0 := by omega
            exact ⟨List.eq_nil_of_length_eq_zero (by omega), hP⟩
          · exfalso
            obtain ⟨p, hp⟩ : ∃ p, P.getLast? = some p := by
              rcases hh : P.getLast? with _ | p
              · exact absurd (List.getLast?_eq_none_iff.1 hh) hP
              · exact ⟨p, rfl⟩
            have := (HC.out.last p hp).1
            omega
        obtain ⟨rfl, rfl⟩ := hl0
        have hbI : ¬ (b : Int) < (k : Int) := by omega
        go_wp2
        go_ret
        exact ⟨_, xs, [], rfl, HO.out, HP.out, cut_nil, HB.out⟩
end Go.Proofs.YtkhdgacjgccnnaaGreatDoor
namespace Go.Proofs.YtkhdgacjgccnnaaGreatDoor
open Go.RowKit

def lfC (xs : List (Int × Value)) : List Value := xs.flatMap fun x => [.int .i64 x.1, x.2]
/-- leaves of one's own, from block B on -/
def LOwn (w : World) (B : Nat) (Q : Nat → Prop) (v : Value) (L : List Lf) : Prop :=
  ∃ xs : List (Int × Value), xs.length = L.length ∧ w.ownsRow B 77 2 v L.length (lfC xs) ∧ ∀ (j : Nat) (x : Lf), L[j]? = some x → ∃ r n c, xs[j]? = some (x.1, Value.slice (some r) n c) ∧ RSl w w.heap.size (some r) n c x.2 ∧ Q r.block ∧ ∀ g, v.ownBlock = some g → r.block ≠ g
theorem lown_nil (w : World) (B : Nat) (Q : Nat → Prop) : LOwn w B Q (.slice none 0 0) [] := ⟨[], rfl, World.ownsRow_nil _ _ _ _, fun j x h => by simp at h⟩
theorem LOwn.on {w w' : World} {B : Nat} {Q : Nat → Prop} {v : Value} {L : List Lf} (h : LOwn w B Q v L) (hb : Below w.heap.size w w') : LOwn w' B Q v L := by
  obtain ⟨xs, h1, h2, h3⟩ := h
  refine ⟨xs, h1, World.ownsRow.kept h2 (only_below hb none) (by cases hv : v.ownBlock <;> simp), fun j x hx => ?_⟩
  obtain ⟨r, n, c, e1, e2, e3⟩ := h3 j x hx
  exact ⟨r, n, c, e1, e2.on hb, e3⟩
theorem LOwn.lt {w : World} {B : Nat} {Q : Nat → Prop} {v : Value} {L : List Lf} (h : LOwn w B Q v L) : ∀ k, v.ownBlock = some k → B ≤ k ∧ k < w.heap.size := by
  obtain ⟨xs, h1, h2, h3⟩ := h
  exact World.ownsRow.lt h2
theorem lfC_len (xs : List (Int × Value)) : (lfC xs).length = xs.length * 2 := by
  induction xs with
  | nil => rfl
  | cons x l ih =>
    show ([Value.int .i64 x.1, x.2] ++ lfC l).length = _
    rw [List.length_append, ih]; simp; omega
theorem lfC_get {xs : List (Int × Value)} {k : Nat} {x : Int × Value} (h : xs[k]? = some x) : (lfC xs)[k * 2]? = some (.int .i64 x.1) ∧ (lfC xs)[k * 2 + 1]? = some x.2 := by
  induction xs generalizing k with
  | nil => simp at h
  | cons y l ih =>
    have e : lfC (y :: l) = .int .i64 y.1 :: y.2 :: lfC l := rfl
    rcases k with _ | k
    · simp at h
      subst h
      exact ⟨rfl, rfl⟩
    · simp at h
      rw [e, show (k + 1) * 2 = k * 2 + 1 + 1 by omega]
      simpa using ih h
theorem LOwn.lsl {w : World} {B : Nat} {Q : Nat → Prop} {v : Value} {L : List Lf} (h : LOwn w B Q v L) : ∃ A n c, v = .slice A n c ∧ LSl w w.heap.size A n c L ∧ ∀ ad, A = some ad → ad = ⟨ad.block, 0, none⟩ ∧ B ≤ ad.block := by
  obtain ⟨xs, h1, h2, h3⟩ := h
  rcases h2.2 with ⟨rfl, h0⟩ | ⟨g, cap, cur, rfl, hb, hg, hn, hm, hs, ht⟩
  · obtain rfl : L = [] := List.eq_nil_of_length_eq_zero h0
    exact ⟨none, 0, 0, rfl, lsl_nil _ _, (fun ad h => by cases h)⟩
  · refine ⟨_, _, _, rfl, ⟨rfl, hn, hm, (fun h => by cases h), fun ad ha _ => ?_⟩, fun ad ha => by cases ha; exact ⟨rfl, hb⟩⟩
    cases ha
    refine ⟨(World.ownsRow.lt h2 g rfl).2, fun j x hx => ?_⟩
    obtain ⟨r, n, c, e1, e2, _⟩ := h3 j x hx
    obtain ⟨g1, g2⟩ := lfC_get e1
    have hj : j < xs.length := (List.getElem?_eq_some_iff.1 e1).1
    refine ⟨r, n, c, ?_, ?_, e2⟩
    · rw [Addr.add_lit, Nat.zero_add, h2.cellAt (j * 2) (by omega)]; exact g1
    · rw [Addr.add_lit, Nat.zero_add, h2.cellAt (j * 2 + 1) (by omega)]; exact g2
theorem Tryz.infoLeaf : (Tryz.prog.info? 77).map (fun i => (i.zero, i.size, i.bytes)) = some (some (.agg #[.int .i64 0, .slice none 0 0]), 2, 32) := by kernel_rfl
end Go.Proofs.YtkhdgacjgccnnaaGreatDoor
namespace Go.Proofs.YtkhdgacjgccnnaaGreatDoor
open Go.RowKit

theorem rsl_none (w : World) (B : Nat) (A : Option Addr) (c : Nat) (hc : c ≤ maxLen) (hA : A = none → c = 0) : RSl w B A 0 c [] := ⟨rfl, Nat.zero_le _, hc, hA, fun _ _ h => absurd h (by omega)⟩
end Go.Proofs.YtkhdgacjgccnnaaGreatDoor
namespace Go.Proofs.YtkhdgacjgccnnaaGreatDoor
open Go.RowKit

/-- a row of 256 -/
def arS (f : Nat → Value) : Array Value := ((List.range 256).map f).toArray
theorem arS_size (f : Nat → Value) : (arS f).size = 256 := by simp [arS]
theorem arS_get {i : Nat} (f : Nat → Value) (h : i < 256) : (arS f)[i]? = some (f i) := by
  simp [arS, h]
theorem arS_set {k : Nat} (f : Nat → Value) (v : Value) : (arS f).setIfInBounds k v = arS (fun i => if i = k then v else f i) := by
  apply Array.ext'
  simp only [arS, List.setIfInBounds_toArray]
  apply List.ext_getElem?
  intro i
  rw [List.getElem?_set]
  simp only [List.length_map, List.length_range]
  by_cases h : i = k
  · subst h
    rw [if_pos rfl]
    by_cases hi : i < 256
    · simp [hi]
    · simp [hi]
  · rw [if_neg (fun e => h e.symm)]
    by_cases hi : i < 256
    · simp [hi, h]
    · simp [hi]
theorem arS_one {f : Nat → Value} (h : ∀ i, (f i).oneCell' = true) : (arS f).all (·.oneCell') = true := by
  rw [Array.all_eq_true_iff_forall_mem]
  intro v hv
  simp only [arS, List.mem_toArray, List.mem_map] at hv
  obtain ⟨i, _, rfl⟩ := hv
  exact h i
theorem arS_cell {w : World} {g i : Nat} {t : TypeId} {f : Nat → Value} (h : Blk w g t (arS f)) (hi : i < 256) : w.cell? ⟨g, i, none⟩ = some (f i) := by rw [Blk.cell h, arS_get f hi]
def nilV : Value := .slice none 0 0
/-- what the page p has, alone -/
def tb (p : Int) (v : Value) : Nat → Value := fun i => if (i : Int) = p then v else nilV
theorem tb_none (v : Value) : tb (-1) v = fun _ => nilV := by
  funext i
  unfold tb
  rw [if_neg (by omega)]
theorem Tryz.size256 : (Tryz.prog.info? 103).map (·.size) = some 256 := by kernel_rfl
theorem Tryz.zero256 : Tryz.zeroCells103 = arS (fun _ => nilV) := by kernel_rfl
theorem tb_one (p : Int) (v : Value) (h : v.oneCell' = true) : ∀ i, (tb p v i).oneCell' = true := fun i => by
  unfold tb
  split
  · exact h
  · rfl
theorem below_setRow {B g : Nat} {a w : World} (h : Below B a w) (hg : B ≤ g) (cs : Array Value) : Below B a (w.setRow g cs) :=
  ⟨h.os, h.tape, h.output, by rw [setRow_size]; exact h.size, fun i hi => (setRow_other w g i _ (fun e => by omega)).trans (h.block i hi)⟩
set_option maxRecDepth 100000 in
set_option maxHeartbeats 4000000 in
theorem byPageNone_any (w : World) : Calls Tryz.prog 42 #[.slice none 0 0] w fun e w' => e = .returned (.agg (arS (fun _ => nilV))) ∧ Below w.heap.size w w' := by
  have hr0 := (Blk.new w 103 (arS (fun _ => nilV))).alloc (.cells (arS (fun _ => nilV)) 103)
  have hp0 := Blk.new (w.alloc (.cells (arS (fun _ => nilV)) 103)) 103 (arS (fun _ => nilV))
  rw [World.size_alloc] at hp0
  have hb0 : Below w.heap.size w ((w.alloc (.cells (arS (fun _ => nilV)) 103)).alloc (.cells (arS (fun _ => nilV)) 103)) := ((Below.refl _ _).alloc (Nat.le_refl _) _).alloc (by simp) _
  have H0 := hid (And.intro hr0 (And.intro hp0 hb0))
  clear hr0 hp0 hb0
  go_enter Tryz.func42, Tryz.ntmps42
  go_wp2
  rw [Tryz.zero256]
  go_loopw [8] (fun iv wr => iv = .int .i64 0 ∧ Blk wr w.heap.size 103 (arS (fun _ => nilV)) ∧ Blk wr (w.heap.size + 1) 103 (arS (fun _ => nilV)) ∧ Below w.heap.size w wr) (fun _ _ => 0)
  case atStart => exact ⟨rfl, H0.out⟩
  case round =>
    obtain ⟨rfl, hr, hp, hb⟩ := hrel
    have HR := hid hr
    have HP := hid hp
    have HB := hid hb
    clear hr hp hb
    have HFn := hid (show (wr.setRow w.heap.size (arS (fun _ => nilV))).heap[w.heap.size]? = some (.cells (arS (fun _ => nilV)) 103 (0, 0)) from setRow_heap wr w.heap.size _ _ 103 (0, 0) HR.out)
    have HBf := hid (below_setRow HB.out (Nat.le_refl _) (arS (fun _ => nilV)))
    go_wp2_with (first | (refine wpList_load_row rfl 103 (.tmp 3) rfl (w.heap.size + 1) rfl 103 (arS (fun _ => nilV)) (0, 0) _ HP.out Tryz.underlying103 rfl (by rw [arS_size]; exact Tryz.size256) ?_) | (refine wpList_store_row rfl 103 (.tmp 2) (.tmp 21) rfl w.heap.size (arS (fun _ => nilV)) rfl rfl 103 (arS (fun _ => nilV)) HR.out (by rw [arS_size]; exact Tryz.size256) (by simp only [arS_size]) (arS_one (fun _ => rfl)) ?_))

    exact bodyPost_ret_by (results_cell_row (p := 2) rfl _ _ w.heap.size 103 _ (0, 0) _ rfl HFn.out Tryz.underlying103 rfl (by rw [arS_size]; exact Tryz.size256)) rfl ⟨rfl, HBf.out⟩
set_option maxRecDepth 100000 in
set_option maxHeartbeats 4000000 in
theorem byPageOne_any (ad r : Addr) (c n' c' : Nat) (p : Int) (w : World) (h0 : w.cell? ad = some (.int .i64 p)) (h1 : w.cell? ⟨ad.block, ad.off + 1, none⟩ = some (.slice (some r) n' c')) (hlt : ad.block < w.heap.size) (hp0 : -1 ≤ p) (hp1 : p < 256) :
    Calls Tryz.prog 42 #[.slice (some ad) 1 c] w fun e w' => e = .returned (.agg (arS (tb p (.slice (some r) n' c')))) ∧ Below w.heap.size w w' := by
  have hr0 := (Blk.new w 103 (arS (fun _ => nilV))).alloc (.cells (arS (fun _ => nilV)) 103)
  have hq0 := Blk.new (w.alloc (.cells (arS (fun _ => nilV)) 103)) 103 (arS (fun _ => nilV))
  rw [World.size_alloc] at hq0
  have hb0 : Below w.heap.size w ((w.alloc (.cells (arS (fun _ => nilV)) 103)).alloc (.cells (arS (fun _ => nilV)) 103)) := ((Below.refl _ _).alloc (Nat.le_refl _) _).alloc (by simp) _
  have H0 := hid (And.intro hr0 (And.intro hq0 hb0))
  have HC := hid (show ∀ W, Below w.heap.size w W → W.cell? ad = some (.int .i64 p) ∧ W.cell? ⟨ad.block, ad.off + 1, none⟩ = some (.slice (some r) n' c') from fun W hb => ⟨(hb.cell hlt).trans h0, (hb.cell (p := ⟨ad.block, ad.off + 1, none⟩) hlt).trans h1⟩)
  clear hr0 hq0 hb0 h0 h1
  go_enter Tryz.func42, Tryz.ntmps42
  go_wp2
  rw [Tryz.zero256]
  go_loopw [8] (fun iv wr => Blk wr w.heap.size 103 (arS (fun _ => nilV)) ∧ Below w.heap.size w wr ∧ ((iv = .int .i64 0 ∧ Blk wr (w.heap.size + 1) 103 (arS (fun _ => nilV))) ∨ (iv = .int .i64 1 ∧ Blk wr (w.heap.size + 1) 103 (arS (tb p (.slice (some r) n' c')))))) (fun iv _ => 1 - (intOf iv).toNat)
  case atStart => exact ⟨H0.out.1, H0.out.2.2, .inl ⟨rfl, H0.out.2.1⟩⟩
  case round =>
    obtain ⟨hr, hb, (⟨rfl, hp⟩ | ⟨rfl, hp⟩)⟩ := hrel
    · obtain ⟨c0, c1⟩ := HC.out wr hb
      have HR := hid hr
      have HP := hid hp
      have HB := hid hb
      have hsz := hb.size
      have hsp := hp.lt
      clear hr hp hb
      by_cases hpn : p = -1
      · have HF := hid (show arS (fun _ => nilV) = arS (tb p (.slice (some r) n' c')) from by rw [hpn, tb_none])
        have g : (p != -1) = false := by simp [hpn]
        have HR1 := hid (HR.out.alloc (.cells #[.int .i64 p, .slice (some r) n' c'] 77))
        have HP1 := hid (HP.out.alloc (.cells #[.int .i64 p, .slice (some r) n' c'] 77))
        have HB1 := hid (HB.out.alloc HB.out.size (.cells #[.int .i64 p, .slice (some r) n' c'] 77))
        clear hpn
        go_wp2
        go_roundw
        case rel => exact ⟨HR1.out, HB1.out, .inr ⟨by go_num, by rw [← HF.out]; exact HP1.out⟩⟩
        case measure => simp [intOf]
      · have g : (p != -1) = true := by simp [hpn]
        obtain ⟨k, rfl⟩ : ∃ k : Nat, p = (k : Int) := ⟨p.toNat, by omega⟩
        have hk : k < 256 := by omega
        have z1 := arS_cell HP.out hk
        have HR1 := hid ((HR.out.far (p := ⟨w.heap.size + 1, k, none⟩) (by simp) (.slice (some r) n' c')).alloc (.cells #[.int .i64 (k : Int), .slice (some r) n' c'] 77))
        have HP1 := hid (show Blk ((wr.setCell ⟨w.heap.size + 1, k, none⟩ (.slice (some r) n' c')).alloc (.cells #[.int .i64 (k : Int), .slice (some r) n' c'] 77)) (w.heap.size + 1) 103 (arS (tb (k : Int) (.slice (some r) n' c'))) from by
          have h := (HP.out.put k (.slice (some r) n' c')).alloc (.cells #[.int .i64 (k : Int), .slice (some r) n' c'] 77)
          rw [arS_set] at h
          have e : (fun i => if i = k then Value.slice (some r) n' c' else nilV) = tb (k : Int) (.slice (some r) n' c') := by
            funext i
            unfold tb
            by_cases hi : i = k
            · rw [if_pos hi, if_pos (by omega)]
            · rw [if_neg hi, if_neg (by omega)]
          rwa [e] at h)
        have HB1 := hid ((HB.out.setCell (p := ⟨w.heap.size + 1, k, none⟩) (by show w.heap.size ≤ w.heap.size + 1; omega) (.slice (some r) n' c')).alloc (by have := HB.out.size; simp; omega) (.cells #[.int .i64 (k : Int), .slice (some r) n' c'] 77))
        have hkI : (k : Int) < 256 := by omega
        have fz := HP.out.free k
        go_wp2
        go_roundw
        case rel => exact ⟨HR1.out, HB1.out, .inr ⟨by go_num, HP1.out⟩⟩
        case measure => simp [intOf]
    · have HR := hid hr
      have HP := hid hp
      have HB := hid hb
      clear hr hp hb
      have HFn := hid (show (wr.setRow w.heap.size (arS (tb p (.slice (some r) n' c')))).heap[w.heap.size]? = some (.cells (arS (tb p (.slice (some r) n' c'))) 103 (0, 0)) from setRow_heap wr w.heap.size _ _ 103 (0, 0) HR.out)
      have HBf := hid (below_setRow HB.out (Nat.le_refl _) (arS (tb p (.slice (some r) n' c'))))
      go_wp2_with (first | (refine wpList_load_row rfl 103 (.tmp 3) rfl (w.heap.size + 1) rfl 103 (arS (tb p (.slice (some r) n' c'))) (0, 0) _ HP.out Tryz.underlying103 rfl (by rw [arS_size]; exact Tryz.size256) ?_) | (refine wpList_store_row rfl 103 (.tmp 2) (.tmp 21) rfl w.heap.size (arS (tb p (.slice (some r) n' c'))) rfl rfl 103 (arS (fun _ => nilV)) HR.out (by rw [arS_size]; exact Tryz.size256) (by simp only [arS_size]) (arS_one (tb_one p _ rfl)) ?_))
      exact bodyPost_ret_by (results_cell_row (p := 2) rfl _ _ w.heap.size 103 _ (0, 0) _ rfl HFn.out Tryz.underlying103 rfl (by rw [arS_size]; exact Tryz.size256)) rfl ⟨rfl, HBf.out⟩
end Go.Proofs.YtkhdgacjgccnnaaGreatDoor
