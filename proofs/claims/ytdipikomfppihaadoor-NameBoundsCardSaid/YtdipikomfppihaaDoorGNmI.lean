/- NameBounds, walked. -/
import Derived.Test.YtdipikomfppihaaDoorGNmD
import Derived.Test.YtdipikomfppihaaDoorGNumber
namespace Go.Proofs.YtdipikomfppihaaDoor
open Go.RowKit

/-- k letters a, one of them another byte -/
def lts (k j : Nat) (c : UInt8) : List UInt8 := (List.replicate k 97).set j c
theorem lts_nev {k j : Nat} {c : UInt8} (hj : j < k) : hasNev (lts k j c) = nev c := by
  have hat : (lts k j c)[j]? = some c := by
    unfold lts
    rw [List.getElem?_set_self (by simpa using hj)]
  rcases h : nev c with _ | _
  · refine hasNev_none fun i b hb => ?_
    rcases List.mem_or_eq_of_mem_set (List.mem_of_getElem? hb) with e | e
    · rw [List.eq_of_mem_replicate e]; rfl
    · rw [e]; exact h
  · exact hasNev_of hat h
theorem lts_len (k j : Nat) (c : UInt8) : (lts k j c).length = k := by simp [lts]
theorem lts_dot {k j : Nat} {c : UInt8} (hj : j < k) : (lts k j c == [46] || lts k j c == [46, 46]) = (decide (k = 1) && c == 46) := by
  have hl := lts_len k j c
  by_cases h1 : k = 1
  · subst h1
    obtain rfl : j = 0 := by omega
    have e : lts 1 0 c = [c] := rfl
    rw [e]
    rcases h : (c == 46) with _ | _ <;> simp [List.cons_beq_cons, h]
  · have e1 : (lts k j c == [46]) = false := beq_eq_false_iff_ne.2 fun e => h1 (by rw [← hl, e]; rfl)
    have e2 : (lts k j c == [46, 46]) = false := beq_eq_false_iff_ne.2 fun e => by
      have hk : k = 2 := by rw [← hl, e]; rfl
      subst hk
      have : j = 0 ∨ j = 1 := by omega
      rcases this with rfl | rfl
      · have : lts 2 0 c = [c, 97] := rfl
        rw [this] at e
        exact absurd (List.cons.inj (List.cons.inj e).2).1 (by decide)
      · have : lts 2 1 c = [97, c] := rfl
        rw [this] at e
        exact absurd (List.cons.inj e).1 (by decide)
    rw [e1, e2]
    simp [h1]
theorem lts_code {k j : Nat} {c : UInt8} (hj : j < k) (h24 : k ≤ 24) : vldC ⟨(lts k j c).toArray⟩ = if nev c then 114 else 0 := by
  have hs : (⟨(lts k j c).toArray⟩ : ByteArray).size = k := by show (lts k j c).toArray.size = k; simp [lts_len]
  unfold vldC
  rw [hs, if_neg (by omega), if_neg (by omega)]
  show (if hasNev (lts k j c) = true then _ else _) = _
  rw [lts_nev hj]
theorem lts_big {k j : Nat} {c : UInt8} (h24 : 24 < k) : vldC ⟨(lts k j c).toArray⟩ = 115 := by
  have hs : (⟨(lts k j c).toArray⟩ : ByteArray).size = k := by show (lts k j c).toArray.size = k; simp [lts_len]
  unfold vldC
  rw [hs, if_neg (by omega), if_pos h24]
/-- these letters, out of the numbers in memory -/
theorem lts_num (k j : Nat) (x : Int) : strOfNums ((List.replicate k 97).set j x) = ⟨(lts k j (UInt8.ofNat x.toNat)).toArray⟩ := by
  unfold strOfNums lts
  congr 1
  simp [List.map_set]

theorem zerosN {w : World} {B n : Nat} {v : Value} (h : w.ownsRow B 5 1 v n (madeCells #[Value.int .u8 0] n).toList) : Own w B v (List.replicate n 0) := by
  unfold Own
  rw [List.length_replicate, ← zeros]
  exact h
theorem sent_only {w w' : World} {S : Nat → Addr} {F : Nat → Prop} (h : Sent w S) (ho : Only F w w') (hF : ∀ i, i < 24 → ¬ F (glo.getD i 0) ∧ ¬ F (S i).block) : Sent w' S := by
  refine ⟨fun i hi => ?_, h.ne, fun i hi => ?_⟩
  · have hc := h.at_ i hi
    exact (World.cell?_of_block (ho.block _ (World.block_lt_of_cell? w _ hc) (hF i hi).1)).trans hc
  · obtain ⟨c, t, hc⟩ := h.blk i hi
    exact ⟨c, t, (ho.block _ (Array.getElem?_eq_some_iff.1 hc).1 (hF i hi).2).trans hc⟩
/-- the last step: of these letters Valid and Special answer so -/
theorem oth_of {x : Int} (hx : 0 ≤ x ∧ x ≤ 255) (h1 : x ≠ 47) (h2 : x ≠ 0) (h3 : x ≠ 46) : nev (UInt8.ofNat x.toNat) = false ∧ (UInt8.ofNat x.toNat == 46) = false := by
  have ht : (UInt8.ofNat x.toNat).toNat = x.toNat := by rw [UInt8.toNat_ofNat']; omega
  have e : ∀ y : UInt8, (y.toNat : Int) ≠ x → (UInt8.ofNat x.toNat == y) = false := fun y hy => beq_eq_false_iff_ne.2 fun e => hy (by rw [← e, ht]; omega)
  have e1 := e 47 (fun h => h1 (by rw [← h]; rfl))
  have e2 := e 0 (fun h => h2 (by rw [← h]; rfl))
  have e3 := e 46 (fun h => h3 (by rw [← h]; rfl))
  exact ⟨by unfold nev; rw [e1, e2]; rfl, e3⟩
theorem spec_lts {k j : Nat} {c : UInt8} (hj : j < k) : spec ⟨(lts k j c).toArray⟩ = (decide (k = 1) && c == 46) := by
  unfold spec
  rw [Lib.toList_data]
  exact lts_dot hj

set_option maxHeartbeats 2000000 in
set_option maxRecDepth 100000 in
theorem nameBounds_any (S : Nat → Addr) (a b : Int) (x : Int) (w : World) (hS : Sent w S) (hx : 0 ≤ x ∧ x ≤ 255) :
    Calls Tryd.prog 4 #[.int .i64 a, .int .i64 b, .int .u8 x] w fun e w' => e = .returned (.bool true) ∧ Below w.heap.size w w' := by
  have HE := hid hS
  obtain ⟨i0, hi, hz0, hz1, hz2⟩ := info_parts Tryd.info5
  clear hS
  go_enter Tryd.func4, Tryd.ntmps4
  go_wp2_with fail
  refine (first11_any S w HE.out).mono ?_
  rintro e w1 ⟨rfl, hb⟩
  have HB1 := hid hb
  have HE1 := hid (HE.out.on hb)
  clear hb HE
  go_wp2_with fail
  refine (number_any a 40 w1 (by omega) (by omega)).mono ?_
  rintro e w2 ⟨rfl, hw⟩
  rw [← hw]
  clear hw
  obtain ⟨k, hk⟩ : ∃ k : Nat, a % 40 = (k : Int) := ⟨(a % 40).toNat, by omega⟩
  have hk40 : k ≤ 39 := by omega
  rw [hk]
  clear hk
  go_wp2_with (at_make; refine wpList_make_full _ rfl _ _ 36 rfl w1.heap.size 5 i0 (.int .u8 0) 1 Tryd.underlying36 hi hz0 hz1 _ _ _ _ k rfl rfl rfl rfl ?b2 ?b3 ?b4 ?_)
  case b2 => rw [hz2]; omega
  case b3 => unfold maxLen; omega
  case b4 => exact Nat.le_refl _
  intro w3 hown hgrow
  obtain ⟨g, hg⟩ : ∃ g, w1.heap.size = g := ⟨_, rfl⟩
  have HO3 := hid (zerosN hown)
  have HG3 := hid (show Below w1.heap.size w1 w3 from (Below.refl _ _).grown hgrow (Nat.le_refl _) (fun _ h => by cases h))
  have HB3 := hid (HB1.out.trans (HG3.out.mono HB1.out.size))
  have HE3 := hid (HE1.out.on HG3.out)
  have HW := hid (show w.heap.size ≤ g from by rw [← hg]; exact HB1.out.size)
  have HEb := hid (show ∀ i, i < 24 → glo.getD i 0 < g ∧ (S i).block < g from fun i hi => by
    rw [← hg]
    obtain ⟨c, t, hc⟩ := HE1.out.blk i hi
    exact ⟨World.block_lt_of_cell? w1 _ (HE1.out.at_ i hi), (Array.getElem?_eq_some_iff.1 hc).1⟩)
  rw [hg] at HO3 ⊢
  clear hown hgrow hg HG3 HE1 HB1
  go_wp2
  go_loopw [9] (fun i wr => ∃ q : Nat, q ≤ k ∧ i = .int .i64 (q : Int) ∧ Hid (Own wr g (.slice (some ⟨g, 0, none⟩) k k) (List.replicate q 97 ++ List.replicate (k - q) 0)) ∧ Hid (Only (fun b => b = g) w3 wr)) (fun i _ => k - (intOf i).toNat)
  case atStart => exact ⟨0, Nat.zero_le _, rfl, HO3, Only.refl _ _⟩
  case round =>
    obtain ⟨q, hq, rfl, HO4, HB4⟩ := hrel
    by_cases hlt : q < k
    · have ho : OwnV 5 wr g (.slice (some ⟨g, 0, none⟩) k k) (I (List.replicate q 97 ++ List.replicate (k - q) 0)) := own_vals.1 HO4.out
      have hl : (List.replicate q (97 : Int) ++ List.replicate (k - q) 0).length = k := by simp; omega
      have hz : (List.replicate q (97 : Int) ++ List.replicate (k - q) 0)[q]? = some 0 := by
        rw [List.getElem?_append_right (by simp), List.length_replicate, Nat.sub_self, List.getElem?_replicate, if_pos (by omega)]
      have hc := OwnV.cell ho (I_get hz)
      have hf := OwnV.free ho q
      have hp := OwnV.put ho (by rw [I_len, hl]) q (.int .u8 97)
      have es : (I (List.replicate q (97 : Int) ++ List.replicate (k - q) 0)).set q (.int .u8 97) = I (List.replicate (q + 1) 97 ++ List.replicate (k - (q + 1)) 0) := by
        rw [show k - q = (k - (q + 1)) + 1 by omega, List.replicate_succ (n := k - (q + 1)), List.replicate_succ' (n := q)]
        simp [I]
      rw [es] at hp
      have HP := hid (own_vals.2 hp)
      have HB5 := hid (Only.put (p := ⟨g, q, none⟩) HB4.out rfl (.int .u8 97))
      clear ho hl hz hp es
      go_wp2
      go_roundw
      case rel => exact ⟨q + 1, by omega, by go_num, HP, HB5⟩
      case measure => simp [intOf]; omega
    · obtain rfl : q = k := by omega
      have HO5 := hid (show Own wr g (.slice (some ⟨g, 0, none⟩) q q) (List.replicate q 97) from by have := HO4.out; simpa using this)
      have HE5 := hid (sent_only HE3.out HB4.out fun i hi => ⟨Nat.ne_of_lt (HEb.out i hi).1, Nat.ne_of_lt (HEb.out i hi).2⟩)
      have HB5 := hid (HB3.out.trans (HB4.out.below (by exact HB3.out.size) (fun i hi => by rw [hi]; exact HW.out)))
      clear HO4 HO3 HE3 HB3
      by_cases h0 : q = 0
      · subst h0
        have HSW := hid (own_sl HO5.out).1
        have hcv := conv_any HSW.out
        have HBW := HB5
        have HEW := HE5
        have HL := hid (show strOfNums (List.replicate 0 97) = ⟨#[]⟩ from rfl)
        rw [HL.out] at hcv
        obtain ⟨s, hs⟩ : ∃ s : ByteArray, s = ⟨#[]⟩ := ⟨_, rfl⟩
        rw [← hs] at hcv HL
        have HV := hid (show vldC s = 109 from by rw [hs]; decide)
        have HSP := hid (show spec s = false from by rw [hs]; unfold spec; rw [Lib.toList_data]; rfl)
        generalize wr = W at *
        clear hs
        go_wp2_with fail
        refine (valid_any S s _ HEW.out).mono ?_
        rw [HV.out]
        rintro e w6 ⟨⟨ve, rfl, hev⟩, hb⟩
        have HEV := hid hev
        have HB6 := hid (HBW.out.trans (hb.mono HBW.out.size))
        have HS6 := hid (Sl.on HSW.out hb)
        have HE6 := hid (HEW.out.on hb)
        clear hb hev HBW HSW HEW hcv
        go_wp2_with fail
        refine (is_any S _ _ ve w6 HE6.out HEV.out).mono ?_
        rw [show ((109 : Int) == 109) = true from rfl]
        rintro e w7 ⟨rfl, hb⟩
        have HB7 := hid (HB6.out.trans (hb.mono HB6.out.size))
        have hs7 := Sl.on HS6.out hb
        have hcv := conv_any hs7
        rw [HL.out] at hcv
        clear hb HB6 HS6 HE6 hs7
        go_wp2_with fail
        refine (special_any s w7).mono ?_
        rw [HSP.out]
        rintro e w8 ⟨rfl, hw⟩
        rw [hw]
        clear hw
        go_wp2
        go_ret
        exact ⟨rfl, HB7.out⟩

      · have hq0 : 0 < q := by omega
        clear h0
        go_wp2_with fail
        refine (number_any b (q : Int) wr (by omega) (by omega)).mono ?_
        rintro e w5 ⟨rfl, hw⟩
        rw [← hw]
        clear hw
        obtain ⟨j, hj⟩ : ∃ j : Nat, b % (q : Int) = (j : Int) := ⟨(b % (q : Int)).toNat, by have := Int.emod_nonneg b (show (q : Int) ≠ 0 by omega); omega⟩
        have hjq : j < q := by have := Int.emod_lt_of_pos b (show (0 : Int) < (q : Int) by omega); omega
        rw [hj]
        clear hj
        have ho : OwnV 5 wr g (.slice (some ⟨g, 0, none⟩) q q) (I (List.replicate q 97)) := own_vals.1 HO5.out
        have hz : (List.replicate q (97 : Int))[j]? = some 97 := by rw [List.getElem?_replicate, if_pos hjq]
        have hc := OwnV.cell ho (I_get hz)
        have hf := OwnV.free ho j
        have hp := OwnV.put ho (by rw [I_len, List.length_replicate]) j (.int .u8 x)
        have es : (I (List.replicate q (97 : Int))).set j (.int .u8 x) = I ((List.replicate q 97).set j x) := by simp [I, List.map_set]
        rw [es] at hp
        have HP := hid (own_sl (own_vals.2 hp)).1
        have HON := hid (Only.put (F := fun b => b = g) (p := ⟨g, j, none⟩) (Only.refl _ wr) rfl (.int .u8 x))
        have HEW := hid (sent_only HE5.out HON.out fun i hi => ⟨Nat.ne_of_lt (HEb.out i hi).1, Nat.ne_of_lt (HEb.out i hi).2⟩)
        have HBW := hid (HB5.out.trans (HON.out.below HB5.out.size (fun i hi => by rw [hi]; exact HW.out)))
        clear ho hz hp es HO5 HE5 HB5
        have hcv := conv_any HP.out
        rw [lts_num] at hcv
        have HL := hid (lts_num q j x)
        obtain ⟨s, hs⟩ : ∃ s : ByteArray, s = ⟨(lts q j (UInt8.ofNat x.toNat)).toArray⟩ := ⟨_, rfl⟩
        rw [← hs] at hcv HL
        have HSW := HP
        clear HP HON

        have hways : x = 47 ∨ x = 0 ∨ x = 46 ∨ (x ≠ 47 ∧ x ≠ 0 ∧ x ≠ 46) := by omega
        by_cases h24 : 24 < q
        · have HV := hid (show vldC s = 115 from by rw [hs]; exact lts_big h24)
          have HSP := hid (show spec s = false from by rw [hs, spec_lts hjq]; simp; omega)
          have hq1 : ¬ q = 1 := by omega
          clear hs
          rcases hways with rfl | rfl | rfl | ⟨x1, x2, x3⟩
          rotate_left
          rotate_left
          rotate_left
          · have x4 : (x == 47) = false := beq_eq_false_iff_ne.2 x1
            have x5 : (x == 0) = false := beq_eq_false_iff_ne.2 x2
            have x6 : (x == 46) = false := beq_eq_false_iff_ne.2 x3
            clear x1 x2 x3 hx
            go_wp2_with fail
            refine (valid_any S s _ HEW.out).mono ?_
            rw [HV.out]
            rintro e w6 ⟨⟨ve, rfl, hev⟩, hb⟩
            have HEV := hid hev
            have HB6 := hid (HBW.out.trans (hb.mono HBW.out.size))
            have HS6 := hid (Sl.on HSW.out hb)
            have HE6 := hid (HEW.out.on hb)
            clear hb hev HBW HSW HEW hcv
            go_wp2_with fail
            refine (is_any S _ _ ve w6 HE6.out HEV.out).mono ?_
            rw [show ((115 : Int) == 115) = true from rfl]
            rintro e w7 ⟨rfl, hb⟩
            have HB7 := hid (HB6.out.trans (hb.mono HB6.out.size))
            have hs7 := Sl.on HS6.out hb
            have hcv := conv_any hs7
            rw [HL.out] at hcv
            clear hb HB6 HS6 HE6 hs7
            go_wp2_with fail
            refine (special_any s w7).mono ?_
            rw [HSP.out]
            rintro e w8 ⟨rfl, hw⟩
            rw [hw]
            clear hw
            go_wp2
            go_ret
            exact ⟨rfl, HB7.out⟩

          all_goals
           go_wp2_with fail
           refine (valid_any S s _ HEW.out).mono ?_
           rw [HV.out]
           rintro e w6 ⟨⟨ve, rfl, hev⟩, hb⟩
           have HEV := hid hev
           have HB6 := hid (HBW.out.trans (hb.mono HBW.out.size))
           have HS6 := hid (Sl.on HSW.out hb)
           have HE6 := hid (HEW.out.on hb)
           clear hb hev HBW HSW HEW hcv
           go_wp2_with fail
           refine (is_any S _ _ ve w6 HE6.out HEV.out).mono ?_
           rw [show ((115 : Int) == 115) = true from rfl]
           rintro e w7 ⟨rfl, hb⟩
           have HB7 := hid (HB6.out.trans (hb.mono HB6.out.size))
           have hs7 := Sl.on HS6.out hb
           have hcv := conv_any hs7
           rw [HL.out] at hcv
           clear hb HB6 HS6 HE6 hs7
           go_wp2_with fail
           refine (special_any s w7).mono ?_
           rw [HSP.out]
           rintro e w8 ⟨rfl, hw⟩
           rw [hw]
           clear hw
           go_wp2
           go_ret
           exact ⟨rfl, HB7.out⟩

        · have hq24 : q ≤ 24 := by omega
          clear h24
          by_cases hq1 : q = 1
          · subst hq1
            rcases hways with rfl | rfl | rfl | ⟨x1, x2, x3⟩
            · have HV := hid (show vldC s = 114 from by rw [hs, lts_code hjq hq24, show nev (UInt8.ofNat ((47 : Int)).toNat) = true from by decide]; rfl)
              have HSP := hid (show spec s = false from by rw [hs, spec_lts hjq, show (UInt8.ofNat ((47 : Int)).toNat == 46) = false from by decide]; rfl)
              clear hs
              go_wp2_with fail
              refine (valid_any S s _ HEW.out).mono ?_
              rw [HV.out]
              rintro e w6 ⟨⟨ve, rfl, hev⟩, hb⟩
              have HEV := hid hev
              have HB6 := hid (HBW.out.trans (hb.mono HBW.out.size))
              have HS6 := hid (Sl.on HSW.out hb)
              have HE6 := hid (HEW.out.on hb)
              clear hb hev HBW HSW HEW hcv
              go_wp2_with fail
              refine (is_any S _ _ ve w6 HE6.out HEV.out).mono ?_
              rw [show ((114 : Int) == 114) = true from rfl]
              rintro e w7 ⟨rfl, hb⟩
              have HB7 := hid (HB6.out.trans (hb.mono HB6.out.size))
              have hs7 := Sl.on HS6.out hb
              have hcv := conv_any hs7
              rw [HL.out] at hcv
              clear hb HB6 HS6 HE6 hs7
              go_wp2_with fail
              refine (special_any s w7).mono ?_
              rw [HSP.out]
              rintro e w8 ⟨rfl, hw⟩
              rw [hw]
              clear hw
              go_wp2
              go_ret
              exact ⟨rfl, HB7.out⟩
            · have HV := hid (show vldC s = 114 from by rw [hs, lts_code hjq hq24, show nev (UInt8.ofNat ((0 : Int)).toNat) = true from by decide]; rfl)
              have HSP := hid (show spec s = false from by rw [hs, spec_lts hjq, show (UInt8.ofNat ((0 : Int)).toNat == 46) = false from by decide]; rfl)
              clear hs
              go_wp2_with fail
              refine (valid_any S s _ HEW.out).mono ?_
              rw [HV.out]
              rintro e w6 ⟨⟨ve, rfl, hev⟩, hb⟩
              have HEV := hid hev
              have HB6 := hid (HBW.out.trans (hb.mono HBW.out.size))
              have HS6 := hid (Sl.on HSW.out hb)
              have HE6 := hid (HEW.out.on hb)
              clear hb hev HBW HSW HEW hcv
              go_wp2_with fail
              refine (is_any S _ _ ve w6 HE6.out HEV.out).mono ?_
              rw [show ((114 : Int) == 114) = true from rfl]
              rintro e w7 ⟨rfl, hb⟩
              have HB7 := hid (HB6.out.trans (hb.mono HB6.out.size))
              have hs7 := Sl.on HS6.out hb
              have hcv := conv_any hs7
              rw [HL.out] at hcv
              clear hb HB6 HS6 HE6 hs7
              go_wp2_with fail
              refine (special_any s w7).mono ?_
              rw [HSP.out]
              rintro e w8 ⟨rfl, hw⟩
              rw [hw]
              clear hw
              go_wp2
              go_ret
              exact ⟨rfl, HB7.out⟩
            · have HV := hid (show vldC s = 0 from by rw [hs, lts_code hjq hq24, show nev (UInt8.ofNat ((46 : Int)).toNat) = false from by decide]; rfl)
              have HSP := hid (show spec s = true from by rw [hs, spec_lts hjq, show (UInt8.ofNat ((46 : Int)).toNat == 46) = true from by decide]; rfl)
              clear hs
              go_wp2_with fail
              refine (valid_any S s _ HEW.out).mono ?_
              rw [HV.out]
              rintro e w6 ⟨⟨ve, rfl, hev⟩, hb⟩
              have HEV := hid hev
              have HB6 := hid (HBW.out.trans (hb.mono HBW.out.size))
              have HS6 := hid (Sl.on HSW.out hb)
              have HE6 := hid (HEW.out.on hb)
              clear hb hev HBW HSW HEW hcv
              go_wp2_with fail
              refine (is_any S _ _ ve w6 HE6.out HEV.out).mono ?_
              rw [show ((0 : Int) == 0) = true from rfl]
              rintro e w7 ⟨rfl, hb⟩
              have HB7 := hid (HB6.out.trans (hb.mono HB6.out.size))
              have hs7 := Sl.on HS6.out hb
              have hcv := conv_any hs7
              rw [HL.out] at hcv
              clear hb HB6 HS6 HE6 hs7
              go_wp2_with fail
              refine (special_any s w7).mono ?_
              rw [HSP.out]
              rintro e w8 ⟨rfl, hw⟩
              rw [hw]
              clear hw
              go_wp2
              go_ret
              exact ⟨rfl, HB7.out⟩
            · have HV := hid (show vldC s = 0 from by rw [hs, lts_code hjq hq24, (oth_of hx x1 x2 x3).1]; rfl)
              have x4 : (x == 47) = false := beq_eq_false_iff_ne.2 x1
              have x5 : (x == 0) = false := beq_eq_false_iff_ne.2 x2
              have x6 : (x == 46) = false := beq_eq_false_iff_ne.2 x3
              have HSP := hid (show spec s = false from by rw [hs, spec_lts hjq, (oth_of hx x1 x2 x3).2]; rfl)
              clear hs
              clear x1 x2 x3 hx
              go_wp2_with fail
              refine (valid_any S s _ HEW.out).mono ?_
              rw [HV.out]
              rintro e w6 ⟨⟨ve, rfl, hev⟩, hb⟩
              have HEV := hid hev
              have HB6 := hid (HBW.out.trans (hb.mono HBW.out.size))
              have HS6 := hid (Sl.on HSW.out hb)
              have HE6 := hid (HEW.out.on hb)
              clear hb hev HBW HSW HEW hcv
              go_wp2_with fail
              refine (is_any S _ _ ve w6 HE6.out HEV.out).mono ?_
              rw [show ((0 : Int) == 0) = true from rfl]
              rintro e w7 ⟨rfl, hb⟩
              have HB7 := hid (HB6.out.trans (hb.mono HB6.out.size))
              have hs7 := Sl.on HS6.out hb
              have hcv := conv_any hs7
              rw [HL.out] at hcv
              clear hb HB6 HS6 HE6 hs7
              go_wp2_with fail
              refine (special_any s w7).mono ?_
              rw [HSP.out]
              rintro e w8 ⟨rfl, hw⟩
              rw [hw]
              clear hw
              go_wp2
              go_ret
              exact ⟨rfl, HB7.out⟩
          · rcases hways with rfl | rfl | rfl | ⟨x1, x2, x3⟩
            · have HV := hid (show vldC s = 114 from by rw [hs, lts_code hjq hq24, show nev (UInt8.ofNat ((47 : Int)).toNat) = true from by decide]; rfl)
              have HSP := hid (show spec s = false from by rw [hs, spec_lts hjq, decide_eq_false hq1]; rfl)
              clear hs
              go_wp2_with fail
              refine (valid_any S s _ HEW.out).mono ?_
              rw [HV.out]
              rintro e w6 ⟨⟨ve, rfl, hev⟩, hb⟩
              have HEV := hid hev
              have HB6 := hid (HBW.out.trans (hb.mono HBW.out.size))
              have HS6 := hid (Sl.on HSW.out hb)
              have HE6 := hid (HEW.out.on hb)
              clear hb hev HBW HSW HEW hcv
              go_wp2_with fail
              refine (is_any S _ _ ve w6 HE6.out HEV.out).mono ?_
              rw [show ((114 : Int) == 114) = true from rfl]
              rintro e w7 ⟨rfl, hb⟩
              have HB7 := hid (HB6.out.trans (hb.mono HB6.out.size))
              have hs7 := Sl.on HS6.out hb
              have hcv := conv_any hs7
              rw [HL.out] at hcv
              clear hb HB6 HS6 HE6 hs7
              go_wp2_with fail
              refine (special_any s w7).mono ?_
              rw [HSP.out]
              rintro e w8 ⟨rfl, hw⟩
              rw [hw]
              clear hw
              go_wp2
              go_ret
              exact ⟨rfl, HB7.out⟩
            · have HV := hid (show vldC s = 114 from by rw [hs, lts_code hjq hq24, show nev (UInt8.ofNat ((0 : Int)).toNat) = true from by decide]; rfl)
              have HSP := hid (show spec s = false from by rw [hs, spec_lts hjq, decide_eq_false hq1]; rfl)
              clear hs
              go_wp2_with fail
              refine (valid_any S s _ HEW.out).mono ?_
              rw [HV.out]
              rintro e w6 ⟨⟨ve, rfl, hev⟩, hb⟩
              have HEV := hid hev
              have HB6 := hid (HBW.out.trans (hb.mono HBW.out.size))
              have HS6 := hid (Sl.on HSW.out hb)
              have HE6 := hid (HEW.out.on hb)
              clear hb hev HBW HSW HEW hcv
              go_wp2_with fail
              refine (is_any S _ _ ve w6 HE6.out HEV.out).mono ?_
              rw [show ((114 : Int) == 114) = true from rfl]
              rintro e w7 ⟨rfl, hb⟩
              have HB7 := hid (HB6.out.trans (hb.mono HB6.out.size))
              have hs7 := Sl.on HS6.out hb
              have hcv := conv_any hs7
              rw [HL.out] at hcv
              clear hb HB6 HS6 HE6 hs7
              go_wp2_with fail
              refine (special_any s w7).mono ?_
              rw [HSP.out]
              rintro e w8 ⟨rfl, hw⟩
              rw [hw]
              clear hw
              go_wp2
              go_ret
              exact ⟨rfl, HB7.out⟩
            · have HV := hid (show vldC s = 0 from by rw [hs, lts_code hjq hq24, show nev (UInt8.ofNat ((46 : Int)).toNat) = false from by decide]; rfl)
              have HSP := hid (show spec s = false from by rw [hs, spec_lts hjq, decide_eq_false hq1]; rfl)
              clear hs
              go_wp2_with fail
              refine (valid_any S s _ HEW.out).mono ?_
              rw [HV.out]
              rintro e w6 ⟨⟨ve, rfl, hev⟩, hb⟩
              have HEV := hid hev
              have HB6 := hid (HBW.out.trans (hb.mono HBW.out.size))
              have HS6 := hid (Sl.on HSW.out hb)
              have HE6 := hid (HEW.out.on hb)
              clear hb hev HBW HSW HEW hcv
              go_wp2_with fail
              refine (is_any S _ _ ve w6 HE6.out HEV.out).mono ?_
              rw [show ((0 : Int) == 0) = true from rfl]
              rintro e w7 ⟨rfl, hb⟩
              have HB7 := hid (HB6.out.trans (hb.mono HB6.out.size))
              have hs7 := Sl.on HS6.out hb
              have hcv := conv_any hs7
              rw [HL.out] at hcv
              clear hb HB6 HS6 HE6 hs7
              go_wp2_with fail
              refine (special_any s w7).mono ?_
              rw [HSP.out]
              rintro e w8 ⟨rfl, hw⟩
              rw [hw]
              clear hw
              go_wp2
              go_ret
              exact ⟨rfl, HB7.out⟩
            · have HV := hid (show vldC s = 0 from by rw [hs, lts_code hjq hq24, (oth_of hx x1 x2 x3).1]; rfl)
              have x4 : (x == 47) = false := beq_eq_false_iff_ne.2 x1
              have x5 : (x == 0) = false := beq_eq_false_iff_ne.2 x2
              have x6 : (x == 46) = false := beq_eq_false_iff_ne.2 x3
              have HSP := hid (show spec s = false from by rw [hs, spec_lts hjq, decide_eq_false hq1]; rfl)
              clear hs
              clear x1 x2 x3 hx
              go_wp2_with fail
              refine (valid_any S s _ HEW.out).mono ?_
              rw [HV.out]
              rintro e w6 ⟨⟨ve, rfl, hev⟩, hb⟩
              have HEV := hid hev
              have HB6 := hid (HBW.out.trans (hb.mono HBW.out.size))
              have HS6 := hid (Sl.on HSW.out hb)
              have HE6 := hid (HEW.out.on hb)
              clear hb hev HBW HSW HEW hcv
              go_wp2_with fail
              refine (is_any S _ _ ve w6 HE6.out HEV.out).mono ?_
              rw [show ((0 : Int) == 0) = true from rfl]
              rintro e w7 ⟨rfl, hb⟩
              have HB7 := hid (HB6.out.trans (hb.mono HB6.out.size))
              have hs7 := Sl.on HS6.out hb
              have hcv := conv_any hs7
              rw [HL.out] at hcv
              clear hb HB6 HS6 HE6 hs7
              go_wp2_with fail
              refine (special_any s w7).mono ?_
              rw [HSP.out]
              rintro e w8 ⟨rfl, hw⟩
              rw [hw]
              clear hw
              go_wp2
              go_ret
              exact ⟨rfl, HB7.out⟩
end Go.Proofs.YtdipikomfppihaaDoor
