/- Put together out of 4 texts. The walk of PageNothing. -/
import Derived.Test.YtaonhbmimaiiiaaGreatDoorGKbc
import Derived.Test.YtaonhbmimaiiiaaGreatDoorGKal
import Derived.Test.YtaonhbmimaiiiaaGreatDoorGKam
import Derived.Test.YtaonhbmimaiiiaaGreatDoorGKap
namespace Go.Proofs.YtaonhbmimaiiiaaGreatDoor
open Go.RowKit Go.Maps

section
variable {Real : World → Nat → DSt → (Nat → Prop) → Prop} {PR : World → Nat → Nat → Nat → Nat → (Nat → Prop) → Prop}
theorem byt1 : Byt [1] := fun x hx => by
  have : x = 1 := by simpa using hx
  omega
theorem contC_put_same {cont : Cont} {p : Nat} {l : List Int} (h : 1 ≤ l.length) : contC cont (putC noChg p l) p = some l := contC_some (by simp [putC]) h
theorem contC_put_other {cont : Cont} {ch : Chg} {p i : Nat} {l : List Int} (h : i ≠ p) : contC cont (putC ch p l) i = contC cont ch i := by
  unfold contC putC; rw [if_neg h]
set_option maxRecDepth 100000 in
set_option maxHeartbeats 8000000 in
theorem pageNothing_short (D : DevOk Real) (O : PairOk Real PR) (S : Nat → Addr) (n0 : Int) (A : Option Addr) (la ca : Nat) (w : World) (hS : Sent w S) (hl : la = 0 ∨ 248 < la) :
    Calls Tryz.prog 7 #[.int .i64 n0, .slice A la ca] w (Yes w) := by
  have HF := hid (first7_any D O w hS.seven)
  clear D O hS
  rcases hl with rfl | hl
  · go_enter Tryz.func7, Tryz.ntmps7
    go_wp2_with fail
    refine HF.out.mono ?_
    rintro e w1 ⟨rfl, hb1⟩
    have HB1 := hid hb1
    clear hb1
    go_wp2
    go_ret
    exact ⟨rfl, HB1.out⟩
  · have g1 : decide ((la : Int) < 1) = false := by simp; omega
    have g2 : decide ((248 : Int) < (la : Int)) = true := by simp; omega
    clear hl
    go_enter Tryz.func7, Tryz.ntmps7
    go_wp2_with fail
    refine HF.out.mono ?_
    rintro e w1 ⟨rfl, hb1⟩
    have HB1 := hid hb1
    clear hb1
    go_wp2
    go_ret
    exact ⟨rfl, HB1.out⟩
set_option maxRecDepth 100000 in
set_option maxHeartbeats 16000000 in
theorem pageNothing_any (D : DevOk Real) (O : PairOk Real PR) (S : Nat → Addr) (n0 : Int) (A : Option Addr) (la ca : Nat) (l : List Int) (w : World) (hS : Sent w S) (hl : Sl w w.heap.size A la ca l) (hy : Byt l) (h1 : 1 ≤ la) (h2 : la ≤ 248) :
    Calls Tryz.prog 7 #[.int .i64 n0, .slice A la ca] w (Yes w) := by
  have HF := hid (first7_any D O w hS.seven)
  have HOp := hid (fun (w' : World) (hb : Below w.heap.size w w') => opened_any D O 500 w' (hS.on hb).seven (by omega) (by omega))
  have HD := hid D
  have HO := hid O
  have HS := hid hS
  have HL := hid hl
  have HY := hid hy
  have HLn := hid (And.intro h1 h2)
  have HLe := hid (show l.length = la from hl.len)
  have hh : halN 500 = 125 := by decide
  have HK0 := hid (keeps_new (n := 500) (by omega) (by omega))
  obtain ⟨m, hm⟩ : ∃ m : Nat, n0 % 40 = (m : Int) := ⟨(n0 % 40).toNat, by omega⟩
  have HM := hid hm
  have hm39 : (m : Int) ≤ 39 := by omega
  obtain ⟨m1, hm1⟩ : ∃ m1 : Nat, m1 = m + 1 := ⟨_, rfl⟩
  have HM1 := hid (show (m : Int) + 1 = (m1 : Int) ∧ m1 = m + 1 from ⟨by omega, hm1⟩)
  have g1 : decide ((la : Int) < 1) = false := by simp; omega
  have g2 : decide ((248 : Int) < (la : Int)) = false := by simp; omega
  clear D O hS hl hy h1 h2 hm hm1
  go_enter Tryz.func7, Tryz.ntmps7
  go_wp2_with fail
  refine HF.out.mono ?_
  rintro e w1 ⟨rfl, hb1⟩
  have HB1 := hid hb1
  clear hb1
  go_wp2_with fail
  refine (number_any n0 40 _ (by omega) (by omega)).mono ?_
  rw [HM.out]
  rintro e w2 ⟨rfl, rfl⟩
  go_wp2_with fail
  refine (HOp.out _ HB1.out).mono ?_
  rintro e w3 ⟨g, d, T, rfl, hsh, hb⟩
  have HSh3 := hid hsh
  have HB3 := hid (HB1.out.trans (hb.mono HB1.out.size))
  have HS1 := hid (HS.out.on HB1.out)
  clear hsh hb
  go_wp2_with fail
  refine (sh_write HD.out HO.out HSh3.out (i := m) (by omega) (HL.out.on HB3.out) HLn.out.1 HLn.out.2 HY.out).mono ?_
  rintro e w4 ⟨rfl, T4, hsh, _, _⟩
  have HSh4 := hid hsh
  clear hsh
  have hfit : fitsB (noPS 0) (putC noChg m l) (halN 500) = true := fits_room HK0.out.fine (N := 40) (fun i hi => by
    rw [contC_put_other (by omega)]; rfl) (by rw [hh]; omega)
  have HK1 := hid (keeps_commit HK0.out (up_new (by omega)) (by omega) HSh4.out.chg.1 HSh4.out.chg.2 hfit).2.2
  go_wp2_with fail
  refine (sh_commit HD.out HO.out HS1.out.seven HSh4.out HK0.out (put_none (by omega)) hfit (by omega)).mono ?_
  obtain ⟨s1, hs1⟩ : ∃ s1, comDev (noPS 0) (putC noChg m l) (DSt.new 500) (halN 500) = s1 := ⟨_, rfl⟩
  obtain ⟨P1, hP1⟩ : ∃ P1, (commitTo (noPS 0) (putC noChg m l) (DSt.new 500) (halN 500)).2 = P1 := ⟨_, rfl⟩
  obtain ⟨cont1, hc1⟩ : ∃ cont1, contC (fun _ => none) (putC noChg m l) = cont1 := ⟨_, rfl⟩
  have HC1 := hid hc1
  rw [hs1, hP1] at HK1
  rw [hc1] at HK1
  rw [hs1, hP1]
  rintro e w5 ⟨rfl, T5, hsh, _, _⟩
  have HSh5 := hid hsh
  clear hsh hfit hs1 hP1 hc1
  obtain ⟨cl, hcl⟩ : ∃ cl, s1.calls = cl := ⟨_, rfl⟩
  have HCl := hid hcl
  obtain ⟨ep, hep⟩ : ∃ ep, P1.epoch = ep := ⟨_, rfl⟩
  have HEp := hid hep
  clear hcl hep
  go_wp2_with fail
  refine (sh_calls HD.out HO.out HSh5.out).mono ?_
  rw [HCl.out]
  rintro e w6 ⟨rfl, hsh, _⟩
  have HSh6 := hid hsh
  clear hsh
  go_wp2_with fail
  refine (sh_epoch HSh6.out).mono ?_
  rw [HEp.out]
  rintro e w7 ⟨rfl, rfl⟩
  go_wp2_with fail
  refine (sh_commitNone HD.out HO.out HSh6.out (by rw [keys_none]; rfl)).mono ?_
  rintro e w8 ⟨rfl, T8, hsh, _, _⟩
  have HSh8 := hid hsh
  clear hsh
  go_wp2_with fail
  refine (sh_calls HD.out HO.out HSh8.out).mono ?_
  rw [HCl.out]
  rintro e w9 ⟨rfl, hsh, _⟩
  have HSh9 := hid hsh
  clear hsh
  go_wp2_with fail
  refine (sh_epoch HSh9.out).mono ?_
  rw [HEp.out]
  rintro e w10 ⟨rfl, rfl⟩
  go_wp2_with fail
  refine (sh_write HD.out HO.out (HSh9.out.on HD.out HO.out ((Below.refl _ _).alloc (Nat.le_refl _) _)) (i := m) (by omega) (sl_one _ 1) (by omega) (by omega) byt1).mono ?_
  rintro e w11 ⟨rfl, T11, hsh, _, _⟩
  have HSh11 := hid hsh
  clear hsh
  go_wp2_with fail
  refine (sh_drop HD.out HO.out HSh11.out (i := m) (by omega)).mono ?_
  rintro e w12 ⟨rfl, T12, hsh, _, _⟩
  have HSh12 := hid hsh
  have HB12 := hid (HB1.out.trans (hsh.below.mono HB1.out.size))
  clear hsh
  go_wp2_with fail
  rw [HM1.out.1]
  refine (sh_write HD.out HO.out HSh12.out (i := m1) (by have := HM1.out.2; omega) (HL.out.on HB12.out) HLn.out.1 HLn.out.2 HY.out).mono ?_
  rintro e w13 ⟨rfl, T13, hsh, _, _⟩
  have HSh13 := hid hsh
  clear hsh
  go_wp2_with fail
  refine (sh_abort HD.out HO.out HSh13.out).mono ?_
  rintro e w14 ⟨rfl, T14, hsh, _, _⟩
  have HSh14 := hid hsh
  have HB14 := hid (HB1.out.trans (hsh.below.mono HB1.out.size))
  clear hsh
  go_wp2_with fail
  refine (sh_readYes HD.out HO.out HSh14.out HK1.out (by omega) (by omega) (i := m) (l := l) (by omega) (by rw [noChg_cont, ← HC1.out]; exact contC_put_same (by rw [HLe.out]; exact HLn.out.1))).mono ?_
  rintro e w15 ⟨⟨A15, k15, c15, rfl, hs15, _⟩, T15, hsh, _, _⟩
  have HSl15 := hid hs15
  have HSh15 := hid hsh
  clear hs15 hsh
  go_wp2_with fail
  rw [HM1.out.1]
  refine (sh_readNo HD.out HO.out HS1.out.seven HSh15.out HK1.out.fine (i := m1) (by have := HM1.out.2; omega) (by rw [noChg_cont, ← HC1.out, contC_put_other (by have := HM1.out.2; omega)]; rfl)).mono ?_
  rintro e w16 ⟨⟨v16, rfl, hv⟩, ⟨T16, hsh, _, _⟩, hb⟩
  have HV16 := hid hv
  have HSh16 := hid hsh
  have HSl16 := hid (show Sl w16 w16.heap.size A15 k15 c15 l from HSl15.out.on hb)
  have HS16 := hid (HS1.out.on hsh.below)
  clear hv hsh hb
  go_wp2_with fail
  refine (is_any S _ _ _ _ HS16.out HV16.out).mono ?_
  rintro e w17 ⟨rfl, hb⟩
  have HSh17 := hid (HSh16.out.on HD.out HO.out hb)
  have HSl17 := hid (HSl16.out.on hb)
  have HB17 := hid (HB1.out.trans (HSh17.out.below.mono HB1.out.size))
  clear hb
  go_wp2_with fail
  refine (same_any _ _ _ _ _ _ _ _ _ _ _ HSl17.out (HL.out.on HB17.out)).mono ?_
  rintro e w18 ⟨rfl, k18, rfl⟩
  rw [same_self]
  have HSh18 := hid (HSh17.out.on HD.out HO.out (below_drewN (Below.refl _ _) k18))
  go_wp2_with fail
  refine (sh_changed HSh18.out).mono ?_
  rw [keys_none]
  rintro e w19 ⟨rfl, rfl⟩
  go_wp2_with fail
  refine (sh_calls HD.out HO.out HSh18.out).mono ?_
  rw [HCl.out]
  rintro e w20 ⟨rfl, hsh, _⟩
  have HSh20 := hid hsh
  clear hsh
  go_wp2_with fail
  refine (sh_commitNone HD.out HO.out HSh20.out (by rw [keys_none]; rfl)).mono ?_
  rintro e w21 ⟨rfl, T21, hsh, _, _⟩
  have HSh21 := hid hsh
  clear hsh
  go_wp2_with fail
  refine (sh_calls HD.out HO.out HSh21.out).mono ?_
  rw [HCl.out]
  rintro e w22 ⟨rfl, hsh, _⟩
  have HB22 := hid (HB1.out.trans (hsh.below.mono HB1.out.size))
  clear hsh
  go_wp2
  go_ret
  exact ⟨rfl, HB22.out⟩
end
end Go.Proofs.YtaonhbmimaiiiaaGreatDoor
namespace Go.Proofs.YtaonhbmimaiiiaaGreatDoor
open Go.RowKit Go.Maps

section
variable {Real : World → Nat → DSt → (Nat → Prop) → Prop} {PR : World → Nat → Nat → Nat → Nat → (Nat → Prop) → Prop}
theorem byt_one {x : Int} (h0 : 0 ≤ x) (h1 : x ≤ 255) : Byt [x] := fun y hy => by
  have : y = x := by simpa using hy
  omega
/-- fifteen bytes -/
def hvL (hv : Nat → Int) : List Value := (List.range 15).map fun p => .int .u8 (hv p)
theorem hvL_get (hv : Nat → Int) {p : Nat} (h : p < 15) : (hvL hv)[p]? = some (.int .u8 (hv p)) := by
  unfold hvL; rw [List.getElem?_map, List.getElem?_range h]; rfl
def hvS (hv : Nat → Int) (p : Nat) (x : Int) : Nat → Int := fun j => if j = p then x else hv j
theorem hvL_set (hv : Nat → Int) {p : Nat} (h : p < 15) (x : Int) : (hvL hv).set p (.int .u8 x) = hvL (hvS hv p x) := by
  apply List.ext_getElem?
  intro j
  rw [List.getElem?_set]
  have hl : (hvL hv).length = 15 := by simp [hvL]
  by_cases e : p = j
  · subst e
    rw [if_pos rfl, if_pos (by omega), hvL_get _ h]
    simp [hvS]
  · rw [if_neg e]
    rcases Nat.lt_or_ge j 15 with hj | hj
    · rw [hvL_get _ hj, hvL_get _ hj]
      simp only [hvS, if_neg (fun e2 : j = p => e e2.symm)]
    · rw [List.getElem?_eq_none (by omega), List.getElem?_eq_none (by simp [hvL]; omega)]
/-- what the pages are to have -/
def hvC (hv : Nat → Int) : Cont := fun p => if p < 15 ∧ 0 < hv p then some [hv p] else none
theorem hvC_set (hv : Nat → Int) {p : Nat} (h : p < 15) {x : Int} (hx : 0 < x) (i : Nat) : hvC (hvS hv p x) i = if i = p then some [x] else hvC hv i := by
  unfold hvC hvS
  by_cases e : i = p
  · subst e; rw [if_pos ⟨h, by rw [if_pos rfl]; exact hx⟩, if_pos rfl, if_pos rfl]
  · simp only [if_neg e]
theorem contC_put (cont : Cont) (ch : Chg) (p i : Nat) {l : List Int} (h : 1 ≤ l.length) : contC cont (putC ch p l) i = if i = p then some l else contC cont ch i := by
  by_cases e : i = p
  · subst e; rw [if_pos rfl]; exact contC_some (by simp [putC]) h
  · rw [if_neg e]; exact contC_put_other e
theorem keys_put_pos (ch : Chg) {p : Nat} (hp : p < 256) (l : List Int) : 0 < (keysOf (putC ch p l)).length := put_none hp
/-- while the commits go on -/
def LgAt (Real : World → Nat → DSt → (Nat → Prop) → Prop) (PR : World → Nat → Nat → Nat → Nat → (Nat → Prop) → Prop) (S : Nat → Addr) (w1 : World) (d g hb i k : Nat) (wr : World) : Prop :=
  ∃ T s P ch cont hv, Shop Real PR S w1 wr d g 320 (1000 * i) 7 T s P ch ∧ Keeps s 320 (1000 * i) P cont ∧ Blk wr hb 72 (hvL hv).toArray ∧ ¬ T hb ∧ P.epoch = (i : Int) ∧ (∀ p, contC cont ch p = hvC hv p) ∧ (0 < k → 0 < (keysOf ch).length) ∧ (k = 0 → ch = noChg) ∧ w1.heap.size ≤ hb ∧ ∀ p, 0 ≤ hv p ∧ hv p ≤ 255
set_option maxRecDepth 100000 in
set_option maxHeartbeats 16000000 in
theorem pageLong_any (D : DevOk Real) (O : PairOk Real PR) (S : Nat → Addr) (n0 v0 : Int) (w : World) (hS : Sent7 w S) :
    Calls Tryz.prog 8 #[.int .i64 n0, .int .i64 v0] w (Yes w) := by
  have HF := hid (first7_any D O w hS)
  have HOp := hid (fun (w' : World) (hb : Below w.heap.size w w') => opened_any D O 320 w' (hS.on hb) (by omega) (by omega))
  have HD := hid D
  have HO := hid O
  have HS := hid hS
  have hh : halN 320 = 80 := by decide
  have HK0 := hid (keeps_new (n := 320) (by omega) (by omega))
  obtain ⟨m, hm⟩ : ∃ m : Nat, n0 % 60 = (m : Int) := ⟨(n0 % 60).toNat, by omega⟩
  have HM := hid hm
  have hm59 : (m : Int) ≤ 59 := by omega
  obtain ⟨v, hv⟩ : ∃ v : Nat, v0 % 6 = (v : Int) := ⟨(v0 % 6).toNat, by omega⟩
  have HV := hid hv
  have hv5 : (v : Int) ≤ 5 := by omega
  obtain ⟨wd, hwd⟩ : ∃ wd : Nat, wd = v + 1 := ⟨_, rfl⟩
  have HW := hid (show (v : Int) + 1 = (wd : Int) ∧ wd = v + 1 from ⟨by omega, hwd⟩)
  clear D O hS hm hv hwd
  go_enter Tryz.func8, Tryz.ntmps8
  go_wp2_with fail
  refine HF.out.mono ?_
  rintro e w1 ⟨rfl, hb1⟩
  have HB1 := hid hb1
  clear hb1
  go_wp2_with fail
  refine (number_any n0 60 _ (by omega) (by omega)).mono ?_
  rw [HM.out]
  rintro e w2 ⟨rfl, rfl⟩
  go_wp2_with fail
  refine (number_any v0 6 _ (by omega) (by omega)).mono ?_
  rw [HV.out]
  rintro e w2 ⟨rfl, rfl⟩
  go_wp2_with fail
  refine (HOp.out _ HB1.out).mono ?_
  rintro e w3 ⟨g, d, T, rfl, hsh, hb⟩
  have HSh3 := hid hsh
  have HB3 := hid (HB1.out.trans (hb.mono HB1.out.size))
  have HS1 := hid (HS.out.on HB1.out)
  clear hsh hb
  go_upto_region 10 with fail
  rw [HW.out.1]
  obtain ⟨W4, hW4⟩ : ∃ W4, w3.alloc (.cells #[.int .u8 0, .int .u8 0, .int .u8 0, .int .u8 0, .int .u8 0, .int .u8 0, .int .u8 0, .int .u8 0, .int .u8 0, .int .u8 0, .int .u8 0, .int .u8 0, .int .u8 0, .int .u8 0, .int .u8 0] 72) = W4 := ⟨_, rfl⟩
  obtain ⟨hb, hhb⟩ : ∃ hb, w3.heap.size = hb := ⟨_, rfl⟩
  have h4 : LgAt Real PR S w1 d g hb 0 0 W4 := by
    have z1 : Below w3.heap.size w3 W4 := by rw [← hW4]; exact (Below.refl _ _).alloc (Nat.le_refl _) _
    have z2 : Blk W4 w3.heap.size 72 (hvL (fun _ => 0)).toArray := by rw [← hW4]; exact Blk.new w3 _ _
    rw [hhb] at z2
    refine ⟨T, _, _, _, _, fun _ => 0, HSh3.out.on HD.out HO.out z1, HK0.out, z2, fun h => ?_, rfl, fun p => ?_, fun h => by omega, fun _ => rfl, ?_, fun _ => ⟨Int.le_refl 0, (by decide : (0 : Int) ≤ 255)⟩⟩
    · have := HSh3.out.lt HD.out HO.out hb h; omega
    · rw [noChg_cont]; unfold hvC; rw [if_neg (fun h => by have h2 : (0 : Int) < 0 := h.2; omega)]
    · rw [← hhb]; exact HSh3.out.below.size
  have H4 := hid h4
  rw [hW4, hhb]
  clear h4 hW4 hhb
  go_wp2_with fail
  go_loopw [9] (fun iv wr => ∃ i : Nat, i ≤ m ∧ iv = .int .i64 (i : Int) ∧ LgAt Real PR S w1 d g hb i 0 wr) (fun iv _ => m - (intOf iv).toNat)
  case atStart => exact ⟨0, Nat.zero_le _, rfl, H4.out⟩
  case round =>
    obtain ⟨i, hi, rfl, hlg⟩ := hrel
    have HLg := hid hlg
    clear hlg
    by_cases hlt : i < m
    · have him : (i : Int) < m := by omega
      go_wp2_with fail
      go_loopw [10] (fun kv wx => ∃ k : Nat, k ≤ wd ∧ kv = .int .i64 (k : Int) ∧ LgAt Real PR S w1 d g hb i k wx) (fun kv _ => wd - (intOf kv).toNat)
      case atStart => exact ⟨0, Nat.zero_le _, rfl, HLg.out⟩
      case round =>
        rename World => wx
        obtain ⟨k, hk, rfl, hlg⟩ := hrel
        obtain ⟨Tx, s, P, ch, cont, hv, l1, l2, l3, l4, l5, l6, l7, l8, l9, l10⟩ := hlg
        have HSh := hid l1
        have HKp := hid l2
        have HBk := hid l3
        have HNt := hid (And.intro l4 l9)
        have HEp := hid l5
        have HCt := hid l6
        have HKy := hid l7
        have HHv := hid l10
        clear l1 l2 l3 l4 l5 l6 l7 l8 l9 l10
        by_cases hkt : k < wd
        · have hkw : (k : Int) < wd := by omega
          have hk6 : (k : Int) ≤ 6 := by have := HW.out.2; omega
          obtain ⟨p, hp⟩ : ∃ p : Nat, ((i : Int) * 3 + (k : Int)) % 15 = (p : Int) := ⟨(((i : Int) * 3 + (k : Int)) % 15).toNat, by omega⟩
          have HP := hid (show p < 15 from by omega)
          have hp15 : (p : Int) < 15 := by omega
          have c0 : wx.cell? ⟨hb, p, none⟩ = some (.int .u8 (hv p)) := by
            rw [Blk.cell HBk.out]
            simp only [List.getElem?_toArray]
            exact hvL_get hv HP.out
          have f0 := Blk.free HBk.out p
          have hby : ((i : Int) + 1) % 256 = (i : Int) + 1 := by omega
          go_upto_region 18 with fail
          obtain ⟨W5, hW5⟩ : ∃ W5, wx.setCell ⟨hb, p, none⟩ (.int .u8 ((i : Int) + 1)) = W5 := ⟨_, rfl⟩
          have z1 : Blk W5 hb 72 (hvL (hvS hv p ((i : Int) + 1))).toArray := by
            rw [← hW5]
            have := HBk.out.put p (.int .u8 ((i : Int) + 1))
            rwa [List.setIfInBounds_toArray, hvL_set hv HP.out] at this
          have ho5 : Only (fun x => x = hb) wx W5 := by rw [← hW5]; exact Only.put (F := fun x => x = hb) (Only.refl _ _) (p := ⟨hb, p, none⟩) rfl _
          have hs5 := HSh.out.beside HD.out HO.out ho5 (fun x hx e => HNt.out.1 (e ▸ hx)) (fun x e => by rw [e]; exact HNt.out.2)
          have HB5 := hid z1
          have HS5 := hid hs5
          rw [hW5, hp]
          clear z1 ho5 hs5 hW5 c0 f0
          go_wp2_with fail
          refine (sh_write HD.out HO.out (HS5.out.on HD.out HO.out ((Below.refl _ _).alloc (Nat.le_refl _) _)) (i := p) (by have := HP.out; omega) (sl_one _ ((i : Int) + 1)) (by omega) (by omega) (byt_one (by omega) (by omega))).mono ?_
          rintro e w6 ⟨rfl, T6, hsh, ho6, hT6⟩
          have HN := hid (show LgAt Real PR S w1 d g hb i (k + 1) w6 from by
            have hlt5 := HB5.out.lt
            have hne : ¬ Tx hb := HNt.out.1
            have b6 := (Below.refl W5.heap.size W5).alloc (Nat.le_refl _) (.cells #[.int .u8 ((i : Int) + 1)] 5)
            have hbk := HB5.out.below b6 hlt5
            refine ⟨T6, s, P, _, cont, hvS hv p ((i : Int) + 1), hsh, HKp.out, (ho6.block hb hbk.lt hne).trans hbk, fun h => ?_, HEp.out, fun j => ?_, fun _ => keys_put_pos ch (by have := HP.out; omega) _, fun h => by omega, HNt.out.2, fun j => ?_⟩
            · rcases hT6 hb h with h | h
              · exact hne h
              · have := hbk.lt; omega
            · rw [contC_put (l := [(i : Int) + 1]) _ _ _ _ (Nat.le_refl 1), hvC_set hv HP.out (by omega), HCt.out j]
            · unfold hvS
              split
              · omega
              · exact HHv.out j)
          clear hsh ho6 hT6
          go_wp2
          go_roundw
          case rel => exact ⟨k + 1, by omega, by go_num, HN.out⟩
          case measure => simp [intOf]; omega
        · have hkw : k = wd := by omega
          have hnk : decide (k < wd) = false := by simpa using hkt
          have hfit : fitsB P ch (halN 320) = true := fits_room HKp.out.fine (N := 15) (fun j hj => by
            rw [HCt.out j]; unfold hvC; rw [if_neg (by omega)]) (by rw [hh]; omega)
          have hpos := HKy.out (by have := HW.out.2; omega)
          have HKc := hid (keeps_commit HKp.out HSh.out.pd.1 (by omega) HSh.out.chg.1 HSh.out.chg.2 hfit).2.2
          go_wp2_with fail
          refine (sh_commit HD.out HO.out HS1.out HSh.out HKp.out hpos hfit (by omega)).mono ?_
          rintro e w7 ⟨rfl, T7, hsh, ho7, hT7⟩
          have HN := hid (show LgAt Real PR S w1 d g hb (i + 1) 0 w7 from by
            have e : contC cont ch = hvC hv := funext HCt.out
            refine ⟨T7, _, _, noChg, hvC hv, hv, by rw [show 1000 * (i + 1) = 1000 * i + 1000 by omega]; exact hsh, by rw [show 1000 * (i + 1) = 1000 * i + 1000 by omega, ← e]; exact HKc.out, (ho7.block hb HBk.out.lt HNt.out.1).trans HBk.out, fun h => ?_, by rw [commitTo_epoch, HEp.out]; omega, fun j => by rw [noChg_cont], fun h => by omega, fun _ => rfl, HNt.out.2, HHv.out⟩
            rcases hT7 hb h with h | h
            · exact HNt.out.1 h
            · have := HBk.out.lt; omega)
          clear hsh ho7 hT7 hfit hpos
          go_wp2
          go_roundw
          case rel => exact ⟨i + 1, by omega, by go_num, HN.out⟩
          case measure => simp [intOf]; omega
    · have him : i = m := by omega
      have hni : decide (i < m) = false := by simpa using hlt
      obtain ⟨Tx, s, P, ch, cont, hv, l1, l2, l3, l4, l5, l6, l7, l8, l9, l10⟩ := HLg.out
      have e := l8 rfl
      subst e
      have HSh := hid l1
      have HKp := hid l2
      have HBk := hid l3
      have HNt := hid (And.intro l4 l9)
      have HCt := hid (show ∀ p, cont p = hvC hv p from fun p => by have := l6 p; rwa [noChg_cont] at this)
      have HHv := hid l10
      have HEp := hid (show P.epoch = (m : Int) from by rw [l5, him])
      clear l1 l2 l3 l4 l5 l6 l7 l8 l9 l10
      go_wp2_with fail
      refine (sh_open HD.out HO.out HS1.out HSh.out (by omega) HKp.out).mono ?_
      rintro e w5 ⟨g5, T5, rfl, hsh, ho5, hT5⟩
      have HSh5 := hid hsh
      have HBk5 := hid ((ho5.block hb HBk.out.lt HNt.out.1).trans HBk.out : Blk w5 hb 72 (hvL hv).toArray)
      have HNt5 := hid (show ¬ T5 hb from fun h => by
        rcases hT5 hb h with h | h
        · exact HNt.out.1 h
        · have := HBk.out.lt; omega)
      clear hsh ho5 hT5
      go_wp2_with fail
      refine (sh_epoch HSh5.out).mono ?_
      rw [HEp.out]
      rintro e w6 ⟨rfl, rfl⟩
      go_wp2
      go_loopw [14] (fun iv wr => ∃ j : Nat, j ≤ 15 ∧ iv = .int .i64 (j : Int) ∧ ∃ T, Shop Real PR S w1 wr d g5 320 (1000 * i) 7 T s P noChg ∧ Blk wr hb 72 (hvL hv).toArray ∧ ¬ T hb) (fun iv _ => 15 - (intOf iv).toNat)
      case atStart => exact ⟨0, Nat.zero_le _, rfl, T5, HSh5.out, HBk5.out, HNt5.out⟩
      case round =>
        rename World => wx
        obtain ⟨j, hj, rfl, T, hsh, hbk, hnt⟩ := hrel
        have HShx := hid hsh
        have HBkx := hid hbk
        have HNtx := hid hnt
        clear hsh hbk hnt
        by_cases hjt : j < 15
        · have hj15 : (j : Int) < 15 := by omega
          have HHj := hid (HHv.out j)
          by_cases hpos : 0 < hv j
          · have hcj : contC cont noChg j = some [hv j] := by rw [noChg_cont, HCt.out j]; unfold hvC; rw [if_pos ⟨hjt, hpos⟩]
            go_wp2_with fail
            refine (sh_readYes HD.out HO.out HShx.out HKp.out (by omega) (by omega) (i := j) (by omega) hcj).mono ?_
            rintro e w7 ⟨⟨A7, k7, c7, rfl, hs7, hA7⟩, T7, hsh, ho7, hT7⟩
            have HSl7 := hid hs7
            have HSh7 := hid hsh
            have hbk7 : Blk w7 hb 72 (hvL hv).toArray := (ho7.block hb HBkx.out.lt HNtx.out).trans HBkx.out
            have HBk7 := hid hbk7
            have HNt7 := hid (show ¬ T7 hb from fun h => by
              rcases hT7 hb h with h | h
              · exact HNtx.out h
              · have := HBkx.out.lt; omega)
            have c0 : w7.drew.cell? ⟨hb, j, none⟩ = some (.int .u8 (hv j)) := by
              show w7.cell? _ = _
              rw [Blk.cell hbk7]
              simp only [List.getElem?_toArray]
              exact hvL_get hv hjt
            have hgt : decide ((0 : Int) < hv j) = true := by simpa using hpos
            have HCe := hid (fun (x : Int) => (show (w7.drew.alloc (.cells #[.int .u8 x] 5)).cell? ⟨hb, j, none⟩ = some (.int .u8 (hv j)) from (World.cell?_alloc_some w7.drew _ _ (by rw [c0]; rfl)).trans c0))
            have k1 := HCe.out (hv j)
            have HSa := hid (fun (x : Int) => same_any _ _ _ _ _ _ _ _ _ _ (w7.drew.alloc (.cells #[.int .u8 x] 5)) (HSl7.out.on ((Below.refl w7.heap.size w7).drew.alloc (Nat.le_refl _) _)) (sl_one w7.drew x))
            clear hs7 hsh ho7 hT7 hbk7 hA7
            go_upto_region 29 with fail
            go_region_held3 (fun w' => w'.cell? ⟨hb, j, none⟩ = some (.int .u8 (hv j))) (first | exact c0 | exact k1 | exact k2) (first | (go_at_call 34; refine (HSa.out _).mono ?_; rintro e w8 ⟨rfl, q8, rfl⟩; rw [same_self]; have k2 : ((w7.drew.alloc (.cells #[.int .u8 (hv j)] 5)).drewN q8).cell? ⟨hb, j, none⟩ = some (.int .u8 (hv j)) := k1; have HB8 := hid (below_drewN ((Below.refl w7.heap.size w7).drew.alloc (Nat.le_refl _) (.cells #[.int .u8 (hv j)] 5)) q8)))
            have HN := hid (fun (W : World) (hb8 : Below w7.heap.size w7 W) => (show ∃ T, Shop Real PR S w1 W d g5 320 (1000 * i) 7 T s P noChg ∧ Blk W hb 72 (hvL hv).toArray ∧ ¬ T hb from ⟨T7, HSh7.out.on HD.out HO.out hb8, HBk7.out.below hb8 HBk7.out.lt, HNt7.out⟩))
            have HB9 := hid (below_drewN ((Below.refl w7.heap.size w7).alloc (Nat.le_refl _) (.cells #[.int .u8 (hv j)] 5)) (1 + q8))
            clear c0 k1 k2 HB8
            go_wp2
            go_roundw
            case rel => exact ⟨j + 1, by omega, by go_num, HN.out _ HB9.out⟩
            case measure => simp [intOf]; omega
          · have hz : hv j = 0 := by have := HHj.out; omega
            have hcj : contC cont noChg j = none := by rw [noChg_cont, HCt.out j]; unfold hvC; rw [if_neg (fun h => hpos h.2)]
            go_wp2_with fail
            refine (sh_readNo HD.out HO.out HS1.out HShx.out HKp.out.fine (i := j) (by omega) hcj).mono ?_
            rintro e w7 ⟨⟨v7, rfl, hv7⟩, ⟨T7, hsh, ho7, hT7⟩, _⟩
            obtain ⟨j7, _, _, rfl⟩ := hv7.one (by decide)
            have HSh7 := hid hsh
            have hbk7 : Blk w7 hb 72 (hvL hv).toArray := (ho7.block hb HBkx.out.lt HNtx.out).trans HBkx.out
            have HBk7 := hid hbk7
            have HNt7 := hid (show ¬ T7 hb from fun h => by
              rcases hT7 hb h with h | h
              · exact HNtx.out h
              · have := HBkx.out.lt; omega)
            have c0 : w7.cell? ⟨hb, j, none⟩ = some (.int .u8 0) := by
              rw [Blk.cell hbk7]
              simp only [List.getElem?_toArray]
              rw [hvL_get hv hjt, hz]
            clear hsh ho7 hT7 hbk7 hv7
            go_upto_region 29 with fail
            have HN := hid (fun (W : World) (hb8 : Below w7.heap.size w7 W) => (show ∃ T, Shop Real PR S w1 W d g5 320 (1000 * i) 7 T s P noChg ∧ Blk W hb 72 (hvL hv).toArray ∧ ¬ T hb from ⟨T7, HSh7.out.on HD.out HO.out hb8, HBk7.out.below hb8 HBk7.out.lt, HNt7.out⟩))
            go_quiet (fail)
            go_wp2
            go_roundw
            case rel => exact ⟨j + 1, by omega, by go_num, HN.out _ (below_drewN (Below.refl _ _) _)⟩
            case measure => simp [intOf]; omega
        · have hnj : decide (j < 15) = false := by simpa using hjt
          have HBf := hid (HB1.out.trans (HShx.out.below.mono HB1.out.size))
          go_wp2
          go_ret
          exact ⟨rfl, HBf.out⟩
end
end Go.Proofs.YtaonhbmimaiiiaaGreatDoor
namespace Go.Proofs.YtaonhbmimaiiiaaGreatDoor
open Go.RowKit Go.Maps

section
variable {Real : World → Nat → DSt → (Nat → Prop) → Prop} {PR : World → Nat → Nat → Nat → Nat → (Nat → Prop) → Prop}
theorem byt_two {x y : Int} (h0 : 0 ≤ x) (h1 : x ≤ 255) (h2 : 0 ≤ y) (h3 : y ≤ 255) : Byt [x, y] := fun z hz => by
  rcases List.mem_cons.1 hz with rfl | hz
  · exact ⟨h0, h1⟩
  · have : z = y := by simpa using hz
    omega
theorem sl_two (w : World) (x y : Int) : Sl (w.alloc (.cells #[.int .u8 x, .int .u8 y] 5)) (w.alloc (.cells #[.int .u8 x, .int .u8 y] 5)).heap.size (some ⟨w.heap.size, 0, none⟩) 2 2 [x, y] := by
  refine ⟨rfl, Nat.le_refl _, by unfold maxLen; omega, (fun h => by cases h), fun ad ha _ => ?_⟩
  cases ha
  have hb := Blk.new w 5 #[.int .u8 x, .int .u8 y]
  refine ⟨hb.lt, fun j z hz => ?_⟩
  rw [add0, Blk.cell hb]
  rcases j with _ | _ | j
  · simp at hz; subst hz; rfl
  · simp at hz; subst hz; rfl
  · simp at hz
/-- what the pages are to have behind r rounds -/
def roomC (n r : Nat) : Cont := fun p => if p < n ∧ 0 < r then some [(r : Int), (p : Int)] else none
set_option maxRecDepth 100000 in
set_option maxHeartbeats 32000000 in
theorem pageRoom_any (D : DevOk Real) (O : PairOk Real PR) (S : Nat → Addr) (b0 n0 r0 : Int) (w : World) (hS : Sent w S) :
    Calls Tryz.prog 6 #[.int .i64 b0, .int .i64 n0, .int .i64 r0] w (Yes w) := by
  have HF := hid (first7_any D O w hS.seven)
  have HD := hid D
  have HO := hid O
  have HS := hid hS
  obtain ⟨bb, hbb⟩ : ∃ bb : Nat, b0 % 500 = (bb : Int) := ⟨(b0 % 500).toNat, by omega⟩
  have HBb := hid hbb
  have hb499 : (bb : Int) ≤ 499 := by omega
  obtain ⟨N, hN⟩ : ∃ N : Nat, N = bb + 300 := ⟨_, rfl⟩
  have HN := hid (show (bb : Int) + 300 = (N : Int) ∧ 300 ≤ N ∧ N ≤ 800 from ⟨by omega, by omega, by omega⟩)
  have HOp := hid (fun (w' : World) (hb : Below w.heap.size w w') => opened_any D O N w' (hS.on hb).seven (by omega) (by omega))
  obtain ⟨n, hn⟩ : ∃ n : Nat, n0 % 120 = (n : Int) := ⟨(n0 % 120).toNat, by omega⟩
  have HNn := hid hn
  have hn119 : (n : Int) ≤ 119 := by omega
  obtain ⟨v, hv⟩ : ∃ v : Nat, r0 % 5 = (v : Int) := ⟨(r0 % 5).toNat, by omega⟩
  have HV := hid hv
  have hv4 : (v : Int) ≤ 4 := by omega
  obtain ⟨R, hR⟩ : ∃ R : Nat, R = v + 1 := ⟨_, rfl⟩
  have HR := hid (show (v : Int) + 1 = (R : Int) ∧ R = v + 1 from ⟨by omega, hR⟩)
  have HK0 := hid (keeps_new (n := N) (by omega) (by omega))
  have HHl := hid (show hal (N : Int) = (halN N : Int) from hal_nat N)
  clear D O hS hbb hN hn hv hR
  go_enter Tryz.func6, Tryz.ntmps6
  go_wp2_with fail
  refine HF.out.mono ?_
  rintro e w1 ⟨rfl, hb1⟩
  have HB1 := hid hb1
  clear hb1
  go_wp2_with fail
  refine (number_any b0 500 _ (by omega) (by omega)).mono ?_
  rw [HBb.out]
  rintro e w2 ⟨rfl, rfl⟩
  go_wp2_with fail
  refine (number_any n0 120 _ (by omega) (by omega)).mono ?_
  rw [HNn.out]
  rintro e w2 ⟨rfl, rfl⟩
  go_wp2_with fail
  refine (number_any r0 5 _ (by omega) (by omega)).mono ?_
  rw [HV.out]
  rintro e w2 ⟨rfl, rfl⟩
  go_wp2_with fail
  rw [HN.out.1, HR.out.1]
  refine (refGeo_ok (N : Int) _ (by have := HN.out; omega) (by have := HN.out; omega)).mono ?_
  rw [HHl.out]
  rintro e w3 ⟨rfl, hb3⟩
  have HB3 := hid (HB1.out.trans (hb3.mono HB1.out.size))
  clear hb3
  obtain ⟨H, hH⟩ : ∃ H, halN N = H := ⟨_, rfl⟩
  have HH := hid hH
  have HH5 := hid (show H ≤ 512 from by rw [← hH]; unfold halN; omega)
  rw [hH]
  clear hH
  go_upto_region 8 with fail
  obtain ⟨W4, hW4⟩ : ∃ W4, w3.alloc (.cells #[.int .i64 (N : Int), .int .i64 (H : Int)] 61) = W4 := ⟨_, rfl⟩
  have HK4 := hid (show Blk W4 w3.heap.size 61 #[.int .i64 (N : Int), .int .i64 (H : Int)] from by rw [← hW4]; exact Blk.new w3 _ _)
  have HB4 := hid (show Below w.heap.size w W4 from by rw [← hW4]; exact HB3.out.alloc HB3.out.size _)
  obtain ⟨gb, hgb⟩ : ∃ gb, w3.heap.size = gb := ⟨_, rfl⟩
  rw [hgb] at HK4
  rw [hW4, hgb]
  clear hW4 hgb
  go_wp2_with fail
  refine (HOp.out _ HB4.out).mono ?_
  rintro e w5 ⟨g, d, T, rfl, hsh, hb5⟩
  have HSh5 := hid hsh
  have HK5 := hid (HK4.out.below hb5 HK4.out.lt)
  have HS4 := hid (HS.out.on HB4.out)
  have HGf := hid (fun (wx : World) (hb : Below W4.heap.size W4 wx) => (HK4.out.below hb HK4.out.lt).cell 1)
  clear hsh hb5
  go_wp2
  go_loopw [13, 12] (fun iv kv wr => ∃ r : Nat, r ≤ R ∧ iv = .int .i64 (r : Int) ∧ kv = .int .i64 (r : Int) ∧ ∃ T s P, Shop Real PR S W4 wr d g N (1000 * r) 7 T s P noChg ∧ Keeps s N (1000 * r) P (roomC n r)) (fun iv _ _ => R - (intOf iv).toNat)
  case atStart => exact ⟨0, Nat.zero_le _, rfl, rfl, T, _, _, HSh5.out, by
    have e : roomC n 0 = fun _ => none := by funext p; unfold roomC; rw [if_neg (by omega)]
    rw [e]; exact HK0.out⟩
  case round =>
    obtain ⟨r, hr, rfl, rfl, T, s, P, hsh, hkp⟩ := hrel
    have HSh := hid hsh
    have HKp := hid hkp
    clear hsh hkp
    by_cases hlt : r < R
    · have hrR : (r : Int) < R := by omega
      have hr5 : (r : Int) ≤ 4 := by have := HR.out.2; omega
      go_wp2_with fail
      go_loopw [14] (fun kv wx => ∃ i : Nat, i ≤ n ∧ kv = .int .i64 (i : Int) ∧ ∃ T ch, Shop Real PR S W4 wx d g N (1000 * r) 7 T s P ch ∧ (∀ p, contC (roomC n r) ch p = if p < i then some [(r : Int) + 1, (p : Int)] else roomC n r p) ∧ (0 < i → 0 < (keysOf ch).length) ∧ (i = 0 → ch = noChg)) (fun kv _ => n - (intOf kv).toNat)
      case atStart => exact ⟨0, Nat.zero_le _, rfl, T, noChg, HSh.out, fun p => by rw [noChg_cont, if_neg (by omega)], fun h => by omega, fun _ => rfl⟩
      case round =>
        rename World => wx
        obtain ⟨i, hi, rfl, Tx, ch, hsh, hct, hky, hk0⟩ := hrel
        have HShx := hid hsh
        have HCt := hid hct
        have HKy := hid (And.intro hky hk0)
        clear hsh hct hky hk0
        by_cases hit : i < n
        · have hin : (i : Int) < n := by omega
          have hby : ((r : Int) + 1) % 256 = (r : Int) + 1 := by omega
          have hby2 : (i : Int) % 256 = (i : Int) := by omega
          go_wp2_with fail
          refine (sh_write HD.out HO.out (HShx.out.on HD.out HO.out ((Below.refl _ _).alloc (Nat.le_refl _) _)) (i := i) (by omega) (sl_two _ ((r : Int) + 1) (i : Int)) (by omega) (by omega) (byt_two (by omega) (by omega) (by omega) (by omega))).mono ?_
          rintro e w6 ⟨rfl, T6, hsh, _, _⟩
          have HSh6 := hid hsh
          have HCt6 := hid (show ∀ p, contC (roomC n r) (putC ch i [(r : Int) + 1, (i : Int)]) p = if p < i + 1 then some [(r : Int) + 1, (p : Int)] else roomC n r p from fun p => by
            rw [contC_put (l := [(r : Int) + 1, (i : Int)]) _ _ _ _ (by simp), HCt.out p]
            by_cases e : p = i
            · subst e; rw [if_pos rfl, if_pos (by omega)]
            · rw [if_neg e]
              by_cases e2 : p < i
              · rw [if_pos e2, if_pos (by omega)]
              · rw [if_neg e2, if_neg (by omega)])
          clear hsh
          go_wp2
          go_roundw
          case rel => exact ⟨i + 1, by omega, by go_num, T6, _, HSh6.out, HCt6.out, fun _ => keys_put_pos ch (by omega) _, fun h => by omega⟩
          case measure => simp [intOf]; omega
        · have hie : i = n := by omega
          have hni : decide (i < n) = false := by simpa using hit
          have HEq := hid (show contC (roomC n r) ch = roomC n (r + 1) from funext fun p => by
            rw [HCt.out p]
            unfold roomC
            by_cases e : p < n
            · rw [if_pos (by omega), if_pos ⟨e, by omega⟩]
              simp
            · rw [if_neg (by omega), if_neg (fun h => e h.1), if_neg (fun h => e h.1)])
          by_cases hn0 : n = 0
          · have hch : ch = noChg := HKy.out.2 (by omega)
            have HK2 := hid (show Keeps s N (1000 * (r + 1)) P (roomC n (r + 1)) from by
              have e := HEq.out
              rw [hch, noChg_cont] at e
              rw [← e]; exact HKp.out.more (by omega))
            have HCh := hid hch
            clear hn0 hch
            go_wp2_with fail
            refine (sh_commitNone HD.out HO.out HShx.out (by rw [HCh.out, keys_none]; rfl)).mono ?_
            rintro e w7 ⟨rfl, T7, hsh, _, _⟩
            rw [HCh.out] at hsh
            have HSh7 := hid (hsh.more (show 1000 * r ≤ 1000 * (r + 1) by omega) (by omega) (Nat.le_refl 7))
            clear hsh
            go_wp2
            go_roundw
            case rel => exact ⟨r + 1, by omega, by go_num, by go_num, T7, _, _, HSh7.out, HK2.out⟩
            case measure => simp [intOf]; omega
          · have hpos := HKy.out.1 (by omega)
            rcases hf : fitsB P ch (halN N) with _ | _
            · have hroom : ¬ 2 * n + 40 ≤ H := fun h => by
                have h2 := fits_room HKp.out.fine (ch := ch) (N := n) (fun p hp => by rw [HEq.out]; unfold roomC; rw [if_neg (by omega)]) (by rw [HH.out]; exact h)
                rw [hf] at h2; cases h2
              have hroomi : decide (2 * (n : Int) + 40 ≤ (H : Int)) = false := by simp; omega
              have hH5 : (H : Int) ≤ 512 := by have := HH5.out; omega
              go_wp2_with fail
              refine (sh_commitFull HD.out HO.out HS4.out.seven HShx.out HKp.out hpos hf).mono ?_
              rintro e w7 ⟨⟨v7, rfl, hv7⟩, T7, hsh, _, _⟩
              have HV7 := hid hv7
              obtain ⟨j7, _, _, rfl⟩ := hv7.one (by decide)
              have HSh7 := hid hsh
              have HS7 := hid (HS4.out.on hsh.below)
              clear hsh hv7
              go_wp2_with fail
              refine (is_any S _ _ _ _ HS7.out HV7.out).mono ?_
              rintro e w8 ⟨rfl, hb8⟩
              have HShF := hid (HSh7.out.on HD.out HO.out hb8)
              have c1 : w8.cell? ⟨gb, 1, none⟩ = some (.int .i64 (H : Int)) := HGf.out w8 HShF.out.below
              have HKpF := HKp
              clear hb8 hpos hf
              go_wp2_with fail
              refine (sh_open HD.out HO.out HS4.out.seven HShF.out (by omega) HKpF.out).mono ?_
              rintro e w9 ⟨g9, T9, rfl, hsh, _, _⟩
              have HSh9 := hid hsh
              clear hsh
              rcases Nat.eq_zero_or_pos r with hr0 | hr0
              · subst hr0
                go_wp2
                go_loopw [18] (fun jv wz => ∃ j : Nat, j ≤ n ∧ jv = .int .i64 (j : Int) ∧ ∃ T, Shop Real PR S W4 wz d g9 N (1000 * 0) 7 T s P noChg) (fun jv _ => n - (intOf jv).toNat)
                case atStart => exact ⟨0, Nat.zero_le _, rfl, T9, HSh9.out⟩
                case round =>
                  rename World => wz
                  obtain ⟨j, hj, rfl, Tz, hsh⟩ := hrel
                  have HShz := hid hsh
                  clear hsh
                  by_cases hjt : j < n
                  · have hjn : (j : Int) < n := by omega
                    have hcj : contC (roomC n 0) noChg j = none := by rw [noChg_cont]; unfold roomC; rw [if_neg (by omega)]
                    go_wp2_with fail
                    refine (sh_readNo HD.out HO.out HS4.out.seven HShz.out HKpF.out.fine (i := j) (by omega) hcj).mono ?_
                    rintro e wa ⟨⟨va, rfl, hva⟩, ⟨Ta, hsh, _, _⟩, _⟩
                    obtain ⟨ja, _, _, rfl⟩ := hva.one (by decide)
                    have HSha := hid hsh
                    clear hsh hva
                    go_wp2
                    go_roundw
                    case rel => exact ⟨j + 1, by omega, by go_num, Ta, HSha.out⟩
                    case measure => simp [intOf]; omega
                  · have hnj : decide (j < n) = false := by simpa using hjt
                    have HBf := hid (HB4.out.trans (HShz.out.below.mono HB4.out.size))
                    go_wp2
                    go_ret
                    exact ⟨rfl, HBf.out⟩
              · go_wp2
                go_loopw [18] (fun jv wz => ∃ j : Nat, j ≤ n ∧ jv = .int .i64 (j : Int) ∧ ∃ T, Shop Real PR S W4 wz d g9 N (1000 * r) 7 T s P noChg) (fun jv _ => n - (intOf jv).toNat)
                case atStart => exact ⟨0, Nat.zero_le _, rfl, T9, HSh9.out⟩
                case round =>
                  rename World => wz
                  obtain ⟨j, hj, rfl, Tz, hsh⟩ := hrel
                  have HShz := hid hsh
                  clear hsh
                  by_cases hjt : j < n
                  · have hjn : (j : Int) < n := by omega
                    have hjb : (j : Int) % 256 = (j : Int) := by omega
                    have hrb : (r : Int) % 256 = (r : Int) := by omega
                    have hgt : decide ((0 : Int) < (r : Int)) = true := by simp; omega
                    have hcj : contC (roomC n r) noChg j = some [(r : Int), (j : Int)] := by rw [noChg_cont]; unfold roomC; rw [if_pos ⟨hjt, hr0⟩]
                    go_wp2_with fail
                    refine (sh_readYes HD.out HO.out HShz.out HKpF.out (by omega) (by omega) (i := j) (by omega) hcj).mono ?_
                    rintro e wa ⟨⟨Aa, ka, ca, rfl, hsa, _⟩, Ta, hsh, _, _⟩
                    have HSla := hid hsa
                    have HSha := hid hsh
                    clear hsa hsh
                    go_wp2_with fail
                    refine (same_any _ _ _ _ _ _ _ _ _ _ _ (HSla.out.on ((Below.refl _ _).alloc (Nat.le_refl _) _)) (sl_two _ (r : Int) (j : Int))).mono ?_
                    rintro e wb ⟨rfl, kb, rfl⟩
                    rw [same_self]
                    have HShb := hid (HSha.out.on HD.out HO.out (below_drewN ((Below.refl wa.heap.size wa).alloc (Nat.le_refl _) (.cells #[.int .u8 (r : Int), .int .u8 (j : Int)] 5)) kb))
                    go_wp2
                    go_roundw
                    case rel => exact ⟨j + 1, by omega, by go_num, Ta, HShb.out⟩
                    case measure => simp [intOf]; omega
                  · have hnj : decide (j < n) = false := by simpa using hjt
                    have HBf := hid (HB4.out.trans (HShz.out.below.mono HB4.out.size))
                    go_wp2
                    go_ret
                    exact ⟨rfl, HBf.out⟩
            · have HKc := hid (keeps_commit HKp.out HShx.out.pd.1 (by omega) HShx.out.chg.1 HShx.out.chg.2 hf).2.2
              go_wp2_with fail
              refine (sh_commit HD.out HO.out HS4.out.seven HShx.out HKp.out hpos hf (by omega)).mono ?_
              rintro e w7 ⟨rfl, T7, hsh, _, _⟩
              have HSh7 := hid (show Shop Real PR S W4 w7 d g N (1000 * (r + 1)) 7 T7 _ _ noChg from by rw [show 1000 * (r + 1) = 1000 * r + 1000 by omega]; exact hsh)
              have HK7 := hid (show Keeps (comDev P ch s (halN N)) N (1000 * (r + 1)) (commitTo P ch s (halN N)).2 (roomC n (r + 1)) from by rw [show 1000 * (r + 1) = 1000 * r + 1000 by omega, ← HEq.out]; exact HKc.out)
              clear hsh hpos hf
              go_wp2
              go_roundw
              case rel => exact ⟨r + 1, by omega, by go_num, by go_num, T7, _, _, HSh7.out, HK7.out⟩
              case measure => simp [intOf]; omega
    · have hnr : decide (r < R) = false := by simpa using hlt
      have hr5 : (r : Int) ≤ 5 := by have := HR.out.2; omega
      clear hlt
      have HShF := HSh
      have HKpF := HKp
      go_wp2_with fail
      refine (sh_open HD.out HO.out HS4.out.seven HShF.out (by omega) HKpF.out).mono ?_
      rintro e w9 ⟨g9, T9, rfl, hsh, _, _⟩
      have HSh9 := hid hsh
      clear hsh
      rcases Nat.eq_zero_or_pos r with hr0 | hr0
      · subst hr0
        go_wp2
        go_loopw [18] (fun jv wz => ∃ j : Nat, j ≤ n ∧ jv = .int .i64 (j : Int) ∧ ∃ T, Shop Real PR S W4 wz d g9 N (1000 * 0) 7 T s P noChg) (fun jv _ => n - (intOf jv).toNat)
        case atStart => exact ⟨0, Nat.zero_le _, rfl, T9, HSh9.out⟩
        case round =>
          rename World => wz
          obtain ⟨j, hj, rfl, Tz, hsh⟩ := hrel
          have HShz := hid hsh
          clear hsh
          by_cases hjt : j < n
          · have hjn : (j : Int) < n := by omega
            have hcj : contC (roomC n 0) noChg j = none := by rw [noChg_cont]; unfold roomC; rw [if_neg (by omega)]
            go_wp2_with fail
            refine (sh_readNo HD.out HO.out HS4.out.seven HShz.out HKpF.out.fine (i := j) (by omega) hcj).mono ?_
            rintro e wa ⟨⟨va, rfl, hva⟩, ⟨Ta, hsh, _, _⟩, _⟩
            obtain ⟨ja, _, _, rfl⟩ := hva.one (by decide)
            have HSha := hid hsh
            clear hsh hva
            go_wp2
            go_roundw
            case rel => exact ⟨j + 1, by omega, by go_num, Ta, HSha.out⟩
            case measure => simp [intOf]; omega
          · have hnj : decide (j < n) = false := by simpa using hjt
            have HBf := hid (HB4.out.trans (HShz.out.below.mono HB4.out.size))
            go_wp2
            go_ret
            exact ⟨rfl, HBf.out⟩
      · go_wp2
        go_loopw [18] (fun jv wz => ∃ j : Nat, j ≤ n ∧ jv = .int .i64 (j : Int) ∧ ∃ T, Shop Real PR S W4 wz d g9 N (1000 * r) 7 T s P noChg) (fun jv _ => n - (intOf jv).toNat)
        case atStart => exact ⟨0, Nat.zero_le _, rfl, T9, HSh9.out⟩
        case round =>
          rename World => wz
          obtain ⟨j, hj, rfl, Tz, hsh⟩ := hrel
          have HShz := hid hsh
          clear hsh
          by_cases hjt : j < n
          · have hjn : (j : Int) < n := by omega
            have hjb : (j : Int) % 256 = (j : Int) := by omega
            have hrb : (r : Int) % 256 = (r : Int) := by omega
            have hgt : decide ((0 : Int) < (r : Int)) = true := by simp; omega
            have hcj : contC (roomC n r) noChg j = some [(r : Int), (j : Int)] := by rw [noChg_cont]; unfold roomC; rw [if_pos ⟨hjt, hr0⟩]
            go_wp2_with fail
            refine (sh_readYes HD.out HO.out HShz.out HKpF.out (by omega) (by omega) (i := j) (by omega) hcj).mono ?_
            rintro e wa ⟨⟨Aa, ka, ca, rfl, hsa, _⟩, Ta, hsh, _, _⟩
            have HSla := hid hsa
            have HSha := hid hsh
            clear hsa hsh
            go_wp2_with fail
            refine (same_any _ _ _ _ _ _ _ _ _ _ _ (HSla.out.on ((Below.refl _ _).alloc (Nat.le_refl _) _)) (sl_two _ (r : Int) (j : Int))).mono ?_
            rintro e wb ⟨rfl, kb, rfl⟩
            rw [same_self]
            have HShb := hid (HSha.out.on HD.out HO.out (below_drewN ((Below.refl wa.heap.size wa).alloc (Nat.le_refl _) (.cells #[.int .u8 (r : Int), .int .u8 (j : Int)] 5)) kb))
            go_wp2
            go_roundw
            case rel => exact ⟨j + 1, by omega, by go_num, Ta, HShb.out⟩
            case measure => simp [intOf]; omega
          · have hnj : decide (j < n) = false := by simpa using hjt
            have HBf := hid (HB4.out.trans (HShz.out.below.mono HB4.out.size))
            go_wp2
            go_ret
            exact ⟨rfl, HBf.out⟩
end
end Go.Proofs.YtaonhbmimaiiiaaGreatDoor
namespace Go.Proofs.YtaonhbmimaiiiaaGreatDoor
open Go.ChangeShapes Go.WideShapes Go.ChangeAt Go.RowKit

theorem pageNothing_all (n : Int) (A : Option Addr) (len cap : Nat) (zs : List Int) (w : World) (_ : (Lit.int .i64 n).wf = true) (hr : IsRow .u8 w A len cap zs) (hL : laidMetH Tryz.prog laid24 w) :
    Calls Tryz.prog 7 #[.int .i64 n, .slice A len cap] w (Yes w) := by
  obtain ⟨S, hS⟩ := sent_of_laid hL
  have hl := sl_of_row hr
  have hy := byt_of_row hr
  by_cases h : len = 0 ∨ 248 < len
  · exact pageNothing_short dvOk (prOk dvOk) S n A len cap w hS h
  · exact pageNothing_any dvOk (prOk dvOk) S n A len cap _ w hS hl hy (by omega) (by omega)
theorem pageRoom_all (b n r : Int) (w : World) (_ : (Lit.int .i64 b).wf = true) (_ : (Lit.int .i64 n).wf = true) (_ : (Lit.int .i64 r).wf = true) (hL : laidMetH Tryz.prog laid24 w) :
    Calls Tryz.prog 6 #[.int .i64 b, .int .i64 n, .int .i64 r] w (Yes w) := by
  obtain ⟨S, hS⟩ := sent_of_laid hL
  exact pageRoom_any dvOk (prOk dvOk) S b n r w hS
theorem pageLong_all (n v : Int) (w : World) (_ : (Lit.int .i64 n).wf = true) (_ : (Lit.int .i64 v).wf = true) (hL : laidMetH Tryz.prog laid7 w) :
    Calls Tryz.prog 8 #[.int .i64 n, .int .i64 v] w (Yes w) := by
  obtain ⟨S, hS⟩ := sent7_of_laid hL
  exact pageLong_any dvOk (prOk dvOk) S n v w hS
end Go.Proofs.YtaonhbmimaiiiaaGreatDoor
