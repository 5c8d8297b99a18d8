/- WireTwins answers true: where the list is longer than it asks, and where it is not. Conditions: the list reads as int64s, the errors lie in their variables. -/
import Derived.Test.YtfggfdmjmebgfaaDoorN
namespace Go.Proofs.YtfggfdmjmebgfaaDoor
open Go.RowKit

set_option maxRecDepth 100000 in
set_option maxHeartbeats 2000000 in
theorem wireTwins_far (A : Option Addr) (n c : Nat) (x : Int) (w : World) (hn : n ≤ 9223372036854775807) (h : 20 < n) :
    Calls Tryd.prog 8 #[.slice A n c, .int .i64 x] w (Yes w) := by
  have d0 : decide ((20 : Int) < n) = true := by simp; omega
  go_enter Tryd.func8, Tryd.ntmps8
  go_wp2_with fail
  refine (first_any w).mono ?_
  rintro e w1 ⟨rfl, hb⟩
  have HB := hid hb
  clear hb
  go_wp2
  go_ret
  exact ⟨rfl, HB.out⟩

/-- what lies behind block g stays where only block g, and what is new, turns -/
theorem Sl.apart {w w' : World} {B n c g : Nat} {A : Option Addr} {l : List Int} (h : Sl w B A n c l) (hg : w.grownBy w' (some g)) (hn : ∀ ad, A = some ad → g < ad.block) : Sl w' B A n c l :=
  ⟨h.len, h.cap, h.max, h.nil, fun ad ha h0 => ⟨(h.at_ ad ha h0).1, fun j x hx => hg.cell ((h.at_ ad ha h0).2 j x hx) (by have := hn ad ha; rw [add_block]; simp; omega)⟩⟩

/-- numbers laid one behind the other -/
def Rowed (w : World) (l : List Int) (k : Nat) (v : Value) (wr : World) : Prop := ∃ A m c, v = .slice A m c ∧ Sl wr wr.heap.size A m c (encs (l.take k)) ∧ Below w.heap.size w wr

theorem Rdr.drew {w : World} {g n c : Nat} {A : Option Addr} {l : List Int} {p : Int} {ev : Value} (h : Rdr w g A n c l p ev) : Rdr w.drew g A n c l p ev := ⟨h.blk.drew, h.sl.drew⟩
theorem Errs.drew {w : World} {aR aE aS : Addr} (h : Errs w aR aE aS) : Errs w.drew aR aE aS := ⟨h.range, h.ends, h.shape⟩
theorem only_of_drew {a w : World} {row : Option Nat} (h : a.drew.grownBy w row) : a.grownBy w row := ⟨h.os, h.tape, h.output, h.size, h.block⟩
theorem encs_scan {l : List Int} (hw : Wide l) {k : Nat} {y : Int} (hy : l[k]? = some y) : scan ((encs l).drop (encs (l.take k)).length) 0 0 = (0, zz y, (enc y).length) := by
  rw [encs_cut hy]
  exact scan_num (hw.at_ hy).1 (hw.at_ hy).2 _

/-- two readers of one list's numbers: behind j of them, behind i of them -/
def Twin (w : World) (l : List Int) (m g1 g2 : Nat) (A1 A2 : Option Addr) (c1 c2 j i : Nat) (wr : World) : Prop :=
  Rdr wr g1 A1 m c1 (encs l) (((encs (l.take j)).length : Nat) : Int) .nilIface ∧ Rdr wr g2 A2 m c2 (encs l) (((encs (l.take i)).length : Nat) : Int) .nilIface ∧ Below w.heap.size w wr

set_option maxRecDepth 100000 in
set_option maxHeartbeats 4000000 in
theorem wireTwins_near (A : Option Addr) (n c : Nat) (x : Int) (l : List Int) (aR aE aS : Addr) (w : World) (h : Sn w w.heap.size A n c l) (hw : Wide l) (hE : Errs w aR aE aS) (h3 : 3 ≤ w.heap.size)
    (hn : n ≤ 20) : Calls Tryd.prog 8 #[.slice A n c, .int .i64 x] w (Yes w) := by
  have d0 : decide ((20 : Int) < n) = false := by simp; omega
  have HX := hid hE
  have HS := hid h
  have HW := hid hw
  clear h hE hw
  go_enter Tryd.func8, Tryd.ntmps8
  go_wp2_with fail
  refine (first_any w).mono ?_
  rintro e w1 ⟨rfl, hb⟩
  have HB1 := hid hb
  clear hb
  go_wp2_with fail
  go_loopw [6, 7] (fun v i wr => ∃ k : Nat, k ≤ n ∧ i = .int .i64 (k : Int) ∧ Rowed w l k v wr) (fun _ i _ => n - (intOf i).toNat)
  case atStart => exact ⟨0, Nat.zero_le _, rfl, none, 0, 0, rfl, Sl.empty _ _, HB1.out⟩
  case round =>
    obtain ⟨k, hk, rfl, A1, m, c1, rfl, hs, hb⟩ := hrel
    have HS1 := hid hs
    have HB := hid hb
    clear hs hb
    have HM := hid (show m ≤ 200 by have := HS1.out.len; have := encs_le l k; have := encs_len l; have := HS.out.len; omega)
    by_cases hlt : k < n
    · obtain ⟨ad, y, rfl, hbl, hy, hc⟩ := (HS.out.below HB.out).get hlt
      have HY := hid hy
      clear hy hbl
      go_wp2_with fail
      refine (put_any A1 m c1 y _ _ HS1.out (by have := HM.out; omega) (HW.out.at_ HY.out).1 (HW.out.at_ HY.out).2).mono ?_
      rintro e w2 hm
      obtain ⟨A2, m2, c2, rfl, hs2, hb⟩ := hm.get
      have R := hid (show Rowed w l (k + 1) (.slice A2 m2 c2) w2 from ⟨A2, m2, c2, rfl, by rw [encs_next HY.out]; exact hs2, HB.out.trans (hb.mono HB.out.size)⟩)
      clear hm hs2 hb
      go_wp2
      go_roundw
      case rel => exact ⟨k + 1, by omega, by go_num, R.out⟩
      case measure => simp [intOf]; omega
    · obtain rfl : n = k := by omega
      have HL := hid (show Sl wr wr.heap.size A1 m c1 (encs l) by have := HS1.out; rwa [List.take_of_length_le (by have := HS.out.len; omega)] at this)
      have hm200 : m ≤ 200 := HM.out
      go_wp2_with fail
      refine (newReader_any A1 m c1 _ _ HL.out (by omega)).mono ?_
      rintro e w3 ⟨g1, A3, c3, rfl, hg, hr, hb, _⟩
      have HR1 := hid hr
      have HG1 := hid (show w.heap.size ≤ g1 by have := HB.out.size; omega)
      have HL := hid (HL.out.on hb)
      have HB := hid (HB.out.trans (hb.mono HB.out.size))
      clear hg hr hb
      go_wp2_with fail
      refine (newReader_any A1 m c1 _ _ HL.out (by omega)).mono ?_
      rintro e w4 ⟨g2, A4, c4, rfl, hg, hr, hb, hnew⟩
      have HN2 := hid (show ∀ ad, A4 = some ad → g1 < ad.block from fun ad ha => Nat.lt_of_lt_of_le HR1.out.lt (hnew ad ha))
      have HG2 := hid (show w.heap.size ≤ g2 ∧ g1 < g2 by have := HB.out.size; have := HR1.out.lt; omega)
      have HT := hid (show Twin w l m g1 g2 A3 A4 c3 c4 0 0 w4 from ⟨HR1.out.on hb, hr, HB.out.trans (hb.mono HB.out.size)⟩)
      clear hg hr hb hnew
      go_wp2_with fail
      refine (number_any x ((n : Int) + 1) _ (by omega) (by omega)).mono ?_
      rintro e w5 ⟨rfl, rfl⟩
      obtain ⟨K, hK, hKn⟩ : ∃ K : Nat, x % ((n : Int) + 1) = (K : Int) ∧ K ≤ n := ⟨(x % ((n : Int) + 1)).toNat, by have := Int.emod_nonneg x (b := (n : Int) + 1) (by omega); omega, by have := Int.emod_lt_of_pos x (b := (n : Int) + 1) (by omega); omega⟩
      rw [hK]
      clear hK
      go_wp2_with fail
      go_loopw [11] (fun i wr => ∃ j : Nat, j ≤ K ∧ i = .int .i64 (j : Int) ∧ Twin w l m g1 g2 A3 A4 c3 c4 j 0 wr) (fun i _ => K - (intOf i).toNat)
      case atStart => exact ⟨0, Nat.zero_le _, rfl, HT.out⟩
      case round =>
        clear HT
        obtain ⟨j, hj, rfl, hr1, hr2, hb⟩ := hrel
        have HR1 := hid hr1
        have HR2 := hid hr2
        have HBj := hid hb
        have HXj := hid (HX.out.on h3 hb)
        clear hr1 hr2 hb
        by_cases hlt : j < K
        · obtain ⟨ad, y, rfl, hbl, hy, hc⟩ := (HS.out.below HBj.out).get (show j < n by omega)
          have HY := hid hy
          have HBL := hid hbl
          have HV := hid (encs_scan HW.out hy)
          have HP := hid (encs_step hy)
          have HQ := hid (encs_le l (j + 1))
          have hm1 := hid (show (encs l).length = m from HR1.out.sl.len)
          have hyy : (y != y) = false := by simp
          have hjn : (j : Int) < n := by omega
          clear hy hbl
          go_wp2_with fail
          go_region_held3 (fun w' => w'.cell? (ad.add j) = some (.int .i64 y)) (first | assumption | go_keep)
            ((go_at_call 17; refine (num_ok (p := (encs (l.take j)).length) (u := zz y) (s := (enc y).length) (-9223372036854775808) 9223372036854775807 HR1.out.drew HXj.out.drew (encs_byt HW.out) (by omega) HV.out (by have := HP.out; have := HQ.out; have := hm1.out; omega) (by rw [unzz_zz]; exact (HW.out.at_ HY.out).1) (by rw [unzz_zz]; exact (HW.out.at_ HY.out).2)).mono ?_; rw [unzz_zz]; rintro e w6 ⟨rfl, hr6, hg6⟩; have hc6 : w6.cell? (ad.add j) = some (.int .i64 y) := hg6.cell (w := wr.drew) hc (by rw [add_block]; have := HBL.out; have := HG1.out; simp; omega); have HR6 := hid hr6; have HG6 := hid (only_of_drew hg6); clear hr6 hg6))
          have R := hid (show Twin w l m g1 g2 A3 A4 c3 c4 (j + 1) 0 w6 from ⟨by rw [HP.out]; exact HR6.out, ⟨HR2.out.blk.grown HG6.out (by simp; have := HG2.out; omega), HR2.out.sl.apart HG6.out HN2.out⟩, HBj.out.trans (below_only HG6.out HG1.out HBj.out.size)⟩)
          go_wp2
          go_roundw
          case rel => exact ⟨j + 1, by omega, by go_num, R.out⟩
          case measure => simp [intOf]; omega
        · obtain rfl : j = K := by omega
          obtain ⟨wo, rfl⟩ : ∃ wo : World, wo = wr := ⟨_, rfl⟩
          have HT := hid (show Twin w l m g1 g2 A3 A4 c3 c4 j 0 wo from ⟨HR1.out, HR2.out, HBj.out⟩)
          clear HR1 HR2 HBj HXj
          go_wp2_with fail
          go_loopw [12] (fun i wr => ∃ q : Nat, q ≤ n ∧ i = .int .i64 (q : Int) ∧ Twin w l m g1 g2 A3 A4 c3 c4 j q wr) (fun i _ => n - (intOf i).toNat)
          case atStart => exact ⟨0, Nat.zero_le _, rfl, HT.out⟩
          case round =>
            clear HT
            obtain ⟨q, hq, rfl, hr1, hr2, hb⟩ := hrel
            have HR1 := hid hr1
            have HR2 := hid hr2
            have HBj := hid hb
            have HXj := hid (HX.out.on h3 hb)
            have hm1 := hid (show (encs l).length = m from hr1.sl.len)
            clear hr1 hr2 hb
            by_cases hlt : q < n
            · obtain ⟨ad, y, rfl, hbl, hy, hc⟩ := (HS.out.below HBj.out).get hlt
              have HY := hid hy
              have HBL := hid hbl
              have HV := hid (encs_scan HW.out hy)
              have HP := hid (encs_step hy)
              have HQ := hid (encs_le l (q + 1))
              have hyy : (y != y) = false := by simp
              clear hy hbl
              go_wp2_with fail
              go_region_held3 (fun w' => w'.cell? (ad.add q) = some (.int .i64 y)) (first | assumption | go_keep)
                ((go_at_call 17; refine (num_ok (p := (encs (l.take q)).length) (u := zz y) (s := (enc y).length) (-9223372036854775808) 9223372036854775807 HR2.out.drew HXj.out.drew (encs_byt HW.out) (by omega) HV.out (by have := HP.out; have := HQ.out; have := hm1.out; omega) (by rw [unzz_zz]; exact (HW.out.at_ HY.out).1) (by rw [unzz_zz]; exact (HW.out.at_ HY.out).2)).mono ?_; rw [unzz_zz]; rintro e w6 ⟨rfl, hr6, hg6⟩; have hc6 : w6.cell? (ad.add q) = some (.int .i64 y) := hg6.cell (w := wr.drew) hc (by rw [add_block]; have := HBL.out; have := HG2.out; simp; omega); have HR6 := hid hr6; have HG6 := hid (only_of_drew hg6); clear hr6 hg6))
              have R := hid (show Twin w l m g1 g2 A3 A4 c3 c4 j (q + 1) w6 from ⟨⟨HR1.out.blk.grown HG6.out (by simp; have := HG2.out; omega), HR1.out.sl.grown HG6.out (Nat.le_of_lt HR1.out.lt) (fun g hg => by injection hg with hg; have := HG2.out; omega)⟩, by rw [HP.out]; exact HR6.out, HBj.out.trans (below_only HG6.out (by have := HG2.out; omega) HBj.out.size)⟩)
              go_wp2
              go_roundw
              case rel => exact ⟨q + 1, by omega, by go_num, R.out⟩
              case measure => simp [intOf]; omega
            · obtain rfl : q = n := by omega
              have hall := hid (show (encs (l.take q)).length = m by rw [List.take_of_length_le (by have := HS.out.len; omega)]; exact hm1.out)
              have hpj : (encs (l.take j)).length ≤ m ∧ (j < q → (encs (l.take j)).length < m) := ⟨by have := encs_le l j; have := hm1.out; omega, fun hh => by have := encs_lt (l := l) (k := j) (by have := HS.out.len; omega); have := hm1.out; omega⟩
              have hjq : j = q → (encs (l.take j)).length = m := fun hh => by rw [hh]; exact hall.out
              have HR2' := HR2.out
              rw [hall.out] at HR2'
              have HR2 := hid HR2'
              have HR1' := HR1.out
              generalize (encs (l.take j)).length = pj at hpj hjq HR1'
              have HR1 := hid HR1'
              obtain ⟨r, hr⟩ : ∃ r, m - pj = r := ⟨_, rfl⟩
              clear HR1' HR2'
              have hsum : ((pj : Int) + (r : Int) == (m : Int)) = true := by rw [beq_iff_eq]; omega
              have hends : ((r : Int) == 0) = ((j : Int) == (q : Int)) := by
                rcases Nat.lt_or_ge j q with hh | hh
                · rw [beq_eq_false_iff_ne.2 (by have := hpj.2 hh; omega), beq_eq_false_iff_ne.2 (by omega)]
                · rw [beq_iff_eq.2 (by have := hjq (by omega); omega), beq_iff_eq.2 (by omega)]
              have HEn := hid hends
              have HPm := hid hpj.1
              have hpm1 := hpj.1
              have hr200 : r ≤ 200 := by omega
              have HRr := hid hr
              clear hpj hjq hr hends
              go_wp2_with fail
              refine (at_any HR1.out).mono ?_
              rintro e w6 ⟨rfl, rfl⟩
              go_wp2_with fail
              refine (left_any HR1.out HPm.out (by omega)).mono ?_
              rw [HRr.out]
              rintro e w7 ⟨rfl, k7, rfl⟩
              go_wp2_with fail
              refine (left_any (p := m) (HR2.out.drewN k7) (Nat.le_refl _) (by omega)).mono ?_
              rw [Nat.sub_self]
              rintro e w8 ⟨rfl, k8, rfl⟩
              go_wp2_with fail
              refine (err_any (HR1.out.drewN _)).mono ?_
              rintro e w9 ⟨rfl, rfl⟩
              go_wp2_with fail
              refine (left_any (HR1.out.drewN _) HPm.out (by omega)).mono ?_
              rw [HRr.out]
              rintro e w10 ⟨rfl, k10, rfl⟩
              go_wp2
              go_ret
              rw [HEn.out]
              exact ⟨by simp, below_drewN HBj.out _⟩
end Go.Proofs.YtfggfdmjmebgfaaDoor
