/- The walk of GeoSays. -/
import Derived.Test.YtndbanfkiaockaaDoorGGeoBoundsW
namespace Go.Proofs.YtndbanfkiaockaaDoor
open Go.RowKit

/-- whether one of these has its partner among them all -/
def pairK (H : Int) (l m : List Int) : Bool := m.any fun x => mirB H x && amB l (prt H x)
theorem pairK_nil (H : Int) (l : List Int) : pairK H l [] = false := rfl
theorem pairK_next (H : Int) (l : List Int) {k : Nat} {x : Int} (h : l[k]? = some x) : pairK H l (l.take (k + 1)) = (pairK H l (l.take k) || (mirB H x && amB l (prt H x))) := by
  rw [take_next h]
  unfold pairK
  rw [List.any_append]
  simp
theorem pairK_all (H : Int) (l : List Int) {k : Nat} (h : l.length ≤ k) : pairK H l (l.take k) = pairB H l := by
  rw [List.take_of_length_le h]; rfl

theorem sn_more {w : World} {B B' n c : Nat} {A : Option Addr} {l : List Int} (h : Sn w B A n c l) (hB : B ≤ B') : Sn w B' A n c l :=
  ⟨h.len, h.cap, h.max, h.nil, fun ad ha hn => ⟨Nat.lt_of_lt_of_le (h.at_ ad ha hn).1 hB, (h.at_ ad ha hn).2⟩⟩
set_option maxRecDepth 100000 in
set_option maxHeartbeats 2000000 in
theorem geoSays_long (S : Nat → Addr) (n i : Int) (A : Option Addr) (len cap : Nat) (w : World) (hS : Sent w S) (hm : len ≤ 9223372036854775807) (h : 40 < len ∨ n < 300 ∨ 6000 < n) :
    Calls Tryd.prog 4 #[.int .i64 n, .int .i64 i, .slice A len cap] w (Yes w) := by
  have HS := hid hS
  clear hS
  have hc : decide ((40 : Int) < (len : Int)) = true ∨ (decide ((40 : Int) < (len : Int)) = false ∧ (n < 300 ∨ 6000 < n)) := by
    by_cases h1 : (40 : Int) < (len : Int)
    · exact .inl (by simpa using h1)
    · exact .inr ⟨by simpa using h1, by omega⟩
  clear h
  rcases hc with g1 | ⟨g1, g2⟩
  · go_enter Tryd.func4, Tryd.ntmps4
    go_wp2_with fail
    refine (first4_any _).mono ?_
    rintro e w1 ⟨rfl, hb1⟩
    have HB1 := hid hb1
    clear hb1
    go_wp2
    go_ret
    exact ⟨rfl, HB1.out⟩
  · have HA := hid g2
    clear g2
    go_enter Tryd.func4, Tryd.ntmps4
    go_wp2_with fail
    refine (first4_any _).mono ?_
    rintro e w1 ⟨rfl, hb1⟩
    have HB1 := hid hb1
    have HS1 := hid (HS.out.on hb1)
    clear hb1
    go_wp2_with fail
    refine (of_bad n _ _ HA.out (HS1.out.at_ 2 (by decide))).mono ?_
    rintro e w2 ⟨rfl, hb2⟩
    have HB2 := hid (HB1.out.trans (hb2.mono HB1.out.size))
    have hb3 : Below w2.heap.size w2 (w2.alloc (Obj.cells #[.int .i64 0, .int .i64 0] 60)) := (Below.refl _ _).alloc (Nat.le_refl _) _
    have HB3 := hid (HB2.out.trans (hb3.mono HB2.out.size))
    have HS3 := hid ((HS1.out.on hb2).on hb3)
    have HK3 := hid (Blk.new w2 60 #[.int .i64 0, .int .i64 0])
    clear hb2 hb3
    go_wp2_with fail
    generalize (w2.alloc (Obj.cells #[.int .i64 0, .int .i64 0] 60)) = w3 at HB3 HS3 HK3 ⊢
    obtain ⟨g, hg⟩ : ∃ g, w2.heap.size = g := ⟨_, rfl⟩
    rw [hg] at HK3 ⊢
    clear hg
    refine (refGeo_bad n _ HA.out).mono ?_
    rintro e w4 ⟨rfl, hb4⟩
    have HB4 := hid (HB3.out.trans (hb4.mono HB3.out.size))
    have HS4 := hid (HS3.out.on hb4)
    have HK4 := hid (HK3.out.below hb4 HK3.out.lt)
    have hb5 : Below w4.heap.size w4 (w4.alloc (Obj.cells #[.int .i64 0, .int .i64 0] 60)) := (Below.refl _ _).alloc (Nat.le_refl _) _
    have HB5 := hid (HB4.out.trans (hb5.mono HB4.out.size))
    have HS5 := hid (HS4.out.on hb5)
    have HK5 := hid (HK4.out.below hb5 HK4.out.lt)
    have HX5 := hid (Blk.new w4 60 #[.int .i64 0, .int .i64 0])
    clear hb4 hb5
    go_wp2_with fail
    generalize (w4.alloc (Obj.cells #[.int .i64 0, .int .i64 0] 60)) = w5 at HB5 HS5 HK5 HX5 ⊢
    obtain ⟨g', hg'⟩ : ∃ g, w4.heap.size = g := ⟨_, rfl⟩
    rw [hg'] at HX5 ⊢
    clear hg'
    refine (is_any S 103 103 _ _ HS5.out (ev_range S)).mono ?_
    rw [beq_self_eq_true]
    rintro e w6 ⟨rfl, hb6⟩
    have HB6 := hid (HB5.out.trans (hb6.mono HB5.out.size))
    obtain ⟨k0, k1⟩ := gcells (HK5.out.below hb6 HK5.out.lt)
    obtain ⟨x0, x1⟩ := gcells (HX5.out.below hb6 HX5.out.lt)
    clear hb6
    go_wp2
    go_ret
    exact ⟨rfl, HB6.out⟩

set_option maxRecDepth 100000 in
set_option maxHeartbeats 20000000 in
theorem geoSays_any (S : Nat → Addr) (n i : Int) (A : Option Addr) (len cap : Nat) (l : List Int) (w : World) (hS : Sent w S) (ha1 : 300 ≤ n) (ha2 : n ≤ 6000) (h40 : len ≤ 40) (hl : Sn w w.heap.size A len cap l) (hw : Wide l) :
    Calls Tryd.prog 4 #[.int .i64 n, .int .i64 i, .slice A len cap] w (Yes w) := by
  have HS := hid hS
  have HL := hid hl
  have HWd := hid hw
  have HA1 := hid ha1
  have HA2 := hid ha2
  have HG := hid (hal_gm ha1 ha2)
  have g1 : decide ((40 : Int) < (len : Int)) = false := by simp; omega
  have H40 := hid h40
  have hf := quo_facts ha1 ha2
  obtain ⟨H, hH⟩ : ∃ H, hal n = H := ⟨_, rfl⟩
  have HH := hid hH
  obtain ⟨q, hq⟩ : ∃ q, quo n (hal n) = q := ⟨_, rfl⟩
  have HQ := hid hq
  rw [hH] at HG hf HQ
  obtain ⟨_, _, _, _, f5, f6, f7⟩ := hf
  have e1 : IntKind.i64.wrap (2 * H) = 2 * H := by rw [IntKind.wrap_i64]; omega
  have e2 : IntKind.i64.wrap (n - 2 * H) = n - 2 * H := by rw [IntKind.wrap_i64]; omega
  obtain ⟨P, hP⟩ : ∃ P, prt H i = P := ⟨_, rfl⟩
  obtain ⟨b, hb⟩ : ∃ b, mirB H i = b := ⟨_, rfl⟩
  have HP := hid hP
  have HM := hid hb
  clear hS hl hw hH hq hP hb h40
  go_enter Tryd.func4, Tryd.ntmps4
  go_wp2_with fail
  refine (first4_any _).mono ?_
  rintro e w1 ⟨rfl, hb1⟩
  have HB1 := hid hb1
  have HS1 := hid (HS.out.on hb1)
  clear hb1
  go_wp2_with fail
  refine (of_ok n _ HA1.out HA2.out).mono ?_
  rw [HH.out]
  rintro e w2 ⟨rfl, hb2⟩
  have HB2 := hid (HB1.out.trans (hb2.mono HB1.out.size))
  have hb3 : Below w2.heap.size w2 (w2.alloc (Obj.cells #[.int .i64 n, .int .i64 H] 60)) := (Below.refl _ _).alloc (Nat.le_refl _) _
  have HB3 := hid (HB2.out.trans (hb3.mono HB2.out.size))
  have HS3 := hid ((HS1.out.on hb2).on hb3)
  have HK3 := hid (Blk.new w2 60 #[.int .i64 n, .int .i64 H])
  clear hb2 hb3
  go_wp2_with fail
  generalize (w2.alloc (Obj.cells #[.int .i64 n, .int .i64 H] 60)) = w3 at HB3 HS3 HK3 ⊢
  obtain ⟨g, hg⟩ : ∃ g, w2.heap.size = g := ⟨_, rfl⟩
  rw [hg] at HK3 ⊢
  clear hg
  refine (refGeo_ok n _ HA1.out HA2.out).mono ?_
  rw [HH.out]
  rintro e w4 ⟨rfl, hb4⟩
  have HB4 := hid (HB3.out.trans (hb4.mono HB3.out.size))
  have HS4 := hid (HS3.out.on hb4)
  have HK4 := hid (HK3.out.below hb4 HK3.out.lt)
  have hb5 : Below w4.heap.size w4 (w4.alloc (Obj.cells #[.int .i64 n, .int .i64 H] 60)) := (Below.refl _ _).alloc (Nat.le_refl _) _
  have HB5 := hid (HB4.out.trans (hb5.mono HB4.out.size))
  have HS5 := hid (HS4.out.on hb5)
  have HK5 := hid (HK4.out.below hb5 HK4.out.lt)
  have HX5 := hid (Blk.new w4 60 #[.int .i64 n, .int .i64 H])
  clear hb4 hb5
  go_wp2_with fail
  generalize (w4.alloc (Obj.cells #[.int .i64 n, .int .i64 H] 60)) = w5 at HB5 HS5 HK5 HX5 ⊢
  obtain ⟨x, hg'⟩ : ∃ g, w4.heap.size = g := ⟨_, rfl⟩
  rw [hg'] at HX5 ⊢
  clear hg'
  refine (is_any S 0 0 _ _ HS5.out EV.fine).mono ?_
  rw [beq_self_eq_true]
  rintro e w6 ⟨rfl, hb6⟩
  have HB6 := hid (HB5.out.trans (hb6.mono HB5.out.size))
  have HK6 := hid (HK5.out.below hb6 HK5.out.lt)
  have HX6 := hid (HX5.out.below hb6 HX5.out.lt)
  obtain ⟨k0, k1⟩ := gcells HK6.out
  obtain ⟨x0, x1⟩ := gcells HX6.out
  clear hb6
  go_wp2_with fail
  refine (partner_any n H i _ HG.out).mono ?_
  rw [HP.out, HM.out]
  rintro e w7 ⟨rfl, hb7⟩
  have HB7 := hid (HB6.out.trans (hb7.mono HB6.out.size))
  have HK7 := hid (HK6.out.below hb7 HK6.out.lt)
  have HX7 := hid (HX6.out.below hb7 HX6.out.lt)
  clear hb7 k0 k1 x0 x1
  obtain ⟨x0, x1⟩ := gcells HX7.out
  go_wp2_with fail
  refine (refPartner_any n H i _ HG.out).mono ?_
  rw [HP.out, HM.out]
  rintro e w8 ⟨rfl, hb8⟩
  have HB8 := hid (HB7.out.trans (hb8.mono HB7.out.size))
  have HK8 := hid (HK7.out.below hb8 HK7.out.lt)
  have HX8 := hid (HX7.out.below hb8 HX7.out.lt)
  clear hb8 x0 x1
  go_wp2
  go_loopw [16, 17] (fun t j wr => ∃ k : Nat, k ≤ len ∧ j = .int .i64 (k : Int) ∧ t = .bool (pairK H l (l.take k)) ∧ Below w8.heap.size w8 wr) (fun _ j _ => len - (intOf j).toNat)
  case atStart => exact ⟨0, Nat.zero_le _, rfl, rfl, Below.refl _ _⟩
  case round =>
    obtain ⟨k, hk, rfl, rfl, hbr⟩ := hrel
    have HBr := hid hbr
    have HBw := hid (HB8.out.trans (hbr.mono HB8.out.size))
    have HKr := hid (HK8.out.below hbr HK8.out.lt)
    have HXr := hid (HX8.out.below hbr HX8.out.lt)
    clear hbr
    by_cases hlt : k < len
    · obtain ⟨ad, y, rfl, hbl, hy, hc⟩ := (HL.out.below HBw.out).get hlt
      have HN := hid (pairK_next H l hy)
      obtain ⟨pk, hpk⟩ : ∃ p, pairK H l (l.take k) = p := ⟨_, rfl⟩
      obtain ⟨m, hm⟩ : ∃ m, mirB H y = m := ⟨_, rfl⟩
      obtain ⟨py, hpy⟩ : ∃ p, prt H y = p := ⟨_, rfl⟩
      rw [hpk, hm, hpy] at HN
      have HM' := hid hm
      have HP' := hid hpy
      have hwk : IntKind.i64.wrap ((k : Int) + 1) = (k : Int) + 1 := by rw [IntKind.wrap_i64]; have := H40.out; omega
      rw [hpk]
      obtain ⟨x0, x1⟩ := gcells HXr.out
      have HD0 := hid (show Below wr.heap.size wr wr.drew from ⟨rfl, rfl, rfl, Nat.le_refl _, fun _ _ => rfl⟩)
      have HZ := hid (show ∀ wx, Below wr.heap.size wr wx → wx.cell? ⟨x, 0, none⟩ = some (.int .i64 n) ∧ wx.cell? ⟨x, 1, none⟩ = some (.int .i64 H) ∧ wx.cell? (ad.add k) = some (.int .i64 y) from
        fun wx h => ⟨(gcells (HXr.out.below h HXr.out.lt)).1, (gcells (HXr.out.below h HXr.out.lt)).2, (h.cell (World.block_lt_of_cell? wr _ hc)).trans hc⟩)
      have hzd := HZ.out _ HD0.out
      clear hbl hy hpk hm hpy hc x0 x1
      go_wp2_with fail
      go_region_held3 (fun w' => w'.cell? ⟨x, 0, none⟩ = some (.int .i64 n) ∧ w'.cell? ⟨x, 1, none⟩ = some (.int .i64 H) ∧ w'.cell? (ad.add k) = some (.int .i64 y)) (assumption)
        (((go_at_call 43; refine (refPartner_any n H y _ HG.out).mono ?_; rw [HP'.out, HM'.out]; rintro e y1 ⟨rfl, hb⟩; have HY1 := hid (HD0.out.trans (hb.mono HD0.out.size)); have hz1 := HZ.out _ HY1.out; clear hb)))
      have HR1 := hid (HBr.out.trans (HY1.out.mono HBr.out.size))
      have HL1 := hid (HL.out.below (HBw.out.trans (HY1.out.mono HBw.out.size)))
      rcases pk with _ | _
      · rcases m with _ | _
        · go_wp2
          go_roundw
          case rel => exact ⟨k + 1, by omega, by go_num, by rw [HN.out]; rfl, HR1.out⟩
          case measure => simp [intOf]; omega
        · go_wp2_with fail
          refine (among_any _ len cap l py _ _ HL1.out).mono ?_
          rintro e y2 ⟨rfl, rfl⟩
          go_wp2
          go_roundw
          case rel => exact ⟨k + 1, by omega, by go_num, by rw [HN.out]; rfl, HR1.out⟩
          case measure => simp [intOf]; omega
      · go_wp2
        go_roundw
        case rel => exact ⟨k + 1, by omega, by go_num, by rw [HN.out]; rfl, HR1.out⟩
        case measure => simp [intOf]; omega
    · have hend := pairK_all H l (k := k) (by have := HL.out.len; omega)
      rw [hend]
      obtain ⟨pb, hpb⟩ : ∃ p, pairB H l = p := ⟨_, rfl⟩
      have HPb := hid hpb
      rw [hpb]
      have HLw := hid ((HL.out.below HBw.out))
      clear hend hpb
      have hd : (decide (2 * H ≤ i) = false ∧ datB n H i = false) ∨ (decide (2 * H ≤ i) = true ∧ decide (i < n) = true ∧ datB n H i = true) ∨ (decide (2 * H ≤ i) = true ∧ decide (i < n) = false ∧ datB n H i = false) := by
        unfold datB
        by_cases h1 : 2 * H ≤ i
        · by_cases h2 : i < n
          · exact .inr (.inl ⟨by simpa using h1, by simpa using h2, by simp; omega⟩)
          · exact .inr (.inr ⟨by simpa using h1, by simpa using h2, by simp; omega⟩)
        · exact .inl ⟨by simpa using h1, by simp; omega⟩
      have HD0 := hid (show Below wr.heap.size wr wr.drew from ⟨rfl, rfl, rfl, Nat.le_refl _, fun _ _ => rfl⟩)
      have HZ := hid (show ∀ wx, Below wr.heap.size wr wx → wx.cell? ⟨x, 0, none⟩ = some (.int .i64 n) ∧ wx.cell? ⟨x, 1, none⟩ = some (.int .i64 H) ∧ wx.cell? ⟨g, 0, none⟩ = some (.int .i64 n) ∧ wx.cell? ⟨g, 1, none⟩ = some (.int .i64 H) from
        fun wx h => ⟨(gcells (HXr.out.below h HXr.out.lt)).1, (gcells (HXr.out.below h HXr.out.lt)).2, (gcells (HKr.out.below h HKr.out.lt)).1, (gcells (HKr.out.below h HKr.out.lt)).2⟩)
      have hzd := HZ.out _ HD0.out
      have HLx := hid (show ∀ wx, Below wr.heap.size wr wx → Sn wx wx.heap.size A len cap l from fun wx h => sn_more (HLw.out.below (h.mono HBw.out.size)) (Nat.le_trans HBw.out.size h.size))
      rcases hd with ⟨d1, d2⟩ | ⟨d1, d3, d2⟩ | ⟨d1, d3, d2⟩
      · as_aux_lemma =>
          have HDa := hid d2
          clear d2
          go_wp2_with fail
          refine wp_region_held_drew (S := fun w' => w'.cell? ⟨x, 0, none⟩ = some (.int .i64 n) ∧ w'.cell? ⟨x, 1, none⟩ = some (.int .i64 H) ∧ w'.cell? ⟨g, 0, none⟩ = some (.int .i64 n) ∧ w'.cell? ⟨g, 1, none⟩ = some (.int .i64 H)) (by kernel_rfl) hzd (fun hH => ?_)
          refine wpAnyH_take (i := 0) (oi := _) (v := ?_) (by simp only [List.getElem?_toArray, List.getElem?_cons_zero]; rfl) (by kernel_rfl) (by kernel_rfl) (by kernel_rfl) (by exact fun _ _ _ h => h) (Or.inl ⟨by rfl, ?_⟩) hH ?_
          rotate_left
          · intro w hSw; (try dsimp only at hSw); go_simp; try with_reducible rfl
          try simp only [Act.put, List.setIfInBounds_toArray, List.set_cons_zero, List.set_cons_succ]
          refine wpAnyH_take (i := 1) (oi := _) (v := ?_) (by simp only [List.getElem?_toArray, List.getElem?_cons_succ, List.getElem?_cons_zero]; rfl) (by kernel_rfl) (by kernel_rfl) (by kernel_rfl) (by exact fun _ _ _ h => h) (Or.inl ⟨by rfl, ?_⟩) hH ?_
          rotate_left
          · intro w hSw; (try dsimp only at hSw); go_simp; try with_reducible rfl
          try simp only [Act.put, List.setIfInBounds_toArray, List.set_cons_zero, List.set_cons_succ]
          refine wpAnyH_take (i := 2) (oi := _) (v := ?_) (by simp only [List.getElem?_toArray, List.getElem?_cons_succ, List.getElem?_cons_zero]; rfl) (by kernel_rfl) (by kernel_rfl) (by kernel_rfl) (by exact fun _ _ _ h => h) (Or.inl ⟨by rfl, ?_⟩) hH ?_
          rotate_left
          · intro w hSw; (try dsimp only at hSw); go_simp; try with_reducible rfl
          try simp only [Act.put, List.setIfInBounds_toArray, List.set_cons_zero, List.set_cons_succ]
          refine wpAnyH_take (i := 3) (oi := _) (v := ?_) (by simp only [List.getElem?_toArray, List.getElem?_cons_succ, List.getElem?_cons_zero]; rfl) (by kernel_rfl) (by kernel_rfl) (by kernel_rfl) (by exact fun _ _ _ h => h) (Or.inl ⟨by rfl, ?_⟩) hH ?_
          rotate_left
          · intro w hSw; (try dsimp only at hSw); go_simp; try with_reducible rfl
          try simp only [Act.put, List.setIfInBounds_toArray, List.set_cons_zero, List.set_cons_succ]
          refine wpAnyH_take (i := 4) (oi := _) (v := ?_) (by simp only [List.getElem?_toArray, List.getElem?_cons_succ, List.getElem?_cons_zero]; rfl) (by kernel_rfl) (by kernel_rfl) (by kernel_rfl) (by exact fun _ _ _ h => h) (Or.inl ⟨by rfl, ?_⟩) hH ?_
          rotate_left
          · intro w hSw; (try dsimp only at hSw); go_simp; try with_reducible rfl
          try simp only [Act.put, List.setIfInBounds_toArray, List.set_cons_zero, List.set_cons_succ]
          refine wpAnyH_take (i := 5) (oi := _) (v := ?_) (by simp only [List.getElem?_toArray, List.getElem?_cons_succ, List.getElem?_cons_zero]; rfl) (by kernel_rfl) (by kernel_rfl) (by kernel_rfl) (by exact fun _ _ _ h => h) (Or.inl ⟨by rfl, ?_⟩) hH ?_
          rotate_left
          · intro w hSw; (try dsimp only at hSw); go_simp; try with_reducible rfl
          try simp only [Act.put, List.setIfInBounds_toArray, List.set_cons_zero, List.set_cons_succ]
          refine wpAnyH_take (i := 6) (oi := _) (v := ?_) (by simp only [List.getElem?_toArray, List.getElem?_cons_succ, List.getElem?_cons_zero]; rfl) (by kernel_rfl) (by kernel_rfl) (by kernel_rfl) (by exact fun _ _ _ h => h) (Or.inl ⟨by rfl, ?_⟩) hH ?_
          rotate_left
          · intro w hSw; (try dsimp only at hSw); go_simp; try with_reducible rfl
          try simp only [Act.put, List.setIfInBounds_toArray, List.set_cons_zero, List.set_cons_succ]
          refine wpAnyH_take (i := 7) (oi := _) (v := ?_) (by simp only [List.getElem?_toArray, List.getElem?_cons_succ, List.getElem?_cons_zero]; rfl) (by kernel_rfl) (by kernel_rfl) (by kernel_rfl) (by exact fun _ _ _ h => h) (Or.inl ⟨by rfl, ?_⟩) hH ?_
          rotate_left
          · intro w hSw; (try dsimp only at hSw); go_simp; try with_reducible rfl
          try simp only [Act.put, List.setIfInBounds_toArray, List.set_cons_zero, List.set_cons_succ]
          refine wpAnyH_take (i := 8) (oi := _) (v := ?_) (by simp only [List.getElem?_toArray, List.getElem?_cons_succ, List.getElem?_cons_zero]; rfl) (by kernel_rfl) (by kernel_rfl) (by kernel_rfl) (by exact fun _ _ _ h => h) (Or.inl ⟨by rfl, ?_⟩) hH ?_
          rotate_left
          · intro w hSw; (try dsimp only at hSw); go_simp; try with_reducible rfl
          try simp only [Act.put, List.setIfInBounds_toArray, List.set_cons_zero, List.set_cons_succ]
          refine wpAnyH_take (i := 9) (oi := _) (v := ?_) (by simp only [List.getElem?_toArray, List.getElem?_cons_succ, List.getElem?_cons_zero]; rfl) (by kernel_rfl) (by kernel_rfl) (by kernel_rfl) (by exact fun _ _ _ h => h) (Or.inl ⟨by rfl, ?_⟩) hH ?_
          rotate_left
          · intro w hSw; (try dsimp only at hSw); go_simp; try with_reducible rfl
          try simp only [Act.put, List.setIfInBounds_toArray, List.set_cons_zero, List.set_cons_succ]
          refine wpAnyH_take (i := 10) (oi := _) (v := ?_) (by simp only [List.getElem?_toArray, List.getElem?_cons_succ, List.getElem?_cons_zero]; rfl) (by kernel_rfl) (by kernel_rfl) (by kernel_rfl) (by exact fun _ _ _ h => h) (Or.inl ⟨by rfl, ?_⟩) hH ?_
          rotate_left
          · intro w hSw; (try dsimp only at hSw); go_simp; try with_reducible rfl
          try simp only [Act.put, List.setIfInBounds_toArray, List.set_cons_zero, List.set_cons_succ]
          refine wpAnyH_take (i := 12) (oi := _) (v := ?_) (by simp only [List.getElem?_toArray, List.getElem?_cons_succ, List.getElem?_cons_zero]; rfl) (by kernel_rfl) (by kernel_rfl) (by kernel_rfl) (by exact fun _ _ _ h => h) (Or.inl ⟨by rfl, ?_⟩) hH ?_
          rotate_left
          · intro w hSw; (try dsimp only at hSw); go_simp; try with_reducible rfl
          try simp only [Act.put, List.setIfInBounds_toArray, List.set_cons_zero, List.set_cons_succ]
          refine wpAnyH_ready (rs := [11]) (by kernel_rfl) (by simp) (AllReadyH.cons rfl (fun K hK => ?_) AllReadyH.nil)
          go_simp
          go_at_call 45; refine (mirrored_any n H i _ HG.out).mono ?_; rw [HM.out]; rintro e y1 ⟨rfl, hb⟩; have HY1 := hid (HD0.out.trans (hb.mono HD0.out.size)); have hz1 := HZ.out _ HY1.out; clear hb
          try go_wp2_with fail
          refine hK.out _ _ hz1 (fun hH => ?_)
          clear hK K
          try simp only [Act.put, List.setIfInBounds_toArray, List.set_cons_zero, List.set_cons_succ]
          refine wpAnyH_take (i := 13) (oi := _) (v := ?_) (by simp only [List.getElem?_toArray, List.getElem?_cons_succ, List.getElem?_cons_zero]; rfl) (by kernel_rfl) (by kernel_rfl) (by kernel_rfl) (by exact fun _ _ _ h => h) (Or.inl ⟨by rfl, ?_⟩) hH ?_
          rotate_left
          · intro w hSw; (try dsimp only at hSw); go_simp; try with_reducible rfl
          try simp only [Act.put, List.setIfInBounds_toArray, List.set_cons_zero, List.set_cons_succ]
          refine wpAnyH_take (i := 14) (oi := _) (v := ?_) (by simp only [List.getElem?_toArray, List.getElem?_cons_succ, List.getElem?_cons_zero]; rfl) (by kernel_rfl) (by kernel_rfl) (by kernel_rfl) (by exact fun _ _ _ h => h) (Or.inl ⟨by rfl, ?_⟩) hH ?_
          rotate_left
          · intro w hSw; (try dsimp only at hSw); go_simp; try with_reducible rfl
          try simp only [Act.put, List.setIfInBounds_toArray, List.set_cons_zero, List.set_cons_succ]
          refine wpAnyH_take (i := 15) (oi := _) (v := ?_) (by simp only [List.getElem?_toArray, List.getElem?_cons_succ, List.getElem?_cons_zero]; rfl) (by kernel_rfl) (by kernel_rfl) (by kernel_rfl) (by exact fun _ _ _ h => h) (Or.inl ⟨by rfl, ?_⟩) hH ?_
          rotate_left
          · intro w hSw; (try dsimp only at hSw); go_simp; try with_reducible rfl
          try simp only [Act.put, List.setIfInBounds_toArray, List.set_cons_zero, List.set_cons_succ]
          refine wpAnyH_take (i := 16) (oi := _) (v := ?_) (by simp only [List.getElem?_toArray, List.getElem?_cons_succ, List.getElem?_cons_zero]; rfl) (by kernel_rfl) (by kernel_rfl) (by kernel_rfl) (by exact fun _ _ _ h => h) (Or.inl ⟨by rfl, ?_⟩) hH ?_
          rotate_left
          · intro w hSw; (try dsimp only at hSw); go_simp; try with_reducible rfl
          try simp only [Act.put, List.setIfInBounds_toArray, List.set_cons_zero, List.set_cons_succ]
          refine wpAnyH_take (i := 17) (oi := _) (v := ?_) (by simp only [List.getElem?_toArray, List.getElem?_cons_succ, List.getElem?_cons_zero]; rfl) (by kernel_rfl) (by kernel_rfl) (by kernel_rfl) (by exact fun _ _ _ h => h) (Or.inl ⟨by rfl, ?_⟩) hH ?_
          rotate_left
          · intro w hSw; (try dsimp only at hSw); go_simp; try with_reducible rfl
          try simp only [Act.put, List.setIfInBounds_toArray, List.set_cons_zero, List.set_cons_succ]
          refine wpAnyH_take (i := 19) (oi := _) (v := ?_) (by simp only [List.getElem?_toArray, List.getElem?_cons_succ, List.getElem?_cons_zero]; rfl) (by kernel_rfl) (by kernel_rfl) (by kernel_rfl) (by exact fun _ _ _ h => h) (Or.inl ⟨by rfl, ?_⟩) hH ?_
          rotate_left
          · intro w hSw; (try dsimp only at hSw); go_simp; try with_reducible rfl
          try simp only [Act.put, List.setIfInBounds_toArray, List.set_cons_zero, List.set_cons_succ]
          refine wpAnyH_take (i := 20) (oi := _) (v := ?_) (by simp only [List.getElem?_toArray, List.getElem?_cons_succ, List.getElem?_cons_zero]; rfl) (by kernel_rfl) (by kernel_rfl) (by kernel_rfl) (by exact fun _ _ _ h => h) (Or.inl ⟨by rfl, ?_⟩) hH ?_
          rotate_left
          · intro w hSw; (try dsimp only at hSw); go_simp; try with_reducible rfl
          try simp only [Act.put, List.setIfInBounds_toArray, List.set_cons_zero, List.set_cons_succ]
          refine wpAnyH_take (i := 21) (oi := _) (v := ?_) (by simp only [List.getElem?_toArray, List.getElem?_cons_succ, List.getElem?_cons_zero]; rfl) (by kernel_rfl) (by kernel_rfl) (by kernel_rfl) (by exact fun _ _ _ h => h) (Or.inl ⟨by rfl, ?_⟩) hH ?_
          rotate_left
          · intro w hSw; (try dsimp only at hSw); go_simp; try with_reducible rfl
          try simp only [Act.put, List.setIfInBounds_toArray, List.set_cons_zero, List.set_cons_succ]
          refine wpAnyH_take (i := 22) (oi := _) (v := ?_) (by simp only [List.getElem?_toArray, List.getElem?_cons_succ, List.getElem?_cons_zero]; rfl) (by kernel_rfl) (by kernel_rfl) (by kernel_rfl) (by exact fun _ _ _ h => h) (Or.inl ⟨by rfl, ?_⟩) hH ?_
          rotate_left
          · intro w hSw; (try dsimp only at hSw); go_simp; try with_reducible rfl
          try simp only [Act.put, List.setIfInBounds_toArray, List.set_cons_zero, List.set_cons_succ]
          refine wpAnyH_take (i := 23) (oi := _) (v := ?_) (by simp only [List.getElem?_toArray, List.getElem?_cons_succ, List.getElem?_cons_zero]; rfl) (by kernel_rfl) (by kernel_rfl) (by kernel_rfl) (by exact fun _ _ _ h => h) (Or.inl ⟨by rfl, ?_⟩) hH ?_
          rotate_left
          · intro w hSw; (try dsimp only at hSw); go_simp; try with_reducible rfl
          try simp only [Act.put, List.setIfInBounds_toArray, List.set_cons_zero, List.set_cons_succ]
          refine wpAnyH_ready (rs := [18]) (by kernel_rfl) (by simp) (AllReadyH.cons rfl (fun K hK => ?_) AllReadyH.nil)
          go_simp
          go_at_call 46; refine (data_any n H i _ HG.out).mono ?_; rw [HDa.out]; rintro e y2 ⟨rfl, hb⟩; have HY2 := hid (HY1.out.trans (hb.mono HY1.out.size)); have hz2 := HZ.out _ HY2.out; clear hb
          try go_wp2_with fail
          refine hK.out _ _ hz2 (fun hH => ?_)
          clear hK K
          try simp only [Act.put, List.setIfInBounds_toArray, List.set_cons_zero, List.set_cons_succ]
          refine wpAnyH_take (i := 24) (oi := _) (v := ?_) (by simp only [List.getElem?_toArray, List.getElem?_cons_succ, List.getElem?_cons_zero]; rfl) (by kernel_rfl) (by kernel_rfl) (by kernel_rfl) (by exact fun _ _ _ h => h) (Or.inl ⟨by rfl, ?_⟩) hH ?_
          rotate_left
          · intro w hSw; (try dsimp only at hSw); go_simp; try with_reducible rfl
          try simp only [Act.put, List.setIfInBounds_toArray, List.set_cons_zero, List.set_cons_succ]
          refine wpAnyH_take (i := 25) (oi := _) (v := undef) (by simp only [List.getElem?_toArray, List.getElem?_cons_succ, List.getElem?_cons_zero]; rfl) (by kernel_rfl) (by kernel_rfl) (by kernel_rfl) (by exact fun _ _ _ h => h) (Or.inr ⟨by rfl, rfl⟩) hH ?_
          try simp only [Act.put, List.setIfInBounds_toArray, List.set_cons_zero, List.set_cons_succ]
          refine wpAnyH_take (i := 26) (oi := _) (v := undef) (by simp only [List.getElem?_toArray, List.getElem?_cons_succ, List.getElem?_cons_zero]; rfl) (by kernel_rfl) (by kernel_rfl) (by kernel_rfl) (by exact fun _ _ _ h => h) (Or.inr ⟨by rfl, rfl⟩) hH ?_
          try simp only [Act.put, List.setIfInBounds_toArray, List.set_cons_zero, List.set_cons_succ]
          refine wpAnyH_take (i := 27) (oi := _) (v := undef) (by simp only [List.getElem?_toArray, List.getElem?_cons_succ, List.getElem?_cons_zero]; rfl) (by kernel_rfl) (by kernel_rfl) (by kernel_rfl) (by exact fun _ _ _ h => h) (Or.inr ⟨by rfl, rfl⟩) hH ?_
          try simp only [Act.put, List.setIfInBounds_toArray, List.set_cons_zero, List.set_cons_succ]
          refine wpAnyH_take (i := 28) (oi := _) (v := ?_) (by simp only [List.getElem?_toArray, List.getElem?_cons_succ, List.getElem?_cons_zero]; rfl) (by kernel_rfl) (by kernel_rfl) (by kernel_rfl) (by exact fun _ _ _ h => h) (Or.inl ⟨by rfl, ?_⟩) hH ?_
          rotate_left
          · intro w hSw; (try dsimp only at hSw); go_simp; try with_reducible rfl
          try simp only [Act.put, List.setIfInBounds_toArray, List.set_cons_zero, List.set_cons_succ]
          refine wpAnyH_take (i := 29) (oi := _) (v := ?_) (by simp only [List.getElem?_toArray, List.getElem?_cons_succ, List.getElem?_cons_zero]; rfl) (by kernel_rfl) (by kernel_rfl) (by kernel_rfl) (by exact fun _ _ _ h => h) (Or.inl ⟨by rfl, ?_⟩) hH ?_
          rotate_left
          · intro w hSw; (try dsimp only at hSw); go_simp; try with_reducible rfl
          try simp only [Act.put, List.setIfInBounds_toArray, List.set_cons_zero, List.set_cons_succ]
          refine wpAnyH_take (i := 30) (oi := _) (v := ?_) (by simp only [List.getElem?_toArray, List.getElem?_cons_succ, List.getElem?_cons_zero]; rfl) (by kernel_rfl) (by kernel_rfl) (by kernel_rfl) (by exact fun _ _ _ h => h) (Or.inl ⟨by rfl, ?_⟩) hH ?_
          rotate_left
          · intro w hSw; (try dsimp only at hSw); go_simp; try with_reducible rfl
          try simp only [Act.put, List.setIfInBounds_toArray, List.set_cons_zero, List.set_cons_succ]
          refine wpAnyH_take (i := 31) (oi := _) (v := ?_) (by simp only [List.getElem?_toArray, List.getElem?_cons_succ, List.getElem?_cons_zero]; rfl) (by kernel_rfl) (by kernel_rfl) (by kernel_rfl) (by exact fun _ _ _ h => h) (Or.inl ⟨by rfl, ?_⟩) hH ?_
          rotate_left
          · intro w hSw; (try dsimp only at hSw); go_simp; try with_reducible rfl
          try simp only [Act.put, List.setIfInBounds_toArray, List.set_cons_zero, List.set_cons_succ]
          refine wpAnyH_take (i := 32) (oi := _) (v := ?_) (by simp only [List.getElem?_toArray, List.getElem?_cons_succ, List.getElem?_cons_zero]; rfl) (by kernel_rfl) (by kernel_rfl) (by kernel_rfl) (by exact fun _ _ _ h => h) (Or.inl ⟨by rfl, ?_⟩) hH ?_
          rotate_left
          · intro w hSw; (try dsimp only at hSw); go_simp; try with_reducible rfl
          try simp only [Act.put, List.setIfInBounds_toArray, List.set_cons_zero, List.set_cons_succ]
          refine wpAnyH_take (i := 34) (oi := _) (v := ?_) (by simp only [List.getElem?_toArray, List.getElem?_cons_succ, List.getElem?_cons_zero]; rfl) (by kernel_rfl) (by kernel_rfl) (by kernel_rfl) (by exact fun _ _ _ h => h) (Or.inl ⟨by rfl, ?_⟩) hH ?_
          rotate_left
          · intro w hSw; (try dsimp only at hSw); go_simp; try with_reducible rfl
          try simp only [Act.put, List.setIfInBounds_toArray, List.set_cons_zero, List.set_cons_succ]
          refine wpAnyH_take (i := 35) (oi := _) (v := ?_) (by simp only [List.getElem?_toArray, List.getElem?_cons_succ, List.getElem?_cons_zero]; rfl) (by kernel_rfl) (by kernel_rfl) (by kernel_rfl) (by exact fun _ _ _ h => h) (Or.inl ⟨by rfl, ?_⟩) hH ?_
          rotate_left
          · intro w hSw; (try dsimp only at hSw); go_simp; try with_reducible rfl
          try simp only [Act.put, List.setIfInBounds_toArray, List.set_cons_zero, List.set_cons_succ]
          refine wpAnyH_take (i := 36) (oi := _) (v := ?_) (by simp only [List.getElem?_toArray, List.getElem?_cons_succ, List.getElem?_cons_zero]; rfl) (by kernel_rfl) (by kernel_rfl) (by kernel_rfl) (by exact fun _ _ _ h => h) (Or.inl ⟨by rfl, ?_⟩) hH ?_
          rotate_left
          · intro w hSw; (try dsimp only at hSw); go_simp; try with_reducible rfl
          try simp only [Act.put, List.setIfInBounds_toArray, List.set_cons_zero, List.set_cons_succ]
          refine wpAnyH_take (i := 37) (oi := _) (v := ?_) (by simp only [List.getElem?_toArray, List.getElem?_cons_succ, List.getElem?_cons_zero]; rfl) (by kernel_rfl) (by kernel_rfl) (by kernel_rfl) (by exact fun _ _ _ h => h) (Or.inl ⟨by rfl, ?_⟩) hH ?_
          rotate_left
          · intro w hSw; (try dsimp only at hSw); go_simp; try with_reducible rfl
          try simp only [Act.put, List.setIfInBounds_toArray, List.set_cons_zero, List.set_cons_succ]
          refine wpAnyH_take (i := 38) (oi := _) (v := ?_) (by simp only [List.getElem?_toArray, List.getElem?_cons_succ, List.getElem?_cons_zero]; rfl) (by kernel_rfl) (by kernel_rfl) (by kernel_rfl) (by exact fun _ _ _ h => h) (Or.inl ⟨by rfl, ?_⟩) hH ?_
          rotate_left
          · intro w hSw; (try dsimp only at hSw); go_simp; try with_reducible rfl
          try simp only [Act.put, List.setIfInBounds_toArray, List.set_cons_zero, List.set_cons_succ]
          refine wpAnyH_ready (rs := [33]) (by kernel_rfl) (by simp) (AllReadyH.cons rfl (fun K hK => ?_) AllReadyH.nil)
          go_simp
          go_at_call 47; refine (datas_any n H _ HG.out).mono ?_; rintro e y3 ⟨rfl, hb⟩; have HY3 := hid (HY2.out.trans (hb.mono HY2.out.size)); have hz3 := HZ.out _ HY3.out; clear hb
          try go_wp2_with fail
          refine hK.out _ _ hz3 (fun hH => ?_)
          clear hK K
          try simp only [Act.put, List.setIfInBounds_toArray, List.set_cons_zero, List.set_cons_succ]
          refine wpAnyH_take (i := 39) (oi := _) (v := ?_) (by simp only [List.getElem?_toArray, List.getElem?_cons_succ, List.getElem?_cons_zero]; rfl) (by kernel_rfl) (by kernel_rfl) (by kernel_rfl) (by exact fun _ _ _ h => h) (Or.inl ⟨by rfl, ?_⟩) hH ?_
          rotate_left
          · intro w hSw; (try dsimp only at hSw); go_simp; try with_reducible rfl
          try simp only [Act.put, List.setIfInBounds_toArray, List.set_cons_zero, List.set_cons_succ]
          refine wpAnyH_take (i := 40) (oi := _) (v := ?_) (by simp only [List.getElem?_toArray, List.getElem?_cons_succ, List.getElem?_cons_zero]; rfl) (by kernel_rfl) (by kernel_rfl) (by kernel_rfl) (by exact fun _ _ _ h => h) (Or.inl ⟨by rfl, ?_⟩) hH ?_
          rotate_left
          · intro w hSw; (try dsimp only at hSw); go_simp; try with_reducible rfl
          try simp only [Act.put, List.setIfInBounds_toArray, List.set_cons_zero, List.set_cons_succ]
          refine wpAnyH_take (i := 41) (oi := _) (v := ?_) (by simp only [List.getElem?_toArray, List.getElem?_cons_succ, List.getElem?_cons_zero]; rfl) (by kernel_rfl) (by kernel_rfl) (by kernel_rfl) (by exact fun _ _ _ h => h) (Or.inl ⟨by rfl, ?_⟩) hH ?_
          rotate_left
          · intro w hSw; (try dsimp only at hSw); go_simp; try with_reducible rfl
          try simp only [Act.put, List.setIfInBounds_toArray, List.set_cons_zero, List.set_cons_succ]
          refine wpAnyH_take (i := 42) (oi := _) (v := ?_) (by simp only [List.getElem?_toArray, List.getElem?_cons_succ, List.getElem?_cons_zero]; rfl) (by kernel_rfl) (by kernel_rfl) (by kernel_rfl) (by exact fun _ _ _ h => h) (Or.inl ⟨by rfl, ?_⟩) hH ?_
          rotate_left
          · intro w hSw; (try dsimp only at hSw); go_simp; try with_reducible rfl
          try simp only [Act.put, List.setIfInBounds_toArray, List.set_cons_zero, List.set_cons_succ]
          refine wpAnyH_take (i := 44) (oi := _) (v := ?_) (by simp only [List.getElem?_toArray, List.getElem?_cons_succ, List.getElem?_cons_zero]; rfl) (by kernel_rfl) (by kernel_rfl) (by kernel_rfl) (by exact fun _ _ _ h => h) (Or.inl ⟨by rfl, ?_⟩) hH ?_
          rotate_left
          · intro w hSw; (try dsimp only at hSw); go_simp; try with_reducible rfl
          try simp only [Act.put, List.setIfInBounds_toArray, List.set_cons_zero, List.set_cons_succ]
          refine wpAnyH_ready (rs := [43]) (by kernel_rfl) (by simp) (AllReadyH.cons rfl (fun K hK => ?_) AllReadyH.nil)
          go_simp
          go_at_call 48; refine (quota_any n H _ HG.out).mono ?_; rw [HQ.out]; rintro e y4 ⟨rfl, hb⟩; have HY4 := hid (HY3.out.trans (hb.mono HY3.out.size)); have hz4 := HZ.out _ HY4.out; clear hb
          try go_wp2_with fail
          refine hK.out _ _ hz4 (fun hH => ?_)
          clear hK K
          try simp only [Act.put, List.setIfInBounds_toArray, List.set_cons_zero, List.set_cons_succ]
          refine wpAnyH_ready (rs := [45]) (by kernel_rfl) (by simp) (AllReadyH.cons rfl (fun K hK => ?_) AllReadyH.nil)
          go_simp
          go_at_call 49; refine (refQuota_any n H _ HG.out).mono ?_; rw [HQ.out]; rintro e y5 ⟨rfl, hb⟩; have HY5 := hid (HY4.out.trans (hb.mono HY4.out.size)); have hz5 := HZ.out _ HY5.out; clear hb
          try go_wp2_with fail
          refine hK.out _ _ hz5 (fun hH => ?_)
          clear hK K
          try simp only [Act.put, List.setIfInBounds_toArray, List.set_cons_zero, List.set_cons_succ]
          refine wpAnyH_take (i := 46) (oi := _) (v := ?_) (by simp only [List.getElem?_toArray, List.getElem?_cons_succ, List.getElem?_cons_zero]; rfl) (by kernel_rfl) (by kernel_rfl) (by kernel_rfl) (by exact fun _ _ _ h => h) (Or.inl ⟨by rfl, ?_⟩) hH ?_
          rotate_left
          · intro w hSw; (try dsimp only at hSw); go_simp; try with_reducible rfl
          try simp only [Act.put, List.setIfInBounds_toArray, List.set_cons_zero, List.set_cons_succ]
          refine wpAnyH_take (i := 47) (oi := _) (v := ?_) (by simp only [List.getElem?_toArray, List.getElem?_cons_succ, List.getElem?_cons_zero]; rfl) (by kernel_rfl) (by kernel_rfl) (by kernel_rfl) (by exact fun _ _ _ h => h) (Or.inl ⟨by rfl, ?_⟩) hH ?_
          rotate_left
          · intro w hSw; (try dsimp only at hSw); go_simp; try with_reducible rfl
          try simp only [Act.put, List.setIfInBounds_toArray, List.set_cons_zero, List.set_cons_succ]
          refine wpAnyH_take (i := 48) (oi := _) (v := ?_) (by simp only [List.getElem?_toArray, List.getElem?_cons_succ, List.getElem?_cons_zero]; rfl) (by kernel_rfl) (by kernel_rfl) (by kernel_rfl) (by exact fun _ _ _ h => h) (Or.inl ⟨by rfl, ?_⟩) hH ?_
          rotate_left
          · intro w hSw; (try dsimp only at hSw); go_simp; try with_reducible rfl
          try simp only [Act.put, List.setIfInBounds_toArray, List.set_cons_zero, List.set_cons_succ]
          refine wpAnyH_take (i := 49) (oi := _) (v := ?_) (by simp only [List.getElem?_toArray, List.getElem?_cons_succ, List.getElem?_cons_zero]; rfl) (by kernel_rfl) (by kernel_rfl) (by kernel_rfl) (by exact fun _ _ _ h => h) (Or.inl ⟨by rfl, ?_⟩) hH ?_
          rotate_left
          · intro w hSw; (try dsimp only at hSw); go_simp; try with_reducible rfl
          try simp only [Act.put, List.setIfInBounds_toArray, List.set_cons_zero, List.set_cons_succ]
          refine wpAnyH_take (i := 50) (oi := _) (v := ?_) (by simp only [List.getElem?_toArray, List.getElem?_cons_succ, List.getElem?_cons_zero]; rfl) (by kernel_rfl) (by kernel_rfl) (by kernel_rfl) (by exact fun _ _ _ h => h) (Or.inl ⟨by rfl, ?_⟩) hH ?_
          rotate_left
          · intro w hSw; (try dsimp only at hSw); go_simp; try with_reducible rfl
          try simp only [Act.put, List.setIfInBounds_toArray, List.set_cons_zero, List.set_cons_succ]
          refine wpAnyH_take (i := 52) (oi := _) (v := ?_) (by simp only [List.getElem?_toArray, List.getElem?_cons_succ, List.getElem?_cons_zero]; rfl) (by kernel_rfl) (by kernel_rfl) (by kernel_rfl) (by exact fun _ _ _ h => h) (Or.inl ⟨by rfl, ?_⟩) hH ?_
          rotate_left
          · intro w hSw; (try dsimp only at hSw); go_simp; try with_reducible rfl
          try simp only [Act.put, List.setIfInBounds_toArray, List.set_cons_zero, List.set_cons_succ]
          refine wpAnyH_ready (rs := [51]) (by kernel_rfl) (by simp) (AllReadyH.cons rfl (fun K hK => ?_) AllReadyH.nil)
          go_simp
          go_at_call 50; refine (paired_any n H _ len cap l _ HG.out (HLx.out _ HY5.out) HWd.out).mono ?_; rw [HPb.out]; rintro e y6 ⟨rfl, hb⟩; have HY6 := hid (HY5.out.trans (hb.mono HY5.out.size)); have hz6 := HZ.out _ HY6.out; clear hb
          try go_wp2_with fail
          refine hK.out _ _ hz6 (fun hH => ?_)
          clear hK K
          try simp only [Act.put, List.setIfInBounds_toArray, List.set_cons_zero, List.set_cons_succ]
          refine wpAnyH_take (i := 53) (oi := _) (v := ?_) (by simp only [List.getElem?_toArray, List.getElem?_cons_succ, List.getElem?_cons_zero]; rfl) (by kernel_rfl) (by kernel_rfl) (by kernel_rfl) (by exact fun _ _ _ h => h) (Or.inl ⟨by rfl, ?_⟩) hH ?_
          rotate_left
          · intro w hSw; (try dsimp only at hSw); go_simp; try with_reducible rfl
          try simp only [Act.put, List.setIfInBounds_toArray, List.set_cons_zero, List.set_cons_succ]
          refine wpAnyH_take (i := 54) (oi := _) (v := ?_) (by simp only [List.getElem?_toArray, List.getElem?_cons_succ, List.getElem?_cons_zero]; rfl) (by kernel_rfl) (by kernel_rfl) (by kernel_rfl) (by exact fun _ _ _ h => h) (Or.inl ⟨by rfl, ?_⟩) hH ?_
          rotate_left
          · intro w hSw; (try dsimp only at hSw); go_simp; try with_reducible rfl
          try simp only [Act.put, List.setIfInBounds_toArray, List.set_cons_zero, List.set_cons_succ]
          refine wpAnyH_take (i := 55) (oi := _) (v := ?_) (by simp only [List.getElem?_toArray, List.getElem?_cons_succ, List.getElem?_cons_zero]; rfl) (by kernel_rfl) (by kernel_rfl) (by kernel_rfl) (by exact fun _ _ _ h => h) (Or.inl ⟨by rfl, ?_⟩) hH ?_
          rotate_left
          · intro w hSw; (try dsimp only at hSw); go_simp; try with_reducible rfl
          try simp only [Act.put, List.setIfInBounds_toArray, List.set_cons_zero, List.set_cons_succ]
          refine wpAnyH_done (by kernel_rfl) ?_ _
          go_wp2
          go_ret
          exact ⟨rfl, HBw.out.trans (HY6.out.mono HBw.out.size)⟩
      all_goals as_aux_lemma =>
        have HDa := hid d2
        clear d2
        go_wp2_with fail
        go_region_held3 (fun w' => w'.cell? ⟨x, 0, none⟩ = some (.int .i64 n) ∧ w'.cell? ⟨x, 1, none⟩ = some (.int .i64 H) ∧ w'.cell? ⟨g, 0, none⟩ = some (.int .i64 n) ∧ w'.cell? ⟨g, 1, none⟩ = some (.int .i64 H)) (assumption)
          ((first
          | (go_at_call 50; have h := HY5.out; clear h; refine (paired_any n H _ len cap l _ HG.out (HLx.out _ HY5.out) HWd.out).mono ?_; rw [HPb.out]; rintro e y6 ⟨rfl, hb⟩; have HY6 := hid (HY5.out.trans (hb.mono HY5.out.size)); have hz6 := HZ.out _ HY6.out; clear hb)
          | (go_at_call 49; have h := HY4.out; clear h; refine (refQuota_any n H _ HG.out).mono ?_; rw [HQ.out]; rintro e y5 ⟨rfl, hb⟩; have HY5 := hid (HY4.out.trans (hb.mono HY4.out.size)); have hz5 := HZ.out _ HY5.out; clear hb)
          | (go_at_call 48; have h := HY3.out; clear h; refine (quota_any n H _ HG.out).mono ?_; rw [HQ.out]; rintro e y4 ⟨rfl, hb⟩; have HY4 := hid (HY3.out.trans (hb.mono HY3.out.size)); have hz4 := HZ.out _ HY4.out; clear hb)
          | (go_at_call 47; have h := HY2.out; clear h; refine (datas_any n H _ HG.out).mono ?_; rintro e y3 ⟨rfl, hb⟩; have HY3 := hid (HY2.out.trans (hb.mono HY2.out.size)); have hz3 := HZ.out _ HY3.out; clear hb)
          | (go_at_call 46; have h := HY1.out; clear h; refine (data_any n H i _ HG.out).mono ?_; rw [HDa.out]; rintro e y2 ⟨rfl, hb⟩; have HY2 := hid (HY1.out.trans (hb.mono HY1.out.size)); have hz2 := HZ.out _ HY2.out; clear hb)
          | (go_at_call 45; refine (mirrored_any n H i _ HG.out).mono ?_; rw [HM.out]; rintro e y1 ⟨rfl, hb⟩; have HY1 := hid (HD0.out.trans (hb.mono HD0.out.size)); have hz1 := HZ.out _ HY1.out; clear hb)))
        go_wp2
        go_ret
        exact ⟨rfl, HBw.out.trans (HY6.out.mono HBw.out.size)⟩
end Go.Proofs.YtndbanfkiaockaaDoor
