/- SpanLays, walked. -/
import Derived.Test.YtbgldblenlinjaaGSpH
namespace Go.Proofs.Ytbgldblenlinjaa
open Go.RowKit

set_option maxRecDepth 100000 in
set_option maxHeartbeats 16000000 in
theorem spanLays_any (x : Int) (A : Option Addr) (n c : Nat) (l : List Int) (f : Int) (w : World) (h : Sl w w.heap.size A n c l) :
    Calls Try.prog 4 #[.int .i64 x, .slice A n c, .int .u8 f] w (Yes w) := by
  obtain ⟨i0, hi, hz0, hz1, hz2⟩ := info_parts Try.info5
  have hmx : n ≤ 9223372036854775807 := by have := h.cap; have := h.max; unfold maxLen at this; omega
  have HS0 := hid h
  clear h
  go_enter Try.func4, Try.ntmps4
  go_wp2_with fail
  refine (first_any w).mono ?_
  rintro e w1 ⟨rfl, hb⟩
  have HB1 := hid hb
  clear hb
  by_cases h1000 : 1000 < n
  · go_wp2
    go_ret
    exact ⟨rfl, HB1.out⟩
  have hn1 : n ≤ 1000 := by omega
  clear h1000 hmx
  obtain ⟨p, hp, hp1⟩ : ∃ p : Nat, x % 1000 = (p : Int) ∧ p < 1000 := ⟨(x % 1000).toNat, by omega, by omega⟩
  have HX := hid hp
  clear hp
  go_wp2_with fail
  refine (number_any x 1000 _ (by omega) (by omega)).mono ?_
  rintro e w2 ⟨rfl, rfl⟩
  rw [HX.out]
  go_wp2_with (at_make; refine wpList_make_full _ rfl _ _ 29 rfl w1.heap.size 5 i0 (.int .u8 0) 1 Try.underlying29 hi hz0 hz1 _ _ _ _ 2048 rfl rfl rfl rfl ?b2 ?b3 ?b4 ?_)
  case b2 => rw [hz2]; omega
  case b3 => unfold maxLen; omega
  case b4 => exact Nat.le_refl _
  intro w2 hown hgrow
  obtain ⟨g, hg⟩ : ∃ g, w1.heap.size = g := ⟨_, rfl⟩
  obtain ⟨Z, hZ, hZl⟩ : ∃ Z : List Int, Z = List.replicate 2048 0 ∧ Z.length = 2048 := ⟨_, rfl, List.length_replicate⟩
  obtain ⟨X, hX, hXl, hXa⟩ : ∃ X : List Int, X = lays p l f 0 ∧ X.length = 2048 ∧ ∀ i, i < 2048 → X[i]? = some f := ⟨_, rfl, lays_len _ _ _ _, fun i hi => by rw [lays_get p l f 0 hi, if_neg (by omega)]⟩
  have HR2 := hid (show Row w2 g (X.take 0 ++ Z.drop 0) by
    rw [hg] at hown
    refine ⟨by simp [hZl], ?_⟩
    rw [zeros, ← hZ] at hown
    unfold OwnV
    rw [List.take_zero, List.nil_append, List.drop_zero, I_len, hZl]
    exact hown)
  have HB2 := hid (HB1.out.trans (((Below.refl _ _).grown hgrow (Nat.le_refl _) (fun _ h => by cases h) : Below w1.heap.size w1 w2).mono HB1.out.size))
  have HG := hid (show w.heap.size ≤ g from hg ▸ HB1.out.size)
  have HXX := hid (And.intro hX (And.intro hXl hXa))
  have HZl := hid hZl
  rw [hg]
  clear hown hgrow hg hZ hX hXl hXa hZl
  go_wp2
  go_loopw [9] (fun i wr => ∃ k : Nat, k ≤ 2048 ∧ i = .int .i64 (k : Int) ∧ Row wr g (X.take k ++ Z.drop k) ∧ Below w.heap.size w wr ∧ g < wr.heap.size) (fun i _ => 2048 - (intOf i).toNat)
  case atStart => exact ⟨0, Nat.zero_le _, rfl, HR2.out, HB2.out, HR2.out.lt⟩
  case round =>
    obtain ⟨k, hk, rfl, hrow, hb, hgs⟩ := hrel
    have HR := hid hrow
    have HB := hid hb
    clear hrow hb
    by_cases hlt : k < 2048
    · have hcell := HR.out.cell ((row_at (xs := X) (by rw [HZl.out]; exact hlt) (by rw [HXX.out.2.1, HZl.out])).trans (List.getElem?_eq_getElem (by rw [HZl.out]; exact hlt)))
      have hfr := HR.out.free k
      have R1 := hid (show Row (wr.setCell ⟨g, k, none⟩ (.int .u8 f)) g (X.take (k + 1) ++ Z.drop (k + 1)) by
        have := HR.out.put k f
        rwa [row_next (HXX.out.2.2 k hlt) (by rw [HXX.out.2.1, HZl.out])] at this)
      have R2 := hid (show Below w.heap.size w (wr.setCell ⟨g, k, none⟩ (.int .u8 f)) from HB.out.setCell HG.out _)
      have R3 := hid (show g < (wr.setCell ⟨g, k, none⟩ (.int .u8 f)).heap.size from R1.out.lt)
      go_wp2
      go_roundw
      case rel => exact ⟨k + 1, by omega, by go_num, R1.out, R2.out, R3.out⟩
      case measure => simp [intOf]; omega
    · obtain rfl : k = 2048 := by omega
      have HR3 := hid (show Row wr g (lays p l f (pS p n 0)) by
        have := HR.out
        rw [List.take_of_length_le (by rw [HXX.out.2.1]; omega), List.drop_eq_nil_of_le (by rw [HZl.out]; omega), List.append_nil, HXX.out.1] at this
        rw [show pS p n 0 = 0 by unfold pS; omega]
        exact this)
      clear HR HXX HZl HR2 HB2
      go_wp2_with fail
      refine (pieces_any p n _ (by omega) (by omega)).mono ?_
      rintro e w3 ho
      obtain ⟨A2, cp, rfl, hp, hb, hfar⟩ := ho.far
      have HR4 := hid (HR3.out.on hb)
      have HP4 := hid hp
      have HB4 := hid (HB.out.trans (hb.mono HB.out.size))
      have HF4 := hid (show ∀ ad, A2 = some ad → g < ad.block from fun ad ha => Nat.lt_of_lt_of_le hgs (hfar ad ha))
      obtain ⟨N, hN⟩ : ∃ N, pN p n = N := ⟨_, rfl⟩
      have HNe := hid hN
      have hN1 : N ≤ 100000 := hN ▸ pN_le (by omega)
      rw [hN]
      clear ho hp hb hfar hN HR3 HB hgs hk hlt
      go_wp2
      go_loopw [11, 12] (fun fv iv wr => ∃ k : Nat, k ≤ N ∧ iv = .int .i64 (k : Int) ∧ fv = .int .i64 ((pS p n k : Nat) : Int) ∧ Row wr g (lays p l f (pS p n k)) ∧ PSl wr A2 p n ∧ Below w.heap.size w wr) (fun _ iv _ => N - (intOf iv).toNat)
      case atStart => exact ⟨0, Nat.zero_le _, rfl, congrArg (Value.int .i64) (by unfold pS; omega), HR4.out, HP4.out, HB4.out⟩
      case round =>
        obtain ⟨k, hk, rfl, rfl, hrow, hp, hb⟩ := hrel
        have HR := hid hrow
        have HP := hid hp
        have HB := hid hb
        clear hrow hp hb HR4 HP4 HB4
        by_cases hlt : k < N
        · have hkn : k < pN p n := by rw [HNe.out]; exact hlt
          obtain ⟨g2, rfl, hg2, e0, e1, e2⟩ := HP.out.at_ hkn
          obtain ⟨m1, m2, m3, m4, m5⟩ := p_more hkn
          have HNx := hid m4
          have m6 : pS p n k + (pT p n k - pF p k) ≤ n := by rw [← m4]; exact Nat.min_le_right _ _
          have m7 : pI p k ≤ 7 := by omega
          have HEq := hid m5
          clear m4 m5 hkn
          obtain ⟨i, hi'⟩ : ∃ i, pI p k = i := ⟨_, rfl⟩
          obtain ⟨F, hF⟩ : ∃ F, pF p k = F := ⟨_, rfl⟩
          obtain ⟨T, hT⟩ : ∃ T, pT p n k = T := ⟨_, rfl⟩
          obtain ⟨Q, hQ⟩ : ∃ Q, pS p n k = Q := ⟨_, rfl⟩
          rw [hi'] at e0 m7 HEq
          rw [hF] at e1 m2 m6 HNx HEq
          rw [hT] at e2 m2 m3 m6 HNx
          rw [hQ] at m1 m6 HNx HEq HR ⊢
          clear hi' hF hT hQ
          have hsc := HS0.out.cap
          obtain ⟨ad, hA⟩ := some_of_sl HS0.out (by omega)
          subst hA
          have hcQ : ¬ c = Q := by omega
          obtain ⟨K, hK⟩ : ∃ K, T = F + K := ⟨T - F, by omega⟩
          have HTF := hid (show (T : Int) - (F : Int) = (K : Int) by omega)
          have HTK := hid hK
          have hQK : Q + K ≤ n := by omega
          have hK0 : 0 < K := by omega
          clear hK
          go_wp2_with fail
          obtain ⟨W, hW⟩ : ∃ W, wr.alloc (.cells #[.int .i64 (i : Int), .int .i64 (F : Int), .int .i64 (T : Int)] 27) = W := ⟨_, rfl⟩
          have hbW : Below wr.heap.size wr W := hW ▸ (Below.refl _ _).alloc (Nat.le_refl _) _
          have HRW := hid (HR.out.on hbW)
          have HPW := hid (HP.out.on hbW)
          have HBW := hid (HB.out.trans (hbW.mono HB.out.size))
          have HKW := hid (show Blk W wr.heap.size 27 #[.int .i64 (i : Int), .int .i64 (F : Int), .int .i64 (T : Int)] from hW ▸ Blk.new wr _ _)
          have HgW := hid HR.out.lt
          obtain ⟨q, hq⟩ : ∃ q, wr.heap.size = q := ⟨_, rfl⟩
          rw [hq] at HKW HgW ⊢
          rw [hW]
          clear hW hbW HR HP HB e0 e1 e2 hg2
          refine (bytes_any _ 256 _ _ W (HRW.out.sl m7) (by omega)).mono ?_
          rintro e w4 hm
          obtain ⟨A3, m0, c3, rfl, hsl, hb, hfar⟩ := hm.fresh
          obtain rfl : m0 = 256 := by
            have := hsl.len
            rw [List.length_take, List.length_drop, HRW.out.1] at this
            omega
          have HO := hid hsl
          have HR4 := hid (HRW.out.on hb)
          have HP4 := hid (HPW.out.on hb)
          have HB4 := hid (HBW.out.trans (hb.mono HBW.out.size))
          have HK4 := hid (HKW.out.below hb HKW.out.lt)
          have d0 := HK4.out.drew.cell 0
          have d1 := HK4.out.drew.cell 1
          have d2 := HK4.out.drew.cell 2
          simp at d0 d1 d2
          have HSb := hid (show Sl w4.drew w4.drew.heap.size (some (ad.add Q)) K (c - Q) ((l.drop Q).take K) from by
            have h := ((HS0.out.below HB4.out).more HB4.out.size).drew.cut (k := Q) (by omega)
            rw [if_neg hcQ] at h
            exact h.head (by omega))
          clear hm hsl hb hfar HRW HPW HBW HKW hq
          go_wp2_with fail
          rw [HTF.out]
          have hw1 : IntKind.i64.wrap ((Q : Int) + (K : Int)) = (Q : Int) + (K : Int) := by rw [IntKind.wrap_i64]; omega
          have hw2 : (0 : Int) ≤ (Q : Int) := by omega
          have hw3 : (Q : Int) ≤ (Q : Int) + (K : Int) := by omega
          have hw4 : (Q : Int) + (K : Int) ≤ (c : Int) := by omega
          go_region_held3 (fun w' => w'.cell? ⟨q, 0, none⟩ = some (.int .i64 (i : Int)) ∧ w'.cell? ⟨q, 1, none⟩ = some (.int .i64 (F : Int)) ∧ w'.cell? ⟨q, 2, none⟩ = some (.int .i64 (T : Int))) (first | exact ⟨d0, d1, d2⟩ | exact ⟨f0, f1, f2⟩ | go_keep)
            ((first | (go_at_call 10; rw [show ((Q : Int) + (K : Int)).toNat - Q = K by omega]; refine (lay_any A3 c3 _ i F T (some (ad.add Q)) K (c - Q) _ w4.drew m2 m3 HO.out.drew HSb.out (by have := HTK.out; omega)).mono ?_; rintro e w5 hm5; obtain ⟨A5, m5, c5, rfl, hsl5, hb5, hfar5⟩ := hm5.fresh; have HX5 := hid hsl5; have hb6 : Below w4.heap.size w4 w5 := ⟨hb5.os, hb5.tape, hb5.output, hb5.size, hb5.block⟩; have HB5 := hid hb6; have HFr := hid hfar5; have HK5 := hid (HK4.out.drew.below hb5 HK4.out.lt); have f0 := HK5.out.cell 0; have f1 := HK5.out.cell 1; have f2 := HK5.out.cell 2; simp at f0 f1 f2; clear hm5 hsl5 hb5 hb6 hfar5)))
          clear d0 d1 d2 hw1 hw2 hw3 hw4
          obtain ⟨O, hO⟩ : ∃ O, ((lays p l f Q).drop (256 * i)).take 256 = O := ⟨_, rfl⟩
          obtain ⟨M, hM⟩ : ∃ M, (l.drop Q).take K = M := ⟨_, rfl⟩
          have HMid := hid (show ∀ j, j < 256 → (layB O M F)[j]? = (lays p l f (Q + K))[256 * i + j]? from fun j hj => by
            rw [← hO, ← hM]
            have h1 := HEq.out
            have h2 := HTK.out
            have h3 := HS0.out.len
            exact lays_mid l f m7 (by omega) (by omega) (by omega) hj)
          have HXl := hid (show (layB O M F).length = 256 from by
            have h2 := HTK.out
            have h3 := HS0.out.len
            have h4 : O.length = 256 := by rw [← hO, List.length_take, List.length_drop, lays_len]; omega
            have h5 : M.length = K := by rw [← hM, List.length_take, List.length_drop]; omega
            rw [layB_len (by omega), h4])
          rw [hO, hM] at HX5
          clear hO hM HO HSb
          obtain ⟨X5, hX5⟩ : ∃ X5, layB O M F = X5 := ⟨_, rfl⟩
          rw [hX5] at HX5 HMid HXl
          clear hX5
          obtain rfl : m5 = 256 := by have h1 := HX5.out.len; have h2 := HXl.out; omega
          obtain ⟨XS, hXS⟩ : ∃ XS, lays p l f (Q + K) = XS := ⟨_, rfl⟩
          obtain ⟨YS, hYS⟩ : ∃ YS, lays p l f Q = YS := ⟨_, rfl⟩
          have HXS := hid (show XS.length = 2048 from hXS ▸ lays_len _ _ _ _)
          have HYS := hid (show YS.length = 2048 from hYS ▸ lays_len _ _ _ _)
          have HHd := hid (show XS.take (256 * i) = YS.take (256 * i) from by
            rw [← hXS, ← hYS]
            have h1 := HEq.out
            exact lays_head l f (by omega) (by omega))
          have HTl := hid (show XS.drop (256 * i + 256) = YS.drop (256 * i + 256) from by
            rw [← hXS, ← hYS]
            have h1 := HEq.out
            have h2 := HTK.out
            exact lays_tail l f (by omega) (by omega))
          have HXE := hid hXS
          rw [hXS] at HMid
          rw [hYS] at HR4
          clear hXS hYS
          have HR5 := hid (HR4.out.on (show Below w4.heap.size w4 w5 from HB5.out))
          have HP5 := hid (HP4.out.on (show Below w4.heap.size w4 w5 from HB5.out))
          have HB6 := hid (HB4.out.trans (show Below w.heap.size w4 w5 from (show Below w4.heap.size w4 w5 from HB5.out).mono HB4.out.size))
          have HFx := hid (show ∀ ad, A5 = some ad → g < ad.block from fun ad ha => Nat.lt_of_lt_of_le HR4.out.lt (HFr.out ad ha))
          clear HR4 HP4 HB4 HB5 HFr HK4 f0 f1 f2
          go_wp2
          go_loopw [17] (fun jv wr => ∃ j : Nat, j ≤ 256 ∧ jv = .int .i64 (j : Int) ∧ Row wr g (XS.take (256 * i + j) ++ YS.drop (256 * i + j)) ∧ w5.grownBy wr (some g)) (fun jv _ => 256 - (intOf jv).toNat)
          case atStart => exact ⟨0, Nat.zero_le _, rfl, by have h := HHd.out; rw [Nat.add_zero, h, List.take_append_drop]; exact HR5.out, only_refl _ _⟩
          case round =>
            obtain ⟨j, hj, rfl, hrow, hgr⟩ := hrel
            have HR6 := hid hrow
            have HG6 := hid hgr
            clear hrow hgr
            have HK6 := hid (HK5.out.grown HG6.out (by have := HgW.out; simp; omega))
            have HX6 := hid (HX5.out.apart HG6.out HFx.out)
            by_cases hj6 : j < 256
            · obtain ⟨a5, v, rfl, hbl, hx, hcx⟩ := HX6.out.get hj6
              have hxs : XS[256 * i + j]? = some v := (HMid.out j hj6).symm.trans hx
              obtain ⟨u0, hu0⟩ : ∃ u0, YS[256 * i + j]? = some u0 := ⟨_, List.getElem?_eq_getElem (by rw [HYS.out]; omega)⟩
              have hcell := HR6.out.cell ((row_at (xs := XS) (by rw [HYS.out]; omega) (by rw [HXS.out, HYS.out])).trans hu0)
              have hfr := HR6.out.free (256 * i + j)
              have R1 := hid (show Row (wr.setCell ⟨g, 256 * i + j, none⟩ (.int .u8 v)).drew g (XS.take (256 * i + (j + 1)) ++ YS.drop (256 * i + (j + 1))) by
                have := HR6.out.put (256 * i + j) v
                rw [row_next hxs (by rw [HXS.out, HYS.out])] at this
                exact this)
              have R2 := hid (show w5.grownBy (wr.setCell ⟨g, 256 * i + j, none⟩ (.int .u8 v)).drew (some g) from only_drew (only_put HG6.out _ _))
              have d0 := HK6.out.drew.cell 0
              simp at d0
              have hcx' : wr.drew.cell? (a5.add j) = some (.int .u8 v) := hcx
              clear hx hxs hbl hcx hu0
              go_wp2_with fail
              have hv1 : IntKind.i64.wrap (256 * (i : Int)) = 256 * (i : Int) := by rw [IntKind.wrap_i64]; omega
              have hv2 : IntKind.i64.wrap (256 * (i : Int) + (j : Int)) = 256 * (i : Int) + (j : Int) := by rw [IntKind.wrap_i64]; omega
              have hv3 : (0 : Int) ≤ 256 * (i : Int) + (j : Int) := by omega
              have hv4 : 256 * (i : Int) + (j : Int) < 2048 := by omega
              have hv5 : (0 : Int) ≤ (j : Int) := by omega
              have hv6 : (j : Int) < 256 := by omega
              have hn7 : (256 * (i : Int) + (j : Int)).toNat = 256 * i + j := by omega
              have e0 : (wr.setCell ⟨g, 256 * i + j, none⟩ (.int .u8 v)).drew.cell? ⟨q, 0, none⟩ = some (.int .i64 (i : Int)) := by
                have := (HK6.out.far (p := ⟨g, 256 * i + j, none⟩) (by have := HgW.out; simp; omega) (.int .u8 v)).drew.cell 0
                simpa using this
              have e1 : (wr.setCell ⟨g, 256 * i + j, none⟩ (.int .u8 v)).drew.cell? (a5.add j) = some (.int .u8 v) :=
                (World.grownBy.cell (only_drew (only_put (only_refl wr (some g)) _ _)) hcx' (by rw [add_block]; have := HFx.out _ rfl; simp; omega))
              refine wp_region_held_drew (S := fun w' => w'.cell? ⟨q, 0, none⟩ = some (.int .i64 (i : Int)) ∧ w'.cell? (a5.add j) = some (.int .u8 v)) (by kernel_rfl) ⟨d0, hcx'⟩ (fun hH => ?_)
              refine wpAnyH_take (i := 0) (oi := _) (v := ?_) (by simp only [List.getElem?_toArray, List.getElem?_cons_zero]; rfl) (by kernel_rfl) (by kernel_rfl) (by kernel_rfl) (by exact fun _ _ _ h => h) (Or.inl ⟨by rfl, ?_⟩) hH ?_
              rotate_left
              · intro w hSw; obtain ⟨s0, s1⟩ := hSw; go_simp; try with_reducible rfl
              try simp only [Act.put, List.setIfInBounds_toArray, List.set_cons_zero, List.set_cons_succ]
              refine wpAnyH_take (i := 1) (oi := _) (v := ?_) (by simp only [List.getElem?_toArray, List.getElem?_cons_succ, List.getElem?_cons_zero]; rfl) (by kernel_rfl) (by kernel_rfl) (by kernel_rfl) (by exact fun _ _ _ h => h) (Or.inl ⟨by rfl, ?_⟩) hH ?_
              rotate_left
              · intro w hSw; obtain ⟨s0, s1⟩ := hSw; go_simp; try with_reducible rfl
              try simp only [Act.put, List.setIfInBounds_toArray, List.set_cons_zero, List.set_cons_succ]
              refine wpAnyH_take (i := 2) (oi := _) (v := ?_) (by simp only [List.getElem?_toArray, List.getElem?_cons_succ, List.getElem?_cons_zero]; rfl) (by kernel_rfl) (by kernel_rfl) (by kernel_rfl) (by exact fun _ _ _ h => h) (Or.inl ⟨by rfl, ?_⟩) hH ?_
              rotate_left
              · intro w hSw; obtain ⟨s0, s1⟩ := hSw; go_simp; try with_reducible rfl
              try simp only [Act.put, List.setIfInBounds_toArray, List.set_cons_zero, List.set_cons_succ]
              refine wpAnyH_take (i := 3) (oi := _) (v := ?_) (by simp only [List.getElem?_toArray, List.getElem?_cons_succ, List.getElem?_cons_zero]; rfl) (by kernel_rfl) (by kernel_rfl) (by kernel_rfl) (by exact fun _ _ _ h => h) (Or.inl ⟨by rfl, ?_⟩) hH ?_
              rotate_left
              · intro w hSw; obtain ⟨s0, s1⟩ := hSw; go_simp; try with_reducible rfl
              try simp only [Act.put, List.setIfInBounds_toArray, List.set_cons_zero, List.set_cons_succ]
              refine wpAnyH_take (i := 4) (oi := _) (v := ?_) (by simp only [List.getElem?_toArray, List.getElem?_cons_succ, List.getElem?_cons_zero]; rfl) (by kernel_rfl) (by kernel_rfl) (by kernel_rfl) (by exact fun _ _ _ h => h) (Or.inl ⟨by rfl, ?_⟩) hH ?_
              rotate_left
              · intro w hSw; obtain ⟨s0, s1⟩ := hSw; go_simp; try with_reducible rfl
              try simp only [Act.put, List.setIfInBounds_toArray, List.set_cons_zero, List.set_cons_succ]
              refine wpAnyH_take (i := 5) (oi := _) (v := ?_) (by simp only [List.getElem?_toArray, List.getElem?_cons_succ, List.getElem?_cons_zero]; rfl) (by kernel_rfl) (by kernel_rfl) (by kernel_rfl) (by exact fun _ _ _ h => h) (Or.inl ⟨by rfl, ?_⟩) hH ?_
              rotate_left
              · intro w hSw; obtain ⟨s0, s1⟩ := hSw; go_simp; try with_reducible rfl
              try simp only [Act.put, List.setIfInBounds_toArray, List.set_cons_zero, List.set_cons_succ]
              refine wpAnyH_take (i := 6) (oi := _) (v := ?_) (by simp only [List.getElem?_toArray, List.getElem?_cons_succ, List.getElem?_cons_zero]; rfl) (by kernel_rfl) (by kernel_rfl) (by kernel_rfl) (by exact fun _ _ _ h => h) (Or.inl ⟨by rfl, ?_⟩) hH ?_
              rotate_left
              · intro w hSw; obtain ⟨s0, s1⟩ := hSw; go_simp; try with_reducible rfl
              try simp only [Act.put, List.setIfInBounds_toArray, List.set_cons_zero, List.set_cons_succ]
              refine wpAnyH_take (i := 7) (oi := _) (v := ?_) (by simp only [List.getElem?_toArray, List.getElem?_cons_succ, List.getElem?_cons_zero]; rfl) (by kernel_rfl) (by kernel_rfl) (by kernel_rfl) (by exact fun _ _ _ h => h) (Or.inl ⟨by rfl, ?_⟩) hH ?_
              rotate_left
              · intro w hSw; obtain ⟨s0, s1⟩ := hSw; go_simp; try with_reducible rfl
              try simp only [Act.put, List.setIfInBounds_toArray, List.set_cons_zero, List.set_cons_succ]
              refine wpAnyH_take (i := 8) (oi := _) (v := ?_) (by simp only [List.getElem?_toArray, List.getElem?_cons_succ, List.getElem?_cons_zero]; rfl) (by kernel_rfl) (by kernel_rfl) (by kernel_rfl) (by exact fun _ _ _ h => h) (Or.inl ⟨by rfl, ?_⟩) hH ?_
              rotate_left
              · intro w hSw; obtain ⟨s0, s1⟩ := hSw; go_simp; try with_reducible rfl
              try simp only [Act.put, List.setIfInBounds_toArray, List.set_cons_zero, List.set_cons_succ]
              refine wpAnyH_take (i := 9) (oi := _) (v := ?_) (by simp only [List.getElem?_toArray, List.getElem?_cons_succ, List.getElem?_cons_zero]; rfl) (by kernel_rfl) (by kernel_rfl) (by kernel_rfl) (by exact fun _ _ _ h => h) (Or.inl ⟨by rfl, ?_⟩) hH ?_
              rotate_left
              · intro w hSw; obtain ⟨s0, s1⟩ := hSw; go_simp; try with_reducible rfl
              try simp only [Act.put, List.setIfInBounds_toArray, List.set_cons_zero, List.set_cons_succ]
              refine wpAnyH_take (i := 10) (oi := _) (v := ?_) (by simp only [List.getElem?_toArray, List.getElem?_cons_succ, List.getElem?_cons_zero]; rfl) (by kernel_rfl) (by kernel_rfl) (by kernel_rfl) (by exact fun _ _ _ h => h) (Or.inl ⟨by rfl, ?_⟩) hH ?_
              rotate_left
              · intro w hSw; obtain ⟨s0, s1⟩ := hSw; go_simp; try with_reducible rfl
              try simp only [Act.put, List.setIfInBounds_toArray, List.set_cons_zero, List.set_cons_succ]
              refine wpAnyH_ready (rs := [11]) (by kernel_rfl) (by simp) (AllReadyH.cons rfl (fun K hK => ?_) AllReadyH.nil)
              go_simp
              refine hK.out _ _ ⟨e0, e1⟩ (fun hH => ?_)
              refine wpAnyH_done (by kernel_rfl) ?_ _
              go_wp2
              go_roundw
              case rel => exact ⟨j + 1, by omega, by go_num, R1.out, R2.out⟩
              case measure => simp [intOf]; omega
            · obtain rfl : j = 256 := by omega
              have HR7 := hid (show Row wr g (lays p l f (pS p n (k + 1))) from by
                have h := HR6.out
                rw [← HTl.out, List.take_append_drop] at h
                have h1 := HTK.out
                rw [HNx.out, show Q + (T - F) = Q + K by omega, HXE.out]
                exact h)
              have HP7 := hid (HP5.out.apart HG6.out HF4.out)
              have HB7 := hid (HB6.out.grown HG6.out HB6.out.size (fun k hk => by injection hk with hk; have := HG.out; omega))
              have HNv := hid (show (Q : Int) + (K : Int) = ((pS p n (k + 1) : Nat) : Int) from by have h1 := HTK.out; rw [HNx.out]; omega)
              clear HR6 HG6 HK6 HX6
              go_wp2
              go_roundw
              case rel => exact ⟨k + 1, by omega, by go_num, congrArg (Value.int .i64) HNv.out, HR7.out, HP7.out, HB7.out⟩
              case measure => simp [intOf]; omega
        · obtain rfl : k = N := by omega
          have hend := p_last p n
          rw [HNe.out] at hend
          rw [hend] at HR ⊢
          clear HP hend HF4
          have hsc := HS0.out.cap
          go_wp2
          go_loopw [18] (fun iv wz => ∃ i : Nat, i ≤ 2048 ∧ iv = .int .i64 (i : Int) ∧ wz = wr) (fun iv _ => 2048 - (intOf iv).toNat)
          case atStart => exact ⟨0, Nat.zero_le _, rfl, rfl⟩
          case round =>
            obtain ⟨i, hi2, rfl, rfl⟩ := hrel
            by_cases hi3 : i < 2048
            · have hrc := HR.out.cell (lays_get p l f n hi3)
              rcases Nat.lt_or_ge i p with hc1 | hc1
              · rw [if_neg (by omega)] at hrc
                go_wp2
                go_roundw
                case rel => exact ⟨i + 1, by omega, by go_num, trivial⟩
                case measure => simp [intOf]; omega
              · rcases Nat.lt_or_ge i (p + n) with hc2 | hc2
                · rw [if_pos ⟨hc1, hc2⟩] at hrc
                  obtain ⟨d, hd⟩ : ∃ d, i = p + d := ⟨i - p, by omega⟩
                  have hdn : d < n := by omega
                  obtain ⟨ad, v, rfl, hbl, hx, hcx⟩ := (HS0.out.below HB.out).get hdn
                  rw [List.getD_eq_getElem?_getD, show i - p = d by omega, hx] at hrc
                  simp at hrc
                  have hid' : (i : Int) - (p : Int) = (d : Int) := by omega
                  have hd0 : (0 : Int) ≤ (d : Int) := by omega
                  have hd1 : (d : Int) < (n : Int) := by omega
                  clear hx hbl hd
                  go_wp2
                  go_roundw
                  case rel => exact ⟨i + 1, by omega, by go_num, trivial⟩
                  case measure => simp [intOf]; omega
                · rw [if_neg (by omega)] at hrc
                  go_wp2
                  go_roundw
                  case rel => exact ⟨i + 1, by omega, by go_num, trivial⟩
                  case measure => simp [intOf]; omega
            · go_wp2
              go_ret
              exact ⟨rfl, HB.out⟩
end Go.Proofs.Ytbgldblenlinjaa
