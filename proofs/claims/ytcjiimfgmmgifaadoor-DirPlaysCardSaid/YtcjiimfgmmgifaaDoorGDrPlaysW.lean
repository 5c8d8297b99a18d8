/- DirPlays, walked, over whatever keeps what package dir has to keep. -/
import Derived.Test.YtcjiimfgmmgifaaDoorGDrOwnW
import Derived.Test.YtcjiimfgmmgifaaDoorGDod
import Derived.Test.YtcjiimfgmmgifaaDoorGDrS
namespace Go.Proofs.YtcjiimfgmmgifaaDoor
open Go.RowKit Go.Shelf Go.Sort

set_option linter.unusedSimpArgs false in
set_option maxRecDepth 100000 in
set_option maxHeartbeats 400000000 in
theorem dirPlays_any {DR : World → Nat → List En → (Nat → Prop) → Prop} (O : DirOk DR) (S : Nat → Addr) (A : Option Addr) (len cap : Nat) (T : Nat → Std) (a : Nam) (m : Int) (w : World) (hS : Sent w S) (hT : Dod w w.heap.size A len T) (hm0 : -9223372036854775808 ≤ m) (hm1 : m ≤ 9223372036854775807) (ha : a.length ≤ maxLen) :
    Calls Tryd.prog 3 #[.slice A len cap, encStr a, .int .i64 m] w (Yes w) := by
  have HS := hid hS
  have HT := hid hT
  have hmx : len ≤ 9223372036854775807 := by have := hT.max; unfold maxLen at this; omega
  have hal := sz_of a
  have ham : a.length ≤ 9223372036854775807 := by unfold maxLen at ha; omega
  clear hS hT ha
  go_enter Tryd.func3, Tryd.ntmps3
  go_wp2_with fail
  refine (first14_any O S w HS.out).mono ?_
  rintro e w1 ⟨rfl, hb⟩
  have HB1 := hid hb
  clear hb
  by_cases h50 : 50 < len
  · go_wp2
    go_ret
    exact ⟨rfl, HB1.out⟩
  have hl50 : len ≤ 50 := by omega
  clear h50 hmx
  by_cases h60 : 60 < a.length
  · go_wp2
    go_ret
    exact ⟨rfl, HB1.out⟩
  have ha60 : a.length ≤ 60 := by omega
  clear h60 ham
  have HD0 := hid (dk_zero O (ks := [Ly.ens w.heap.size (.slice none 0 0) []]) HB1.out (fun K h => by
    rcases List.mem_cons.1 h with rfl | h
    · exact ⟨World.ownsRow_nil _ _ _ _, fun k hk => by cases hk⟩
    · cases h))
  obtain ⟨g, hg⟩ : ∃ g, w1.heap.size = g := ⟨_, rfl⟩
  have HG := hid hg
  rw [hg] at HD0
  go_wp2
  try rw [hg]
  clear hg
  go_loopw [9, 10] (fun hv iv wr => ∃ (i : Nat) (D : List En), i ≤ len ∧ iv = .int .i64 (i : Int) ∧ Hid (D.length ≤ i) ∧ Hid (Dk DR w wr g D [Ly.ens w.heap.size hv D])) (fun _ iv _ => len - (intOf iv).toNat)
  case atStart => exact ⟨0, [], Nat.zero_le _, rfl, Nat.le_refl _, HD0⟩
  case round =>
    obtain ⟨i, D, hi, rfl, HDl, HD⟩ := hrel
    clear HD0
    by_cases hlt : i < len
    · obtain ⟨ad, hA⟩ : ∃ ad, A = some ad := by
        rcases A with _ | ad
        · have := HT.out.nil rfl; omega
        · exact ⟨ad, rfl⟩
      subst hA
      obtain ⟨⟨_, hz⟩, k0, k1, k2, k3⟩ := (HT.out.below HD.out.below).at_ ad rfl i hlt
      have HTk := hid (HT.out.ok i hlt)
      obtain ⟨b, o, z⟩ := ad
      simp only [Addr.mk.injEq, true_and] at hz
      subst hz
      simp only at k0 k1 k2 k3
      obtain ⟨⟨kd, ⟨s, en, ek⟩⟩, hst⟩ : ∃ t, T i = t := ⟨_, rfl⟩
      rw [hst] at k0 k1 k2 k3 HTk
      simp only at k0 k1 k2 k3
      have hsl := sz_of s
      have hi0 : (0 : Int) ≤ (i : Int) := by omega
      have hi1 : (i : Int) < (len : Int) := by omega
      have Hst := hid hst
      clear hst
      have HBx := hid (HD.out.box (O.stays _ _) 29 #[encStr s, .int .i64 en, .int .i64 ek])
      by_cases hs60 : 60 < s.length
      · go_wp2
        go_ret
        exact ⟨rfl, HBx.out.below⟩
      have hs6 : s.length ≤ 60 := by omega
      clear hs60
      have HEk := hid (show EnOk ⟨s, en, ek⟩ from ⟨by show s.length ≤ _; omega, HTk.out.n0, HTk.out.n1, HTk.out.t0, HTk.out.t1⟩)
      go_wp2_with fail
      refine (dk_clone O HBx.out (by have := HDl.out; omega)).mono ?_
      rintro e w2 ⟨q, F2, rfl, hd, hb, hF2⟩
      have hgh : ∀ z, u9.ownBlock = some z → z < wr.heap.size := fun z hz => HD.out.lies (K := Ly.ens w.heap.size u9 D) (by simp) hz
      obtain ⟨A2, c2, hv9, hsl9, hA2⟩ := EOwn.form (show EOwn w2 w.heap.size u9 D from hd.get (K := Ly.ens w.heap.size u9 D) (by simp))
      subst hv9
      have HA2 := hid hA2
      have hc2 := hsl9.cap
      have hc2m := hsl9.max
      obtain ⟨eb, heb⟩ : ∃ eb, wr.heap.size = eb := ⟨_, rfl⟩
      have hF3 : ∀ k, F2 k → eb < k := fun k hk => by have := hF2 k hk; rw [World.alloc] at this; simp at this; omega
      have HF2 := hid hF3
      have hB0 := HD.out.below.size
      rw [heb] at hd hB0 hgh ⊢
      have HGh := hid hgh
      have HEb := hid (show w.heap.size ≤ eb from hB0)
      have HD2 := hid hd
      clear hgh hd hb hF2 hF3 hsl9 hA2 heb hB0 HBx HD k1 k2 k3
      go_wp2_with fail
      refine (dk_lenOther O (q := q) (D2 := D) (F2 := F2) HD2.out (by simp)).mono ?_
      rintro e w3 ⟨rfl, hd, hb⟩
      have HD3 := hid hd
      clear hd hb HD2
      have hbx : Blk w3 eb 29 #[encStr s, .int .i64 en, .int .i64 ek] := HD3.out.get (K := Ly.blk eb 29 #[encStr s, .int .i64 en, .int .i64 ek]) (by simp)
      have c0 := hbx.cell 0
      simp at c0
      clear hbx
      have HSl3 := hid (show ESl w3 w3.heap.size A2 D.length c2 D from by
        obtain ⟨A', c', h1, h2, _⟩ := EOwn.form (show EOwn w3 w.heap.size (.slice A2 D.length c2) D from HD3.out.get (K := Ly.ens w.heap.size (.slice A2 D.length c2) D) (by simp))
        cases h1
        exact h2)
      go_wp2_with fail
      refine (find_any A2 D.length c2 _ D s w3 HSl3.out (by have := HDl.out; omega)).mono ?_
      rintro e w4 ⟨rfl, rfl⟩
      have k0' : w4.cell? ⟨b, o + i * 4, none⟩ = some (.int .i64 kd) := by
        have h := ((HT.out.below HD3.out.below).at_ ⟨b, o, none⟩ rfl i hlt).2.1
        rw [Hst.out] at h
        exact h
      have hbx : Blk w4 eb 29 #[encStr s, .int .i64 en, .int .i64 ek] := HD3.out.get (K := Ly.blk eb 29 #[encStr s, .int .i64 en, .int .i64 ek]) (by simp)
      have c1 := hbx.cell 1
      have c2b := hbx.cell 2
      simp at c1 c2b
      clear hbx k0
      have hfl := fnd_le D s
      obtain ⟨f, hf⟩ : ∃ f, fnd D s = f := ⟨_, rfl⟩
      have HF := hid hf
      have hways : (f < D.length ∧ fndV D s = (f : Int)) ∨ (¬ f < D.length ∧ fndV D s = -1) := by
        rw [← hf]
        unfold fndV
        by_cases h : fnd D s < D.length
        · exact .inl ⟨h, by rw [if_pos h]⟩
        · exact .inr ⟨h, by rw [if_neg h]⟩
      rw [hf] at hfl
      clear hf
      have hdl : D.length ≤ 50 := by have := HDl.out; omega
      by_cases hk1 : kd = 1
      · subst hk1
        rcases hways with ⟨hin, hfv⟩ | ⟨hin, hfv⟩
        all_goals rw [hfv]
        all_goals clear hfv c1 c2b
        · as_aux_lemma =>
            go_wp2_with fail
            refine (refName_any ⟨s.toArray⟩ w4).mono ?_
            rintro e w5 ⟨rfl, hb⟩
            have HD5 := hid (HD3.out.on (O.stays _ _) hb)
            clear hb HD3 HSl3 c0 k0'
            obtain ⟨vc, hvc⟩ : ∃ vc, vldC ⟨s.toArray⟩ = vc := ⟨_, rfl⟩
            rw [hvc]
            have hbx : Blk w5 eb 29 #[encStr s, .int .i64 en, .int .i64 ek] := HD5.out.get (K := Ly.blk eb 29 #[encStr s, .int .i64 en, .int .i64 ek]) (by simp)
            have c0 := hbx.cell 0
            have c1 := hbx.cell 1
            have c2b := hbx.cell 2
            simp at c0 c1 c2b
            clear hbx
            by_cases hv0 : vc = 0
            · subst hv0
              go_wp2_with fail
              refine (refSpecial_any ⟨s.toArray⟩ w5).mono ?_
              rintro e w6 ⟨rfl, rfl⟩
              rcases hsp : spec ⟨s.toArray⟩ with _ | _
              · go_wp2_with fail
                refine (right_any ⟨s, en, ek⟩ _).mono ?_
                rintro e w7 ⟨rfl, hb⟩
                have HD6 := hid (HD5.out.on (O.stays _ _) hb)
                clear hb HD5 c0 c1 c2b
                have hbx : Blk w7 eb 29 #[encStr s, .int .i64 en, .int .i64 ek] := HD6.out.get (K := Ly.blk eb 29 #[encStr s, .int .i64 en, .int .i64 ek]) (by simp)
                have c0 := hbx.cell 0
                have c1 := hbx.cell 1
                have c2b := hbx.cell 2
                simp at c0 c1 c2b
                clear hbx
                rcases hr : rightE ⟨s, en, ek⟩ with _ | _
                · have HA := hid (And.intro hvc (And.intro hsp hr))
                  clear hvc hsp hr
                  have HC := hid (show addC D ⟨s, en, ek⟩ = 103 ∧ addE D ⟨s, en, ek⟩ = D from by
                    have h : addC D ⟨s, en, ek⟩ = 103 := by
                      unfold addC
                      simp [HA.out.1, HA.out.2.1, HA.out.2.2]
                    refine ⟨h, ?_⟩
                    unfold addE
                    rw [h]
                    simp)
                  go_wp2_with fail
                  refine (dk_add O S ⟨s, en, ek⟩ HS.out HD6.out (by omega) HEk.out).mono ?_
                  rintro e w8 ⟨⟨v, rfl, hv⟩, hd⟩
                  rw [HC.out.1] at hv
                  rw [HC.out.2] at hd
                  have HV := hid hv
                  have HD8 := hid hd
                  clear hv hd HD6
                  go_wp2_with fail
                  refine (is_any S _ _ _ _ (HS.out.on HD8.out.below) HV.out).mono ?_
                  rintro e w9 ⟨rfl, hb⟩
                  rw [beq_self_eq_true]
                  have HD9 := hid (HD8.out.on (O.stays _ _) hb)
                  clear hb HD8
                  have HDn := hid hdl
                  go_wp2_with fail
                  refine (dk_lenOther O (q := q) (D2 := D) (F2 := F2) HD9.out (.head _)).mono ?_
                  rintro e wa ⟨rfl, hd, _⟩
                  have HDa := hid hd
                  clear hd
                  go_wp2_with fail
                  refine (dk_len O HDa.out).mono ?_
                  rintro e wb ⟨rfl, hd, _⟩
                  have HDb := hid hd
                  clear hd HDa
                  go_wp2_with fail
                  refine (dk_all O HDb.out (by have := HDn.out; omega)).mono ?_
                  rintro e wc ⟨⟨va, rfl, ho, hb⟩, hd⟩
                  obtain ⟨A5, c5, rfl, hsl5, _⟩ := ho.form
                  have HSa := hid hsl5
                  have HSh := hid (show ESl wc wc.heap.size A2 (D.length) c2 (D) from by
                    obtain ⟨A', c', h1, h2, _⟩ := EOwn.form (show EOwn wc w.heap.size (.slice A2 (D.length) c2) (D) from hd.get (K := Ly.ens w.heap.size (.slice A2 (D.length) c2) (D)) (.tail _ (.tail _ (.head _))))
                    cases h1
                    exact h2)
                  have HDc := hid hd
                  clear hd ho hb hsl5 HDb
                  go_wp2_with fail
                  refine (sameEntrys_any A5 A2 _ c5 _ c2 _ _ (D) (D) wc HSa.out HSh.out (Nat.le_refl _) (Nat.le_refl _)).mono ?_
                  rintro e wd ⟨rfl, hb⟩
                  have HDd := hid ((HDc.out.on (O.stays _ _) hb).less (ls := [Ly.ens w.heap.size (.slice A2 (D.length) c2) (D)]) (fun K hK => by rcases List.mem_cons.1 hK with rfl | hK; exact (.tail _ (.tail _ (.head _))); cases hK))
                  rw [decide_eq_true (rfl : (D) = (D))]
                  clear hb HDc HSa HSh
                  go_wp2
                  go_roundw
                  case rel => exact ⟨i + 1, _, by omega, by go_num, (show D.length ≤ i + 1 from by have := HDl.out; omega), HDd⟩
                  case measure => simp [intOf]; omega
                · have HA := hid (And.intro hvc (And.intro hsp hr))
                  clear hvc hsp hr
                  have HC := hid (show addC D ⟨s, en, ek⟩ = 110 ∧ addE D ⟨s, en, ek⟩ = D from by
                    have h : addC D ⟨s, en, ek⟩ = 110 := by
                      unfold addC
                      simp [HA.out.1, HA.out.2.1, HA.out.2.2, HF.out, if_pos hin]
                    refine ⟨h, ?_⟩
                    unfold addE
                    rw [h]
                    simp)
                  go_wp2_with fail
                  refine (dk_add O S ⟨s, en, ek⟩ HS.out HD6.out (by omega) HEk.out).mono ?_
                  rintro e w8 ⟨⟨v, rfl, hv⟩, hd⟩
                  rw [HC.out.1] at hv
                  rw [HC.out.2] at hd
                  have HV := hid hv
                  have HD8 := hid hd
                  clear hv hd HD6
                  go_wp2_with fail
                  refine (is_any S _ _ _ _ (HS.out.on HD8.out.below) HV.out).mono ?_
                  rintro e w9 ⟨rfl, hb⟩
                  rw [beq_self_eq_true]
                  have HD9 := hid (HD8.out.on (O.stays _ _) hb)
                  clear hb HD8
                  have HDn := hid hdl
                  go_wp2_with fail
                  refine (dk_lenOther O (q := q) (D2 := D) (F2 := F2) HD9.out (.head _)).mono ?_
                  rintro e wa ⟨rfl, hd, _⟩
                  have HDa := hid hd
                  clear hd
                  go_wp2_with fail
                  refine (dk_len O HDa.out).mono ?_
                  rintro e wb ⟨rfl, hd, _⟩
                  have HDb := hid hd
                  clear hd HDa
                  go_wp2_with fail
                  refine (dk_all O HDb.out (by have := HDn.out; omega)).mono ?_
                  rintro e wc ⟨⟨va, rfl, ho, hb⟩, hd⟩
                  obtain ⟨A5, c5, rfl, hsl5, _⟩ := ho.form
                  have HSa := hid hsl5
                  have HSh := hid (show ESl wc wc.heap.size A2 (D.length) c2 (D) from by
                    obtain ⟨A', c', h1, h2, _⟩ := EOwn.form (show EOwn wc w.heap.size (.slice A2 (D.length) c2) (D) from hd.get (K := Ly.ens w.heap.size (.slice A2 (D.length) c2) (D)) (.tail _ (.tail _ (.head _))))
                    cases h1
                    exact h2)
                  have HDc := hid hd
                  clear hd ho hb hsl5 HDb
                  go_wp2_with fail
                  refine (sameEntrys_any A5 A2 _ c5 _ c2 _ _ (D) (D) wc HSa.out HSh.out (Nat.le_refl _) (Nat.le_refl _)).mono ?_
                  rintro e wd ⟨rfl, hb⟩
                  have HDd := hid ((HDc.out.on (O.stays _ _) hb).less (ls := [Ly.ens w.heap.size (.slice A2 (D.length) c2) (D)]) (fun K hK => by rcases List.mem_cons.1 hK with rfl | hK; exact (.tail _ (.tail _ (.head _))); cases hK))
                  rw [decide_eq_true (rfl : (D) = (D))]
                  clear hb HDc HSa HSh
                  go_wp2
                  go_roundw
                  case rel => exact ⟨i + 1, _, by omega, by go_num, (show D.length ≤ i + 1 from by have := HDl.out; omega), HDd⟩
                  case measure => simp [intOf]; omega
              · have HA := hid (And.intro hvc hsp)
                clear hvc hsp
                have HC := hid (show addC D ⟨s, en, ek⟩ = 114 ∧ addE D ⟨s, en, ek⟩ = D from by
                  have h : addC D ⟨s, en, ek⟩ = 114 := by
                    unfold addC
                    simp [HA.out.1, HA.out.2]
                  refine ⟨h, ?_⟩
                  unfold addE
                  rw [h]
                  simp)
                go_wp2_with fail
                refine (dk_add O S ⟨s, en, ek⟩ HS.out HD5.out (by omega) HEk.out).mono ?_
                rintro e w8 ⟨⟨v, rfl, hv⟩, hd⟩
                rw [HC.out.1] at hv
                rw [HC.out.2] at hd
                have HV := hid hv
                have HD8 := hid hd
                clear hv hd HD5
                go_wp2_with fail
                refine (is_any S _ _ _ _ (HS.out.on HD8.out.below) HV.out).mono ?_
                rintro e w9 ⟨rfl, hb⟩
                rw [beq_self_eq_true]
                have HD9 := hid (HD8.out.on (O.stays _ _) hb)
                clear hb HD8
                have HDn := hid hdl
                go_wp2_with fail
                refine (dk_lenOther O (q := q) (D2 := D) (F2 := F2) HD9.out (.head _)).mono ?_
                rintro e wa ⟨rfl, hd, _⟩
                have HDa := hid hd
                clear hd
                go_wp2_with fail
                refine (dk_len O HDa.out).mono ?_
                rintro e wb ⟨rfl, hd, _⟩
                have HDb := hid hd
                clear hd HDa
                go_wp2_with fail
                refine (dk_all O HDb.out (by have := HDn.out; omega)).mono ?_
                rintro e wc ⟨⟨va, rfl, ho, hb⟩, hd⟩
                obtain ⟨A5, c5, rfl, hsl5, _⟩ := ho.form
                have HSa := hid hsl5
                have HSh := hid (show ESl wc wc.heap.size A2 (D.length) c2 (D) from by
                  obtain ⟨A', c', h1, h2, _⟩ := EOwn.form (show EOwn wc w.heap.size (.slice A2 (D.length) c2) (D) from hd.get (K := Ly.ens w.heap.size (.slice A2 (D.length) c2) (D)) (.tail _ (.tail _ (.head _))))
                  cases h1
                  exact h2)
                have HDc := hid hd
                clear hd ho hb hsl5 HDb
                go_wp2_with fail
                refine (sameEntrys_any A5 A2 _ c5 _ c2 _ _ (D) (D) wc HSa.out HSh.out (Nat.le_refl _) (Nat.le_refl _)).mono ?_
                rintro e wd ⟨rfl, hb⟩
                have HDd := hid ((HDc.out.on (O.stays _ _) hb).less (ls := [Ly.ens w.heap.size (.slice A2 (D.length) c2) (D)]) (fun K hK => by rcases List.mem_cons.1 hK with rfl | hK; exact (.tail _ (.tail _ (.head _))); cases hK))
                rw [decide_eq_true (rfl : (D) = (D))]
                clear hb HDc HSa HSh
                go_wp2
                go_roundw
                case rel => exact ⟨i + 1, _, by omega, by go_num, (show D.length ≤ i + 1 from by have := HDl.out; omega), HDd⟩
                case measure => simp [intOf]; omega
            · have HA := hid (And.intro hvc hv0)
              clear hvc
              have HC := hid (show addC D ⟨s, en, ek⟩ = vc ∧ addE D ⟨s, en, ek⟩ = D from by
                have h : addC D ⟨s, en, ek⟩ = vc := by
                  unfold addC
                  rw [HA.out.1, if_neg HA.out.2]
                refine ⟨h, ?_⟩
                unfold addE
                rw [h]
                rw [if_neg HA.out.2])
              go_wp2_with fail
              refine (dk_add O S ⟨s, en, ek⟩ HS.out HD5.out (by omega) HEk.out).mono ?_
              rintro e w8 ⟨⟨v, rfl, hv⟩, hd⟩
              rw [HC.out.1] at hv
              rw [HC.out.2] at hd
              have HV := hid hv
              have HD8 := hid hd
              clear hv hd HD5
              go_wp2_with fail
              refine (is_any S _ _ _ _ (HS.out.on HD8.out.below) HV.out).mono ?_
              rintro e w9 ⟨rfl, hb⟩
              rw [beq_self_eq_true]
              have HD9 := hid (HD8.out.on (O.stays _ _) hb)
              clear hb HD8
              have HDn := hid hdl
              go_wp2_with fail
              refine (dk_lenOther O (q := q) (D2 := D) (F2 := F2) HD9.out (.head _)).mono ?_
              rintro e wa ⟨rfl, hd, _⟩
              have HDa := hid hd
              clear hd
              go_wp2_with fail
              refine (dk_len O HDa.out).mono ?_
              rintro e wb ⟨rfl, hd, _⟩
              have HDb := hid hd
              clear hd HDa
              go_wp2_with fail
              refine (dk_all O HDb.out (by have := HDn.out; omega)).mono ?_
              rintro e wc ⟨⟨va, rfl, ho, hb⟩, hd⟩
              obtain ⟨A5, c5, rfl, hsl5, _⟩ := ho.form
              have HSa := hid hsl5
              have HSh := hid (show ESl wc wc.heap.size A2 (D.length) c2 (D) from by
                obtain ⟨A', c', h1, h2, _⟩ := EOwn.form (show EOwn wc w.heap.size (.slice A2 (D.length) c2) (D) from hd.get (K := Ly.ens w.heap.size (.slice A2 (D.length) c2) (D)) (.tail _ (.tail _ (.head _))))
                cases h1
                exact h2)
              have HDc := hid hd
              clear hd ho hb hsl5 HDb
              go_wp2_with fail
              refine (sameEntrys_any A5 A2 _ c5 _ c2 _ _ (D) (D) wc HSa.out HSh.out (Nat.le_refl _) (Nat.le_refl _)).mono ?_
              rintro e wd ⟨rfl, hb⟩
              have HDd := hid ((HDc.out.on (O.stays _ _) hb).less (ls := [Ly.ens w.heap.size (.slice A2 (D.length) c2) (D)]) (fun K hK => by rcases List.mem_cons.1 hK with rfl | hK; exact (.tail _ (.tail _ (.head _))); cases hK))
              rw [decide_eq_true (rfl : (D) = (D))]
              clear hb HDc HSa HSh
              go_wp2
              go_roundw
              case rel => exact ⟨i + 1, _, by omega, by go_num, (show D.length ≤ i + 1 from by have := HDl.out; omega), HDd⟩
              case measure => simp [intOf]; omega
        · as_aux_lemma =>
            go_wp2_with fail
            refine (refName_any ⟨s.toArray⟩ w4).mono ?_
            rintro e w5 ⟨rfl, hb⟩
            have HD5 := hid (HD3.out.on (O.stays _ _) hb)
            clear hb HD3 HSl3 c0 k0'
            obtain ⟨vc, hvc⟩ : ∃ vc, vldC ⟨s.toArray⟩ = vc := ⟨_, rfl⟩
            rw [hvc]
            have hbx : Blk w5 eb 29 #[encStr s, .int .i64 en, .int .i64 ek] := HD5.out.get (K := Ly.blk eb 29 #[encStr s, .int .i64 en, .int .i64 ek]) (by simp)
            have c0 := hbx.cell 0
            have c1 := hbx.cell 1
            have c2b := hbx.cell 2
            simp at c0 c1 c2b
            clear hbx
            by_cases hv0 : vc = 0
            · subst hv0
              go_wp2_with fail
              refine (refSpecial_any ⟨s.toArray⟩ w5).mono ?_
              rintro e w6 ⟨rfl, rfl⟩
              rcases hsp : spec ⟨s.toArray⟩ with _ | _
              · go_wp2_with fail
                refine (right_any ⟨s, en, ek⟩ _).mono ?_
                rintro e w7 ⟨rfl, hb⟩
                have HD6 := hid (HD5.out.on (O.stays _ _) hb)
                clear hb HD5 c0 c1 c2b
                have hbx : Blk w7 eb 29 #[encStr s, .int .i64 en, .int .i64 ek] := HD6.out.get (K := Ly.blk eb 29 #[encStr s, .int .i64 en, .int .i64 ek]) (by simp)
                have c0 := hbx.cell 0
                have c1 := hbx.cell 1
                have c2b := hbx.cell 2
                simp at c0 c1 c2b
                clear hbx
                rcases hr : rightE ⟨s, en, ek⟩ with _ | _
                · have HA := hid (And.intro hvc (And.intro hsp hr))
                  clear hvc hsp hr
                  have HC := hid (show addC D ⟨s, en, ek⟩ = 103 ∧ addE D ⟨s, en, ek⟩ = D from by
                    have h : addC D ⟨s, en, ek⟩ = 103 := by
                      unfold addC
                      simp [HA.out.1, HA.out.2.1, HA.out.2.2]
                    refine ⟨h, ?_⟩
                    unfold addE
                    rw [h]
                    simp)
                  go_wp2_with fail
                  refine (dk_add O S ⟨s, en, ek⟩ HS.out HD6.out (by omega) HEk.out).mono ?_
                  rintro e w8 ⟨⟨v, rfl, hv⟩, hd⟩
                  rw [HC.out.1] at hv
                  rw [HC.out.2] at hd
                  have HV := hid hv
                  have HD8 := hid hd
                  clear hv hd HD6
                  go_wp2_with fail
                  refine (is_any S _ _ _ _ (HS.out.on HD8.out.below) HV.out).mono ?_
                  rintro e w9 ⟨rfl, hb⟩
                  rw [beq_self_eq_true]
                  have HD9 := hid (HD8.out.on (O.stays _ _) hb)
                  clear hb HD8
                  have HDn := hid hdl
                  go_wp2_with fail
                  refine (dk_lenOther O (q := q) (D2 := D) (F2 := F2) HD9.out (.head _)).mono ?_
                  rintro e wa ⟨rfl, hd, _⟩
                  have HDa := hid hd
                  clear hd
                  go_wp2_with fail
                  refine (dk_len O HDa.out).mono ?_
                  rintro e wb ⟨rfl, hd, _⟩
                  have HDb := hid hd
                  clear hd HDa
                  go_wp2_with fail
                  refine (dk_all O HDb.out (by have := HDn.out; omega)).mono ?_
                  rintro e wc ⟨⟨va, rfl, ho, hb⟩, hd⟩
                  obtain ⟨A5, c5, rfl, hsl5, _⟩ := ho.form
                  have HSa := hid hsl5
                  have HSh := hid (show ESl wc wc.heap.size A2 (D.length) c2 (D) from by
                    obtain ⟨A', c', h1, h2, _⟩ := EOwn.form (show EOwn wc w.heap.size (.slice A2 (D.length) c2) (D) from hd.get (K := Ly.ens w.heap.size (.slice A2 (D.length) c2) (D)) (.tail _ (.tail _ (.head _))))
                    cases h1
                    exact h2)
                  have HDc := hid hd
                  clear hd ho hb hsl5 HDb
                  go_wp2_with fail
                  refine (sameEntrys_any A5 A2 _ c5 _ c2 _ _ (D) (D) wc HSa.out HSh.out (Nat.le_refl _) (Nat.le_refl _)).mono ?_
                  rintro e wd ⟨rfl, hb⟩
                  have HDd := hid ((HDc.out.on (O.stays _ _) hb).less (ls := [Ly.ens w.heap.size (.slice A2 (D.length) c2) (D)]) (fun K hK => by rcases List.mem_cons.1 hK with rfl | hK; exact (.tail _ (.tail _ (.head _))); cases hK))
                  rw [decide_eq_true (rfl : (D) = (D))]
                  clear hb HDc HSa HSh
                  go_wp2
                  go_roundw
                  case rel => exact ⟨i + 1, _, by omega, by go_num, (show D.length ≤ i + 1 from by have := HDl.out; omega), HDd⟩
                  case measure => simp [intOf]; omega
                · have HA := hid (And.intro hvc (And.intro hsp hr))
                  clear hvc hsp hr
                  as_aux_lemma =>
                    have HC := hid (show addC D ⟨s, en, ek⟩ = 0 ∧ addE D ⟨s, en, ek⟩ = insE D ⟨s, en, ek⟩ from by
                      have h : addC D ⟨s, en, ek⟩ = 0 := by
                        unfold addC
                        simp [HA.out.1, HA.out.2.1, HA.out.2.2, HF.out, if_neg hin]
                      refine ⟨h, ?_⟩
                      unfold addE
                      rw [if_pos h])
                    obtain ⟨D2, hD2⟩ : ∃ D2, insE D ⟨s, en, ek⟩ = D2 := ⟨_, rfl⟩
                    have HD2e := hid hD2
                    have HLd := hid (show D2.length = D.length + 1 from by rw [← hD2, insE_len])
                    go_wp2_with fail
                    refine (dk_add O S ⟨s, en, ek⟩ HS.out HD6.out (by omega) HEk.out).mono ?_
                    rintro e w8 ⟨⟨v, rfl, hv⟩, hd⟩
                    rw [HC.out.1] at hv
                    rw [HC.out.2, hD2] at hd
                    have HV := hid hv
                    have HD8 := hid hd
                    clear hv hd HD6 hD2
                    go_wp2_with fail
                    refine (is_any S _ _ _ _ (HS.out.on HD8.out.below) HV.out).mono ?_
                    rintro e w9 ⟨rfl, hb⟩
                    rw [beq_self_eq_true]
                    have HD9 := hid (HD8.out.on (O.stays _ _) hb)
                    clear hb HD8 HV c0 c1 c2b
                    go_wp2
                    go_loopw [16] (fun jv wr => ∃ j : Nat, j ≤ D.length ∧ jv = .int .i64 (j : Int) ∧ Hid (∀ (z : Nat) (x : En), z < j → D[z]? = some x → x.s < s) ∧ Hid (Dk DR w wr g D2 [Ly.dir O q D F2, Ly.blk eb 29 #[encStr s, .int .i64 en, .int .i64 ek], Ly.ens w.heap.size (.slice A2 D.length c2) D])) (fun jv _ => D.length - (intOf jv).toNat)
                    case atStart => exact ⟨0, Nat.zero_le _, rfl, fun z x hz => absurd hz (Nat.not_lt_zero _), HD9⟩
                    case round =>
                      obtain ⟨j, hj, rfl, HJ, HD⟩ := hrel
                      clear HD9
                      have hbx : Blk wr eb 29 #[encStr s, .int .i64 en, .int .i64 ek] := HD.out.get (K := Ly.blk eb 29 #[encStr s, .int .i64 en, .int .i64 ek]) (.tail _ (.head _))
                      have HBxq := hid hbx
                      have c0 := hbx.drew.cell 0
                      simp at c0
                      clear hbx
                      have hslj : ESl wr wr.heap.size A2 D.length c2 D := by
                        obtain ⟨A', c', h1, h2, _⟩ := EOwn.form (show EOwn wr w.heap.size (.slice A2 D.length c2) D from HD.out.get (K := Ly.ens w.heap.size (.slice A2 D.length c2) D) (.tail _ (.tail _ (.head _))))
                        cases h1
                        exact h2
                      have HSj := hid hslj
                      by_cases hjl : j < D.length
                      · obtain ⟨bj, oj, x, hA2x, _, hx, h0, _, _⟩ := hslj.get hjl
                        have HXj := hid hx
                        have h0' : wr.drew.cell? ⟨bj, oj + j * 3, none⟩ = some (encStr x.s) := h0
                        subst hA2x
                        have hj0 : (0 : Int) ≤ (j : Int) := by omega
                        have hj1 : (j : Int) < (D.length : Int) := by omega
                        clear hslj hx h0
                        by_cases hxs : x.s < s
                        · have t1 : Op.bytesLess x.s s = true := by rw [blt]; exact decide_eq_true hxs
                          have HJ2 := hid (show ∀ (z : Nat) (y : En), z < j + 1 → D[z]? = some y → y.s < s from fun z y hz hy => by
                            rcases Nat.lt_or_ge z j with h | h
                            · exact HJ.out z y h hy
                            · obtain rfl : z = j := by omega
                              rw [Option.some.inj (hy.symm.trans HXj.out)]
                              exact hxs)
                          clear hxs
                          go_wp2_with fail
                          go_region_held3 (fun w' => w'.cell? ⟨bj, oj + j * 3, none⟩ = some (encStr x.s) ∧ w'.cell? ⟨eb, 0, none⟩ = some (encStr s)) (first | exact ⟨h0', c0⟩ | go_keep) (fail)
                          have HDr := hid (HD.out.drewN (O.stays _ _) 1)
                          go_wp2
                          go_roundw
                          case rel => exact ⟨j + 1, by omega, by go_num, HJ2, HDr.out⟩
                          case measure => simp [intOf]; omega
                        · have t1 : Op.bytesLess x.s s = false := by rw [blt]; exact decide_eq_false hxs
                          have HLo := hid (show lowE D s = j from lowE_at hj (fun z y hz hy => HJ.out z y hz hy) (fun y hy => by rw [Option.some.inj (hy.symm.trans HXj.out)]; exact hxs))
                          clear hxs
                          go_wp2_with fail
                          go_region_held3 (fun w' => w'.cell? ⟨bj, oj + j * 3, none⟩ = some (encStr x.s) ∧ w'.cell? ⟨eb, 0, none⟩ = some (encStr s)) (first | exact ⟨h0', c0⟩ | go_keep) (fail)
                          clear h0' t1 HXj hj1 hj0
                          as_aux_lemma =>
                            obtain ⟨W, hW⟩ : ∃ W, wr.drew = W := ⟨_, rfl⟩
                            have HDW := hid (show Dk DR w W g D2 [Ly.dir O q D F2, Ly.blk eb 29 #[encStr s, .int .i64 en, .int .i64 ek], Ly.ens w.heap.size (.slice (some ⟨bj, oj, none⟩) D.length c2) D] from hW ▸ HD.out.drewN (O.stays _ _) 1)
                            have HBW := hid (show Blk W eb 29 #[encStr s, .int .i64 en, .int .i64 ek] from hW ▸ HBxq.out.drew)
                            have HSW := hid (show ESl W W.heap.size (some ⟨bj, oj, none⟩) D.length c2 D from hW ▸ HSj.out.on (⟨rfl, rfl, rfl, Nat.le_refl _, fun _ _ => rfl⟩ : Below wr.heap.size wr wr.drew))
                            have HWd := hid (show Below W.heap.size W W.drew from ⟨rfl, rfl, rfl, Nat.le_refl _, fun _ _ => rfl⟩)
                            rw [hW]
                            clear hW HD HBxq HSj c0
                            go_wp2_with fail
                            have hb3 := box3 HBW.out.drew
                            have hs0 : (j : Int) ≤ (c2 : Int) := by omega
                            have hs1 : (0 : Int) ≤ (j : Int) := by omega
                            have hcj : ¬ c2 = j := by omega
                            refine wp_region_held_drew (S := fun w' => w'.cell? ⟨eb, 0, none⟩ = some (encStr s) ∧ w'.cell? ⟨eb, 1, none⟩ = some (.int .i64 en) ∧ w'.cell? ⟨eb, 2, none⟩ = some (.int .i64 ek)) (by kernel_rfl) hb3 (fun hH => ?_)
                            refine wpAnyH_take (i := 0) (oi := _) (v := ?_) (by simp only [List.getElem?_toArray, List.getElem?_cons_zero]; rfl) (by kernel_rfl) (by kernel_rfl) (by kernel_rfl) (by exact fun _ _ _ h => h) (Or.inl ⟨by rfl, ?_⟩) hH ?_
                            rotate_left
                            · intro w hSw; (try dsimp only at hSw); go_simp; try with_reducible rfl
                            try simp only [Act.put, List.setIfInBounds_toArray, List.set_cons_zero, List.set_cons_succ]
                            refine wpAnyH_take (i := 1) (oi := _) (v := ?_) (by simp only [List.getElem?_toArray, List.getElem?_cons_succ, List.getElem?_cons_zero]; rfl) (by kernel_rfl) (by kernel_rfl) (by kernel_rfl) (by exact fun _ _ _ h => h) (Or.inl ⟨by rfl, ?_⟩) hH ?_
                            rotate_left
                            · intro w hSw; (try dsimp only at hSw); go_simp; try with_reducible rfl
                            try simp only [Act.put, List.setIfInBounds_toArray, List.set_cons_zero, List.set_cons_succ]
                            refine wpAnyH_take (i := 2) (oi := _) (v := ?_) (by simp only [List.getElem?_toArray, List.getElem?_cons_succ, List.getElem?_cons_zero]; rfl) (by kernel_rfl) (by kernel_rfl) (by kernel_rfl) (by exact fun _ _ _ h => h) (Or.inl ⟨by rfl, ?_⟩) hH ?_
                            rotate_left
                            · intro w hSw; (try dsimp only at hSw); go_simp; try with_reducible rfl
                            try simp only [Act.put, List.setIfInBounds_toArray, List.set_cons_zero, List.set_cons_succ]
                            refine wpAnyH_take (i := 4) (oi := _) (v := ?_) (by simp only [List.getElem?_toArray, List.getElem?_cons_succ, List.getElem?_cons_zero]; rfl) (by kernel_rfl) (by kernel_rfl) (by kernel_rfl) (by exact fun _ _ _ h => h) (Or.inl ⟨by rfl, ?_⟩) hH ?_
                            rotate_left
                            · intro w hSw; (try dsimp only at hSw); obtain ⟨s0, s1, s2⟩ := hSw; go_simp; try with_reducible rfl
                            try simp only [Act.put, List.setIfInBounds_toArray, List.set_cons_zero, List.set_cons_succ]
                            refine wpAnyH_ready (rs := [3, 5]) (by kernel_rfl) (by simp) (AllReadyH.cons rfl (fun K hK => ?_) (AllReadyH.cons rfl (fun K hK => ?_) AllReadyH.nil))
                            · go_simp
                              go_at_call 15
                              refine (entrys_any _ j c2 _ (D.take j) W.drew ((HSW.out.on HWd.out).head hj) (Nat.le_refl _) (by omega)).mono ?_
                              rintro e w6 ⟨v6, rfl, ho, hb⟩
                              have HO6 := hid (show EOwn w6 W.heap.size v6 (D.take j) from ho)
                              have HB6 := hid (show Below W.heap.size W w6 from HWd.out.trans hb)
                              have HX6 := hid (HBW.out.below HB6.out HBW.out.lt)
                              clear ho hb
                              refine hK.out _ _ (box3 HX6.out) (fun hH => ?_)
                              clear hK K
                              try simp only [Act.put, List.setIfInBounds_toArray, List.set_cons_zero, List.set_cons_succ]
                              refine wpAnyH_ready (rs := [5]) (by kernel_rfl) (by simp) (AllReadyH.cons rfl (fun K hK => ?_) AllReadyH.nil)
                              go_simp
                              refine hK.out _ _ (box3 (HX6.out.alloc _)) (fun hH => ?_)
                              clear hK K
                              try simp only [Act.put, List.setIfInBounds_toArray, List.set_cons_zero, List.set_cons_succ]
                              refine wpAnyH_ready (rs := [6]) (by kernel_rfl) (by simp) (AllReadyH.cons rfl (fun K hK => ?_) AllReadyH.nil)
                              refine step_append_en rfl (.tmp 152) (.tmp 154) rfl W.heap.size _ v6 (D.take j) [⟨s, en, ek⟩] (by simp [Act.eval]) (World.ownsRow.alloc HO6.out _) ⟨w6.heap.size, 0, none⟩ 1 1 (by simp [Act.eval]) (esl_one w6 ⟨s, en, ek⟩) (by rw [List.length_take]; omega) (by have := HB6.out.size; simp; omega) ?_
                              rintro v7 w7 ho7 hb7
                              have HB7 := hid ((HB6.out.alloc HB6.out.size _).trans hb7)
                              have HO7 := hid ho7
                              have HX7 := hid (HBW.out.below HB7.out HBW.out.lt)
                              clear ho7 hb7
                              refine hK.out _ _ (box3 HX7.out) (fun hH => ?_)
                              clear hK K
                              try simp only [Act.put, List.setIfInBounds_toArray, List.set_cons_zero, List.set_cons_succ]
                              refine wpAnyH_take (i := 7) (oi := _) (v := ?_) (by simp only [List.getElem?_toArray, List.getElem?_cons_succ, List.getElem?_cons_zero]; rfl) (by kernel_rfl) (by kernel_rfl) (by kernel_rfl) (by exact fun _ _ _ h => h) (Or.inl ⟨by rfl, ?_⟩) hH ?_
                              rotate_left
                              · intro w hSw; (try dsimp only at hSw); go_simp; try with_reducible rfl
                              try simp only [Act.put, List.setIfInBounds_toArray, List.set_cons_zero, List.set_cons_succ]
                              refine wpAnyH_done (by kernel_rfl) ?_ _
                              have HST7 := hid (show ESl w7 w7.heap.size (some ⟨bj, oj + j * 3, none⟩) (D.length - j) (c2 - j) (D.drop j) from by
                                have h := (HSW.out.on HB7.out).cut (k := j) hj
                                rw [if_neg hcj] at h
                                simp only [Option.map_some, Addr.add_lit] at h
                                exact h)
                              go_wp2_with (at_builtin; refine wpList_append_en rfl _ _ rfl W.heap.size w7.heap.size v7 (D.take j ++ [⟨s, en, ek⟩]) (D.drop j) rfl HO7.out (some ⟨bj, oj + j * 3, none⟩) (D.length - j) (c2 - j) ?g1 HST7.out ?g2 ?g3 ?_)
                              case g1 => first | rfl | (simp [Act.eval])
                              case g2 => rw [List.length_append, List.length_take]; simp; omega
                              case g3 => exact HB7.out.size
                              intro v8 w8 ho8 hg8 _
                              have hb8 : Below W.heap.size w7 w8 := (Below.refl _ _).grown hg8 HB7.out.size (fun k hk => (HO7.out.lt k hk).1)
                              have HB8 := hid (HB7.out.trans hb8)
                              have HO8 := hid (show EOwn w8 W.heap.size v8 D2 from by
                                rw [← HD2e.out]
                                unfold insE
                                rw [show lowE D (⟨s, en, ek⟩ : En).s = j from HLo.out, List.append_assoc]
                                exact ho8)
                              clear ho8 hg8 hb8 HO7 HB7 HST7
                              have HD8 := hid ((Dk.made O (HDW.out.less (ls := [Ly.dir O q D F2]) (fun K hK => by rcases List.mem_cons.1 hK with rfl | hK; exact (.head _); cases hK)) HB8.out HO8.out (Nat.le_refl _)).lower HDW.out.below.size)
                              have hdn : D2.length ≤ 51 := by have := HLd.out; omega
                              have HDn := hid hdn
                              obtain ⟨A8, c8, hv8, _, _⟩ := HO8.out.form
                              subst hv8
                              clear HO8 HB8 HDW HSW HBW hdn
                              go_wp2_with fail
                              refine (dk_lenOther O (q := q) (D2 := D) (F2 := F2) HD8.out (.tail _ (.head _))).mono ?_
                              rintro e wa ⟨rfl, hd, _⟩
                              have HDa := hid hd
                              clear hd
                              go_wp2_with fail
                              refine (dk_len O HDa.out).mono ?_
                              rintro e wb ⟨rfl, hd, _⟩
                              have HDb := hid hd
                              clear hd HDa
                              go_wp2_with fail
                              refine (dk_all O HDb.out (by have := HDn.out; omega)).mono ?_
                              rintro e wc ⟨⟨va, rfl, ho, hb⟩, hd⟩
                              obtain ⟨A5, c5, rfl, hsl5, _⟩ := ho.form
                              have HSa := hid hsl5
                              have HSh := hid (show ESl wc wc.heap.size A8 (D2.length) c8 (D2) from by
                                obtain ⟨A', c', h1, h2, _⟩ := EOwn.form (show EOwn wc w.heap.size (.slice A8 (D2.length) c8) (D2) from hd.get (K := Ly.ens w.heap.size (.slice A8 (D2.length) c8) (D2)) (.head _))
                                cases h1
                                exact h2)
                              have HDc := hid hd
                              clear hd ho hb hsl5 HDb
                              go_wp2_with fail
                              refine (sameEntrys_any A5 A8 _ c5 _ c8 _ _ (D2) (D2) wc HSa.out HSh.out (Nat.le_refl _) (Nat.le_refl _)).mono ?_
                              rintro e wd ⟨rfl, hb⟩
                              have HDd := hid ((HDc.out.on (O.stays _ _) hb).less (ls := [Ly.ens w.heap.size (.slice A8 (D2.length) c8) (D2)]) (fun K hK => by rcases List.mem_cons.1 hK with rfl | hK; exact (.head _); cases hK))
                              rw [decide_eq_true (rfl : (D2) = (D2))]
                              clear hb HDc HSa HSh
                              go_wp2
                              go_roundw
                              case rel => exact ⟨i + 1, _, by omega, by go_num, (show D2.length ≤ i + 1 from by have := HDl.out; have := HLd.out; omega), HDd⟩
                              case measure => simp [intOf]; omega
                            · go_simp
                              have HL1 := hid (esl_one W ⟨s, en, ek⟩)
                              have HX1 := hid (HBW.out.alloc (.cells #[encStr s, .int .i64 en, .int .i64 ek] 29))
                              refine hK.out _ _ (box3 HX1.out.drew) (fun hH => ?_)
                              clear hK K
                              try simp only [Act.put, List.setIfInBounds_toArray, List.set_cons_zero, List.set_cons_succ]
                              have HW1 := hid (show Below W.heap.size W (W.alloc (.cells #[encStr s, .int .i64 en, .int .i64 ek] 29)).drew from ((Below.refl _ _).alloc (Nat.le_refl _) _).drew)
                              have HS1 := hid (HSW.out.on HW1.out)
                              have HZ1 := hid (show (W.alloc (.cells #[encStr s, .int .i64 en, .int .i64 ek] 29)).drew.heap.size = W.heap.size + 1 from by simp)
                              have HL2 := hid (show ESl (W.alloc (.cells #[encStr s, .int .i64 en, .int .i64 ek] 29)).drew (W.heap.size + 1) (some ⟨W.heap.size, 0, none⟩) 1 1 [⟨s, en, ek⟩] from HL1.out.below ⟨rfl, rfl, rfl, Nat.le_refl _, fun _ _ => rfl⟩)
                              have HX2 := hid (show Blk (W.alloc (.cells #[encStr s, .int .i64 en, .int .i64 ek] 29)).drew eb 29 #[encStr s, .int .i64 en, .int .i64 ek] from HX1.out.drew)
                              generalize (W.alloc (.cells #[encStr s, .int .i64 en, .int .i64 ek] 29)).drew = W1 at HW1 HS1 HZ1 HL2 HX2 hH ⊢
                              clear HL1 HX1
                              refine wpAnyH_ready (rs := [3]) (by kernel_rfl) (by simp) (AllReadyH.cons rfl (fun K hK => ?_) AllReadyH.nil)
                              go_simp
                              go_at_call 15
                              refine (entrys_any _ j c2 _ (D.take j) W1 (HS1.out.head hj) (Nat.le_refl _) (by omega)).mono ?_
                              rintro e w6 ⟨v6, rfl, ho, hb⟩
                              have HO6 := hid (ho.lower HW1.out.size)
                              have HB6 := hid (HW1.out.trans (hb.mono HW1.out.size))
                              have HX6 := hid (HX2.out.below hb HX2.out.lt)
                              have HL6 := hid (show ESl w6 (W.heap.size + 1) (some ⟨W.heap.size, 0, none⟩) 1 1 [⟨s, en, ek⟩] from HL2.out.below (by rw [← HZ1.out]; exact hb))
                              clear ho hb
                              refine hK.out _ _ (box3 HX6.out) (fun hH => ?_)
                              clear hK K
                              try simp only [Act.put, List.setIfInBounds_toArray, List.set_cons_zero, List.set_cons_succ]
                              refine wpAnyH_ready (rs := [6]) (by kernel_rfl) (by simp) (AllReadyH.cons rfl (fun K hK => ?_) AllReadyH.nil)
                              refine step_append_en rfl (.tmp 152) (.tmp 154) rfl W.heap.size _ v6 (D.take j) [⟨s, en, ek⟩] (by simp [Act.eval]) HO6.out ⟨W.heap.size, 0, none⟩ 1 1 (by simp [Act.eval]) HL6.out (by rw [List.length_take]; omega) HB6.out.size ?_
                              rintro v7 w7 ho7 hb7
                              have HB7 := hid (HB6.out.trans hb7)
                              have HO7 := hid ho7
                              have HX7 := hid (HBW.out.below HB7.out HBW.out.lt)
                              clear ho7 hb7
                              refine hK.out _ _ (box3 HX7.out) (fun hH => ?_)
                              clear hK K
                              try simp only [Act.put, List.setIfInBounds_toArray, List.set_cons_zero, List.set_cons_succ]
                              refine wpAnyH_take (i := 7) (oi := _) (v := ?_) (by simp only [List.getElem?_toArray, List.getElem?_cons_succ, List.getElem?_cons_zero]; rfl) (by kernel_rfl) (by kernel_rfl) (by kernel_rfl) (by exact fun _ _ _ h => h) (Or.inl ⟨by rfl, ?_⟩) hH ?_
                              rotate_left
                              · intro w hSw; (try dsimp only at hSw); go_simp; try with_reducible rfl
                              try simp only [Act.put, List.setIfInBounds_toArray, List.set_cons_zero, List.set_cons_succ]
                              refine wpAnyH_done (by kernel_rfl) ?_ _
                              have HST7 := hid (show ESl w7 w7.heap.size (some ⟨bj, oj + j * 3, none⟩) (D.length - j) (c2 - j) (D.drop j) from by
                                have h := (HSW.out.on HB7.out).cut (k := j) hj
                                rw [if_neg hcj] at h
                                simp only [Option.map_some, Addr.add_lit] at h
                                exact h)
                              go_wp2_with (at_builtin; refine wpList_append_en rfl _ _ rfl W.heap.size w7.heap.size v7 (D.take j ++ [⟨s, en, ek⟩]) (D.drop j) rfl HO7.out (some ⟨bj, oj + j * 3, none⟩) (D.length - j) (c2 - j) ?g1 HST7.out ?g2 ?g3 ?_)
                              case g1 => first | rfl | (simp [Act.eval])
                              case g2 => rw [List.length_append, List.length_take]; simp; omega
                              case g3 => exact HB7.out.size
                              intro v8 w8 ho8 hg8 _
                              have hb8 : Below W.heap.size w7 w8 := (Below.refl _ _).grown hg8 HB7.out.size (fun k hk => (HO7.out.lt k hk).1)
                              have HB8 := hid (HB7.out.trans hb8)
                              have HO8 := hid (show EOwn w8 W.heap.size v8 D2 from by
                                rw [← HD2e.out]
                                unfold insE
                                rw [show lowE D (⟨s, en, ek⟩ : En).s = j from HLo.out, List.append_assoc]
                                exact ho8)
                              clear ho8 hg8 hb8 HO7 HB7 HST7
                              have HD8 := hid ((Dk.made O (HDW.out.less (ls := [Ly.dir O q D F2]) (fun K hK => by rcases List.mem_cons.1 hK with rfl | hK; exact (.head _); cases hK)) HB8.out HO8.out (Nat.le_refl _)).lower HDW.out.below.size)
                              have hdn : D2.length ≤ 51 := by have := HLd.out; omega
                              have HDn := hid hdn
                              obtain ⟨A8, c8, hv8, _, _⟩ := HO8.out.form
                              subst hv8
                              clear HO8 HB8 HDW HSW HBW hdn
                              go_wp2_with fail
                              refine (dk_lenOther O (q := q) (D2 := D) (F2 := F2) HD8.out (.tail _ (.head _))).mono ?_
                              rintro e wa ⟨rfl, hd, _⟩
                              have HDa := hid hd
                              clear hd
                              go_wp2_with fail
                              refine (dk_len O HDa.out).mono ?_
                              rintro e wb ⟨rfl, hd, _⟩
                              have HDb := hid hd
                              clear hd HDa
                              go_wp2_with fail
                              refine (dk_all O HDb.out (by have := HDn.out; omega)).mono ?_
                              rintro e wc ⟨⟨va, rfl, ho, hb⟩, hd⟩
                              obtain ⟨A5, c5, rfl, hsl5, _⟩ := ho.form
                              have HSa := hid hsl5
                              have HSh := hid (show ESl wc wc.heap.size A8 (D2.length) c8 (D2) from by
                                obtain ⟨A', c', h1, h2, _⟩ := EOwn.form (show EOwn wc w.heap.size (.slice A8 (D2.length) c8) (D2) from hd.get (K := Ly.ens w.heap.size (.slice A8 (D2.length) c8) (D2)) (.head _))
                                cases h1
                                exact h2)
                              have HDc := hid hd
                              clear hd ho hb hsl5 HDb
                              go_wp2_with fail
                              refine (sameEntrys_any A5 A8 _ c5 _ c8 _ _ (D2) (D2) wc HSa.out HSh.out (Nat.le_refl _) (Nat.le_refl _)).mono ?_
                              rintro e wd ⟨rfl, hb⟩
                              have HDd := hid ((HDc.out.on (O.stays _ _) hb).less (ls := [Ly.ens w.heap.size (.slice A8 (D2.length) c8) (D2)]) (fun K hK => by rcases List.mem_cons.1 hK with rfl | hK; exact (.head _); cases hK))
                              rw [decide_eq_true (rfl : (D2) = (D2))]
                              clear hb HDc HSa HSh
                              go_wp2
                              go_roundw
                              case rel => exact ⟨i + 1, _, by omega, by go_num, (show D2.length ≤ i + 1 from by have := HDl.out; have := HLd.out; omega), HDd⟩
                              case measure => simp [intOf]; omega
                      · obtain rfl : j = D.length := by omega
                        have HLo := hid (show lowE D s = D.length from lowE_at (Nat.le_refl _) (fun z y hz hy => HJ.out z y hz hy) (fun y hy => by rw [List.getElem?_eq_none (Nat.le_refl _)] at hy; cases hy))
                        clear hslj
                        go_wp2_with fail
                        refine wp_region_held_drew (S := fun _ => True) (by kernel_rfl) trivial (fun hH => ?_)
                        refine wpAnyH_take (i := 0) (oi := _) (v := ?_) (by simp only [List.getElem?_toArray, List.getElem?_cons_zero]; rfl) (by kernel_rfl) (by kernel_rfl) (by kernel_rfl) (by exact fun _ _ _ h => h) (Or.inl ⟨by rfl, ?_⟩) hH ?_
                        rotate_left
                        · intro w hSw; (try dsimp only at hSw); go_simp; try with_reducible rfl
                        try simp only [Act.put, List.setIfInBounds_toArray, List.set_cons_zero, List.set_cons_succ]
                        refine wpAnyH_take (i := 1) (oi := _) (v := ?_) (by simp only [List.getElem?_toArray, List.getElem?_cons_succ, List.getElem?_cons_zero]; rfl) (by kernel_rfl) (by kernel_rfl) (by kernel_rfl) (by exact fun _ _ _ h => h) (Or.inl ⟨by rfl, ?_⟩) hH ?_
                        rotate_left
                        · intro w hSw; (try dsimp only at hSw); go_simp; try with_reducible rfl
                        try simp only [Act.put, List.setIfInBounds_toArray, List.set_cons_zero, List.set_cons_succ]
                        refine wpAnyH_take (i := 2) (oi := _) (v := ?_) (by simp only [List.getElem?_toArray, List.getElem?_cons_succ, List.getElem?_cons_zero]; rfl) (by kernel_rfl) (by kernel_rfl) (by kernel_rfl) (by exact fun _ _ _ h => h) (Or.inl ⟨by rfl, ?_⟩) hH ?_
                        rotate_left
                        · intro w hSw; (try dsimp only at hSw); go_simp; try with_reducible rfl
                        try simp only [Act.put, List.setIfInBounds_toArray, List.set_cons_zero, List.set_cons_succ]
                        refine wpAnyH_take (i := 3) (oi := _) (v := ?_) (by simp only [List.getElem?_toArray, List.getElem?_cons_succ, List.getElem?_cons_zero]; rfl) (by kernel_rfl) (by kernel_rfl) (by kernel_rfl) (by exact fun _ _ _ h => h) (Or.inl ⟨by rfl, ?_⟩) hH ?_
                        rotate_left
                        · intro w hSw; (try dsimp only at hSw); go_simp; try with_reducible rfl
                        try simp only [Act.put, List.setIfInBounds_toArray, List.set_cons_zero, List.set_cons_succ]
                        refine wpAnyH_take (i := 4) (oi := _) (v := ?_) (by simp only [List.getElem?_toArray, List.getElem?_cons_succ, List.getElem?_cons_zero]; rfl) (by kernel_rfl) (by kernel_rfl) (by kernel_rfl) (by exact fun _ _ _ h => h) (Or.inl ⟨by rfl, ?_⟩) hH ?_
                        rotate_left
                        · intro w hSw; (try dsimp only at hSw); go_simp; try with_reducible rfl
                        try simp only [Act.put, List.setIfInBounds_toArray, List.set_cons_zero, List.set_cons_succ]
                        refine wpAnyH_take (i := 5) (oi := _) (v := undef) (by simp only [List.getElem?_toArray, List.getElem?_cons_succ, List.getElem?_cons_zero]; rfl) (by kernel_rfl) (by kernel_rfl) (by kernel_rfl) (by exact fun _ _ _ h => h) (Or.inr ⟨by rfl, rfl⟩) hH ?_
                        try simp only [Act.put, List.setIfInBounds_toArray, List.set_cons_zero, List.set_cons_succ]
                        refine wpAnyH_take (i := 6) (oi := _) (v := undef) (by simp only [List.getElem?_toArray, List.getElem?_cons_succ, List.getElem?_cons_zero]; rfl) (by kernel_rfl) (by kernel_rfl) (by kernel_rfl) (by exact fun _ _ _ h => h) (Or.inr ⟨by rfl, rfl⟩) hH ?_
                        try simp only [Act.put, List.setIfInBounds_toArray, List.set_cons_zero, List.set_cons_succ]
                        refine wpAnyH_take (i := 7) (oi := _) (v := undef) (by simp only [List.getElem?_toArray, List.getElem?_cons_succ, List.getElem?_cons_zero]; rfl) (by kernel_rfl) (by kernel_rfl) (by kernel_rfl) (by exact fun _ _ _ h => h) (Or.inr ⟨by rfl, rfl⟩) hH ?_
                        try simp only [Act.put, List.setIfInBounds_toArray, List.set_cons_zero, List.set_cons_succ]
                        refine wpAnyH_take (i := 8) (oi := _) (v := undef) (by simp only [List.getElem?_toArray, List.getElem?_cons_succ, List.getElem?_cons_zero]; rfl) (by kernel_rfl) (by kernel_rfl) (by kernel_rfl) (by exact fun _ _ _ h => h) (Or.inr ⟨by rfl, rfl⟩) hH ?_
                        try simp only [Act.put, List.setIfInBounds_toArray, List.set_cons_zero, List.set_cons_succ]
                        refine wpAnyH_take (i := 9) (oi := _) (v := undef) (by simp only [List.getElem?_toArray, List.getElem?_cons_succ, List.getElem?_cons_zero]; rfl) (by kernel_rfl) (by kernel_rfl) (by kernel_rfl) (by exact fun _ _ _ h => h) (Or.inr ⟨by rfl, rfl⟩) hH ?_
                        try simp only [Act.put, List.setIfInBounds_toArray, List.set_cons_zero, List.set_cons_succ]
                        refine wpAnyH_take (i := 10) (oi := _) (v := undef) (by simp only [List.getElem?_toArray, List.getElem?_cons_succ, List.getElem?_cons_zero]; rfl) (by kernel_rfl) (by kernel_rfl) (by kernel_rfl) (by exact fun _ _ _ h => h) (Or.inr ⟨by rfl, rfl⟩) hH ?_
                        try simp only [Act.put, List.setIfInBounds_toArray, List.set_cons_zero, List.set_cons_succ]
                        refine wpAnyH_take (i := 11) (oi := _) (v := undef) (by simp only [List.getElem?_toArray, List.getElem?_cons_succ, List.getElem?_cons_zero]; rfl) (by kernel_rfl) (by kernel_rfl) (by kernel_rfl) (by exact fun _ _ _ h => h) (Or.inr ⟨by rfl, rfl⟩) hH ?_
                        try simp only [Act.put, List.setIfInBounds_toArray, List.set_cons_zero, List.set_cons_succ]
                        refine wpAnyH_take (i := 12) (oi := _) (v := undef) (by simp only [List.getElem?_toArray, List.getElem?_cons_succ, List.getElem?_cons_zero]; rfl) (by kernel_rfl) (by kernel_rfl) (by kernel_rfl) (by exact fun _ _ _ h => h) (Or.inr ⟨by rfl, rfl⟩) hH ?_
                        try simp only [Act.put, List.setIfInBounds_toArray, List.set_cons_zero, List.set_cons_succ]
                        refine wpAnyH_take (i := 13) (oi := _) (v := ?_) (by simp only [List.getElem?_toArray, List.getElem?_cons_succ, List.getElem?_cons_zero]; rfl) (by kernel_rfl) (by kernel_rfl) (by kernel_rfl) (by exact fun _ _ _ h => h) (Or.inl ⟨by rfl, ?_⟩) hH ?_
                        rotate_left
                        · intro w hSw; (try dsimp only at hSw); go_simp; try with_reducible rfl
                        try simp only [Act.put, List.setIfInBounds_toArray, List.set_cons_zero, List.set_cons_succ]
                        refine wpAnyH_done (by kernel_rfl) ?_ _
                        clear hjl
                        have hc2x := hc2m
                        rcases A2 with _ | ad
                        · obtain rfl : c2 = 0 := HSj.out.nil rfl
                          obtain rfl : D = [] := List.eq_nil_of_length_eq_zero (by have := HSj.out.cap; omega)
                          as_aux_lemma =>
                            obtain ⟨W, hW⟩ : ∃ W, wr.drew = W := ⟨_, rfl⟩
                            have HDW := hid (show Dk DR w W g D2 [Ly.dir O q ([] : List En) F2, Ly.blk eb 29 #[encStr s, .int .i64 en, .int .i64 ek], Ly.ens w.heap.size (.slice none 0 0) ([] : List En)] from hW ▸ HD.out.drewN (O.stays _ _) 1)
                            have HBW := hid (show Blk W eb 29 #[encStr s, .int .i64 en, .int .i64 ek] from hW ▸ HBxq.out.drew)
                            have HSW := hid (show ESl W W.heap.size none 0 0 ([] : List En) from hW ▸ HSj.out.on (⟨rfl, rfl, rfl, Nat.le_refl _, fun _ _ => rfl⟩ : Below wr.heap.size wr wr.drew))
                            have HWd := hid (show Below W.heap.size W W.drew from ⟨rfl, rfl, rfl, Nat.le_refl _, fun _ _ => rfl⟩)
                            rw [hW]
                            clear hW HD HBxq HSj c0
                            go_wp2_with fail
                            have hb3 := box3 HBW.out.drew
                            have hs0 : (0 : Int) ≤ (0 : Int) := by omega
                            have hs1 : (0 : Int) ≤ (0 : Int) := by omega
                            have hs2 : (0 : Int) ≤ (0 : Int) := Int.le_refl _
                            refine wp_region_held_drew (S := fun w' => w'.cell? ⟨eb, 0, none⟩ = some (encStr s) ∧ w'.cell? ⟨eb, 1, none⟩ = some (.int .i64 en) ∧ w'.cell? ⟨eb, 2, none⟩ = some (.int .i64 ek)) (by kernel_rfl) hb3 (fun hH => ?_)
                            refine wpAnyH_take (i := 0) (oi := _) (v := ?_) (by simp only [List.getElem?_toArray, List.getElem?_cons_zero]; rfl) (by kernel_rfl) (by kernel_rfl) (by kernel_rfl) (by exact fun _ _ _ h => h) (Or.inl ⟨by rfl, ?_⟩) hH ?_
                            rotate_left
                            · intro w hSw; (try dsimp only at hSw); go_simp; try with_reducible rfl
                            try simp only [Act.put, List.setIfInBounds_toArray, List.set_cons_zero, List.set_cons_succ]
                            refine wpAnyH_take (i := 1) (oi := _) (v := ?_) (by simp only [List.getElem?_toArray, List.getElem?_cons_succ, List.getElem?_cons_zero]; rfl) (by kernel_rfl) (by kernel_rfl) (by kernel_rfl) (by exact fun _ _ _ h => h) (Or.inl ⟨by rfl, ?_⟩) hH ?_
                            rotate_left
                            · intro w hSw; (try dsimp only at hSw); go_simp; try with_reducible rfl
                            try simp only [Act.put, List.setIfInBounds_toArray, List.set_cons_zero, List.set_cons_succ]
                            refine wpAnyH_take (i := 2) (oi := _) (v := ?_) (by simp only [List.getElem?_toArray, List.getElem?_cons_succ, List.getElem?_cons_zero]; rfl) (by kernel_rfl) (by kernel_rfl) (by kernel_rfl) (by exact fun _ _ _ h => h) (Or.inl ⟨by rfl, ?_⟩) hH ?_
                            rotate_left
                            · intro w hSw; (try dsimp only at hSw); go_simp; try with_reducible rfl
                            try simp only [Act.put, List.setIfInBounds_toArray, List.set_cons_zero, List.set_cons_succ]
                            refine wpAnyH_take (i := 4) (oi := _) (v := ?_) (by simp only [List.getElem?_toArray, List.getElem?_cons_succ, List.getElem?_cons_zero]; rfl) (by kernel_rfl) (by kernel_rfl) (by kernel_rfl) (by exact fun _ _ _ h => h) (Or.inl ⟨by rfl, ?_⟩) hH ?_
                            rotate_left
                            · intro w hSw; (try dsimp only at hSw); obtain ⟨s0, s1, s2⟩ := hSw; go_simp; try with_reducible rfl
                            try simp only [Act.put, List.setIfInBounds_toArray, List.set_cons_zero, List.set_cons_succ]
                            refine wpAnyH_ready (rs := [3, 5]) (by kernel_rfl) (by simp) (AllReadyH.cons rfl (fun K hK => ?_) (AllReadyH.cons rfl (fun K hK => ?_) AllReadyH.nil))
                            · go_simp
                              go_at_call 15
                              refine (entrys_any _ 0 0 _ (([] : List En).take 0) W.drew ((HSW.out.on HWd.out).head (Nat.le_refl _)) (Nat.le_refl _) (by omega)).mono ?_
                              rintro e w6 ⟨v6, rfl, ho, hb⟩
                              have HO6 := hid (show EOwn w6 W.heap.size v6 (([] : List En).take 0) from ho)
                              have HB6 := hid (show Below W.heap.size W w6 from HWd.out.trans hb)
                              have HX6 := hid (HBW.out.below HB6.out HBW.out.lt)
                              clear ho hb
                              refine hK.out _ _ (box3 HX6.out) (fun hH => ?_)
                              clear hK K
                              try simp only [Act.put, List.setIfInBounds_toArray, List.set_cons_zero, List.set_cons_succ]
                              refine wpAnyH_ready (rs := [5]) (by kernel_rfl) (by simp) (AllReadyH.cons rfl (fun K hK => ?_) AllReadyH.nil)
                              go_simp
                              refine hK.out _ _ (box3 (HX6.out.alloc _)) (fun hH => ?_)
                              clear hK K
                              try simp only [Act.put, List.setIfInBounds_toArray, List.set_cons_zero, List.set_cons_succ]
                              refine wpAnyH_ready (rs := [6]) (by kernel_rfl) (by simp) (AllReadyH.cons rfl (fun K hK => ?_) AllReadyH.nil)
                              refine step_append_en rfl (.tmp 152) (.tmp 154) rfl W.heap.size _ v6 (([] : List En).take 0) [⟨s, en, ek⟩] (by simp [Act.eval]) (World.ownsRow.alloc HO6.out _) ⟨w6.heap.size, 0, none⟩ 1 1 (by simp [Act.eval]) (esl_one w6 ⟨s, en, ek⟩) (by rw [List.length_take]; omega) (by have := HB6.out.size; simp; omega) ?_
                              rintro v7 w7 ho7 hb7
                              have HB7 := hid ((HB6.out.alloc HB6.out.size _).trans hb7)
                              have HO7 := hid ho7
                              have HX7 := hid (HBW.out.below HB7.out HBW.out.lt)
                              clear ho7 hb7
                              refine hK.out _ _ (box3 HX7.out) (fun hH => ?_)
                              clear hK K
                              try simp only [Act.put, List.setIfInBounds_toArray, List.set_cons_zero, List.set_cons_succ]
                              refine wpAnyH_take (i := 7) (oi := _) (v := ?_) (by simp only [List.getElem?_toArray, List.getElem?_cons_succ, List.getElem?_cons_zero]; rfl) (by kernel_rfl) (by kernel_rfl) (by kernel_rfl) (by exact fun _ _ _ h => h) (Or.inl ⟨by rfl, ?_⟩) hH ?_
                              rotate_left
                              · intro w hSw; (try dsimp only at hSw); go_simp; try with_reducible rfl
                              try simp only [Act.put, List.setIfInBounds_toArray, List.set_cons_zero, List.set_cons_succ]
                              refine wpAnyH_done (by kernel_rfl) ?_ _
                              go_wp2_with (at_builtin; refine wpList_append_en rfl _ _ rfl W.heap.size w7.heap.size v7 (([] : List En).take 0 ++ [⟨s, en, ek⟩]) [] rfl HO7.out none 0 0 ?g1 ?g4 ?g2 ?g3 ?_)
                              case g1 => simp [Act.eval]
                              case g4 => exact ⟨rfl, Nat.zero_le _, by (first | omega | (unfold maxLen; omega)), fun h => (by first | rfl | cases h), fun ad _ h0 => absurd h0 (Nat.lt_irrefl 0)⟩
                              case g2 => simp
                              case g3 => exact HB7.out.size
                              intro v8 w8 ho8 hg8 _
                              have hb8 : Below W.heap.size w7 w8 := (Below.refl _ _).grown hg8 HB7.out.size (fun k hk => (HO7.out.lt k hk).1)
                              have HB8 := hid (HB7.out.trans hb8)
                              have HO8 := hid (show EOwn w8 W.heap.size v8 D2 from by
                                rw [← HD2e.out]
                                simpa [insE] using ho8)
                              clear ho8 hg8 hb8 HO7 HB7
                              have HD8 := hid ((Dk.made O (HDW.out.less (ls := [Ly.dir O q ([] : List En) F2]) (fun K hK => by rcases List.mem_cons.1 hK with rfl | hK; exact (.head _); cases hK)) HB8.out HO8.out (Nat.le_refl _)).lower HDW.out.below.size)
                              have hdn : D2.length ≤ 51 := by have := HLd.out; omega
                              have HDn := hid hdn
                              obtain ⟨A8, c8, hv8, _, _⟩ := HO8.out.form
                              subst hv8
                              clear HO8 HB8 HDW HSW HBW hdn
                              go_wp2_with fail
                              refine (dk_lenOther O (q := q) (D2 := ([] : List En)) (F2 := F2) HD8.out (.tail _ (.head _))).mono ?_
                              rintro e wa ⟨rfl, hd, _⟩
                              have HDa := hid hd
                              clear hd
                              go_wp2_with fail
                              refine (dk_len O HDa.out).mono ?_
                              rintro e wb ⟨rfl, hd, _⟩
                              have HDb := hid hd
                              clear hd HDa
                              go_wp2_with fail
                              refine (dk_all O HDb.out (by have := HDn.out; omega)).mono ?_
                              rintro e wc ⟨⟨va, rfl, ho, hb⟩, hd⟩
                              obtain ⟨A5, c5, rfl, hsl5, _⟩ := ho.form
                              have HSa := hid hsl5
                              have HSh := hid (show ESl wc wc.heap.size A8 (D2.length) c8 (D2) from by
                                obtain ⟨A', c', h1, h2, _⟩ := EOwn.form (show EOwn wc w.heap.size (.slice A8 (D2.length) c8) (D2) from hd.get (K := Ly.ens w.heap.size (.slice A8 (D2.length) c8) (D2)) (.head _))
                                cases h1
                                exact h2)
                              have HDc := hid hd
                              clear hd ho hb hsl5 HDb
                              go_wp2_with fail
                              refine (sameEntrys_any A5 A8 _ c5 _ c8 _ _ (D2) (D2) wc HSa.out HSh.out (Nat.le_refl _) (Nat.le_refl _)).mono ?_
                              rintro e wd ⟨rfl, hb⟩
                              have HDd := hid ((HDc.out.on (O.stays _ _) hb).less (ls := [Ly.ens w.heap.size (.slice A8 (D2.length) c8) (D2)]) (fun K hK => by rcases List.mem_cons.1 hK with rfl | hK; exact (.head _); cases hK))
                              rw [decide_eq_true (rfl : (D2) = (D2))]
                              clear hb HDc HSa HSh
                              go_wp2
                              go_roundw
                              case rel => exact ⟨i + 1, _, by omega, by go_num, (show D2.length ≤ i + 1 from by have := HDl.out; have := HLd.out; omega), HDd⟩
                              case measure => simp [intOf]; omega
                            · go_simp
                              have HL1 := hid (esl_one W ⟨s, en, ek⟩)
                              have HX1 := hid (HBW.out.alloc (.cells #[encStr s, .int .i64 en, .int .i64 ek] 29))
                              refine hK.out _ _ (box3 HX1.out.drew) (fun hH => ?_)
                              clear hK K
                              try simp only [Act.put, List.setIfInBounds_toArray, List.set_cons_zero, List.set_cons_succ]
                              have HW1 := hid (show Below W.heap.size W (W.alloc (.cells #[encStr s, .int .i64 en, .int .i64 ek] 29)).drew from ((Below.refl _ _).alloc (Nat.le_refl _) _).drew)
                              have HS1 := hid (HSW.out.on HW1.out)
                              have HZ1 := hid (show (W.alloc (.cells #[encStr s, .int .i64 en, .int .i64 ek] 29)).drew.heap.size = W.heap.size + 1 from by simp)
                              have HL2 := hid (show ESl (W.alloc (.cells #[encStr s, .int .i64 en, .int .i64 ek] 29)).drew (W.heap.size + 1) (some ⟨W.heap.size, 0, none⟩) 1 1 [⟨s, en, ek⟩] from HL1.out.below ⟨rfl, rfl, rfl, Nat.le_refl _, fun _ _ => rfl⟩)
                              have HX2 := hid (show Blk (W.alloc (.cells #[encStr s, .int .i64 en, .int .i64 ek] 29)).drew eb 29 #[encStr s, .int .i64 en, .int .i64 ek] from HX1.out.drew)
                              generalize (W.alloc (.cells #[encStr s, .int .i64 en, .int .i64 ek] 29)).drew = W1 at HW1 HS1 HZ1 HL2 HX2 hH ⊢
                              clear HL1 HX1
                              refine wpAnyH_ready (rs := [3]) (by kernel_rfl) (by simp) (AllReadyH.cons rfl (fun K hK => ?_) AllReadyH.nil)
                              go_simp
                              go_at_call 15
                              refine (entrys_any _ 0 0 _ (([] : List En).take 0) W1 (HS1.out.head (Nat.le_refl _)) (Nat.le_refl _) (by omega)).mono ?_
                              rintro e w6 ⟨v6, rfl, ho, hb⟩
                              have HO6 := hid (ho.lower HW1.out.size)
                              have HB6 := hid (HW1.out.trans (hb.mono HW1.out.size))
                              have HX6 := hid (HX2.out.below hb HX2.out.lt)
                              have HL6 := hid (show ESl w6 (W.heap.size + 1) (some ⟨W.heap.size, 0, none⟩) 1 1 [⟨s, en, ek⟩] from HL2.out.below (by rw [← HZ1.out]; exact hb))
                              clear ho hb
                              refine hK.out _ _ (box3 HX6.out) (fun hH => ?_)
                              clear hK K
                              try simp only [Act.put, List.setIfInBounds_toArray, List.set_cons_zero, List.set_cons_succ]
                              refine wpAnyH_ready (rs := [6]) (by kernel_rfl) (by simp) (AllReadyH.cons rfl (fun K hK => ?_) AllReadyH.nil)
                              refine step_append_en rfl (.tmp 152) (.tmp 154) rfl W.heap.size _ v6 (([] : List En).take 0) [⟨s, en, ek⟩] (by simp [Act.eval]) HO6.out ⟨W.heap.size, 0, none⟩ 1 1 (by simp [Act.eval]) HL6.out (by rw [List.length_take]; omega) HB6.out.size ?_
                              rintro v7 w7 ho7 hb7
                              have HB7 := hid (HB6.out.trans hb7)
                              have HO7 := hid ho7
                              have HX7 := hid (HBW.out.below HB7.out HBW.out.lt)
                              clear ho7 hb7
                              refine hK.out _ _ (box3 HX7.out) (fun hH => ?_)
                              clear hK K
                              try simp only [Act.put, List.setIfInBounds_toArray, List.set_cons_zero, List.set_cons_succ]
                              refine wpAnyH_take (i := 7) (oi := _) (v := ?_) (by simp only [List.getElem?_toArray, List.getElem?_cons_succ, List.getElem?_cons_zero]; rfl) (by kernel_rfl) (by kernel_rfl) (by kernel_rfl) (by exact fun _ _ _ h => h) (Or.inl ⟨by rfl, ?_⟩) hH ?_
                              rotate_left
                              · intro w hSw; (try dsimp only at hSw); go_simp; try with_reducible rfl
                              try simp only [Act.put, List.setIfInBounds_toArray, List.set_cons_zero, List.set_cons_succ]
                              refine wpAnyH_done (by kernel_rfl) ?_ _
                              go_wp2_with (at_builtin; refine wpList_append_en rfl _ _ rfl W.heap.size w7.heap.size v7 (([] : List En).take 0 ++ [⟨s, en, ek⟩]) [] rfl HO7.out none 0 0 ?g1 ?g4 ?g2 ?g3 ?_)
                              case g1 => simp [Act.eval]
                              case g4 => exact ⟨rfl, Nat.zero_le _, by (first | omega | (unfold maxLen; omega)), fun h => (by first | rfl | cases h), fun ad _ h0 => absurd h0 (Nat.lt_irrefl 0)⟩
                              case g2 => simp
                              case g3 => exact HB7.out.size
                              intro v8 w8 ho8 hg8 _
                              have hb8 : Below W.heap.size w7 w8 := (Below.refl _ _).grown hg8 HB7.out.size (fun k hk => (HO7.out.lt k hk).1)
                              have HB8 := hid (HB7.out.trans hb8)
                              have HO8 := hid (show EOwn w8 W.heap.size v8 D2 from by
                                rw [← HD2e.out]
                                simpa [insE] using ho8)
                              clear ho8 hg8 hb8 HO7 HB7
                              have HD8 := hid ((Dk.made O (HDW.out.less (ls := [Ly.dir O q ([] : List En) F2]) (fun K hK => by rcases List.mem_cons.1 hK with rfl | hK; exact (.head _); cases hK)) HB8.out HO8.out (Nat.le_refl _)).lower HDW.out.below.size)
                              have hdn : D2.length ≤ 51 := by have := HLd.out; omega
                              have HDn := hid hdn
                              obtain ⟨A8, c8, hv8, _, _⟩ := HO8.out.form
                              subst hv8
                              clear HO8 HB8 HDW HSW HBW hdn
                              go_wp2_with fail
                              refine (dk_lenOther O (q := q) (D2 := ([] : List En)) (F2 := F2) HD8.out (.tail _ (.head _))).mono ?_
                              rintro e wa ⟨rfl, hd, _⟩
                              have HDa := hid hd
                              clear hd
                              go_wp2_with fail
                              refine (dk_len O HDa.out).mono ?_
                              rintro e wb ⟨rfl, hd, _⟩
                              have HDb := hid hd
                              clear hd HDa
                              go_wp2_with fail
                              refine (dk_all O HDb.out (by have := HDn.out; omega)).mono ?_
                              rintro e wc ⟨⟨va, rfl, ho, hb⟩, hd⟩
                              obtain ⟨A5, c5, rfl, hsl5, _⟩ := ho.form
                              have HSa := hid hsl5
                              have HSh := hid (show ESl wc wc.heap.size A8 (D2.length) c8 (D2) from by
                                obtain ⟨A', c', h1, h2, _⟩ := EOwn.form (show EOwn wc w.heap.size (.slice A8 (D2.length) c8) (D2) from hd.get (K := Ly.ens w.heap.size (.slice A8 (D2.length) c8) (D2)) (.head _))
                                cases h1
                                exact h2)
                              have HDc := hid hd
                              clear hd ho hb hsl5 HDb
                              go_wp2_with fail
                              refine (sameEntrys_any A5 A8 _ c5 _ c8 _ _ (D2) (D2) wc HSa.out HSh.out (Nat.le_refl _) (Nat.le_refl _)).mono ?_
                              rintro e wd ⟨rfl, hb⟩
                              have HDd := hid ((HDc.out.on (O.stays _ _) hb).less (ls := [Ly.ens w.heap.size (.slice A8 (D2.length) c8) (D2)]) (fun K hK => by rcases List.mem_cons.1 hK with rfl | hK; exact (.head _); cases hK))
                              rw [decide_eq_true (rfl : (D2) = (D2))]
                              clear hb HDc HSa HSh
                              go_wp2
                              go_roundw
                              case rel => exact ⟨i + 1, _, by omega, by go_num, (show D2.length ≤ i + 1 from by have := HDl.out; have := HLd.out; omega), HDd⟩
                              case measure => simp [intOf]; omega
                        · by_cases hce : c2 = D.length
                          · subst hce
                            as_aux_lemma =>
                              obtain ⟨W, hW⟩ : ∃ W, wr.drew = W := ⟨_, rfl⟩
                              have HDW := hid (show Dk DR w W g D2 [Ly.dir O q D F2, Ly.blk eb 29 #[encStr s, .int .i64 en, .int .i64 ek], Ly.ens w.heap.size (.slice (some ad) D.length D.length) D] from hW ▸ HD.out.drewN (O.stays _ _) 1)
                              have HBW := hid (show Blk W eb 29 #[encStr s, .int .i64 en, .int .i64 ek] from hW ▸ HBxq.out.drew)
                              have HSW := hid (show ESl W W.heap.size (some ad) D.length D.length D from hW ▸ HSj.out.on (⟨rfl, rfl, rfl, Nat.le_refl _, fun _ _ => rfl⟩ : Below wr.heap.size wr wr.drew))
                              have HWd := hid (show Below W.heap.size W W.drew from ⟨rfl, rfl, rfl, Nat.le_refl _, fun _ _ => rfl⟩)
                              rw [hW]
                              clear hW HD HBxq HSj c0
                              go_wp2_with fail
                              have hb3 := box3 HBW.out.drew
                              have hs0 : (D.length : Int) ≤ (D.length : Int) := by omega
                              have hs1 : (0 : Int) ≤ (D.length : Int) := by omega
                              have hs2 : (D.length : Int) ≤ (D.length : Int) := Int.le_refl _
                              refine wp_region_held_drew (S := fun w' => w'.cell? ⟨eb, 0, none⟩ = some (encStr s) ∧ w'.cell? ⟨eb, 1, none⟩ = some (.int .i64 en) ∧ w'.cell? ⟨eb, 2, none⟩ = some (.int .i64 ek)) (by kernel_rfl) hb3 (fun hH => ?_)
                              refine wpAnyH_take (i := 0) (oi := _) (v := ?_) (by simp only [List.getElem?_toArray, List.getElem?_cons_zero]; rfl) (by kernel_rfl) (by kernel_rfl) (by kernel_rfl) (by exact fun _ _ _ h => h) (Or.inl ⟨by rfl, ?_⟩) hH ?_
                              rotate_left
                              · intro w hSw; (try dsimp only at hSw); go_simp; try with_reducible rfl
                              try simp only [Act.put, List.setIfInBounds_toArray, List.set_cons_zero, List.set_cons_succ]
                              refine wpAnyH_take (i := 1) (oi := _) (v := ?_) (by simp only [List.getElem?_toArray, List.getElem?_cons_succ, List.getElem?_cons_zero]; rfl) (by kernel_rfl) (by kernel_rfl) (by kernel_rfl) (by exact fun _ _ _ h => h) (Or.inl ⟨by rfl, ?_⟩) hH ?_
                              rotate_left
                              · intro w hSw; (try dsimp only at hSw); go_simp; try with_reducible rfl
                              try simp only [Act.put, List.setIfInBounds_toArray, List.set_cons_zero, List.set_cons_succ]
                              refine wpAnyH_take (i := 2) (oi := _) (v := ?_) (by simp only [List.getElem?_toArray, List.getElem?_cons_succ, List.getElem?_cons_zero]; rfl) (by kernel_rfl) (by kernel_rfl) (by kernel_rfl) (by exact fun _ _ _ h => h) (Or.inl ⟨by rfl, ?_⟩) hH ?_
                              rotate_left
                              · intro w hSw; (try dsimp only at hSw); go_simp; try with_reducible rfl
                              try simp only [Act.put, List.setIfInBounds_toArray, List.set_cons_zero, List.set_cons_succ]
                              refine wpAnyH_take (i := 4) (oi := _) (v := ?_) (by simp only [List.getElem?_toArray, List.getElem?_cons_succ, List.getElem?_cons_zero]; rfl) (by kernel_rfl) (by kernel_rfl) (by kernel_rfl) (by exact fun _ _ _ h => h) (Or.inl ⟨by rfl, ?_⟩) hH ?_
                              rotate_left
                              · intro w hSw; (try dsimp only at hSw); obtain ⟨s0, s1, s2⟩ := hSw; go_simp; try with_reducible rfl
                              try simp only [Act.put, List.setIfInBounds_toArray, List.set_cons_zero, List.set_cons_succ]
                              refine wpAnyH_ready (rs := [3, 5]) (by kernel_rfl) (by simp) (AllReadyH.cons rfl (fun K hK => ?_) (AllReadyH.cons rfl (fun K hK => ?_) AllReadyH.nil))
                              · go_simp
                                go_at_call 15
                                refine (entrys_any _ D.length D.length _ (D.take D.length) W.drew ((HSW.out.on HWd.out).head (Nat.le_refl _)) (Nat.le_refl _) (by omega)).mono ?_
                                rintro e w6 ⟨v6, rfl, ho, hb⟩
                                have HO6 := hid (show EOwn w6 W.heap.size v6 (D.take D.length) from ho)
                                have HB6 := hid (show Below W.heap.size W w6 from HWd.out.trans hb)
                                have HX6 := hid (HBW.out.below HB6.out HBW.out.lt)
                                clear ho hb
                                refine hK.out _ _ (box3 HX6.out) (fun hH => ?_)
                                clear hK K
                                try simp only [Act.put, List.setIfInBounds_toArray, List.set_cons_zero, List.set_cons_succ]
                                refine wpAnyH_ready (rs := [5]) (by kernel_rfl) (by simp) (AllReadyH.cons rfl (fun K hK => ?_) AllReadyH.nil)
                                go_simp
                                refine hK.out _ _ (box3 (HX6.out.alloc _)) (fun hH => ?_)
                                clear hK K
                                try simp only [Act.put, List.setIfInBounds_toArray, List.set_cons_zero, List.set_cons_succ]
                                refine wpAnyH_ready (rs := [6]) (by kernel_rfl) (by simp) (AllReadyH.cons rfl (fun K hK => ?_) AllReadyH.nil)
                                refine step_append_en rfl (.tmp 152) (.tmp 154) rfl W.heap.size _ v6 (D.take D.length) [⟨s, en, ek⟩] (by simp [Act.eval]) (World.ownsRow.alloc HO6.out _) ⟨w6.heap.size, 0, none⟩ 1 1 (by simp [Act.eval]) (esl_one w6 ⟨s, en, ek⟩) (by rw [List.length_take]; omega) (by have := HB6.out.size; simp; omega) ?_
                                rintro v7 w7 ho7 hb7
                                have HB7 := hid ((HB6.out.alloc HB6.out.size _).trans hb7)
                                have HO7 := hid ho7
                                have HX7 := hid (HBW.out.below HB7.out HBW.out.lt)
                                clear ho7 hb7
                                refine hK.out _ _ (box3 HX7.out) (fun hH => ?_)
                                clear hK K
                                try simp only [Act.put, List.setIfInBounds_toArray, List.set_cons_zero, List.set_cons_succ]
                                refine wpAnyH_take (i := 7) (oi := _) (v := ?_) (by simp only [List.getElem?_toArray, List.getElem?_cons_succ, List.getElem?_cons_zero]; rfl) (by kernel_rfl) (by kernel_rfl) (by kernel_rfl) (by exact fun _ _ _ h => h) (Or.inl ⟨by rfl, ?_⟩) hH ?_
                                rotate_left
                                · intro w hSw; (try dsimp only at hSw); go_simp; try with_reducible rfl
                                try simp only [Act.put, List.setIfInBounds_toArray, List.set_cons_zero, List.set_cons_succ]
                                refine wpAnyH_done (by kernel_rfl) ?_ _
                                go_wp2_with (at_builtin; refine wpList_append_en rfl _ _ rfl W.heap.size w7.heap.size v7 (D.take D.length ++ [⟨s, en, ek⟩]) [] rfl HO7.out (some ad) 0 0 ?g1 ?g4 ?g2 ?g3 ?_)
                                case g1 => simp [Act.eval]
                                case g4 => exact ⟨rfl, Nat.zero_le _, by (first | omega | (unfold maxLen; omega)), fun h => (by first | rfl | cases h), fun ad _ h0 => absurd h0 (Nat.lt_irrefl 0)⟩
                                case g2 => rw [List.length_append, List.length_take]; simp; omega
                                case g3 => exact HB7.out.size
                                intro v8 w8 ho8 hg8 _
                                have hb8 : Below W.heap.size w7 w8 := (Below.refl _ _).grown hg8 HB7.out.size (fun k hk => (HO7.out.lt k hk).1)
                                have HB8 := hid (HB7.out.trans hb8)
                                have HO8 := hid (show EOwn w8 W.heap.size v8 D2 from by
                                  rw [← HD2e.out]
                                  unfold insE
                                  rw [show lowE D (⟨s, en, ek⟩ : En).s = D.length from HLo.out, List.drop_eq_nil_of_le (Nat.le_refl _), List.append_nil]
                                  first | exact ho8 | (rw [List.take_length]; exact ho8) | (rw [List.append_nil] at ho8; exact ho8))
                                clear ho8 hg8 hb8 HO7 HB7
                                have HD8 := hid ((Dk.made O (HDW.out.less (ls := [Ly.dir O q D F2]) (fun K hK => by rcases List.mem_cons.1 hK with rfl | hK; exact (.head _); cases hK)) HB8.out HO8.out (Nat.le_refl _)).lower HDW.out.below.size)
                                have hdn : D2.length ≤ 51 := by have := HLd.out; omega
                                have HDn := hid hdn
                                obtain ⟨A8, c8, hv8, _, _⟩ := HO8.out.form
                                subst hv8
                                clear HO8 HB8 HDW HSW HBW hdn
                                go_wp2_with fail
                                refine (dk_lenOther O (q := q) (D2 := D) (F2 := F2) HD8.out (.tail _ (.head _))).mono ?_
                                rintro e wa ⟨rfl, hd, _⟩
                                have HDa := hid hd
                                clear hd
                                go_wp2_with fail
                                refine (dk_len O HDa.out).mono ?_
                                rintro e wb ⟨rfl, hd, _⟩
                                have HDb := hid hd
                                clear hd HDa
                                go_wp2_with fail
                                refine (dk_all O HDb.out (by have := HDn.out; omega)).mono ?_
                                rintro e wc ⟨⟨va, rfl, ho, hb⟩, hd⟩
                                obtain ⟨A5, c5, rfl, hsl5, _⟩ := ho.form
                                have HSa := hid hsl5
                                have HSh := hid (show ESl wc wc.heap.size A8 (D2.length) c8 (D2) from by
                                  obtain ⟨A', c', h1, h2, _⟩ := EOwn.form (show EOwn wc w.heap.size (.slice A8 (D2.length) c8) (D2) from hd.get (K := Ly.ens w.heap.size (.slice A8 (D2.length) c8) (D2)) (.head _))
                                  cases h1
                                  exact h2)
                                have HDc := hid hd
                                clear hd ho hb hsl5 HDb
                                go_wp2_with fail
                                refine (sameEntrys_any A5 A8 _ c5 _ c8 _ _ (D2) (D2) wc HSa.out HSh.out (Nat.le_refl _) (Nat.le_refl _)).mono ?_
                                rintro e wd ⟨rfl, hb⟩
                                have HDd := hid ((HDc.out.on (O.stays _ _) hb).less (ls := [Ly.ens w.heap.size (.slice A8 (D2.length) c8) (D2)]) (fun K hK => by rcases List.mem_cons.1 hK with rfl | hK; exact (.head _); cases hK))
                                rw [decide_eq_true (rfl : (D2) = (D2))]
                                clear hb HDc HSa HSh
                                go_wp2
                                go_roundw
                                case rel => exact ⟨i + 1, _, by omega, by go_num, (show D2.length ≤ i + 1 from by have := HDl.out; have := HLd.out; omega), HDd⟩
                                case measure => simp [intOf]; omega
                              · go_simp
                                have HL1 := hid (esl_one W ⟨s, en, ek⟩)
                                have HX1 := hid (HBW.out.alloc (.cells #[encStr s, .int .i64 en, .int .i64 ek] 29))
                                refine hK.out _ _ (box3 HX1.out.drew) (fun hH => ?_)
                                clear hK K
                                try simp only [Act.put, List.setIfInBounds_toArray, List.set_cons_zero, List.set_cons_succ]
                                have HW1 := hid (show Below W.heap.size W (W.alloc (.cells #[encStr s, .int .i64 en, .int .i64 ek] 29)).drew from ((Below.refl _ _).alloc (Nat.le_refl _) _).drew)
                                have HS1 := hid (HSW.out.on HW1.out)
                                have HZ1 := hid (show (W.alloc (.cells #[encStr s, .int .i64 en, .int .i64 ek] 29)).drew.heap.size = W.heap.size + 1 from by simp)
                                have HL2 := hid (show ESl (W.alloc (.cells #[encStr s, .int .i64 en, .int .i64 ek] 29)).drew (W.heap.size + 1) (some ⟨W.heap.size, 0, none⟩) 1 1 [⟨s, en, ek⟩] from HL1.out.below ⟨rfl, rfl, rfl, Nat.le_refl _, fun _ _ => rfl⟩)
                                have HX2 := hid (show Blk (W.alloc (.cells #[encStr s, .int .i64 en, .int .i64 ek] 29)).drew eb 29 #[encStr s, .int .i64 en, .int .i64 ek] from HX1.out.drew)
                                generalize (W.alloc (.cells #[encStr s, .int .i64 en, .int .i64 ek] 29)).drew = W1 at HW1 HS1 HZ1 HL2 HX2 hH ⊢
                                clear HL1 HX1
                                refine wpAnyH_ready (rs := [3]) (by kernel_rfl) (by simp) (AllReadyH.cons rfl (fun K hK => ?_) AllReadyH.nil)
                                go_simp
                                go_at_call 15
                                refine (entrys_any _ D.length D.length _ (D.take D.length) W1 (HS1.out.head (Nat.le_refl _)) (Nat.le_refl _) (by omega)).mono ?_
                                rintro e w6 ⟨v6, rfl, ho, hb⟩
                                have HO6 := hid (ho.lower HW1.out.size)
                                have HB6 := hid (HW1.out.trans (hb.mono HW1.out.size))
                                have HX6 := hid (HX2.out.below hb HX2.out.lt)
                                have HL6 := hid (show ESl w6 (W.heap.size + 1) (some ⟨W.heap.size, 0, none⟩) 1 1 [⟨s, en, ek⟩] from HL2.out.below (by rw [← HZ1.out]; exact hb))
                                clear ho hb
                                refine hK.out _ _ (box3 HX6.out) (fun hH => ?_)
                                clear hK K
                                try simp only [Act.put, List.setIfInBounds_toArray, List.set_cons_zero, List.set_cons_succ]
                                refine wpAnyH_ready (rs := [6]) (by kernel_rfl) (by simp) (AllReadyH.cons rfl (fun K hK => ?_) AllReadyH.nil)
                                refine step_append_en rfl (.tmp 152) (.tmp 154) rfl W.heap.size _ v6 (D.take D.length) [⟨s, en, ek⟩] (by simp [Act.eval]) HO6.out ⟨W.heap.size, 0, none⟩ 1 1 (by simp [Act.eval]) HL6.out (by rw [List.length_take]; omega) HB6.out.size ?_
                                rintro v7 w7 ho7 hb7
                                have HB7 := hid (HB6.out.trans hb7)
                                have HO7 := hid ho7
                                have HX7 := hid (HBW.out.below HB7.out HBW.out.lt)
                                clear ho7 hb7
                                refine hK.out _ _ (box3 HX7.out) (fun hH => ?_)
                                clear hK K
                                try simp only [Act.put, List.setIfInBounds_toArray, List.set_cons_zero, List.set_cons_succ]
                                refine wpAnyH_take (i := 7) (oi := _) (v := ?_) (by simp only [List.getElem?_toArray, List.getElem?_cons_succ, List.getElem?_cons_zero]; rfl) (by kernel_rfl) (by kernel_rfl) (by kernel_rfl) (by exact fun _ _ _ h => h) (Or.inl ⟨by rfl, ?_⟩) hH ?_
                                rotate_left
                                · intro w hSw; (try dsimp only at hSw); go_simp; try with_reducible rfl
                                try simp only [Act.put, List.setIfInBounds_toArray, List.set_cons_zero, List.set_cons_succ]
                                refine wpAnyH_done (by kernel_rfl) ?_ _
                                go_wp2_with (at_builtin; refine wpList_append_en rfl _ _ rfl W.heap.size w7.heap.size v7 (D.take D.length ++ [⟨s, en, ek⟩]) [] rfl HO7.out (some ad) 0 0 ?g1 ?g4 ?g2 ?g3 ?_)
                                case g1 => simp [Act.eval]
                                case g4 => exact ⟨rfl, Nat.zero_le _, by (first | omega | (unfold maxLen; omega)), fun h => (by first | rfl | cases h), fun ad _ h0 => absurd h0 (Nat.lt_irrefl 0)⟩
                                case g2 => rw [List.length_append, List.length_take]; simp; omega
                                case g3 => exact HB7.out.size
                                intro v8 w8 ho8 hg8 _
                                have hb8 : Below W.heap.size w7 w8 := (Below.refl _ _).grown hg8 HB7.out.size (fun k hk => (HO7.out.lt k hk).1)
                                have HB8 := hid (HB7.out.trans hb8)
                                have HO8 := hid (show EOwn w8 W.heap.size v8 D2 from by
                                  rw [← HD2e.out]
                                  unfold insE
                                  rw [show lowE D (⟨s, en, ek⟩ : En).s = D.length from HLo.out, List.drop_eq_nil_of_le (Nat.le_refl _), List.append_nil]
                                  first | exact ho8 | (rw [List.take_length]; exact ho8) | (rw [List.append_nil] at ho8; exact ho8))
                                clear ho8 hg8 hb8 HO7 HB7
                                have HD8 := hid ((Dk.made O (HDW.out.less (ls := [Ly.dir O q D F2]) (fun K hK => by rcases List.mem_cons.1 hK with rfl | hK; exact (.head _); cases hK)) HB8.out HO8.out (Nat.le_refl _)).lower HDW.out.below.size)
                                have hdn : D2.length ≤ 51 := by have := HLd.out; omega
                                have HDn := hid hdn
                                obtain ⟨A8, c8, hv8, _, _⟩ := HO8.out.form
                                subst hv8
                                clear HO8 HB8 HDW HSW HBW hdn
                                go_wp2_with fail
                                refine (dk_lenOther O (q := q) (D2 := D) (F2 := F2) HD8.out (.tail _ (.head _))).mono ?_
                                rintro e wa ⟨rfl, hd, _⟩
                                have HDa := hid hd
                                clear hd
                                go_wp2_with fail
                                refine (dk_len O HDa.out).mono ?_
                                rintro e wb ⟨rfl, hd, _⟩
                                have HDb := hid hd
                                clear hd HDa
                                go_wp2_with fail
                                refine (dk_all O HDb.out (by have := HDn.out; omega)).mono ?_
                                rintro e wc ⟨⟨va, rfl, ho, hb⟩, hd⟩
                                obtain ⟨A5, c5, rfl, hsl5, _⟩ := ho.form
                                have HSa := hid hsl5
                                have HSh := hid (show ESl wc wc.heap.size A8 (D2.length) c8 (D2) from by
                                  obtain ⟨A', c', h1, h2, _⟩ := EOwn.form (show EOwn wc w.heap.size (.slice A8 (D2.length) c8) (D2) from hd.get (K := Ly.ens w.heap.size (.slice A8 (D2.length) c8) (D2)) (.head _))
                                  cases h1
                                  exact h2)
                                have HDc := hid hd
                                clear hd ho hb hsl5 HDb
                                go_wp2_with fail
                                refine (sameEntrys_any A5 A8 _ c5 _ c8 _ _ (D2) (D2) wc HSa.out HSh.out (Nat.le_refl _) (Nat.le_refl _)).mono ?_
                                rintro e wd ⟨rfl, hb⟩
                                have HDd := hid ((HDc.out.on (O.stays _ _) hb).less (ls := [Ly.ens w.heap.size (.slice A8 (D2.length) c8) (D2)]) (fun K hK => by rcases List.mem_cons.1 hK with rfl | hK; exact (.head _); cases hK))
                                rw [decide_eq_true (rfl : (D2) = (D2))]
                                clear hb HDc HSa HSh
                                go_wp2
                                go_roundw
                                case rel => exact ⟨i + 1, _, by omega, by go_num, (show D2.length ≤ i + 1 from by have := HDl.out; have := HLd.out; omega), HDd⟩
                                case measure => simp [intOf]; omega
                          · as_aux_lemma =>
                              obtain ⟨W, hW⟩ : ∃ W, wr.drew = W := ⟨_, rfl⟩
                              have HDW := hid (show Dk DR w W g D2 [Ly.dir O q D F2, Ly.blk eb 29 #[encStr s, .int .i64 en, .int .i64 ek], Ly.ens w.heap.size (.slice (some ad) D.length c2) D] from hW ▸ HD.out.drewN (O.stays _ _) 1)
                              have HBW := hid (show Blk W eb 29 #[encStr s, .int .i64 en, .int .i64 ek] from hW ▸ HBxq.out.drew)
                              have HSW := hid (show ESl W W.heap.size (some ad) D.length c2 D from hW ▸ HSj.out.on (⟨rfl, rfl, rfl, Nat.le_refl _, fun _ _ => rfl⟩ : Below wr.heap.size wr wr.drew))
                              have HWd := hid (show Below W.heap.size W W.drew from ⟨rfl, rfl, rfl, Nat.le_refl _, fun _ _ => rfl⟩)
                              rw [hW]
                              clear hW HD HBxq HSj c0
                              go_wp2_with fail
                              have hb3 := box3 HBW.out.drew
                              have hs0 : (D.length : Int) ≤ (c2 : Int) := by omega
                              have hs1 : (0 : Int) ≤ (D.length : Int) := by omega
                              have hs2 : (D.length : Int) ≤ (D.length : Int) := Int.le_refl _
                              refine wp_region_held_drew (S := fun w' => w'.cell? ⟨eb, 0, none⟩ = some (encStr s) ∧ w'.cell? ⟨eb, 1, none⟩ = some (.int .i64 en) ∧ w'.cell? ⟨eb, 2, none⟩ = some (.int .i64 ek)) (by kernel_rfl) hb3 (fun hH => ?_)
                              refine wpAnyH_take (i := 0) (oi := _) (v := ?_) (by simp only [List.getElem?_toArray, List.getElem?_cons_zero]; rfl) (by kernel_rfl) (by kernel_rfl) (by kernel_rfl) (by exact fun _ _ _ h => h) (Or.inl ⟨by rfl, ?_⟩) hH ?_
                              rotate_left
                              · intro w hSw; (try dsimp only at hSw); go_simp; try with_reducible rfl
                              try simp only [Act.put, List.setIfInBounds_toArray, List.set_cons_zero, List.set_cons_succ]
                              refine wpAnyH_take (i := 1) (oi := _) (v := ?_) (by simp only [List.getElem?_toArray, List.getElem?_cons_succ, List.getElem?_cons_zero]; rfl) (by kernel_rfl) (by kernel_rfl) (by kernel_rfl) (by exact fun _ _ _ h => h) (Or.inl ⟨by rfl, ?_⟩) hH ?_
                              rotate_left
                              · intro w hSw; (try dsimp only at hSw); go_simp; try with_reducible rfl
                              try simp only [Act.put, List.setIfInBounds_toArray, List.set_cons_zero, List.set_cons_succ]
                              refine wpAnyH_take (i := 2) (oi := _) (v := ?_) (by simp only [List.getElem?_toArray, List.getElem?_cons_succ, List.getElem?_cons_zero]; rfl) (by kernel_rfl) (by kernel_rfl) (by kernel_rfl) (by exact fun _ _ _ h => h) (Or.inl ⟨by rfl, ?_⟩) hH ?_
                              rotate_left
                              · intro w hSw; (try dsimp only at hSw); go_simp; try with_reducible rfl
                              try simp only [Act.put, List.setIfInBounds_toArray, List.set_cons_zero, List.set_cons_succ]
                              refine wpAnyH_take (i := 4) (oi := _) (v := ?_) (by simp only [List.getElem?_toArray, List.getElem?_cons_succ, List.getElem?_cons_zero]; rfl) (by kernel_rfl) (by kernel_rfl) (by kernel_rfl) (by exact fun _ _ _ h => h) (Or.inl ⟨by rfl, ?_⟩) hH ?_
                              rotate_left
                              · intro w hSw; (try dsimp only at hSw); obtain ⟨s0, s1, s2⟩ := hSw; go_simp; try with_reducible rfl
                              try simp only [Act.put, List.setIfInBounds_toArray, List.set_cons_zero, List.set_cons_succ]
                              refine wpAnyH_ready (rs := [3, 5]) (by kernel_rfl) (by simp) (AllReadyH.cons rfl (fun K hK => ?_) (AllReadyH.cons rfl (fun K hK => ?_) AllReadyH.nil))
                              · go_simp
                                go_at_call 15
                                refine (entrys_any _ D.length c2 _ (D.take D.length) W.drew ((HSW.out.on HWd.out).head (Nat.le_refl _)) (Nat.le_refl _) (by omega)).mono ?_
                                rintro e w6 ⟨v6, rfl, ho, hb⟩
                                have HO6 := hid (show EOwn w6 W.heap.size v6 (D.take D.length) from ho)
                                have HB6 := hid (show Below W.heap.size W w6 from HWd.out.trans hb)
                                have HX6 := hid (HBW.out.below HB6.out HBW.out.lt)
                                clear ho hb
                                refine hK.out _ _ (box3 HX6.out) (fun hH => ?_)
                                clear hK K
                                try simp only [Act.put, List.setIfInBounds_toArray, List.set_cons_zero, List.set_cons_succ]
                                refine wpAnyH_ready (rs := [5]) (by kernel_rfl) (by simp) (AllReadyH.cons rfl (fun K hK => ?_) AllReadyH.nil)
                                go_simp
                                refine hK.out _ _ (box3 (HX6.out.alloc _)) (fun hH => ?_)
                                clear hK K
                                try simp only [Act.put, List.setIfInBounds_toArray, List.set_cons_zero, List.set_cons_succ]
                                refine wpAnyH_ready (rs := [6]) (by kernel_rfl) (by simp) (AllReadyH.cons rfl (fun K hK => ?_) AllReadyH.nil)
                                refine step_append_en rfl (.tmp 152) (.tmp 154) rfl W.heap.size _ v6 (D.take D.length) [⟨s, en, ek⟩] (by simp [Act.eval]) (World.ownsRow.alloc HO6.out _) ⟨w6.heap.size, 0, none⟩ 1 1 (by simp [Act.eval]) (esl_one w6 ⟨s, en, ek⟩) (by rw [List.length_take]; omega) (by have := HB6.out.size; simp; omega) ?_
                                rintro v7 w7 ho7 hb7
                                have HB7 := hid ((HB6.out.alloc HB6.out.size _).trans hb7)
                                have HO7 := hid ho7
                                have HX7 := hid (HBW.out.below HB7.out HBW.out.lt)
                                clear ho7 hb7
                                refine hK.out _ _ (box3 HX7.out) (fun hH => ?_)
                                clear hK K
                                try simp only [Act.put, List.setIfInBounds_toArray, List.set_cons_zero, List.set_cons_succ]
                                refine wpAnyH_take (i := 7) (oi := _) (v := ?_) (by simp only [List.getElem?_toArray, List.getElem?_cons_succ, List.getElem?_cons_zero]; rfl) (by kernel_rfl) (by kernel_rfl) (by kernel_rfl) (by exact fun _ _ _ h => h) (Or.inl ⟨by rfl, ?_⟩) hH ?_
                                rotate_left
                                · intro w hSw; (try dsimp only at hSw); go_simp; try with_reducible rfl
                                try simp only [Act.put, List.setIfInBounds_toArray, List.set_cons_zero, List.set_cons_succ]
                                refine wpAnyH_done (by kernel_rfl) ?_ _
                                go_wp2_with (at_builtin; refine wpList_append_en rfl _ _ rfl W.heap.size w7.heap.size v7 (D.take D.length ++ [⟨s, en, ek⟩]) [] rfl HO7.out (some (ad.add (D.length * 3))) 0 (c2 - D.length) ?g1 ?g4 ?g2 ?g3 ?_)
                                case g1 => simp [Act.eval]
                                case g4 => exact ⟨rfl, Nat.zero_le _, by (first | omega | (unfold maxLen; omega)), fun h => (by first | rfl | cases h), fun ad _ h0 => absurd h0 (Nat.lt_irrefl 0)⟩
                                case g2 => rw [List.length_append, List.length_take]; simp; omega
                                case g3 => exact HB7.out.size
                                intro v8 w8 ho8 hg8 _
                                have hb8 : Below W.heap.size w7 w8 := (Below.refl _ _).grown hg8 HB7.out.size (fun k hk => (HO7.out.lt k hk).1)
                                have HB8 := hid (HB7.out.trans hb8)
                                have HO8 := hid (show EOwn w8 W.heap.size v8 D2 from by
                                  rw [← HD2e.out]
                                  unfold insE
                                  rw [show lowE D (⟨s, en, ek⟩ : En).s = D.length from HLo.out, List.drop_eq_nil_of_le (Nat.le_refl _), List.append_nil]
                                  first | exact ho8 | (rw [List.take_length]; exact ho8) | (rw [List.append_nil] at ho8; exact ho8))
                                clear ho8 hg8 hb8 HO7 HB7
                                have HD8 := hid ((Dk.made O (HDW.out.less (ls := [Ly.dir O q D F2]) (fun K hK => by rcases List.mem_cons.1 hK with rfl | hK; exact (.head _); cases hK)) HB8.out HO8.out (Nat.le_refl _)).lower HDW.out.below.size)
                                have hdn : D2.length ≤ 51 := by have := HLd.out; omega
                                have HDn := hid hdn
                                obtain ⟨A8, c8, hv8, _, _⟩ := HO8.out.form
                                subst hv8
                                clear HO8 HB8 HDW HSW HBW hdn
                                go_wp2_with fail
                                refine (dk_lenOther O (q := q) (D2 := D) (F2 := F2) HD8.out (.tail _ (.head _))).mono ?_
                                rintro e wa ⟨rfl, hd, _⟩
                                have HDa := hid hd
                                clear hd
                                go_wp2_with fail
                                refine (dk_len O HDa.out).mono ?_
                                rintro e wb ⟨rfl, hd, _⟩
                                have HDb := hid hd
                                clear hd HDa
                                go_wp2_with fail
                                refine (dk_all O HDb.out (by have := HDn.out; omega)).mono ?_
                                rintro e wc ⟨⟨va, rfl, ho, hb⟩, hd⟩
                                obtain ⟨A5, c5, rfl, hsl5, _⟩ := ho.form
                                have HSa := hid hsl5
                                have HSh := hid (show ESl wc wc.heap.size A8 (D2.length) c8 (D2) from by
                                  obtain ⟨A', c', h1, h2, _⟩ := EOwn.form (show EOwn wc w.heap.size (.slice A8 (D2.length) c8) (D2) from hd.get (K := Ly.ens w.heap.size (.slice A8 (D2.length) c8) (D2)) (.head _))
                                  cases h1
                                  exact h2)
                                have HDc := hid hd
                                clear hd ho hb hsl5 HDb
                                go_wp2_with fail
                                refine (sameEntrys_any A5 A8 _ c5 _ c8 _ _ (D2) (D2) wc HSa.out HSh.out (Nat.le_refl _) (Nat.le_refl _)).mono ?_
                                rintro e wd ⟨rfl, hb⟩
                                have HDd := hid ((HDc.out.on (O.stays _ _) hb).less (ls := [Ly.ens w.heap.size (.slice A8 (D2.length) c8) (D2)]) (fun K hK => by rcases List.mem_cons.1 hK with rfl | hK; exact (.head _); cases hK))
                                rw [decide_eq_true (rfl : (D2) = (D2))]
                                clear hb HDc HSa HSh
                                go_wp2
                                go_roundw
                                case rel => exact ⟨i + 1, _, by omega, by go_num, (show D2.length ≤ i + 1 from by have := HDl.out; have := HLd.out; omega), HDd⟩
                                case measure => simp [intOf]; omega
                              · go_simp
                                have HL1 := hid (esl_one W ⟨s, en, ek⟩)
                                have HX1 := hid (HBW.out.alloc (.cells #[encStr s, .int .i64 en, .int .i64 ek] 29))
                                refine hK.out _ _ (box3 HX1.out.drew) (fun hH => ?_)
                                clear hK K
                                try simp only [Act.put, List.setIfInBounds_toArray, List.set_cons_zero, List.set_cons_succ]
                                have HW1 := hid (show Below W.heap.size W (W.alloc (.cells #[encStr s, .int .i64 en, .int .i64 ek] 29)).drew from ((Below.refl _ _).alloc (Nat.le_refl _) _).drew)
                                have HS1 := hid (HSW.out.on HW1.out)
                                have HZ1 := hid (show (W.alloc (.cells #[encStr s, .int .i64 en, .int .i64 ek] 29)).drew.heap.size = W.heap.size + 1 from by simp)
                                have HL2 := hid (show ESl (W.alloc (.cells #[encStr s, .int .i64 en, .int .i64 ek] 29)).drew (W.heap.size + 1) (some ⟨W.heap.size, 0, none⟩) 1 1 [⟨s, en, ek⟩] from HL1.out.below ⟨rfl, rfl, rfl, Nat.le_refl _, fun _ _ => rfl⟩)
                                have HX2 := hid (show Blk (W.alloc (.cells #[encStr s, .int .i64 en, .int .i64 ek] 29)).drew eb 29 #[encStr s, .int .i64 en, .int .i64 ek] from HX1.out.drew)
                                generalize (W.alloc (.cells #[encStr s, .int .i64 en, .int .i64 ek] 29)).drew = W1 at HW1 HS1 HZ1 HL2 HX2 hH ⊢
                                clear HL1 HX1
                                refine wpAnyH_ready (rs := [3]) (by kernel_rfl) (by simp) (AllReadyH.cons rfl (fun K hK => ?_) AllReadyH.nil)
                                go_simp
                                go_at_call 15
                                refine (entrys_any _ D.length c2 _ (D.take D.length) W1 (HS1.out.head (Nat.le_refl _)) (Nat.le_refl _) (by omega)).mono ?_
                                rintro e w6 ⟨v6, rfl, ho, hb⟩
                                have HO6 := hid (ho.lower HW1.out.size)
                                have HB6 := hid (HW1.out.trans (hb.mono HW1.out.size))
                                have HX6 := hid (HX2.out.below hb HX2.out.lt)
                                have HL6 := hid (show ESl w6 (W.heap.size + 1) (some ⟨W.heap.size, 0, none⟩) 1 1 [⟨s, en, ek⟩] from HL2.out.below (by rw [← HZ1.out]; exact hb))
                                clear ho hb
                                refine hK.out _ _ (box3 HX6.out) (fun hH => ?_)
                                clear hK K
                                try simp only [Act.put, List.setIfInBounds_toArray, List.set_cons_zero, List.set_cons_succ]
                                refine wpAnyH_ready (rs := [6]) (by kernel_rfl) (by simp) (AllReadyH.cons rfl (fun K hK => ?_) AllReadyH.nil)
                                refine step_append_en rfl (.tmp 152) (.tmp 154) rfl W.heap.size _ v6 (D.take D.length) [⟨s, en, ek⟩] (by simp [Act.eval]) HO6.out ⟨W.heap.size, 0, none⟩ 1 1 (by simp [Act.eval]) HL6.out (by rw [List.length_take]; omega) HB6.out.size ?_
                                rintro v7 w7 ho7 hb7
                                have HB7 := hid (HB6.out.trans hb7)
                                have HO7 := hid ho7
                                have HX7 := hid (HBW.out.below HB7.out HBW.out.lt)
                                clear ho7 hb7
                                refine hK.out _ _ (box3 HX7.out) (fun hH => ?_)
                                clear hK K
                                try simp only [Act.put, List.setIfInBounds_toArray, List.set_cons_zero, List.set_cons_succ]
                                refine wpAnyH_take (i := 7) (oi := _) (v := ?_) (by simp only [List.getElem?_toArray, List.getElem?_cons_succ, List.getElem?_cons_zero]; rfl) (by kernel_rfl) (by kernel_rfl) (by kernel_rfl) (by exact fun _ _ _ h => h) (Or.inl ⟨by rfl, ?_⟩) hH ?_
                                rotate_left
                                · intro w hSw; (try dsimp only at hSw); go_simp; try with_reducible rfl
                                try simp only [Act.put, List.setIfInBounds_toArray, List.set_cons_zero, List.set_cons_succ]
                                refine wpAnyH_done (by kernel_rfl) ?_ _
                                go_wp2_with (at_builtin; refine wpList_append_en rfl _ _ rfl W.heap.size w7.heap.size v7 (D.take D.length ++ [⟨s, en, ek⟩]) [] rfl HO7.out (some (ad.add (D.length * 3))) 0 (c2 - D.length) ?g1 ?g4 ?g2 ?g3 ?_)
                                case g1 => simp [Act.eval]
                                case g4 => exact ⟨rfl, Nat.zero_le _, by (first | omega | (unfold maxLen; omega)), fun h => (by first | rfl | cases h), fun ad _ h0 => absurd h0 (Nat.lt_irrefl 0)⟩
                                case g2 => rw [List.length_append, List.length_take]; simp; omega
                                case g3 => exact HB7.out.size
                                intro v8 w8 ho8 hg8 _
                                have hb8 : Below W.heap.size w7 w8 := (Below.refl _ _).grown hg8 HB7.out.size (fun k hk => (HO7.out.lt k hk).1)
                                have HB8 := hid (HB7.out.trans hb8)
                                have HO8 := hid (show EOwn w8 W.heap.size v8 D2 from by
                                  rw [← HD2e.out]
                                  unfold insE
                                  rw [show lowE D (⟨s, en, ek⟩ : En).s = D.length from HLo.out, List.drop_eq_nil_of_le (Nat.le_refl _), List.append_nil]
                                  first | exact ho8 | (rw [List.take_length]; exact ho8) | (rw [List.append_nil] at ho8; exact ho8))
                                clear ho8 hg8 hb8 HO7 HB7
                                have HD8 := hid ((Dk.made O (HDW.out.less (ls := [Ly.dir O q D F2]) (fun K hK => by rcases List.mem_cons.1 hK with rfl | hK; exact (.head _); cases hK)) HB8.out HO8.out (Nat.le_refl _)).lower HDW.out.below.size)
                                have hdn : D2.length ≤ 51 := by have := HLd.out; omega
                                have HDn := hid hdn
                                obtain ⟨A8, c8, hv8, _, _⟩ := HO8.out.form
                                subst hv8
                                clear HO8 HB8 HDW HSW HBW hdn
                                go_wp2_with fail
                                refine (dk_lenOther O (q := q) (D2 := D) (F2 := F2) HD8.out (.tail _ (.head _))).mono ?_
                                rintro e wa ⟨rfl, hd, _⟩
                                have HDa := hid hd
                                clear hd
                                go_wp2_with fail
                                refine (dk_len O HDa.out).mono ?_
                                rintro e wb ⟨rfl, hd, _⟩
                                have HDb := hid hd
                                clear hd HDa
                                go_wp2_with fail
                                refine (dk_all O HDb.out (by have := HDn.out; omega)).mono ?_
                                rintro e wc ⟨⟨va, rfl, ho, hb⟩, hd⟩
                                obtain ⟨A5, c5, rfl, hsl5, _⟩ := ho.form
                                have HSa := hid hsl5
                                have HSh := hid (show ESl wc wc.heap.size A8 (D2.length) c8 (D2) from by
                                  obtain ⟨A', c', h1, h2, _⟩ := EOwn.form (show EOwn wc w.heap.size (.slice A8 (D2.length) c8) (D2) from hd.get (K := Ly.ens w.heap.size (.slice A8 (D2.length) c8) (D2)) (.head _))
                                  cases h1
                                  exact h2)
                                have HDc := hid hd
                                clear hd ho hb hsl5 HDb
                                go_wp2_with fail
                                refine (sameEntrys_any A5 A8 _ c5 _ c8 _ _ (D2) (D2) wc HSa.out HSh.out (Nat.le_refl _) (Nat.le_refl _)).mono ?_
                                rintro e wd ⟨rfl, hb⟩
                                have HDd := hid ((HDc.out.on (O.stays _ _) hb).less (ls := [Ly.ens w.heap.size (.slice A8 (D2.length) c8) (D2)]) (fun K hK => by rcases List.mem_cons.1 hK with rfl | hK; exact (.head _); cases hK))
                                rw [decide_eq_true (rfl : (D2) = (D2))]
                                clear hb HDc HSa HSh
                                go_wp2
                                go_roundw
                                case rel => exact ⟨i + 1, _, by omega, by go_num, (show D2.length ≤ i + 1 from by have := HDl.out; have := HLd.out; omega), HDd⟩
                                case measure => simp [intOf]; omega
              · have HA := hid (And.intro hvc hsp)
                clear hvc hsp
                have HC := hid (show addC D ⟨s, en, ek⟩ = 114 ∧ addE D ⟨s, en, ek⟩ = D from by
                  have h : addC D ⟨s, en, ek⟩ = 114 := by
                    unfold addC
                    simp [HA.out.1, HA.out.2]
                  refine ⟨h, ?_⟩
                  unfold addE
                  rw [h]
                  simp)
                go_wp2_with fail
                refine (dk_add O S ⟨s, en, ek⟩ HS.out HD5.out (by omega) HEk.out).mono ?_
                rintro e w8 ⟨⟨v, rfl, hv⟩, hd⟩
                rw [HC.out.1] at hv
                rw [HC.out.2] at hd
                have HV := hid hv
                have HD8 := hid hd
                clear hv hd HD5
                go_wp2_with fail
                refine (is_any S _ _ _ _ (HS.out.on HD8.out.below) HV.out).mono ?_
                rintro e w9 ⟨rfl, hb⟩
                rw [beq_self_eq_true]
                have HD9 := hid (HD8.out.on (O.stays _ _) hb)
                clear hb HD8
                have HDn := hid hdl
                go_wp2_with fail
                refine (dk_lenOther O (q := q) (D2 := D) (F2 := F2) HD9.out (.head _)).mono ?_
                rintro e wa ⟨rfl, hd, _⟩
                have HDa := hid hd
                clear hd
                go_wp2_with fail
                refine (dk_len O HDa.out).mono ?_
                rintro e wb ⟨rfl, hd, _⟩
                have HDb := hid hd
                clear hd HDa
                go_wp2_with fail
                refine (dk_all O HDb.out (by have := HDn.out; omega)).mono ?_
                rintro e wc ⟨⟨va, rfl, ho, hb⟩, hd⟩
                obtain ⟨A5, c5, rfl, hsl5, _⟩ := ho.form
                have HSa := hid hsl5
                have HSh := hid (show ESl wc wc.heap.size A2 (D.length) c2 (D) from by
                  obtain ⟨A', c', h1, h2, _⟩ := EOwn.form (show EOwn wc w.heap.size (.slice A2 (D.length) c2) (D) from hd.get (K := Ly.ens w.heap.size (.slice A2 (D.length) c2) (D)) (.tail _ (.tail _ (.head _))))
                  cases h1
                  exact h2)
                have HDc := hid hd
                clear hd ho hb hsl5 HDb
                go_wp2_with fail
                refine (sameEntrys_any A5 A2 _ c5 _ c2 _ _ (D) (D) wc HSa.out HSh.out (Nat.le_refl _) (Nat.le_refl _)).mono ?_
                rintro e wd ⟨rfl, hb⟩
                have HDd := hid ((HDc.out.on (O.stays _ _) hb).less (ls := [Ly.ens w.heap.size (.slice A2 (D.length) c2) (D)]) (fun K hK => by rcases List.mem_cons.1 hK with rfl | hK; exact (.tail _ (.tail _ (.head _))); cases hK))
                rw [decide_eq_true (rfl : (D) = (D))]
                clear hb HDc HSa HSh
                go_wp2
                go_roundw
                case rel => exact ⟨i + 1, _, by omega, by go_num, (show D.length ≤ i + 1 from by have := HDl.out; omega), HDd⟩
                case measure => simp [intOf]; omega
            · have HA := hid (And.intro hvc hv0)
              clear hvc
              have HC := hid (show addC D ⟨s, en, ek⟩ = vc ∧ addE D ⟨s, en, ek⟩ = D from by
                have h : addC D ⟨s, en, ek⟩ = vc := by
                  unfold addC
                  rw [HA.out.1, if_neg HA.out.2]
                refine ⟨h, ?_⟩
                unfold addE
                rw [h]
                rw [if_neg HA.out.2])
              go_wp2_with fail
              refine (dk_add O S ⟨s, en, ek⟩ HS.out HD5.out (by omega) HEk.out).mono ?_
              rintro e w8 ⟨⟨v, rfl, hv⟩, hd⟩
              rw [HC.out.1] at hv
              rw [HC.out.2] at hd
              have HV := hid hv
              have HD8 := hid hd
              clear hv hd HD5
              go_wp2_with fail
              refine (is_any S _ _ _ _ (HS.out.on HD8.out.below) HV.out).mono ?_
              rintro e w9 ⟨rfl, hb⟩
              rw [beq_self_eq_true]
              have HD9 := hid (HD8.out.on (O.stays _ _) hb)
              clear hb HD8
              have HDn := hid hdl
              go_wp2_with fail
              refine (dk_lenOther O (q := q) (D2 := D) (F2 := F2) HD9.out (.head _)).mono ?_
              rintro e wa ⟨rfl, hd, _⟩
              have HDa := hid hd
              clear hd
              go_wp2_with fail
              refine (dk_len O HDa.out).mono ?_
              rintro e wb ⟨rfl, hd, _⟩
              have HDb := hid hd
              clear hd HDa
              go_wp2_with fail
              refine (dk_all O HDb.out (by have := HDn.out; omega)).mono ?_
              rintro e wc ⟨⟨va, rfl, ho, hb⟩, hd⟩
              obtain ⟨A5, c5, rfl, hsl5, _⟩ := ho.form
              have HSa := hid hsl5
              have HSh := hid (show ESl wc wc.heap.size A2 (D.length) c2 (D) from by
                obtain ⟨A', c', h1, h2, _⟩ := EOwn.form (show EOwn wc w.heap.size (.slice A2 (D.length) c2) (D) from hd.get (K := Ly.ens w.heap.size (.slice A2 (D.length) c2) (D)) (.tail _ (.tail _ (.head _))))
                cases h1
                exact h2)
              have HDc := hid hd
              clear hd ho hb hsl5 HDb
              go_wp2_with fail
              refine (sameEntrys_any A5 A2 _ c5 _ c2 _ _ (D) (D) wc HSa.out HSh.out (Nat.le_refl _) (Nat.le_refl _)).mono ?_
              rintro e wd ⟨rfl, hb⟩
              have HDd := hid ((HDc.out.on (O.stays _ _) hb).less (ls := [Ly.ens w.heap.size (.slice A2 (D.length) c2) (D)]) (fun K hK => by rcases List.mem_cons.1 hK with rfl | hK; exact (.tail _ (.tail _ (.head _))); cases hK))
              rw [decide_eq_true (rfl : (D) = (D))]
              clear hb HDc HSa HSh
              go_wp2
              go_roundw
              case rel => exact ⟨i + 1, _, by omega, by go_num, (show D.length ≤ i + 1 from by have := HDl.out; omega), HDd⟩
              case measure => simp [intOf]; omega
      · have hk1' : (kd == 1) = false := beq_eq_false_iff_ne.2 hk1
        by_cases hk2 : kd = 2
        · subst hk2
          rcases hways with ⟨hin, hfv⟩ | ⟨hin, hfv⟩
          · as_aux_lemma =>
              have hIs : isIn D s = true := by unfold isIn; rw [HF.out]; exact decide_eq_true hin
              have HI := hid hIs
              rw [hfv]
              clear hIs hfv c1 c2b
              obtain ⟨x, hx⟩ : ∃ x, D[f]? = some x := ⟨_, List.getElem?_eq_getElem hin⟩
              have HX := hid hx
              obtain ⟨D2, hD2⟩ : ∃ D2, D.take f ++ D.drop (f + 1) = D2 := ⟨_, rfl⟩
              have HE := hid (show delE D s = D2 from by unfold delE; rw [HF.out, if_pos hin]; exact hD2)
              have HD2e := hid hD2
              have HLd := hid (show D2.length ≤ D.length from by rw [← hD2, List.length_append, List.length_take, List.length_drop]; omega)
              clear hx hD2
              have hf0 : (0 : Int) ≤ (f : Int) := by omega
              have hf1 : (f : Int) < (D.length : Int) := by omega
              go_wp2_with fail
              refine (dk_del O s HD3.out (by omega)).mono ?_
              rintro e w5 ⟨⟨x', rfl, hx'⟩, hd⟩
              obtain rfl := hx' x (by rw [HF.out]; exact HX.out)
              rw [HI.out]
              rw [HE.out] at hd
              obtain ⟨xs, xn, xk⟩ := x'
              obtain ⟨W, hW⟩ : ∃ W, w5.alloc (.cells #[encStr xs, .int .i64 xn, .int .i64 xk] 29) = W := ⟨_, rfl⟩
              have hd2 := hd.box (O.stays _ _) 29 #[encStr xs, .int .i64 xn, .int .i64 xk]
              rw [hW] at hd2
              have HD5 := hid hd2
              have HW := hid hW
              clear hd hd2 hx' HD3 HSl3 c0 k0' hW
              go_wp2_with fail
              rw [HW.out]
              have hgx : Blk W w5.heap.size 29 #[encStr xs, .int .i64 xn, .int .i64 xk] := HD5.out.get (K := Ly.blk w5.heap.size 29 #[encStr xs, .int .i64 xn, .int .i64 xk]) (.head _)
              have d0 := hgx.drew.cell 0
              have d1 := hgx.drew.cell 1
              have d2 := hgx.drew.cell 2
              simp at d0 d1 d2
              have hsl5 : ESl W W.heap.size A2 D.length c2 D := by
                obtain ⟨A', c', h1, h2, _⟩ := EOwn.form (show EOwn W w.heap.size (.slice A2 D.length c2) D from HD5.out.get (K := Ly.ens w.heap.size (.slice A2 D.length c2) D) (.tail _ (.tail _ (.tail _ (.head _)))))
                cases h1
                exact h2
              have HS5 := hid hsl5
              obtain ⟨bh, oh, e', rfl, hbh, hxe, h0, h1, h2⟩ := hsl5.get hin
              obtain rfl := Option.some.inj (hxe.symm.trans HX.out)
              have h0' : W.drew.cell? ⟨bh, oh + f * 3, none⟩ = some (encStr xs) := h0
              have h1' : W.drew.cell? ⟨bh, oh + f * 3 + 1, none⟩ = some (.int .i64 xn) := h1
              have h2' : W.drew.cell? ⟨bh, oh + f * 3 + 2, none⟩ = some (.int .i64 xk) := h2
              clear hgx hsl5 hbh hxe h0 h1 h2
              go_region_held3 (fun w' => w'.cell? ⟨w5.heap.size, 0, none⟩ = some (encStr xs) ∧ w'.cell? ⟨w5.heap.size, 1, none⟩ = some (.int .i64 xn) ∧ w'.cell? ⟨w5.heap.size, 2, none⟩ = some (.int .i64 xk) ∧ w'.cell? ⟨bh, oh + f * 3, none⟩ = some (encStr xs) ∧ w'.cell? ⟨bh, oh + f * 3 + 1, none⟩ = some (.int .i64 xn) ∧ w'.cell? ⟨bh, oh + f * 3 + 2, none⟩ = some (.int .i64 xk)) (first | exact ⟨d0, d1, d2, h0', h1', h2'⟩ | exact hcs | go_keep)
                ((first | (go_at_call 17; refine (sameEntry_any ⟨xs, xn, xk⟩ ⟨xs, xn, xk⟩ _).mono ?_; rw [decide_eq_true (rfl : (⟨xs, xn, xk⟩ : En) = ⟨xs, xn, xk⟩)]; rintro e w6 ⟨rfl, hb⟩; have hcs := (show w6.cell? ⟨w5.heap.size, 0, none⟩ = some (encStr xs) ∧ w6.cell? ⟨w5.heap.size, 1, none⟩ = some (.int .i64 xn) ∧ w6.cell? ⟨w5.heap.size, 2, none⟩ = some (.int .i64 xk) ∧ w6.cell? ⟨bh, oh + f * 3, none⟩ = some (encStr xs) ∧ w6.cell? ⟨bh, oh + f * 3 + 1, none⟩ = some (.int .i64 xn) ∧ w6.cell? ⟨bh, oh + f * 3 + 2, none⟩ = some (.int .i64 xk) from ⟨(hb.cell (World.block_lt_of_cell? _ _ d0)).trans d0, (hb.cell (World.block_lt_of_cell? _ _ d1)).trans d1, (hb.cell (World.block_lt_of_cell? _ _ d2)).trans d2, (hb.cell (World.block_lt_of_cell? _ _ h0')).trans h0', (hb.cell (World.block_lt_of_cell? _ _ h1')).trans h1', (hb.cell (World.block_lt_of_cell? _ _ h2')).trans h2'⟩); have HD6 := hid ((HD5.out.drewN (O.stays _ _) 1).on (O.stays _ _) hb); have HS6 := hid ((HS5.out.on (⟨rfl, rfl, rfl, Nat.le_refl _, fun _ _ => rfl⟩ : Below W.heap.size W W.drew)).on hb); clear hb)))
              clear hcs d0 d1 d2 h0' h1' h2'
              go_wp2_with fail
              have hadd : IntKind.i64.wrap ((f : Int) + 1) = (f : Int) + 1 := by rw [IntKind.wrap_i64]; omega
              have hs0 : (f : Int) ≤ (c2 : Int) := by omega
              have hs1 : (0 : Int) ≤ (f : Int) + 1 := by omega
              have hs2 : (f : Int) + 1 ≤ (D.length : Int) := by omega
              have hs3 : ((f : Int) + 1).toNat = f + 1 := by omega
              have hdw : Below w6.heap.size w6 w6.drew := ⟨rfl, rfl, rfl, Nat.le_refl _, fun _ _ => rfl⟩
              have HDw := hid hdw
              clear hdw
              by_cases hce : c2 = f + 1
              · subst hce
                have hs4 : (f : Int) ≤ (f : Int) + 1 := by omega
                refine wp_region_held_drew (S := fun _ => True) (by kernel_rfl) trivial (fun hH => ?_)
                refine wpAnyH_take (i := 0) (oi := _) (v := ?_) (by simp only [List.getElem?_toArray, List.getElem?_cons_zero]; rfl) (by kernel_rfl) (by kernel_rfl) (by kernel_rfl) (by exact fun _ _ _ h => h) (Or.inl ⟨by rfl, ?_⟩) hH ?_
                rotate_left
                · intro w hSw; (try dsimp only at hSw); go_simp; try with_reducible rfl
                try simp only [Act.put, List.setIfInBounds_toArray, List.set_cons_zero, List.set_cons_succ]
                refine wpAnyH_take (i := 1) (oi := _) (v := ?_) (by simp only [List.getElem?_toArray, List.getElem?_cons_succ, List.getElem?_cons_zero]; rfl) (by kernel_rfl) (by kernel_rfl) (by kernel_rfl) (by exact fun _ _ _ h => h) (Or.inl ⟨by rfl, ?_⟩) hH ?_
                rotate_left
                · intro w hSw; (try dsimp only at hSw); go_simp; try with_reducible rfl
                try simp only [Act.put, List.setIfInBounds_toArray, List.set_cons_zero, List.set_cons_succ]
                refine wpAnyH_take (i := 2) (oi := _) (v := ?_) (by simp only [List.getElem?_toArray, List.getElem?_cons_succ, List.getElem?_cons_zero]; rfl) (by kernel_rfl) (by kernel_rfl) (by kernel_rfl) (by exact fun _ _ _ h => h) (Or.inl ⟨by rfl, ?_⟩) hH ?_
                rotate_left
                · intro w hSw; (try dsimp only at hSw); go_simp; try with_reducible rfl
                try simp only [Act.put, List.setIfInBounds_toArray, List.set_cons_zero, List.set_cons_succ]
                refine wpAnyH_take (i := 4) (oi := _) (v := ?_) (by simp only [List.getElem?_toArray, List.getElem?_cons_succ, List.getElem?_cons_zero]; rfl) (by kernel_rfl) (by kernel_rfl) (by kernel_rfl) (by exact fun _ _ _ h => h) (Or.inl ⟨by rfl, ?_⟩) hH ?_
                rotate_left
                · intro w hSw; (try dsimp only at hSw); go_simp; try with_reducible rfl
                try simp only [Act.put, List.setIfInBounds_toArray, List.set_cons_zero, List.set_cons_succ]
                refine wpAnyH_take (i := 5) (oi := _) (v := ?_) (by simp only [List.getElem?_toArray, List.getElem?_cons_succ, List.getElem?_cons_zero]; rfl) (by kernel_rfl) (by kernel_rfl) (by kernel_rfl) (by exact fun _ _ _ h => h) (Or.inl ⟨by rfl, ?_⟩) hH ?_
                rotate_left
                · intro w hSw; (try dsimp only at hSw); go_simp; try with_reducible rfl
                try simp only [Act.put, List.setIfInBounds_toArray, List.set_cons_zero, List.set_cons_succ]
                refine wpAnyH_take (i := 6) (oi := _) (v := ?_) (by simp only [List.getElem?_toArray, List.getElem?_cons_succ, List.getElem?_cons_zero]; rfl) (by kernel_rfl) (by kernel_rfl) (by kernel_rfl) (by exact fun _ _ _ h => h) (Or.inl ⟨by rfl, ?_⟩) hH ?_
                rotate_left
                · intro w hSw; (try dsimp only at hSw); go_simp; try with_reducible rfl
                try simp only [Act.put, List.setIfInBounds_toArray, List.set_cons_zero, List.set_cons_succ]
                refine wpAnyH_take (i := 7) (oi := _) (v := ?_) (by simp only [List.getElem?_toArray, List.getElem?_cons_succ, List.getElem?_cons_zero]; rfl) (by kernel_rfl) (by kernel_rfl) (by kernel_rfl) (by exact fun _ _ _ h => h) (Or.inl ⟨by rfl, ?_⟩) hH ?_
                rotate_left
                · intro w hSw; (try dsimp only at hSw); go_simp; try with_reducible rfl
                try simp only [Act.put, List.setIfInBounds_toArray, List.set_cons_zero, List.set_cons_succ]
                refine wpAnyH_ready (rs := [3]) (by kernel_rfl) (by simp) (AllReadyH.cons rfl (fun K hK => ?_) AllReadyH.nil)
                go_simp
                go_at_call 15
                refine (entrys_any _ f (f + 1) _ (D.take f) w6.drew ((HS6.out.on HDw.out).head (by omega)) (Nat.le_refl _) (by omega)).mono ?_
                rintro e w7 ⟨v7, rfl, ho, hb⟩
                have HO7 := hid (show EOwn w7 w6.heap.size v7 (D.take f) from ho)
                have HB7 := hid (show Below w6.heap.size w6 w7 from HDw.out.trans hb)
                clear ho hb
                refine hK.out _ _ trivial (fun hH => ?_)
                clear hK K
                try simp only [Act.put, List.setIfInBounds_toArray, List.set_cons_zero, List.set_cons_succ]
                refine wpAnyH_ready (rs := [8]) (by kernel_rfl) (by simp) (AllReadyH.cons rfl (fun K hK => ?_) AllReadyH.nil)
                have HS7 := hid (show ESl w7 w7.heap.size (some ⟨bh, oh, none⟩) (D.length - (f + 1)) ((f + 1) - (f + 1)) (D.drop (f + 1)) from by
                  have h := (HS6.out.on HB7.out).cut (k := f + 1) (by omega)
                  rw [if_pos rfl] at h
                  exact h)
                refine step_append_en rfl (.tmp 190) (.tmp 194) rfl w6.heap.size _ v7 (D.take f) (D.drop (f + 1)) (by simp [Act.eval]) HO7.out ⟨bh, oh, none⟩ _ _ (by simp [Act.eval] <;> omega) HS7.out (by rw [List.length_take]; omega) HB7.out.size ?_
                rintro v8 w8 ho8 hb8
                rw [HD2e.out] at ho8
                have HB8 := hid (HB7.out.trans hb8)
                have HO8 := hid ho8
                clear ho8 hb8
                refine hK.out _ _ trivial (fun hH => ?_)
                clear hK K
                try simp only [Act.put, List.setIfInBounds_toArray, List.set_cons_zero, List.set_cons_succ]
                refine wpAnyH_take (i := 9) (oi := _) (v := ?_) (by simp only [List.getElem?_toArray, List.getElem?_cons_succ, List.getElem?_cons_zero]; rfl) (by kernel_rfl) (by kernel_rfl) (by kernel_rfl) (by exact fun _ _ _ h => h) (Or.inl ⟨by rfl, ?_⟩) hH ?_
                rotate_left
                · intro w hSw; (try dsimp only at hSw); go_simp; try with_reducible rfl
                try simp only [Act.put, List.setIfInBounds_toArray, List.set_cons_zero, List.set_cons_succ]
                refine wpAnyH_done (by kernel_rfl) ?_ _
                have HD8 := hid ((Dk.made O (HD6.out.less (ls := [Ly.dir O q D F2]) (fun K hK => by rcases List.mem_cons.1 hK with rfl | hK; exact .tail _ (.head _); cases hK)) HB8.out HO8.out (Nat.le_refl _)).lower HD6.out.below.size)
                have hdn : D2.length ≤ 50 := by have := HLd.out; omega
                have HDn := hid hdn
                obtain ⟨A8, c8, hv8, _, _⟩ := HO8.out.form
                subst hv8
                clear HO8 HB8 HO7 HB7 HS7 HD6 HS6 hdn
                go_wp2_with fail
                refine (dk_lenOther O (q := q) (D2 := D) (F2 := F2) HD8.out (.tail _ (.head _))).mono ?_
                rintro e wa ⟨rfl, hd, _⟩
                have HDa := hid hd
                clear hd
                go_wp2_with fail
                refine (dk_len O HDa.out).mono ?_
                rintro e wb ⟨rfl, hd, _⟩
                have HDb := hid hd
                clear hd HDa
                go_wp2_with fail
                refine (dk_all O HDb.out (by have := HDn.out; omega)).mono ?_
                rintro e wc ⟨⟨va, rfl, ho, hb⟩, hd⟩
                obtain ⟨A5, c5, rfl, hsl5, _⟩ := ho.form
                have HSa := hid hsl5
                have HSh := hid (show ESl wc wc.heap.size A8 (D2.length) c8 (D2) from by
                  obtain ⟨A', c', h1, h2, _⟩ := EOwn.form (show EOwn wc w.heap.size (.slice A8 (D2.length) c8) (D2) from hd.get (K := Ly.ens w.heap.size (.slice A8 (D2.length) c8) (D2)) (.head _))
                  cases h1
                  exact h2)
                have HDc := hid hd
                clear hd ho hb hsl5 HDb
                go_wp2_with fail
                refine (sameEntrys_any A5 A8 _ c5 _ c8 _ _ (D2) (D2) wc HSa.out HSh.out (Nat.le_refl _) (Nat.le_refl _)).mono ?_
                rintro e wd ⟨rfl, hb⟩
                have HDd := hid ((HDc.out.on (O.stays _ _) hb).less (ls := [Ly.ens w.heap.size (.slice A8 (D2.length) c8) (D2)]) (fun K hK => by rcases List.mem_cons.1 hK with rfl | hK; exact (.head _); cases hK))
                rw [decide_eq_true (rfl : (D2) = (D2))]
                clear hb HDc HSa HSh
                go_wp2
                go_roundw
                case rel => exact ⟨i + 1, _, by omega, by go_num, (show D2.length ≤ i + 1 from by have := HDl.out; have := HLd.out; omega), HDd⟩
                case measure => simp [intOf]; omega
              · refine wp_region_held_drew (S := fun _ => True) (by kernel_rfl) trivial (fun hH => ?_)
                refine wpAnyH_take (i := 0) (oi := _) (v := ?_) (by simp only [List.getElem?_toArray, List.getElem?_cons_zero]; rfl) (by kernel_rfl) (by kernel_rfl) (by kernel_rfl) (by exact fun _ _ _ h => h) (Or.inl ⟨by rfl, ?_⟩) hH ?_
                rotate_left
                · intro w hSw; (try dsimp only at hSw); go_simp; try with_reducible rfl
                try simp only [Act.put, List.setIfInBounds_toArray, List.set_cons_zero, List.set_cons_succ]
                refine wpAnyH_take (i := 1) (oi := _) (v := ?_) (by simp only [List.getElem?_toArray, List.getElem?_cons_succ, List.getElem?_cons_zero]; rfl) (by kernel_rfl) (by kernel_rfl) (by kernel_rfl) (by exact fun _ _ _ h => h) (Or.inl ⟨by rfl, ?_⟩) hH ?_
                rotate_left
                · intro w hSw; (try dsimp only at hSw); go_simp; try with_reducible rfl
                try simp only [Act.put, List.setIfInBounds_toArray, List.set_cons_zero, List.set_cons_succ]
                refine wpAnyH_take (i := 2) (oi := _) (v := ?_) (by simp only [List.getElem?_toArray, List.getElem?_cons_succ, List.getElem?_cons_zero]; rfl) (by kernel_rfl) (by kernel_rfl) (by kernel_rfl) (by exact fun _ _ _ h => h) (Or.inl ⟨by rfl, ?_⟩) hH ?_
                rotate_left
                · intro w hSw; (try dsimp only at hSw); go_simp; try with_reducible rfl
                try simp only [Act.put, List.setIfInBounds_toArray, List.set_cons_zero, List.set_cons_succ]
                refine wpAnyH_take (i := 4) (oi := _) (v := ?_) (by simp only [List.getElem?_toArray, List.getElem?_cons_succ, List.getElem?_cons_zero]; rfl) (by kernel_rfl) (by kernel_rfl) (by kernel_rfl) (by exact fun _ _ _ h => h) (Or.inl ⟨by rfl, ?_⟩) hH ?_
                rotate_left
                · intro w hSw; (try dsimp only at hSw); go_simp; try with_reducible rfl
                try simp only [Act.put, List.setIfInBounds_toArray, List.set_cons_zero, List.set_cons_succ]
                refine wpAnyH_take (i := 5) (oi := _) (v := ?_) (by simp only [List.getElem?_toArray, List.getElem?_cons_succ, List.getElem?_cons_zero]; rfl) (by kernel_rfl) (by kernel_rfl) (by kernel_rfl) (by exact fun _ _ _ h => h) (Or.inl ⟨by rfl, ?_⟩) hH ?_
                rotate_left
                · intro w hSw; (try dsimp only at hSw); go_simp; try with_reducible rfl
                try simp only [Act.put, List.setIfInBounds_toArray, List.set_cons_zero, List.set_cons_succ]
                refine wpAnyH_take (i := 6) (oi := _) (v := ?_) (by simp only [List.getElem?_toArray, List.getElem?_cons_succ, List.getElem?_cons_zero]; rfl) (by kernel_rfl) (by kernel_rfl) (by kernel_rfl) (by exact fun _ _ _ h => h) (Or.inl ⟨by rfl, ?_⟩) hH ?_
                rotate_left
                · intro w hSw; (try dsimp only at hSw); go_simp; try with_reducible rfl
                try simp only [Act.put, List.setIfInBounds_toArray, List.set_cons_zero, List.set_cons_succ]
                refine wpAnyH_take (i := 7) (oi := _) (v := ?_) (by simp only [List.getElem?_toArray, List.getElem?_cons_succ, List.getElem?_cons_zero]; rfl) (by kernel_rfl) (by kernel_rfl) (by kernel_rfl) (by exact fun _ _ _ h => h) (Or.inl ⟨by rfl, ?_⟩) hH ?_
                rotate_left
                · intro w hSw; (try dsimp only at hSw); go_simp; try with_reducible rfl
                try simp only [Act.put, List.setIfInBounds_toArray, List.set_cons_zero, List.set_cons_succ]
                refine wpAnyH_ready (rs := [3]) (by kernel_rfl) (by simp) (AllReadyH.cons rfl (fun K hK => ?_) AllReadyH.nil)
                go_simp
                go_at_call 15
                refine (entrys_any _ f c2 _ (D.take f) w6.drew ((HS6.out.on HDw.out).head (by omega)) (Nat.le_refl _) (by omega)).mono ?_
                rintro e w7 ⟨v7, rfl, ho, hb⟩
                have HO7 := hid (show EOwn w7 w6.heap.size v7 (D.take f) from ho)
                have HB7 := hid (show Below w6.heap.size w6 w7 from HDw.out.trans hb)
                clear ho hb
                refine hK.out _ _ trivial (fun hH => ?_)
                clear hK K
                try simp only [Act.put, List.setIfInBounds_toArray, List.set_cons_zero, List.set_cons_succ]
                refine wpAnyH_ready (rs := [8]) (by kernel_rfl) (by simp) (AllReadyH.cons rfl (fun K hK => ?_) AllReadyH.nil)
                have HS7 := hid (show ESl w7 w7.heap.size (some ⟨bh, oh + (f + 1) * 3, none⟩) (D.length - (f + 1)) (c2 - (f + 1)) (D.drop (f + 1)) from by
                  have h := (HS6.out.on HB7.out).cut (k := f + 1) (by omega)
                  rw [if_neg hce] at h
                  exact h)
                refine step_append_en rfl (.tmp 190) (.tmp 194) rfl w6.heap.size _ v7 (D.take f) (D.drop (f + 1)) (by simp [Act.eval]) HO7.out ⟨bh, oh + (f + 1) * 3, none⟩ _ _ (by simp [Act.eval] <;> omega) HS7.out (by rw [List.length_take]; omega) HB7.out.size ?_
                rintro v8 w8 ho8 hb8
                rw [HD2e.out] at ho8
                have HB8 := hid (HB7.out.trans hb8)
                have HO8 := hid ho8
                clear ho8 hb8
                refine hK.out _ _ trivial (fun hH => ?_)
                clear hK K
                try simp only [Act.put, List.setIfInBounds_toArray, List.set_cons_zero, List.set_cons_succ]
                refine wpAnyH_take (i := 9) (oi := _) (v := ?_) (by simp only [List.getElem?_toArray, List.getElem?_cons_succ, List.getElem?_cons_zero]; rfl) (by kernel_rfl) (by kernel_rfl) (by kernel_rfl) (by exact fun _ _ _ h => h) (Or.inl ⟨by rfl, ?_⟩) hH ?_
                rotate_left
                · intro w hSw; (try dsimp only at hSw); go_simp; try with_reducible rfl
                try simp only [Act.put, List.setIfInBounds_toArray, List.set_cons_zero, List.set_cons_succ]
                refine wpAnyH_done (by kernel_rfl) ?_ _
                have HD8 := hid ((Dk.made O (HD6.out.less (ls := [Ly.dir O q D F2]) (fun K hK => by rcases List.mem_cons.1 hK with rfl | hK; exact .tail _ (.head _); cases hK)) HB8.out HO8.out (Nat.le_refl _)).lower HD6.out.below.size)
                have hdn : D2.length ≤ 50 := by have := HLd.out; omega
                have HDn := hid hdn
                obtain ⟨A8, c8, hv8, _, _⟩ := HO8.out.form
                subst hv8
                clear HO8 HB8 HO7 HB7 HS7 HD6 HS6 hdn
                go_wp2_with fail
                refine (dk_lenOther O (q := q) (D2 := D) (F2 := F2) HD8.out (.tail _ (.head _))).mono ?_
                rintro e wa ⟨rfl, hd, _⟩
                have HDa := hid hd
                clear hd
                go_wp2_with fail
                refine (dk_len O HDa.out).mono ?_
                rintro e wb ⟨rfl, hd, _⟩
                have HDb := hid hd
                clear hd HDa
                go_wp2_with fail
                refine (dk_all O HDb.out (by have := HDn.out; omega)).mono ?_
                rintro e wc ⟨⟨va, rfl, ho, hb⟩, hd⟩
                obtain ⟨A5, c5, rfl, hsl5, _⟩ := ho.form
                have HSa := hid hsl5
                have HSh := hid (show ESl wc wc.heap.size A8 (D2.length) c8 (D2) from by
                  obtain ⟨A', c', h1, h2, _⟩ := EOwn.form (show EOwn wc w.heap.size (.slice A8 (D2.length) c8) (D2) from hd.get (K := Ly.ens w.heap.size (.slice A8 (D2.length) c8) (D2)) (.head _))
                  cases h1
                  exact h2)
                have HDc := hid hd
                clear hd ho hb hsl5 HDb
                go_wp2_with fail
                refine (sameEntrys_any A5 A8 _ c5 _ c8 _ _ (D2) (D2) wc HSa.out HSh.out (Nat.le_refl _) (Nat.le_refl _)).mono ?_
                rintro e wd ⟨rfl, hb⟩
                have HDd := hid ((HDc.out.on (O.stays _ _) hb).less (ls := [Ly.ens w.heap.size (.slice A8 (D2.length) c8) (D2)]) (fun K hK => by rcases List.mem_cons.1 hK with rfl | hK; exact (.head _); cases hK))
                rw [decide_eq_true (rfl : (D2) = (D2))]
                clear hb HDc HSa HSh
                go_wp2
                go_roundw
                case rel => exact ⟨i + 1, _, by omega, by go_num, (show D2.length ≤ i + 1 from by have := HDl.out; have := HLd.out; omega), HDd⟩
                case measure => simp [intOf]; omega
          · as_aux_lemma =>
              have hIs : isIn D s = false := by unfold isIn; rw [HF.out]; exact decide_eq_false hin
              have HI := hid hIs
              have HE := hid (show delE D s = D from by unfold delE; rw [HF.out, if_neg hin])
              rw [hfv]
              clear hIs hfv c1 c2b
              go_wp2_with fail
              refine (dk_del O s HD3.out (by omega)).mono ?_
              rintro e w5 ⟨⟨⟨xs, xn, xk⟩, rfl, _⟩, hd⟩
              rw [HI.out]
              rw [HE.out] at hd
              obtain ⟨W, hW⟩ : ∃ W, w5.alloc (.cells #[encStr xs, .int .i64 xn, .int .i64 xk] 29) = W := ⟨_, rfl⟩
              have hd2 := hd.box (O.stays _ _) 29 #[encStr xs, .int .i64 xn, .int .i64 xk]
              rw [hW] at hd2
              have HD5 := hid hd2
              have HW := hid hW
              clear hd hd2 HD3 HSl3 c0 k0' hW
              go_wp2_with fail
              rw [HW.out]
              refine wp_region_held_drew (S := fun _ => True) (by kernel_rfl) trivial (fun hH => ?_)
              refine wpAnyH_take (i := 0) (oi := _) (v := ?_) (by simp only [List.getElem?_toArray, List.getElem?_cons_zero]; rfl) (by kernel_rfl) (by kernel_rfl) (by kernel_rfl) (by exact fun _ _ _ h => h) (Or.inl ⟨by rfl, ?_⟩) hH ?_
              rotate_left
              · intro w hSw; (try dsimp only at hSw); go_simp; try with_reducible rfl
              try simp only [Act.put, List.setIfInBounds_toArray, List.set_cons_zero, List.set_cons_succ]
              refine wpAnyH_take (i := 1) (oi := _) (v := ?_) (by simp only [List.getElem?_toArray, List.getElem?_cons_succ, List.getElem?_cons_zero]; rfl) (by kernel_rfl) (by kernel_rfl) (by kernel_rfl) (by exact fun _ _ _ h => h) (Or.inl ⟨by rfl, ?_⟩) hH ?_
              rotate_left
              · intro w hSw; (try dsimp only at hSw); go_simp; try with_reducible rfl
              try simp only [Act.put, List.setIfInBounds_toArray, List.set_cons_zero, List.set_cons_succ]
              refine wpAnyH_take (i := 2) (oi := _) (v := ?_) (by simp only [List.getElem?_toArray, List.getElem?_cons_succ, List.getElem?_cons_zero]; rfl) (by kernel_rfl) (by kernel_rfl) (by kernel_rfl) (by exact fun _ _ _ h => h) (Or.inl ⟨by rfl, ?_⟩) hH ?_
              rotate_left
              · intro w hSw; (try dsimp only at hSw); go_simp; try with_reducible rfl
              try simp only [Act.put, List.setIfInBounds_toArray, List.set_cons_zero, List.set_cons_succ]
              refine wpAnyH_take (i := 3) (oi := _) (v := ?_) (by simp only [List.getElem?_toArray, List.getElem?_cons_succ, List.getElem?_cons_zero]; rfl) (by kernel_rfl) (by kernel_rfl) (by kernel_rfl) (by exact fun _ _ _ h => h) (Or.inl ⟨by rfl, ?_⟩) hH ?_
              rotate_left
              · intro w hSw; (try dsimp only at hSw); go_simp; try with_reducible rfl
              try simp only [Act.put, List.setIfInBounds_toArray, List.set_cons_zero, List.set_cons_succ]
              refine wpAnyH_take (i := 4) (oi := _) (v := ?_) (by simp only [List.getElem?_toArray, List.getElem?_cons_succ, List.getElem?_cons_zero]; rfl) (by kernel_rfl) (by kernel_rfl) (by kernel_rfl) (by exact fun _ _ _ h => h) (Or.inl ⟨by rfl, ?_⟩) hH ?_
              rotate_left
              · intro w hSw; (try dsimp only at hSw); go_simp; try with_reducible rfl
              try simp only [Act.put, List.setIfInBounds_toArray, List.set_cons_zero, List.set_cons_succ]
              refine wpAnyH_take (i := 5) (oi := _) (v := ?_) (by simp only [List.getElem?_toArray, List.getElem?_cons_succ, List.getElem?_cons_zero]; rfl) (by kernel_rfl) (by kernel_rfl) (by kernel_rfl) (by exact fun _ _ _ h => h) (Or.inl ⟨by rfl, ?_⟩) hH ?_
              rotate_left
              · intro w hSw; (try dsimp only at hSw); go_simp; try with_reducible rfl
              try simp only [Act.put, List.setIfInBounds_toArray, List.set_cons_zero, List.set_cons_succ]
              refine wpAnyH_take (i := 6) (oi := _) (v := ?_) (by simp only [List.getElem?_toArray, List.getElem?_cons_succ, List.getElem?_cons_zero]; rfl) (by kernel_rfl) (by kernel_rfl) (by kernel_rfl) (by exact fun _ _ _ h => h) (Or.inl ⟨by rfl, ?_⟩) hH ?_
              rotate_left
              · intro w hSw; (try dsimp only at hSw); go_simp; try with_reducible rfl
              try simp only [Act.put, List.setIfInBounds_toArray, List.set_cons_zero, List.set_cons_succ]
              refine wpAnyH_take (i := 7) (oi := _) (v := undef) (by simp only [List.getElem?_toArray, List.getElem?_cons_succ, List.getElem?_cons_zero]; rfl) (by kernel_rfl) (by kernel_rfl) (by kernel_rfl) (by exact fun _ _ _ h => h) (Or.inr ⟨by rfl, rfl⟩) hH ?_
              try simp only [Act.put, List.setIfInBounds_toArray, List.set_cons_zero, List.set_cons_succ]
              refine wpAnyH_take (i := 8) (oi := _) (v := undef) (by simp only [List.getElem?_toArray, List.getElem?_cons_succ, List.getElem?_cons_zero]; rfl) (by kernel_rfl) (by kernel_rfl) (by kernel_rfl) (by exact fun _ _ _ h => h) (Or.inr ⟨by rfl, rfl⟩) hH ?_
              try simp only [Act.put, List.setIfInBounds_toArray, List.set_cons_zero, List.set_cons_succ]
              refine wpAnyH_take (i := 9) (oi := _) (v := undef) (by simp only [List.getElem?_toArray, List.getElem?_cons_succ, List.getElem?_cons_zero]; rfl) (by kernel_rfl) (by kernel_rfl) (by kernel_rfl) (by exact fun _ _ _ h => h) (Or.inr ⟨by rfl, rfl⟩) hH ?_
              try simp only [Act.put, List.setIfInBounds_toArray, List.set_cons_zero, List.set_cons_succ]
              refine wpAnyH_take (i := 10) (oi := _) (v := undef) (by simp only [List.getElem?_toArray, List.getElem?_cons_succ, List.getElem?_cons_zero]; rfl) (by kernel_rfl) (by kernel_rfl) (by kernel_rfl) (by exact fun _ _ _ h => h) (Or.inr ⟨by rfl, rfl⟩) hH ?_
              try simp only [Act.put, List.setIfInBounds_toArray, List.set_cons_zero, List.set_cons_succ]
              refine wpAnyH_take (i := 11) (oi := _) (v := undef) (by simp only [List.getElem?_toArray, List.getElem?_cons_succ, List.getElem?_cons_zero]; rfl) (by kernel_rfl) (by kernel_rfl) (by kernel_rfl) (by exact fun _ _ _ h => h) (Or.inr ⟨by rfl, rfl⟩) hH ?_
              try simp only [Act.put, List.setIfInBounds_toArray, List.set_cons_zero, List.set_cons_succ]
              refine wpAnyH_take (i := 12) (oi := _) (v := undef) (by simp only [List.getElem?_toArray, List.getElem?_cons_succ, List.getElem?_cons_zero]; rfl) (by kernel_rfl) (by kernel_rfl) (by kernel_rfl) (by exact fun _ _ _ h => h) (Or.inr ⟨by rfl, rfl⟩) hH ?_
              try simp only [Act.put, List.setIfInBounds_toArray, List.set_cons_zero, List.set_cons_succ]
              refine wpAnyH_take (i := 13) (oi := _) (v := undef) (by simp only [List.getElem?_toArray, List.getElem?_cons_succ, List.getElem?_cons_zero]; rfl) (by kernel_rfl) (by kernel_rfl) (by kernel_rfl) (by exact fun _ _ _ h => h) (Or.inr ⟨by rfl, rfl⟩) hH ?_
              try simp only [Act.put, List.setIfInBounds_toArray, List.set_cons_zero, List.set_cons_succ]
              refine wpAnyH_take (i := 14) (oi := _) (v := ?_) (by simp only [List.getElem?_toArray, List.getElem?_cons_succ, List.getElem?_cons_zero]; rfl) (by kernel_rfl) (by kernel_rfl) (by kernel_rfl) (by exact fun _ _ _ h => h) (Or.inl ⟨by rfl, ?_⟩) hH ?_
              rotate_left
              · intro w hSw; (try dsimp only at hSw); go_simp; try with_reducible rfl
              try simp only [Act.put, List.setIfInBounds_toArray, List.set_cons_zero, List.set_cons_succ]
              refine wpAnyH_take (i := 15) (oi := _) (v := ?_) (by simp only [List.getElem?_toArray, List.getElem?_cons_succ, List.getElem?_cons_zero]; rfl) (by kernel_rfl) (by kernel_rfl) (by kernel_rfl) (by exact fun _ _ _ h => h) (Or.inl ⟨by rfl, ?_⟩) hH ?_
              rotate_left
              · intro w hSw; (try dsimp only at hSw); go_simp; try with_reducible rfl
              try simp only [Act.put, List.setIfInBounds_toArray, List.set_cons_zero, List.set_cons_succ]
              refine wpAnyH_done (by kernel_rfl) ?_ _
              have HD6 := hid (HD5.out.drewN (O.stays _ _) 1)
              clear HD5 HW
              have HDn := hid hdl
              go_wp2_with fail
              refine (dk_lenOther O (q := q) (D2 := D) (F2 := F2) HD6.out (.tail _ (.head _))).mono ?_
              rintro e wa ⟨rfl, hd, _⟩
              have HDa := hid hd
              clear hd
              go_wp2_with fail
              refine (dk_len O HDa.out).mono ?_
              rintro e wb ⟨rfl, hd, _⟩
              have HDb := hid hd
              clear hd HDa
              go_wp2_with fail
              refine (dk_all O HDb.out (by have := HDn.out; omega)).mono ?_
              rintro e wc ⟨⟨va, rfl, ho, hb⟩, hd⟩
              obtain ⟨A5, c5, rfl, hsl5, _⟩ := ho.form
              have HSa := hid hsl5
              have HSh := hid (show ESl wc wc.heap.size A2 (D.length) c2 (D) from by
                obtain ⟨A', c', h1, h2, _⟩ := EOwn.form (show EOwn wc w.heap.size (.slice A2 (D.length) c2) (D) from hd.get (K := Ly.ens w.heap.size (.slice A2 (D.length) c2) (D)) (.tail _ (.tail _ (.tail _ (.head _)))))
                cases h1
                exact h2)
              have HDc := hid hd
              clear hd ho hb hsl5 HDb
              go_wp2_with fail
              refine (sameEntrys_any A5 A2 _ c5 _ c2 _ _ (D) (D) wc HSa.out HSh.out (Nat.le_refl _) (Nat.le_refl _)).mono ?_
              rintro e wd ⟨rfl, hb⟩
              have HDd := hid ((HDc.out.on (O.stays _ _) hb).less (ls := [Ly.ens w.heap.size (.slice A2 (D.length) c2) (D)]) (fun K hK => by rcases List.mem_cons.1 hK with rfl | hK; exact (.tail _ (.tail _ (.tail _ (.head _)))); cases hK))
              rw [decide_eq_true (rfl : (D) = (D))]
              clear hb HDc HSa HSh
              go_wp2
              go_roundw
              case rel => exact ⟨i + 1, _, by omega, by go_num, (show D.length ≤ i + 1 from by have := HDl.out; omega), HDd⟩
              case measure => simp [intOf]; omega
        · have hk2' : (kd == 2) = false := beq_eq_false_iff_ne.2 hk2
          as_aux_lemma =>
            rcases hways with ⟨hin, hfv⟩ | ⟨hin, hfv⟩
            · have hIs : isIn D s = true := by unfold isIn; rw [HF.out]; exact decide_eq_true hin
              have HI := hid hIs
              rw [hfv]
              clear hIs hfv
              have hf0 : (0 : Int) ≤ (f : Int) := by omega
              go_wp2_with fail
              refine (right_any ⟨s, en, ek⟩ _).mono ?_
              rintro e w5 ⟨rfl, hb⟩
              have HD5 := hid (HD3.out.on (O.stays _ _) hb)
              clear hb HD3 HSl3 c0 c1 c2b k0'
              have hbx : Blk w5 eb 29 #[encStr s, .int .i64 en, .int .i64 ek] := HD5.out.get (K := Ly.blk eb 29 #[encStr s, .int .i64 en, .int .i64 ek]) (by simp)
              have c0 := hbx.cell 0
              have c1 := hbx.cell 1
              have c2b := hbx.cell 2
              simp at c0 c1 c2b
              clear hbx
              rcases hr : rightE ⟨s, en, ek⟩ with _ | _
              · have HE := hid (show setE D s ⟨s, en, ek⟩ = D from by unfold setE; rw [hr]; simp)
                have HR := hid hr
                clear hr
                go_wp2_with fail
                refine (dk_set O s ⟨s, en, ek⟩ HD5.out (by omega) HEk.out).mono ?_
                rintro e w6 ⟨rfl, hd⟩
                rw [HE.out] at hd
                rw [HR.out, Bool.and_false]
                have HD6 := hid hd
                clear hd HD5 c0 c1 c2b
                have HDn := hid hdl
                go_wp2_with fail
                refine (dk_lenOther O (q := q) (D2 := D) (F2 := F2) HD6.out (.head _)).mono ?_
                rintro e wa ⟨rfl, hd, _⟩
                have HDa := hid hd
                clear hd
                go_wp2_with fail
                refine (dk_len O HDa.out).mono ?_
                rintro e wb ⟨rfl, hd, _⟩
                have HDb := hid hd
                clear hd HDa
                go_wp2_with fail
                refine (dk_all O HDb.out (by have := HDn.out; omega)).mono ?_
                rintro e wc ⟨⟨va, rfl, ho, hb⟩, hd⟩
                obtain ⟨A5, c5, rfl, hsl5, _⟩ := ho.form
                have HSa := hid hsl5
                have HSh := hid (show ESl wc wc.heap.size A2 (D.length) c2 (D) from by
                  obtain ⟨A', c', h1, h2, _⟩ := EOwn.form (show EOwn wc w.heap.size (.slice A2 (D.length) c2) (D) from hd.get (K := Ly.ens w.heap.size (.slice A2 (D.length) c2) (D)) (.tail _ (.tail _ (.head _))))
                  cases h1
                  exact h2)
                have HDc := hid hd
                clear hd ho hb hsl5 HDb
                go_wp2_with fail
                refine (sameEntrys_any A5 A2 _ c5 _ c2 _ _ (D) (D) wc HSa.out HSh.out (Nat.le_refl _) (Nat.le_refl _)).mono ?_
                rintro e wd ⟨rfl, hb⟩
                have HDd := hid ((HDc.out.on (O.stays _ _) hb).less (ls := [Ly.ens w.heap.size (.slice A2 (D.length) c2) (D)]) (fun K hK => by rcases List.mem_cons.1 hK with rfl | hK; exact (.tail _ (.tail _ (.head _))); cases hK))
                rw [decide_eq_true (rfl : (D) = (D))]
                clear hb HDc HSa HSh
                go_wp2
                go_roundw
                case rel => exact ⟨i + 1, _, by omega, by go_num, (show D.length ≤ i + 1 from by have := HDl.out; omega), HDd⟩
                case measure => simp [intOf]; omega
              · have HR := hid hr
                obtain ⟨x, hx⟩ : ∃ x, D[f]? = some x := ⟨_, List.getElem?_eq_getElem hin⟩
                have HE := hid (show setE D s ⟨s, en, ek⟩ = D.set f ⟨x.s, en, ek⟩ from by
                  unfold setE
                  rw [HF.out, if_pos ⟨hin, hr⟩, modify_set hx])
                have HX := hid hx
                clear hr hx
                go_wp2_with fail
                refine (dk_set O s ⟨s, en, ek⟩ HD5.out (by omega) HEk.out).mono ?_
                rintro e w6 ⟨rfl, hd⟩
                rw [HE.out] at hd
                rw [HR.out, HI.out]
                have HD6 := hid (hd.less (ls := [Ly.ens w.heap.size (.slice A2 D.length c2) D, Ly.dir O q D F2, Ly.blk eb 29 #[encStr s, .int .i64 en, .int .i64 ek]]) (by simp))
                clear hd HD5 c0 c1 c2b
                have hbx : Blk w6 eb 29 #[encStr s, .int .i64 en, .int .i64 ek] := HD6.out.get (K := Ly.blk eb 29 #[encStr s, .int .i64 en, .int .i64 ek]) (by simp)
                have c0 := hbx.cell 0
                have c1 := hbx.cell 1
                have c2b := hbx.cell 2
                simp at c0 c1 c2b
                clear hbx
                have hrow : EOwn w6 w.heap.size (.slice A2 D.length c2) D := HD6.out.get (K := Ly.ens w.heap.size (.slice A2 D.length c2) D) (by simp)
                obtain ⟨gh, rfl⟩ : ∃ gh, A2 = some ⟨gh, 0, none⟩ := by
                  rcases hrow.2 with ⟨_, h0⟩ | ⟨g', cap', cur, hv, _⟩
                  · omega
                  · cases hv; exact ⟨g', rfl⟩
                have hrow' : World.ownsRow w6 w.heap.size 29 3 (.slice (some ⟨gh, 0, none⟩) D.length c2) D.length (EC D) := hrow
                obtain ⟨q1, q2, q3⟩ := EC_get HX.out
                have h1 : w6.cell? ⟨gh, f * 3 + 1, none⟩ = some (.int .i64 x.n) := (hrow'.cellAt (f * 3 + 1) (by omega)).trans q2
                have h2 : (w6.setCell ⟨gh, f * 3 + 1, none⟩ (.int .i64 en)).cell? ⟨gh, f * 3 + 2, none⟩ = some (.int .i64 x.k) := ((hrow'.stored (f * 3 + 1) (.int .i64 en)).1.cellAt (f * 3 + 2) (by omega)).trans (by rw [List.getElem?_set_ne (by omega)]; exact q3)
                have f1 := row_free hrow' (f * 3 + 1)
                have f2 := row_free (hrow'.stored (f * 3 + 1) (.int .i64 en)).1 (f * 3 + 2)
                have hgh := HGh.out gh rfl
                have hnb : ∀ L, L ∈ [Ly.dir O q D F2, Ly.blk eb 29 #[encStr s, .int .i64 en, .int .i64 ek]] → ¬ L.B gh := fun L hL hB => by
                  simp only [List.mem_cons, List.not_mem_nil, or_false] at hL
                  rcases hL with rfl | rfl
                  · have := HF2.out gh hB; omega
                  · have : gh = eb := hB; omega
                have HD7 := hid (Dk.store O (i := f * 3 + 2) (u := .int .i64 ek) (Dk.store O (i := f * 3 + 1) (u := .int .i64 en) HD6.out hnb (Nat.le_refl _)) hnb (Nat.le_refl _))
                rw [EC_set HX.out en ek] at HD7
                have c2c : (w6.setCell ⟨gh, f * 3 + 1, none⟩ (.int .i64 en)).cell? ⟨eb, 2, none⟩ = some (.int .i64 ek) :=
                  World.grownBy.cell (only_put (only_refl w6 (some gh)) _ _) c2b (by simp; omega)
                clear hrow hrow' q1 q2 q3 HD6
                obtain ⟨D2, hD2⟩ : ∃ D2, D.set f ⟨x.s, en, ek⟩ = D2 := ⟨_, rfl⟩
                have HLn := hid (show D2.length = D.length from hD2 ▸ List.length_set)
                have HDn := hid hdl
                rw [hD2] at HD7
                have HD8 := hid (show Dk DR w ((w6.setCell ⟨gh, f * 3 + 1, none⟩ (.int .i64 en)).setCell ⟨gh, f * 3 + 2, none⟩ (.int .i64 ek)) g D2 [Ly.ens w.heap.size (.slice (some ⟨gh, 0, none⟩) D.length c2) D2, Ly.dir O q D F2, Ly.blk eb 29 #[encStr s, .int .i64 en, .int .i64 ek]] from by
                  have h := HD7.out
                  unfold Ly.ens
                  rw [HLn.out]
                  exact h)
                clear HD7 HX HE hD2
                go_wp2_with fail
                refine (dk_lenOther O (q := q) (D2 := D) (F2 := F2) HD8.out (.tail _ (.head _))).mono ?_
                rintro e wa ⟨rfl, hd, _⟩
                have HDa := hid hd
                clear hd
                go_wp2_with fail
                refine (dk_len O HDa.out).mono ?_
                rintro e wb ⟨rfl, hd, _⟩
                rw [HLn.out]
                have HDb := hid hd
                clear hd HDa
                go_wp2_with fail
                refine (dk_all O HDb.out (by have := HLn.out; have := HDn.out; omega)).mono ?_
                rintro e wc ⟨⟨va, rfl, ho, hb⟩, hd⟩
                obtain ⟨A5, c5, rfl, hsl5, _⟩ := ho.form
                have HSa := hid hsl5
                have HSh := hid (show ESl wc wc.heap.size (some ⟨gh, 0, none⟩) (D.length) c2 (D2) from by
                  obtain ⟨A', c', h1, h2, _⟩ := EOwn.form (show EOwn wc w.heap.size (.slice (some ⟨gh, 0, none⟩) (D.length) c2) (D2) from hd.get (K := Ly.ens w.heap.size (.slice (some ⟨gh, 0, none⟩) (D.length) c2) (D2)) (.head _))
                  have hN := HLn.out
                  rw [hN] at h1 h2
                  cases h1
                  exact h2)
                have HDc := hid hd
                clear hd ho hb hsl5 HDb
                go_wp2_with fail
                refine (sameEntrys_any A5 (some ⟨gh, 0, none⟩) _ c5 _ c2 _ _ (D2) (D2) wc HSa.out HSh.out (Nat.le_refl _) (Nat.le_refl _)).mono ?_
                rintro e wd ⟨rfl, hb⟩
                have HDd := hid ((HDc.out.on (O.stays _ _) hb).less (ls := [Ly.ens w.heap.size (.slice (some ⟨gh, 0, none⟩) (D.length) c2) (D2)]) (fun K hK => by rcases List.mem_cons.1 hK with rfl | hK; exact (.head _); cases hK))
                rw [decide_eq_true (rfl : (D2) = (D2))]
                clear hb HDc HSa HSh
                go_wp2
                go_roundw
                case rel => exact ⟨i + 1, _, by omega, by go_num, (show D2.length ≤ i + 1 from by have := HDl.out; have := HLn.out; omega), HDd⟩
                case measure => simp [intOf]; omega
            · have hIs : isIn D s = false := by unfold isIn; rw [HF.out]; exact decide_eq_false hin
              have HI := hid hIs
              have HE := hid (show setE D s ⟨s, en, ek⟩ = D from by unfold setE; rw [HF.out]; simp [hin])
              rw [hfv]
              clear hIs hfv
              go_wp2_with fail
              refine (dk_set O s ⟨s, en, ek⟩ HD3.out (by omega) HEk.out).mono ?_
              rintro e w6 ⟨rfl, hd⟩
              rw [HE.out] at hd
              rw [HI.out, Bool.false_and]
              have HD6 := hid hd
              clear hd HD3 HSl3 c0 c1 c2b k0'
              have HDn := hid hdl
              go_wp2_with fail
              refine (dk_lenOther O (q := q) (D2 := D) (F2 := F2) HD6.out (.head _)).mono ?_
              rintro e wa ⟨rfl, hd, _⟩
              have HDa := hid hd
              clear hd
              go_wp2_with fail
              refine (dk_len O HDa.out).mono ?_
              rintro e wb ⟨rfl, hd, _⟩
              have HDb := hid hd
              clear hd HDa
              go_wp2_with fail
              refine (dk_all O HDb.out (by have := HDn.out; omega)).mono ?_
              rintro e wc ⟨⟨va, rfl, ho, hb⟩, hd⟩
              obtain ⟨A5, c5, rfl, hsl5, _⟩ := ho.form
              have HSa := hid hsl5
              have HSh := hid (show ESl wc wc.heap.size A2 (D.length) c2 (D) from by
                obtain ⟨A', c', h1, h2, _⟩ := EOwn.form (show EOwn wc w.heap.size (.slice A2 (D.length) c2) (D) from hd.get (K := Ly.ens w.heap.size (.slice A2 (D.length) c2) (D)) (.tail _ (.tail _ (.head _))))
                cases h1
                exact h2)
              have HDc := hid hd
              clear hd ho hb hsl5 HDb
              go_wp2_with fail
              refine (sameEntrys_any A5 A2 _ c5 _ c2 _ _ (D) (D) wc HSa.out HSh.out (Nat.le_refl _) (Nat.le_refl _)).mono ?_
              rintro e wd ⟨rfl, hb⟩
              have HDd := hid ((HDc.out.on (O.stays _ _) hb).less (ls := [Ly.ens w.heap.size (.slice A2 (D.length) c2) (D)]) (fun K hK => by rcases List.mem_cons.1 hK with rfl | hK; exact (.tail _ (.tail _ (.head _))); cases hK))
              rw [decide_eq_true (rfl : (D) = (D))]
              clear hb HDc HSa HSh
              go_wp2
              go_roundw
              case rel => exact ⟨i + 1, _, by omega, by go_num, (show D.length ≤ i + 1 from by have := HDl.out; omega), HDd⟩
              case measure => simp [intOf]; omega
    · as_aux_lemma =>
        obtain ⟨A2, c2, hv9, hsl9, hz9⟩ := EOwn.form (show EOwn wr w.heap.size u9 D from HD.out.get (K := Ly.ens w.heap.size u9 D) (.head _))
        subst hv9
        have hc2 := hsl9.cap
        have hc2m := hsl9.max
        have hdl : D.length ≤ 50 := by have := HDl.out; omega
        clear hsl9 hz9
        go_wp2_with fail
        refine (dk_from O a m HD.out (by omega) hm0 hm1).mono ?_
        rintro e w2 ⟨⟨v1, rfl, ho⟩, hb, hd⟩
        obtain ⟨A3, c3, rfl, hsl3, _⟩ := ho.form
        have HS3 := hid hsl3
        have HD2 := hid hd
        clear ho hb hd hsl3 HD
        have hsl : ESl w2 w2.heap.size A2 D.length c2 D := by
          obtain ⟨A', c', h1, h2, _⟩ := EOwn.form (show EOwn w2 w.heap.size (.slice A2 D.length c2) D from HD2.out.get (K := Ly.ens w.heap.size (.slice A2 D.length c2) D) (.head _))
          cases h1
          exact h2
        go_wp2_with fail
        refine (refFrom_any A2 D.length c2 _ D a m w2 hsl (Nat.le_refl _) (by omega)).mono ?_
        rintro e w3 ⟨⟨v2, rfl, ho⟩, hb⟩
        obtain ⟨A4, c4, rfl, hsl4, _⟩ := ho.form
        have HS4 := hid hsl4
        have HS3b := hid (HS3.out.on hb)
        have HD3 := hid (HD2.out.on (O.stays _ _) hb)
        have HSl := hid (hsl.on hb)
        clear ho hb hsl4 hsl HS3 HD2
        go_wp2_with fail
        refine (find_any A2 D.length c2 _ D a w3 HSl.out (by omega)).mono ?_
        rintro e w4 ⟨rfl, rfl⟩
        obtain ⟨f, hf⟩ : ∃ f, fnd D a = f := ⟨_, rfl⟩
        have HF := hid hf
        have hways : (f < D.length ∧ fndV D a = (f : Int)) ∨ (¬ f < D.length ∧ fndV D a = -1) := by
          rw [← hf]
          unfold fndV
          by_cases h : fnd D a < D.length
          · exact .inl ⟨h, by rw [if_pos h]⟩
          · exact .inr ⟨h, by rw [if_neg h]⟩
        clear hf
        rcases hways with ⟨hin, hfv⟩ | ⟨hin, hfv⟩
        · have HI := hid (show isIn D a = true from by unfold isIn; rw [HF.out]; exact decide_eq_true hin)
          rw [hfv]
          clear hfv
          obtain ⟨x, hx⟩ : ∃ x, D[f]? = some x := ⟨_, List.getElem?_eq_getElem hin⟩
          have HX := hid hx
          have hf0 : (0 : Int) ≤ (f : Int) := by omega
          have hf1 : (f : Int) < (D.length : Int) := by omega
          clear hx
          go_wp2_with fail
          refine (dk_get O a HD3.out (by omega)).mono ?_
          rintro e w5 ⟨⟨x', rfl, hx'⟩, hb, hd⟩
          obtain rfl := hx' x (by rw [HF.out]; exact HX.out)
          rw [HI.out]
          obtain ⟨xs, xn, xk⟩ := x'
          obtain ⟨W, hW⟩ : ∃ W, w5.alloc (.cells #[encStr xs, .int .i64 xn, .int .i64 xk] 29) = W := ⟨_, rfl⟩
          have hbW : Below w5.heap.size w5 W := hW ▸ (Below.refl _ _).alloc (Nat.le_refl _) _
          have hgx : Blk W w5.heap.size 29 #[encStr xs, .int .i64 xn, .int .i64 xk] := hW ▸ Blk.new w5 _ _
          have HBW := hid (hd.below.trans (hbW.mono hd.below.size))
          have HS3c := hid ((HS3b.out.on hb).on hbW)
          have HS4c := hid ((HS4.out.on hb).on hbW)
          have hslW := (HSl.out.on hb).on hbW
          have HW := hid hW
          clear hb hd hx' HD3 HS3b HS4 HSl hW hbW
          go_wp2_with fail
          rw [HW.out]
          obtain ⟨d0, d1, d2⟩ := box3 hgx.drew
          obtain ⟨bh, oh, e', rfl, _, hxe, h0, h1, h2⟩ := hslW.get hin
          obtain rfl := Option.some.inj (hxe.symm.trans HX.out)
          have h0' : W.drew.cell? ⟨bh, oh + f * 3, none⟩ = some (encStr xs) := h0
          have h1' : W.drew.cell? ⟨bh, oh + f * 3 + 1, none⟩ = some (.int .i64 xn) := h1
          have h2' : W.drew.cell? ⟨bh, oh + f * 3 + 2, none⟩ = some (.int .i64 xk) := h2
          have hdw : Below W.heap.size W W.drew := ⟨rfl, rfl, rfl, Nat.le_refl _, fun _ _ => rfl⟩
          have HS3d := hid (HS3c.out.on hdw)
          have HS4d := hid (HS4c.out.on hdw)
          have HBd := hid (HBW.out.drew)
          clear hgx hslW hxe h0 h1 h2 hdw HS3c HS4c
          refine wp_region_held_drew (S := fun w' => w'.cell? ⟨w5.heap.size, 0, none⟩ = some (encStr xs) ∧ w'.cell? ⟨w5.heap.size, 1, none⟩ = some (.int .i64 xn) ∧ w'.cell? ⟨w5.heap.size, 2, none⟩ = some (.int .i64 xk) ∧ w'.cell? ⟨bh, oh + f * 3, none⟩ = some (encStr xs) ∧ w'.cell? ⟨bh, oh + f * 3 + 1, none⟩ = some (.int .i64 xn) ∧ w'.cell? ⟨bh, oh + f * 3 + 2, none⟩ = some (.int .i64 xk)) (by kernel_rfl) ⟨d0, d1, d2, h0', h1', h2'⟩ (fun hH => ?_)
          refine wpAnyH_take (i := 0) (oi := _) (v := ?_) (by simp only [List.getElem?_toArray, List.getElem?_cons_zero]; rfl) (by kernel_rfl) (by kernel_rfl) (by kernel_rfl) (by exact fun _ _ _ h => h) (Or.inl ⟨by rfl, ?_⟩) hH ?_
          rotate_left
          · intro w hSw; (try dsimp only at hSw); go_simp; try with_reducible rfl
          try simp only [Act.put, List.setIfInBounds_toArray, List.set_cons_zero, List.set_cons_succ]
          refine wpAnyH_take (i := 1) (oi := _) (v := ?_) (by simp only [List.getElem?_toArray, List.getElem?_cons_succ, List.getElem?_cons_zero]; rfl) (by kernel_rfl) (by kernel_rfl) (by kernel_rfl) (by exact fun _ _ _ h => h) (Or.inl ⟨by rfl, ?_⟩) hH ?_
          rotate_left
          · intro w hSw; (try dsimp only at hSw); go_simp; try with_reducible rfl
          try simp only [Act.put, List.setIfInBounds_toArray, List.set_cons_zero, List.set_cons_succ]
          refine wpAnyH_ready (rs := [2]) (by kernel_rfl) (by simp) (AllReadyH.cons rfl (fun K hK => ?_) AllReadyH.nil)
          go_simp
          go_at_call 19
          refine (sameEntrys_any _ _ _ _ _ _ _ _ _ _ _ HS3d.out HS4d.out (Nat.le_refl _) (Nat.le_refl _)).mono ?_
          rw [decide_eq_true (rfl : fromE D a m = fromE D a m)]
          rintro e w6 ⟨rfl, hb⟩
          have hcs := (show w6.cell? ⟨w5.heap.size, 0, none⟩ = some (encStr xs) ∧ w6.cell? ⟨w5.heap.size, 1, none⟩ = some (.int .i64 xn) ∧ w6.cell? ⟨w5.heap.size, 2, none⟩ = some (.int .i64 xk) ∧ w6.cell? ⟨bh, oh + f * 3, none⟩ = some (encStr xs) ∧ w6.cell? ⟨bh, oh + f * 3 + 1, none⟩ = some (.int .i64 xn) ∧ w6.cell? ⟨bh, oh + f * 3 + 2, none⟩ = some (.int .i64 xk) from ⟨(hb.cell (World.block_lt_of_cell? _ _ d0)).trans d0, (hb.cell (World.block_lt_of_cell? _ _ d1)).trans d1, (hb.cell (World.block_lt_of_cell? _ _ d2)).trans d2, (hb.cell (World.block_lt_of_cell? _ _ h0')).trans h0', (hb.cell (World.block_lt_of_cell? _ _ h1')).trans h1', (hb.cell (World.block_lt_of_cell? _ _ h2')).trans h2'⟩)
          have HB6 := hid (HBd.out.trans (hb.mono HBd.out.size))
          clear hb
          refine hK.out _ _ hcs (fun hH => ?_)
          clear hK K
          try simp only [Act.put, List.setIfInBounds_toArray, List.set_cons_zero, List.set_cons_succ]
          refine wpAnyH_take (i := 3) (oi := _) (v := ?_) (by simp only [List.getElem?_toArray, List.getElem?_cons_succ, List.getElem?_cons_zero]; rfl) (by kernel_rfl) (by kernel_rfl) (by kernel_rfl) (by exact fun _ _ _ h => h) (Or.inl ⟨by rfl, ?_⟩) hH ?_
          rotate_left
          · intro w hSw; (try dsimp only at hSw); go_simp; try with_reducible rfl
          try simp only [Act.put, List.setIfInBounds_toArray, List.set_cons_zero, List.set_cons_succ]
          refine wpAnyH_take (i := 4) (oi := _) (v := ?_) (by simp only [List.getElem?_toArray, List.getElem?_cons_succ, List.getElem?_cons_zero]; rfl) (by kernel_rfl) (by kernel_rfl) (by kernel_rfl) (by exact fun _ _ _ h => h) (Or.inl ⟨by rfl, ?_⟩) hH ?_
          rotate_left
          · intro w hSw; (try dsimp only at hSw); go_simp; try with_reducible rfl
          try simp only [Act.put, List.setIfInBounds_toArray, List.set_cons_zero, List.set_cons_succ]
          refine wpAnyH_take (i := 5) (oi := _) (v := ?_) (by simp only [List.getElem?_toArray, List.getElem?_cons_succ, List.getElem?_cons_zero]; rfl) (by kernel_rfl) (by kernel_rfl) (by kernel_rfl) (by exact fun _ _ _ h => h) (Or.inl ⟨by rfl, ?_⟩) hH ?_
          rotate_left
          · intro w hSw; (try dsimp only at hSw); go_simp; try with_reducible rfl
          try simp only [Act.put, List.setIfInBounds_toArray, List.set_cons_zero, List.set_cons_succ]
          refine wpAnyH_take (i := 6) (oi := _) (v := ?_) (by simp only [List.getElem?_toArray, List.getElem?_cons_succ, List.getElem?_cons_zero]; rfl) (by kernel_rfl) (by kernel_rfl) (by kernel_rfl) (by exact fun _ _ _ h => h) (Or.inl ⟨by rfl, ?_⟩) hH ?_
          rotate_left
          · intro w hSw; (try dsimp only at hSw); go_simp; try with_reducible rfl
          try simp only [Act.put, List.setIfInBounds_toArray, List.set_cons_zero, List.set_cons_succ]
          refine wpAnyH_take (i := 7) (oi := _) (v := ?_) (by simp only [List.getElem?_toArray, List.getElem?_cons_succ, List.getElem?_cons_zero]; rfl) (by kernel_rfl) (by kernel_rfl) (by kernel_rfl) (by exact fun _ _ _ h => h) (Or.inl ⟨by rfl, ?_⟩) hH ?_
          rotate_left
          · intro w hSw; (try dsimp only at hSw); go_simp; try with_reducible rfl
          try simp only [Act.put, List.setIfInBounds_toArray, List.set_cons_zero, List.set_cons_succ]
          refine wpAnyH_take (i := 8) (oi := _) (v := ?_) (by simp only [List.getElem?_toArray, List.getElem?_cons_succ, List.getElem?_cons_zero]; rfl) (by kernel_rfl) (by kernel_rfl) (by kernel_rfl) (by exact fun _ _ _ h => h) (Or.inl ⟨by rfl, ?_⟩) hH ?_
          rotate_left
          · intro w hSw; (try dsimp only at hSw); go_simp; try with_reducible rfl
          try simp only [Act.put, List.setIfInBounds_toArray, List.set_cons_zero, List.set_cons_succ]
          refine wpAnyH_take (i := 9) (oi := _) (v := ?_) (by simp only [List.getElem?_toArray, List.getElem?_cons_succ, List.getElem?_cons_zero]; rfl) (by kernel_rfl) (by kernel_rfl) (by kernel_rfl) (by exact fun _ _ _ h => h) (Or.inl ⟨by rfl, ?_⟩) hH ?_
          rotate_left
          · intro w hSw; (try dsimp only at hSw); go_simp; try with_reducible rfl
          try simp only [Act.put, List.setIfInBounds_toArray, List.set_cons_zero, List.set_cons_succ]
          refine wpAnyH_take (i := 10) (oi := _) (v := ?_) (by simp only [List.getElem?_toArray, List.getElem?_cons_succ, List.getElem?_cons_zero]; rfl) (by kernel_rfl) (by kernel_rfl) (by kernel_rfl) (by exact fun _ _ _ h => h) (Or.inl ⟨by rfl, ?_⟩) hH ?_
          rotate_left
          · intro w hSw; (try dsimp only at hSw); go_simp; try with_reducible rfl
          try simp only [Act.put, List.setIfInBounds_toArray, List.set_cons_zero, List.set_cons_succ]
          refine wpAnyH_take (i := 11) (oi := _) (v := ?_) (by simp only [List.getElem?_toArray, List.getElem?_cons_succ, List.getElem?_cons_zero]; rfl) (by kernel_rfl) (by kernel_rfl) (by kernel_rfl) (by exact fun _ _ _ h => h) (Or.inl ⟨by rfl, ?_⟩) hH ?_
          rotate_left
          · intro w hSw; (try dsimp only at hSw); go_simp; try with_reducible rfl
          try simp only [Act.put, List.setIfInBounds_toArray, List.set_cons_zero, List.set_cons_succ]
          refine wpAnyH_take (i := 12) (oi := _) (v := ?_) (by simp only [List.getElem?_toArray, List.getElem?_cons_succ, List.getElem?_cons_zero]; rfl) (by kernel_rfl) (by kernel_rfl) (by kernel_rfl) (by exact fun _ _ _ h => h) (Or.inl ⟨by rfl, ?_⟩) hH ?_
          rotate_left
          · intro w hSw; (try dsimp only at hSw); go_simp; try with_reducible rfl
          try simp only [Act.put, List.setIfInBounds_toArray, List.set_cons_zero, List.set_cons_succ]
          refine wpAnyH_take (i := 13) (oi := _) (v := ?_) (by simp only [List.getElem?_toArray, List.getElem?_cons_succ, List.getElem?_cons_zero]; rfl) (by kernel_rfl) (by kernel_rfl) (by kernel_rfl) (by exact fun _ _ _ h => h) (Or.inl ⟨by rfl, ?_⟩) hH ?_
          rotate_left
          · intro w hSw; (try dsimp only at hSw); go_simp; try with_reducible rfl
          try simp only [Act.put, List.setIfInBounds_toArray, List.set_cons_zero, List.set_cons_succ]
          refine wpAnyH_take (i := 14) (oi := _) (v := ?_) (by simp only [List.getElem?_toArray, List.getElem?_cons_succ, List.getElem?_cons_zero]; rfl) (by kernel_rfl) (by kernel_rfl) (by kernel_rfl) (by exact fun _ _ _ h => h) (Or.inl ⟨by rfl, ?_⟩) hH ?_
          rotate_left
          · intro w hSw; (try dsimp only at hSw); go_simp; try with_reducible rfl
          try simp only [Act.put, List.setIfInBounds_toArray, List.set_cons_zero, List.set_cons_succ]
          refine wpAnyH_take (i := 15) (oi := _) (v := ?_) (by simp only [List.getElem?_toArray, List.getElem?_cons_succ, List.getElem?_cons_zero]; rfl) (by kernel_rfl) (by kernel_rfl) (by kernel_rfl) (by exact fun _ _ _ h => h) (Or.inl ⟨by rfl, ?_⟩) hH ?_
          rotate_left
          · intro w hSw; (try dsimp only at hSw); go_simp; try with_reducible rfl
          try simp only [Act.put, List.setIfInBounds_toArray, List.set_cons_zero, List.set_cons_succ]
          refine wpAnyH_take (i := 16) (oi := _) (v := ?_) (by simp only [List.getElem?_toArray, List.getElem?_cons_succ, List.getElem?_cons_zero]; rfl) (by kernel_rfl) (by kernel_rfl) (by kernel_rfl) (by exact fun _ _ _ h => h) (Or.inl ⟨by rfl, ?_⟩) hH ?_
          rotate_left
          · intro w hSw; (try dsimp only at hSw); go_simp; try with_reducible rfl
          try simp only [Act.put, List.setIfInBounds_toArray, List.set_cons_zero, List.set_cons_succ]
          refine wpAnyH_take (i := 17) (oi := _) (v := ?_) (by simp only [List.getElem?_toArray, List.getElem?_cons_succ, List.getElem?_cons_zero]; rfl) (by kernel_rfl) (by kernel_rfl) (by kernel_rfl) (by exact fun _ _ _ h => h) (Or.inl ⟨by rfl, ?_⟩) hH ?_
          rotate_left
          · intro w hSw; (try dsimp only at hSw); go_simp; try with_reducible rfl
          try simp only [Act.put, List.setIfInBounds_toArray, List.set_cons_zero, List.set_cons_succ]
          refine wpAnyH_take (i := 18) (oi := _) (v := ?_) (by simp only [List.getElem?_toArray, List.getElem?_cons_succ, List.getElem?_cons_zero]; rfl) (by kernel_rfl) (by kernel_rfl) (by kernel_rfl) (by exact fun _ _ _ h => h) (Or.inl ⟨by rfl, ?_⟩) hH ?_
          rotate_left
          · intro w hSw; (try dsimp only at hSw); obtain ⟨s0, s1, s2, s3, s4, s5⟩ := hSw; go_simp; try with_reducible rfl
          try simp only [Act.put, List.setIfInBounds_toArray, List.set_cons_zero, List.set_cons_succ]
          refine wpAnyH_take (i := 19) (oi := _) (v := ?_) (by simp only [List.getElem?_toArray, List.getElem?_cons_succ, List.getElem?_cons_zero]; rfl) (by kernel_rfl) (by kernel_rfl) (by kernel_rfl) (by exact fun _ _ _ h => h) (Or.inl ⟨by rfl, ?_⟩) hH ?_
          rotate_left
          · intro w hSw; (try dsimp only at hSw); go_simp; try with_reducible rfl
          try simp only [Act.put, List.setIfInBounds_toArray, List.set_cons_zero, List.set_cons_succ]
          refine wpAnyH_take (i := 20) (oi := _) (v := ?_) (by simp only [List.getElem?_toArray, List.getElem?_cons_succ, List.getElem?_cons_zero]; rfl) (by kernel_rfl) (by kernel_rfl) (by kernel_rfl) (by exact fun _ _ _ h => h) (Or.inl ⟨by rfl, ?_⟩) hH ?_
          rotate_left
          · intro w hSw; (try dsimp only at hSw); go_simp; try with_reducible rfl
          try simp only [Act.put, List.setIfInBounds_toArray, List.set_cons_zero, List.set_cons_succ]
          refine wpAnyH_take (i := 21) (oi := _) (v := ?_) (by simp only [List.getElem?_toArray, List.getElem?_cons_succ, List.getElem?_cons_zero]; rfl) (by kernel_rfl) (by kernel_rfl) (by kernel_rfl) (by exact fun _ _ _ h => h) (Or.inl ⟨by rfl, ?_⟩) hH ?_
          rotate_left
          · intro w hSw; (try dsimp only at hSw); go_simp; try with_reducible rfl
          try simp only [Act.put, List.setIfInBounds_toArray, List.set_cons_zero, List.set_cons_succ]
          refine wpAnyH_take (i := 22) (oi := _) (v := ?_) (by simp only [List.getElem?_toArray, List.getElem?_cons_succ, List.getElem?_cons_zero]; rfl) (by kernel_rfl) (by kernel_rfl) (by kernel_rfl) (by exact fun _ _ _ h => h) (Or.inl ⟨by rfl, ?_⟩) hH ?_
          rotate_left
          · intro w hSw; (try dsimp only at hSw); obtain ⟨s0, s1, s2, s3, s4, s5⟩ := hSw; go_simp; try with_reducible rfl
          try simp only [Act.put, List.setIfInBounds_toArray, List.set_cons_zero, List.set_cons_succ]
          refine wpAnyH_ready (rs := [23]) (by kernel_rfl) (by simp) (AllReadyH.cons rfl (fun K hK => ?_) AllReadyH.nil)
          go_simp
          go_at_call 17
          refine (sameEntry_any ⟨xs, xn, xk⟩ ⟨xs, xn, xk⟩ _).mono ?_
          rw [decide_eq_true (rfl : (⟨xs, xn, xk⟩ : En) = ⟨xs, xn, xk⟩)]
          rintro e w7 ⟨rfl, hb⟩
          have hct := (show w7.cell? ⟨w5.heap.size, 0, none⟩ = some (encStr xs) ∧ w7.cell? ⟨w5.heap.size, 1, none⟩ = some (.int .i64 xn) ∧ w7.cell? ⟨w5.heap.size, 2, none⟩ = some (.int .i64 xk) ∧ w7.cell? ⟨bh, oh + f * 3, none⟩ = some (encStr xs) ∧ w7.cell? ⟨bh, oh + f * 3 + 1, none⟩ = some (.int .i64 xn) ∧ w7.cell? ⟨bh, oh + f * 3 + 2, none⟩ = some (.int .i64 xk) from ⟨(hb.cell (World.block_lt_of_cell? _ _ hcs.1)).trans hcs.1, (hb.cell (World.block_lt_of_cell? _ _ hcs.2.1)).trans hcs.2.1, (hb.cell (World.block_lt_of_cell? _ _ hcs.2.2.1)).trans hcs.2.2.1, (hb.cell (World.block_lt_of_cell? _ _ hcs.2.2.2.1)).trans hcs.2.2.2.1, (hb.cell (World.block_lt_of_cell? _ _ hcs.2.2.2.2.1)).trans hcs.2.2.2.2.1, (hb.cell (World.block_lt_of_cell? _ _ hcs.2.2.2.2.2)).trans hcs.2.2.2.2.2⟩)
          have HB7 := hid (HB6.out.trans (hb.mono HB6.out.size))
          clear hb
          refine hK.out _ _ hct (fun hH => ?_)
          clear hK K
          try simp only [Act.put, List.setIfInBounds_toArray, List.set_cons_zero, List.set_cons_succ]
          refine wpAnyH_take (i := 24) (oi := _) (v := ?_) (by simp only [List.getElem?_toArray, List.getElem?_cons_succ, List.getElem?_cons_zero]; rfl) (by kernel_rfl) (by kernel_rfl) (by kernel_rfl) (by exact fun _ _ _ h => h) (Or.inl ⟨by rfl, ?_⟩) hH ?_
          rotate_left
          · intro w hSw; (try dsimp only at hSw); go_simp; try with_reducible rfl
          try simp only [Act.put, List.setIfInBounds_toArray, List.set_cons_zero, List.set_cons_succ]
          refine wpAnyH_take (i := 25) (oi := _) (v := ?_) (by simp only [List.getElem?_toArray, List.getElem?_cons_succ, List.getElem?_cons_zero]; rfl) (by kernel_rfl) (by kernel_rfl) (by kernel_rfl) (by exact fun _ _ _ h => h) (Or.inl ⟨by rfl, ?_⟩) hH ?_
          rotate_left
          · intro w hSw; (try dsimp only at hSw); go_simp; try with_reducible rfl
          try simp only [Act.put, List.setIfInBounds_toArray, List.set_cons_zero, List.set_cons_succ]
          refine wpAnyH_take (i := 26) (oi := _) (v := ?_) (by simp only [List.getElem?_toArray, List.getElem?_cons_succ, List.getElem?_cons_zero]; rfl) (by kernel_rfl) (by kernel_rfl) (by kernel_rfl) (by exact fun _ _ _ h => h) (Or.inl ⟨by rfl, ?_⟩) hH ?_
          rotate_left
          · intro w hSw; (try dsimp only at hSw); go_simp; try with_reducible rfl
          try simp only [Act.put, List.setIfInBounds_toArray, List.set_cons_zero, List.set_cons_succ]
          refine wpAnyH_done (by kernel_rfl) ?_ _
          go_wp2
          go_ret
          exact ⟨rfl, HB7.out⟩
        · have HI := hid (show isIn D a = false from by unfold isIn; rw [HF.out]; exact decide_eq_false hin)
          rw [hfv]
          clear hfv
          go_wp2_with fail
          refine (dk_get O a HD3.out (by omega)).mono ?_
          rintro e w5 ⟨⟨⟨xs, xn, xk⟩, rfl, _⟩, hb, hd⟩
          rw [HI.out]
          obtain ⟨W, hW⟩ : ∃ W, w5.alloc (.cells #[encStr xs, .int .i64 xn, .int .i64 xk] 29) = W := ⟨_, rfl⟩
          have hbW : Below w5.heap.size w5 W := hW ▸ (Below.refl _ _).alloc (Nat.le_refl _) _
          have HBW := hid (hd.below.trans (hbW.mono hd.below.size))
          have HS3c := hid ((HS3b.out.on hb).on hbW)
          have HS4c := hid ((HS4.out.on hb).on hbW)
          have HW := hid hW
          clear hb hd HD3 HS3b HS4 HSl hW hbW
          go_wp2_with fail
          rw [HW.out]
          have hdw : Below W.heap.size W W.drew := ⟨rfl, rfl, rfl, Nat.le_refl _, fun _ _ => rfl⟩
          have HS3d := hid (HS3c.out.on hdw)
          have HS4d := hid (HS4c.out.on hdw)
          have HBd := hid (HBW.out.drew)
          clear hdw HS3c HS4c
          refine wp_region_held_drew (S := fun _ => True) (by kernel_rfl) trivial (fun hH => ?_)
          refine wpAnyH_take (i := 0) (oi := _) (v := ?_) (by simp only [List.getElem?_toArray, List.getElem?_cons_zero]; rfl) (by kernel_rfl) (by kernel_rfl) (by kernel_rfl) (by exact fun _ _ _ h => h) (Or.inl ⟨by rfl, ?_⟩) hH ?_
          rotate_left
          · intro w hSw; (try dsimp only at hSw); go_simp; try with_reducible rfl
          try simp only [Act.put, List.setIfInBounds_toArray, List.set_cons_zero, List.set_cons_succ]
          refine wpAnyH_take (i := 1) (oi := _) (v := ?_) (by simp only [List.getElem?_toArray, List.getElem?_cons_succ, List.getElem?_cons_zero]; rfl) (by kernel_rfl) (by kernel_rfl) (by kernel_rfl) (by exact fun _ _ _ h => h) (Or.inl ⟨by rfl, ?_⟩) hH ?_
          rotate_left
          · intro w hSw; (try dsimp only at hSw); go_simp; try with_reducible rfl
          try simp only [Act.put, List.setIfInBounds_toArray, List.set_cons_zero, List.set_cons_succ]
          refine wpAnyH_ready (rs := [2]) (by kernel_rfl) (by simp) (AllReadyH.cons rfl (fun K hK => ?_) AllReadyH.nil)
          go_simp
          go_at_call 19
          refine (sameEntrys_any _ _ _ _ _ _ _ _ _ _ _ HS3d.out HS4d.out (Nat.le_refl _) (Nat.le_refl _)).mono ?_
          rw [decide_eq_true (rfl : fromE D a m = fromE D a m)]
          rintro e w6 ⟨rfl, hb⟩
          have HB6 := hid (HBd.out.trans (hb.mono HBd.out.size))
          clear hb
          refine hK.out _ _ trivial (fun hH => ?_)
          clear hK K
          try simp only [Act.put, List.setIfInBounds_toArray, List.set_cons_zero, List.set_cons_succ]
          refine wpAnyH_take (i := 3) (oi := _) (v := ?_) (by simp only [List.getElem?_toArray, List.getElem?_cons_succ, List.getElem?_cons_zero]; rfl) (by kernel_rfl) (by kernel_rfl) (by kernel_rfl) (by exact fun _ _ _ h => h) (Or.inl ⟨by rfl, ?_⟩) hH ?_
          rotate_left
          · intro w hSw; (try dsimp only at hSw); go_simp; try with_reducible rfl
          try simp only [Act.put, List.setIfInBounds_toArray, List.set_cons_zero, List.set_cons_succ]
          refine wpAnyH_take (i := 4) (oi := _) (v := ?_) (by simp only [List.getElem?_toArray, List.getElem?_cons_succ, List.getElem?_cons_zero]; rfl) (by kernel_rfl) (by kernel_rfl) (by kernel_rfl) (by exact fun _ _ _ h => h) (Or.inl ⟨by rfl, ?_⟩) hH ?_
          rotate_left
          · intro w hSw; (try dsimp only at hSw); go_simp; try with_reducible rfl
          try simp only [Act.put, List.setIfInBounds_toArray, List.set_cons_zero, List.set_cons_succ]
          refine wpAnyH_take (i := 5) (oi := _) (v := ?_) (by simp only [List.getElem?_toArray, List.getElem?_cons_succ, List.getElem?_cons_zero]; rfl) (by kernel_rfl) (by kernel_rfl) (by kernel_rfl) (by exact fun _ _ _ h => h) (Or.inl ⟨by rfl, ?_⟩) hH ?_
          rotate_left
          · intro w hSw; (try dsimp only at hSw); go_simp; try with_reducible rfl
          try simp only [Act.put, List.setIfInBounds_toArray, List.set_cons_zero, List.set_cons_succ]
          refine wpAnyH_take (i := 6) (oi := _) (v := ?_) (by simp only [List.getElem?_toArray, List.getElem?_cons_succ, List.getElem?_cons_zero]; rfl) (by kernel_rfl) (by kernel_rfl) (by kernel_rfl) (by exact fun _ _ _ h => h) (Or.inl ⟨by rfl, ?_⟩) hH ?_
          rotate_left
          · intro w hSw; (try dsimp only at hSw); go_simp; try with_reducible rfl
          try simp only [Act.put, List.setIfInBounds_toArray, List.set_cons_zero, List.set_cons_succ]
          refine wpAnyH_take (i := 7) (oi := _) (v := ?_) (by simp only [List.getElem?_toArray, List.getElem?_cons_succ, List.getElem?_cons_zero]; rfl) (by kernel_rfl) (by kernel_rfl) (by kernel_rfl) (by exact fun _ _ _ h => h) (Or.inl ⟨by rfl, ?_⟩) hH ?_
          rotate_left
          · intro w hSw; (try dsimp only at hSw); go_simp; try with_reducible rfl
          try simp only [Act.put, List.setIfInBounds_toArray, List.set_cons_zero, List.set_cons_succ]
          refine wpAnyH_take (i := 8) (oi := _) (v := ?_) (by simp only [List.getElem?_toArray, List.getElem?_cons_succ, List.getElem?_cons_zero]; rfl) (by kernel_rfl) (by kernel_rfl) (by kernel_rfl) (by exact fun _ _ _ h => h) (Or.inl ⟨by rfl, ?_⟩) hH ?_
          rotate_left
          · intro w hSw; (try dsimp only at hSw); go_simp; try with_reducible rfl
          try simp only [Act.put, List.setIfInBounds_toArray, List.set_cons_zero, List.set_cons_succ]
          refine wpAnyH_take (i := 9) (oi := _) (v := ?_) (by simp only [List.getElem?_toArray, List.getElem?_cons_succ, List.getElem?_cons_zero]; rfl) (by kernel_rfl) (by kernel_rfl) (by kernel_rfl) (by exact fun _ _ _ h => h) (Or.inl ⟨by rfl, ?_⟩) hH ?_
          rotate_left
          · intro w hSw; (try dsimp only at hSw); go_simp; try with_reducible rfl
          try simp only [Act.put, List.setIfInBounds_toArray, List.set_cons_zero, List.set_cons_succ]
          refine wpAnyH_take (i := 10) (oi := _) (v := ?_) (by simp only [List.getElem?_toArray, List.getElem?_cons_succ, List.getElem?_cons_zero]; rfl) (by kernel_rfl) (by kernel_rfl) (by kernel_rfl) (by exact fun _ _ _ h => h) (Or.inl ⟨by rfl, ?_⟩) hH ?_
          rotate_left
          · intro w hSw; (try dsimp only at hSw); go_simp; try with_reducible rfl
          try simp only [Act.put, List.setIfInBounds_toArray, List.set_cons_zero, List.set_cons_succ]
          refine wpAnyH_take (i := 11) (oi := _) (v := ?_) (by simp only [List.getElem?_toArray, List.getElem?_cons_succ, List.getElem?_cons_zero]; rfl) (by kernel_rfl) (by kernel_rfl) (by kernel_rfl) (by exact fun _ _ _ h => h) (Or.inl ⟨by rfl, ?_⟩) hH ?_
          rotate_left
          · intro w hSw; (try dsimp only at hSw); go_simp; try with_reducible rfl
          try simp only [Act.put, List.setIfInBounds_toArray, List.set_cons_zero, List.set_cons_succ]
          refine wpAnyH_take (i := 12) (oi := _) (v := ?_) (by simp only [List.getElem?_toArray, List.getElem?_cons_succ, List.getElem?_cons_zero]; rfl) (by kernel_rfl) (by kernel_rfl) (by kernel_rfl) (by exact fun _ _ _ h => h) (Or.inl ⟨by rfl, ?_⟩) hH ?_
          rotate_left
          · intro w hSw; (try dsimp only at hSw); go_simp; try with_reducible rfl
          try simp only [Act.put, List.setIfInBounds_toArray, List.set_cons_zero, List.set_cons_succ]
          refine wpAnyH_take (i := 13) (oi := _) (v := ?_) (by simp only [List.getElem?_toArray, List.getElem?_cons_succ, List.getElem?_cons_zero]; rfl) (by kernel_rfl) (by kernel_rfl) (by kernel_rfl) (by exact fun _ _ _ h => h) (Or.inl ⟨by rfl, ?_⟩) hH ?_
          rotate_left
          · intro w hSw; (try dsimp only at hSw); go_simp; try with_reducible rfl
          try simp only [Act.put, List.setIfInBounds_toArray, List.set_cons_zero, List.set_cons_succ]
          refine wpAnyH_take (i := 14) (oi := _) (v := ?_) (by simp only [List.getElem?_toArray, List.getElem?_cons_succ, List.getElem?_cons_zero]; rfl) (by kernel_rfl) (by kernel_rfl) (by kernel_rfl) (by exact fun _ _ _ h => h) (Or.inl ⟨by rfl, ?_⟩) hH ?_
          rotate_left
          · intro w hSw; (try dsimp only at hSw); go_simp; try with_reducible rfl
          try simp only [Act.put, List.setIfInBounds_toArray, List.set_cons_zero, List.set_cons_succ]
          refine wpAnyH_take (i := 15) (oi := _) (v := ?_) (by simp only [List.getElem?_toArray, List.getElem?_cons_succ, List.getElem?_cons_zero]; rfl) (by kernel_rfl) (by kernel_rfl) (by kernel_rfl) (by exact fun _ _ _ h => h) (Or.inl ⟨by rfl, ?_⟩) hH ?_
          rotate_left
          · intro w hSw; (try dsimp only at hSw); go_simp; try with_reducible rfl
          try simp only [Act.put, List.setIfInBounds_toArray, List.set_cons_zero, List.set_cons_succ]
          refine wpAnyH_take (i := 16) (oi := _) (v := ?_) (by simp only [List.getElem?_toArray, List.getElem?_cons_succ, List.getElem?_cons_zero]; rfl) (by kernel_rfl) (by kernel_rfl) (by kernel_rfl) (by exact fun _ _ _ h => h) (Or.inl ⟨by rfl, ?_⟩) hH ?_
          rotate_left
          · intro w hSw; (try dsimp only at hSw); go_simp; try with_reducible rfl
          try simp only [Act.put, List.setIfInBounds_toArray, List.set_cons_zero, List.set_cons_succ]
          refine wpAnyH_take (i := 17) (oi := _) (v := ?_) (by simp only [List.getElem?_toArray, List.getElem?_cons_succ, List.getElem?_cons_zero]; rfl) (by kernel_rfl) (by kernel_rfl) (by kernel_rfl) (by exact fun _ _ _ h => h) (Or.inl ⟨by rfl, ?_⟩) hH ?_
          rotate_left
          · intro w hSw; (try dsimp only at hSw); go_simp; try with_reducible rfl
          try simp only [Act.put, List.setIfInBounds_toArray, List.set_cons_zero, List.set_cons_succ]
          refine wpAnyH_take (i := 18) (oi := _) (v := undef) (by simp only [List.getElem?_toArray, List.getElem?_cons_succ, List.getElem?_cons_zero]; rfl) (by kernel_rfl) (by kernel_rfl) (by kernel_rfl) (by exact fun _ _ _ h => h) (Or.inr ⟨by rfl, rfl⟩) hH ?_
          try simp only [Act.put, List.setIfInBounds_toArray, List.set_cons_zero, List.set_cons_succ]
          refine wpAnyH_take (i := 19) (oi := _) (v := undef) (by simp only [List.getElem?_toArray, List.getElem?_cons_succ, List.getElem?_cons_zero]; rfl) (by kernel_rfl) (by kernel_rfl) (by kernel_rfl) (by exact fun _ _ _ h => h) (Or.inr ⟨by rfl, rfl⟩) hH ?_
          try simp only [Act.put, List.setIfInBounds_toArray, List.set_cons_zero, List.set_cons_succ]
          refine wpAnyH_take (i := 20) (oi := _) (v := undef) (by simp only [List.getElem?_toArray, List.getElem?_cons_succ, List.getElem?_cons_zero]; rfl) (by kernel_rfl) (by kernel_rfl) (by kernel_rfl) (by exact fun _ _ _ h => h) (Or.inr ⟨by rfl, rfl⟩) hH ?_
          try simp only [Act.put, List.setIfInBounds_toArray, List.set_cons_zero, List.set_cons_succ]
          refine wpAnyH_take (i := 21) (oi := _) (v := undef) (by simp only [List.getElem?_toArray, List.getElem?_cons_succ, List.getElem?_cons_zero]; rfl) (by kernel_rfl) (by kernel_rfl) (by kernel_rfl) (by exact fun _ _ _ h => h) (Or.inr ⟨by rfl, rfl⟩) hH ?_
          try simp only [Act.put, List.setIfInBounds_toArray, List.set_cons_zero, List.set_cons_succ]
          refine wpAnyH_take (i := 22) (oi := _) (v := undef) (by simp only [List.getElem?_toArray, List.getElem?_cons_succ, List.getElem?_cons_zero]; rfl) (by kernel_rfl) (by kernel_rfl) (by kernel_rfl) (by exact fun _ _ _ h => h) (Or.inr ⟨by rfl, rfl⟩) hH ?_
          try simp only [Act.put, List.setIfInBounds_toArray, List.set_cons_zero, List.set_cons_succ]
          refine wpAnyH_take (i := 23) (oi := _) (v := undef) (by simp only [List.getElem?_toArray, List.getElem?_cons_succ, List.getElem?_cons_zero]; rfl) (by kernel_rfl) (by kernel_rfl) (by kernel_rfl) (by exact fun _ _ _ h => h) (Or.inr ⟨by rfl, rfl⟩) hH ?_
          try simp only [Act.put, List.setIfInBounds_toArray, List.set_cons_zero, List.set_cons_succ]
          refine wpAnyH_take (i := 24) (oi := _) (v := ?_) (by simp only [List.getElem?_toArray, List.getElem?_cons_succ, List.getElem?_cons_zero]; rfl) (by kernel_rfl) (by kernel_rfl) (by kernel_rfl) (by exact fun _ _ _ h => h) (Or.inl ⟨by rfl, ?_⟩) hH ?_
          rotate_left
          · intro w hSw; (try dsimp only at hSw); go_simp; try with_reducible rfl
          try simp only [Act.put, List.setIfInBounds_toArray, List.set_cons_zero, List.set_cons_succ]
          refine wpAnyH_take (i := 25) (oi := _) (v := ?_) (by simp only [List.getElem?_toArray, List.getElem?_cons_succ, List.getElem?_cons_zero]; rfl) (by kernel_rfl) (by kernel_rfl) (by kernel_rfl) (by exact fun _ _ _ h => h) (Or.inl ⟨by rfl, ?_⟩) hH ?_
          rotate_left
          · intro w hSw; (try dsimp only at hSw); go_simp; try with_reducible rfl
          try simp only [Act.put, List.setIfInBounds_toArray, List.set_cons_zero, List.set_cons_succ]
          refine wpAnyH_take (i := 26) (oi := _) (v := ?_) (by simp only [List.getElem?_toArray, List.getElem?_cons_succ, List.getElem?_cons_zero]; rfl) (by kernel_rfl) (by kernel_rfl) (by kernel_rfl) (by exact fun _ _ _ h => h) (Or.inl ⟨by rfl, ?_⟩) hH ?_
          rotate_left
          · intro w hSw; (try dsimp only at hSw); go_simp; try with_reducible rfl
          try simp only [Act.put, List.setIfInBounds_toArray, List.set_cons_zero, List.set_cons_succ]
          refine wpAnyH_done (by kernel_rfl) ?_ _
          go_wp2
          go_ret
          exact ⟨rfl, HB6.out⟩
end Go.Proofs.YtcjiimfgmmgifaaDoor
