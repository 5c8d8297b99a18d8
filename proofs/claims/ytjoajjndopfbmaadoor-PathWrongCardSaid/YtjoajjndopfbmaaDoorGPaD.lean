/- Package path's Parse. -/
import Derived.Test.YtjoajjndopfbmaaDoorGPaC
namespace Go.Proofs.YtjoajjndopfbmaaDoor
open Go.RowKit Go.Shelf Go.Lib

/-- what Parse hands back: the parts, whether a slash ends them, the error -/
def PrsO (S : Nat → Addr) (s : Nam) (w : World) (e : Ending) (w' : World) : Prop :=
  ∃ A n c ve, e = .returned (.tuple #[.agg #[.slice A n c, .bool (prsS s)], ve]) ∧ EV S (prsC s) ve ∧ St w' w'.heap.size A n c (prsP s) ∧ Below w.heap.size w w'
theorem prs_bad {s : Nam} {c : Int} (h : chkC s = c) (h0 : c ≠ 0) : prsC s = c ∧ prsP s = [] ∧ prsS s = false := by
  have hc : prsC s = c := by
    unfold chkC at h
    unfold prsC
    split at h
    · rw [if_pos ‹_›]; exact h
    · rw [if_neg ‹_›]
      split at h
      · rw [if_pos ‹_›]; exact h
      · rw [if_neg ‹_›]
        split at h
        · exact absurd h.symm h0
        · rw [if_neg ‹_›]; exact h
  refine ⟨hc, by rw [prsP, if_neg (by rw [hc]; exact h0)], ?_⟩
  rw [prsS, hc, beq_eq_false_iff_ne.2 h0]
  rfl
theorem chk_fine {s : Nam} (h : chkC s = 0) : s ≠ [] ∧ s.length ≤ 256 ∧ s.head? = some 47 ∧ (0 : UInt8) ∉ s := by
  unfold chkC at h
  split at h
  · cases h
  · split at h
    · cases h
    · split at h
      · rename_i h1 h2 h3
        exact ⟨h1, by omega, h3.1, h3.2⟩
      · cases h
theorem prs_fine {s : Nam} (h : chkC s = 0) : prsC s = if longP (ptsOf s) then 115 else 0 := by
  obtain ⟨h1, h2, h3, h4⟩ := chk_fine h
  rw [prsC, if_neg h1, if_neg (by omega), if_pos ⟨h3, h4⟩]
/-- a part of a text that is in order: no slash and no 0 in it -/
theorem part_free {s x : Nam} (h : chkC s = 0) (hx : x ∈ sg [] s) : hasNev x = false := by
  obtain ⟨_, _, _, h4⟩ := chk_fine h
  rw [hasNev, List.any_eq_false]
  intro b hb
  rcases sg_mem s [] x hx b hb with h5 | ⟨h5, h6⟩
  · cases h5
  · unfold nev
    have h7 : b ≠ 0 := by rintro rfl; exact h4 h5
    simp [h6, h7]
theorem kept_next {l : List Nam} {k : Nat} {x : Nam} (h : l[k]? = some x) : kept (l.take (k + 1)) = kept (l.take k) ++ (if outP x then [] else [x]) := by
  rw [takeN h, kept_append]
  congr 1
  unfold kept
  rcases hx : outP x with _ | _ <;> simp [hx]
theorem longP_take {l : List Nam} {k : Nat} {x : Nam} (h : l[k]? = some x) (hx : outP x = false) (hl : 24 < x.length) : longP (kept l) = true := by
  rw [longP, List.any_eq_true]
  refine ⟨x, ?_, decide_eq_true hl⟩
  rw [kept, List.mem_filter]
  exact ⟨List.mem_of_getElem? h, by rw [hx]; rfl⟩
theorem outP_ways (x : Nam) : (x = [] ∧ outP x = true) ∨ (x ≠ [] ∧ x = [46] ∧ outP x = true) ∨ (x ≠ [] ∧ x ≠ [46] ∧ outP x = false) := by
  by_cases h1 : x = []
  · exact .inl ⟨h1, by rw [h1]; rfl⟩
  · by_cases h2 : x = [46]
    · exact .inr (.inl ⟨h1, h2, by rw [h2]; rfl⟩)
    · refine .inr (.inr ⟨h1, h2, ?_⟩)
      unfold outP
      rw [beq_eq_false_iff_ne.2 h1, beq_eq_false_iff_ne.2 h2]
      rfl
theorem sz_of' (s : Nam) : (⟨s.toArray⟩ : ByteArray).size = s.length := by show s.toArray.size = _; simp
theorem vld_part {x : Nam} (h0 : x ≠ []) (hn : hasNev x = false) : vldC ⟨x.toArray⟩ = if 24 < x.length then 115 else 0 := by
  unfold vldC
  rw [sz_of', if_neg (by intro h; exact h0 (List.eq_nil_of_length_eq_zero h))]
  have : (⟨x.toArray⟩ : ByteArray).data.toList = x := by simp
  rw [this, hn]
  rfl

theorem Sv.aside {w : World} {B n c : Nat} {A : Option Addr} {xs : List Value} (h : Sv w B A n c xs) {p : Addr} (hp : ∀ ad, A = some ad → ad.block ≠ p.block) (u : Value) : Sv (w.setCell p u) B A n c xs :=
  ⟨h.len, h.cap, h.max, h.nil, fun ad ha hn => ⟨(h.at_ ad ha hn).1, fun j x hj => by
    rw [World.cell?_of_block (w := w) (Below.heap_setCell w p u (ad.add j).block (by rw [add_block]; exact hp ad ha))]
    exact (h.at_ ad ha hn).2 j x hj⟩⟩
theorem OwnV.aside {ty : TypeId} {w : World} {B : Nat} {v : Value} {xs : List Value} (h : OwnV ty w B v xs) {p : Addr} (hp : p.block < B) (u : Value) : OwnV ty (w.setCell p u) B v xs := by
  rcases h.2 with h0 | ⟨g, cap, cur, hv, hbase, _⟩
  · exact ⟨h.1, .inl h0⟩
  · subst hv
    exact OwnV.far h (by omega) u
theorem EV.one {S : Nat → Addr} {c : Int} {v : Value} (h : EV S c v) (hc : c ≠ 0) : ∃ j : Nat, j < 24 ∧ c = 101 + (j : Int) ∧ v = .iface 106 (.pointer (some (S j))) := by
  rcases h with _ | ⟨j, hj⟩
  · exact absurd rfl hc
  · exact ⟨j, hj, rfl, rfl⟩
theorem EV.nil {S : Nat → Addr} {c : Int} {v : Value} (h : EV S c v) (hc : c = 0) : v = .nilIface := by
  rcases h with _ | ⟨j, hj⟩
  · rfl
  · omega
theorem sg_len : ∀ (l p : Nam), (sg p l).length ≤ l.length + 1
  | [], p => by simp [sg]
  | x :: l, p => by
    rw [sg]
    by_cases hx : x = 47
    · rw [if_pos hx]
      have := sg_len l []
      simp only [List.length_cons]; omega
    · rw [if_neg hx]
      have := sg_len l (p ++ [x])
      simp only [List.length_cons]; omega
theorem kept_len (l : List Nam) : (kept l).length ≤ l.length := List.length_filter_le _ _
theorem prsO_of {S : Nat → Addr} {l : Nam} {w w' : World} {A : Option Addr} {n c : Nat} {ve : Value} (h1 : chkC l = 0) (h2 : longP (ptsOf l) = false) (h3 : ve = .nilIface) (h4 : St w' w'.heap.size A n c (ptsOf l)) (h5 : Below w.heap.size w w') :
    PrsO S l w (.returned (.tuple #[.agg #[.slice A n c, .bool (decide (0 < (ptsOf l).length) && l.getLast? == some 47)], ve])) w' := by
  have hc : prsC l = 0 := by rw [prs_fine h1, h2]; rfl
  refine ⟨A, n, c, ve, ?_, ?_, ?_, h5⟩
  · rw [prsS, hc]; rfl
  · rw [hc, h3]; exact EV.fine
  · rw [prsP, if_pos hc]; exact h4
set_option maxHeartbeats 4000000 in
set_option maxRecDepth 100000 in
theorem parse_any (S : Nat → Addr) (s : ByteArray) (w : World) (hS : SentL [8, 13, 14] w S) : Calls Tryd.prog 8 #[.string s] w (PrsO S s.data.toList w) := by
  have HE := hid hS
  clear hS
  obtain ⟨l, hl⟩ : ∃ l, s.data.toList = l := ⟨_, rfl⟩
  have HL := hid hl
  rw [hl]
  clear hl
  go_enter Tryd.func8, Tryd.ntmps8
  go_wp2_with fail
  refine (check_any S s _ (HE.out.on ((Below.refl _ _).alloc (Nat.le_refl _) _))).mono ?_
  rw [HL.out]
  rintro e w' ⟨⟨ve, rfl, hev⟩, hw⟩
  rw [hw]
  clear hw
  obtain ⟨c, hc⟩ : ∃ c, chkC l = c := ⟨_, rfl⟩
  rw [hc] at hev
  rcases hev with _ | ⟨j, hj⟩
  · have HC := hid hc
    clear hc
    go_wp2_with fail
    refine (split_any s _ ?hs).mono ?_
    case hs => have := (chk_fine HC.out).2.1; rw [← HL.out, ← Lib.size_eq] at this; omega
    rw [HL.out]
    rintro e w2 ⟨a0, n, cc, rfl, ha0, hst, hb⟩
    have hsz : ((w.alloc (.cells #[.slice none 0 0, .bool false] 24)).alloc (.cells #[.slice none 0 0, .bool false] 24)).heap.size = w.heap.size + 2 := by simp [World.size_alloc]
    have hsz2 := hb.size
    have b1 : Blk w2 w.heap.size 24 #[.slice none 0 0, .bool false] := ((Blk.new w _ _).alloc _).below hb (by omega)
    have b2 : Blk w2 (w.heap.size + 1) 24 #[.slice none 0 0, .bool false] := by
      have := (Blk.new (w.alloc (.cells #[.slice none 0 0, .bool false] 24)) 24 #[.slice none 0 0, .bool false]).below hb (by simp [World.size_alloc])
      simpa [World.size_alloc] using this
    have bw : Below w.heap.size w w2 := (((Below.refl _ _).alloc (Nat.le_refl _) _).alloc (by simp [World.size_alloc]) _).trans (hb.mono (by omega))
    rw [hsz] at ha0 hsz2
    have HA0 := hid ha0
    have HB1 := hid b1
    have HB2 := hid b2
    have HBW := hid bw
    have HST := hid hst
    have HSZ := hid hsz2
    have hmx : n ≤ 9223372036854775807 := by have := hst.cap; have := hst.max; unfold maxLen at this; omega
    clear hb hst b1 b2 bw hsz hsz2 ha0
    go_wp2
    go_loopw [18] (fun i wr => ∃ k : Nat, k ≤ n ∧ i = .int .i64 (k : Int) ∧ (∃ v, Hid (Ot wr w2.heap.size v (kept ((sg [] l).take k))) ∧ Hid (Blk wr (w.heap.size + 1) 24 #[v, .bool false])) ∧ Hid (Blk wr w.heap.size 24 #[.slice none 0 0, .bool false]) ∧ Hid (St wr w2.heap.size (some a0) n cc (sg [] l)) ∧ Hid (Below w.heap.size w wr) ∧ Hid (w2.heap.size ≤ wr.heap.size) ∧ Hid (longP (kept ((sg [] l).take k)) = false)) (fun i _ => n - (RowKit.intOf i).toNat)
    case atStart => exact ⟨0, Nat.zero_le _, rfl, ⟨_, OwnV.nil _ _ _, HB2⟩, HB1, HST, HBW, Nat.le_refl _, rfl⟩
    case round =>
      obtain ⟨k, hk, rfl, ⟨v, HO, HP⟩, HR, HS, HW, HZ, HG⟩ := hrel
      by_cases hlt : k < n
      · obtain ⟨ad, x, had, hbl, hx, hcell⟩ := HS.out.at hlt
        cases had
        have HX := hid hx
        clear hbl hx
        rcases outP_ways x with ⟨ho1, ho⟩ | ⟨ho1, ho2, ho⟩ | ⟨ho1, ho2, ho⟩
        · have hkn := hid (kept_next HX.out)
          rw [ho] at hkn
          have HK := hid (show kept ((sg [] l).take (k + 1)) = kept ((sg [] l).take k) by rw [hkn.out]; simp)
          subst ho1
          clear ho hkn
          go_wp2
          go_roundw
          case rel => exact ⟨k + 1, by omega, by go_num, ⟨v, by rw [HK.out]; exact HO, HP⟩, HR, HS, HW, HZ, by rw [HK.out]; exact HG⟩
          case measure => simp [RowKit.intOf]; omega
        · have hkn := hid (kept_next HX.out)
          rw [ho] at hkn
          have HK := hid (show kept ((sg [] l).take (k + 1)) = kept ((sg [] l).take k) by rw [hkn.out]; simp)
          subst ho2
          clear ho hkn
          go_wp2
          go_roundw
          case rel => exact ⟨k + 1, by omega, by go_num, ⟨v, by rw [HK.out]; exact HO, HP⟩, HR, HS, HW, HZ, by rw [HK.out]; exact HG⟩
          case measure => simp [RowKit.intOf]; omega
        · have hkn := hid (kept_next HX.out)
          rw [ho] at hkn
          have HK := hid (show kept ((sg [] l).take (k + 1)) = kept ((sg [] l).take k) ++ [x] by rw [hkn.out]; simp)
          have t1 : x.isEmpty = false := by rcases x with _ | _; exact absurd rfl ho1; rfl
          have t2 : (x == [46]) = false := beq_eq_false_iff_ne.2 ho2
          have HV := hid (vld_part ho1 (part_free HC.out (List.mem_of_getElem? HX.out)))
          have HOX := hid ho
          clear ho hkn ho1 ho2
          go_wp2_with fail
          refine (valid3_any S ⟨x.toArray⟩ wr (HE.out.on HW.out)).mono ?_
          rw [HV.out]
          rintro e w4 ⟨⟨ve, rfl, hev⟩, hb⟩
          have hR4 := HR.out.below hb HR.out.lt
          have r0 : w4.cell? ⟨w.heap.size, 0, none⟩ = some (.slice none 0 0) := hR4.cell 0
          have r1 : w4.cell? ⟨w.heap.size, 1, none⟩ = some (.bool false) := hR4.cell 1
          have f0 := hR4.free 0
          have f1 := hR4.free 1
          have HR4 := hid hR4
          by_cases h24 : 24 < x.length
          · rw [if_pos h24] at hev
            obtain ⟨j, hj, hj2, rfl⟩ := hev.one (by decide)
            have HJ := hid hj2
            have HC2 := hid (show prsC l = 115 by rw [prs_fine HC.out, show longP (ptsOf l) = true from longP_take HX.out HOX.out h24]; rfl)
            have HW4 := hid (HW.out.trans (hb.mono HW.out.size))
            clear hev hj2 hb hR4
            go_wp2
            have hF := (HR4.out.put 0 (.slice none 0 0)).put 1 (.bool false)
            have k0 : _ = some (Value.slice none 0 0) := hF.cell 0
            have k1 : _ = some (Value.bool false) := hF.cell 1
            refine bodyPost_ret (v := .tuple #[.agg #[.slice none 0 0, .bool false], .iface 106 (.pointer (some (S j)))]) (by simp [results, Tryd.results8, go_sem, k0, k1]) rfl ?_
            refine ⟨none, 0, 0, _, by rw [prsS, HC2.out]; rfl, by rw [HC2.out, HJ.out]; exact EV.err j hj, by rw [prsP, if_neg (by rw [HC2.out]; decide)]; exact Sv.empty _ _, ?_⟩
            exact (HW4.out.setCell (p := ⟨w.heap.size, 0, none⟩) (Nat.le_refl _) _).setCell (p := ⟨w.heap.size, 1, none⟩) (Nat.le_refl _) _
          · rw [if_neg h24] at hev
            obtain rfl := hev.nil rfl
            have hP4 := HP.out.below hb HP.out.lt
            have p0 : w4.cell? ⟨w.heap.size + 1, 0, none⟩ = some v := hP4.cell 0
            have HP4 := hid hP4
            have HO4 := hid (OwnV.on HO.out hb)
            have HS4 := hid (Sv.below HS.out (hb.mono HZ.out))
            have HW4 := hid (HW.out.trans (hb.mono HW.out.size))
            have HZ4 := hid (Nat.le_trans HZ.out hb.size)
            have H24 := hid h24
            clear hev hb hP4 hR4 r0 r1 f0 f1 h24
            go_wp2_with (at_builtin; refine wpList_append_tx rfl _ _ rfl w2.heap.size (w4.heap.size + 1) _ (kept ((sg [] l).take k)) [x] rfl (World.ownsRow.alloc HO4.out _) (some ⟨w4.heap.size, 0, none⟩) 1 1 rfl (st_one w4 x) ?c1 ?c2 ?_)
            case c1 =>
              have h1 := kept_len ((sg [] l).take k)
              rw [List.length_take] at h1
              have h2 := sg_len l []
              have h3 := (chk_fine HC.out).2.1
              omega
            case c2 => have := HZ4.out; simp; omega
            intro v' w5 hown' hb5
            obtain ⟨A5, m5, c5, hv5⟩ : ∃ A m c, v' = .slice A m c := by
              obtain ⟨A, c, h, _⟩ := Ot.is hown'
              exact ⟨_, _, _, h⟩
            subst hv5
            have hP5 := (HP4.out.alloc (.cells #[encStr x] 9)).below hb5 (by have := HSZ.out; omega)
            have q0 : w5.cell? ⟨w.heap.size + 1, 0, none⟩ = some v := hP5.cell 0
            have e0 := hP5.free 0
            have HP5 := hid hP5
            have HR5 := hid ((HR4.out.alloc (.cells #[encStr x] 9)).below hb5 (by have := HSZ.out; omega))
            have HS5 := hid (Sv.below (Sv.alloc HS4.out HZ4.out (.cells #[encStr x] 9)) hb5)
            have HW5 := hid ((HW4.out.alloc HW4.out.size (.cells #[encStr x] 9)).trans (hb5.mono (by have := HSZ.out; omega)))
            have HZ5 := hid (show w2.heap.size ≤ w5.heap.size from Nat.le_trans HZ4.out (Nat.le_trans (by simp [World.size_alloc]) hb5.size))
            have HO5 := hid (show Ot w5 w2.heap.size (.slice A5 m5 c5) (kept ((sg [] l).take (k + 1))) by rw [HK.out]; exact hown')
            clear hown' hb5 hP5
            go_wp2
            go_roundw
            case rel =>
              refine ⟨k + 1, by omega, by go_num, ⟨.slice A5 m5 c5, hid (OwnV.aside HO5.out (by have := HSZ.out; show w.heap.size + 1 < _; omega) _), hid (HP5.out.put 0 (.slice A5 m5 c5))⟩, hid (HR5.out.far (by show w.heap.size ≠ w.heap.size + 1; omega) _), hid (Sv.aside HS5.out (fun ad ha => ?_) _), hid (HW5.out.setCell (by show w.heap.size ≤ w.heap.size + 1; omega) _), hid (by simpa using HZ5.out), hid ?_⟩
              · cases ha
                rw [HA0.out]
                show w.heap.size + 2 ≠ w.heap.size + 1
                omega
              · rw [HK.out, longP_append, HG.out]
                have := H24.out
                simp [longP]; omega
            case measure => simp [RowKit.intOf]; omega
      · have hfull : (sg [] l).take k = sg [] l := List.take_of_length_le (by have := HS.out.size; omega)
        rw [hfull] at HO HG
        obtain ⟨A1, c1, rfl, hst1, hA1⟩ := Ot.is HO.out
        have HA1 := hid hA1
        clear hA1
        have HST1 := hid hst1
        obtain ⟨m, hm⟩ : ∃ m, (kept (sg [] l)).length = m := ⟨_, rfl⟩
        have HM := hid hm
        have HGL := hid (show longP (ptsOf l) = false from HG.out)
        have p0 : wr.cell? ⟨w.heap.size + 1, 0, none⟩ = some (.slice A1 m c1) := by rw [← hm]; exact HP.out.cell 0
        have p1 : wr.cell? ⟨w.heap.size + 1, 1, none⟩ = some (.bool false) := HP.out.cell 1
        have e1 := HP.out.free 1
        have r0 : wr.cell? ⟨w.heap.size, 0, none⟩ = some (.slice none 0 0) := HR.out.cell 0
        have r1 : wr.cell? ⟨w.heap.size, 1, none⟩ = some (.bool false) := HR.out.cell 1
        have f0 := HR.out.free 0
        have f1 := HR.out.free 1
        clear hfull hst1 hm
        by_cases hm0 : m = 0
        · subst hm0
          go_wp2
          have hF := (((HR.out.far (p := ⟨w.heap.size + 1, 1, none⟩) (by show w.heap.size ≠ w.heap.size + 1; omega) (.bool false)).put 0 (.slice A1 0 c1)).put 1 (.bool false))
          have k0 : _ = some (Value.slice A1 0 c1) := hF.cell 0
          have k1 : _ = some (Value.bool false) := hF.cell 1
          refine bodyPost_ret (v := .tuple #[.agg #[.slice A1 0 c1, .bool false], .nilIface]) (by simp [results, Tryd.results8, go_sem, k0, k1]) rfl ?_
          have hst : St wr wr.heap.size A1 0 c1 (ptsOf l) := by have := HST1.out; rwa [HM.out] at this
          have hfar : ∀ ad, A1 = some ad → ad.block ≠ w.heap.size + 1 ∧ ad.block ≠ w.heap.size := fun ad h => by have h1 := HA1.out ad h; have h2 := HSZ.out; omega
          have hp := prsO_of (S := S) (w := w) (w' := ((wr.setCell ⟨w.heap.size + 1, 1, none⟩ (.bool false)).setCell ⟨w.heap.size, 0, none⟩ (.slice A1 0 c1)).setCell ⟨w.heap.size, 1, none⟩ (.bool false)) (A := A1) (n := 0) (c := c1) (ve := .nilIface) HC.out HGL.out rfl
            (by have := Sv.aside (Sv.aside (Sv.aside hst (p := ⟨w.heap.size + 1, 1, none⟩) (fun ad h => (hfar ad h).1) (.bool false)) (p := ⟨w.heap.size, 0, none⟩) (fun ad h => (hfar ad h).2) (.slice A1 0 c1)) (p := ⟨w.heap.size, 1, none⟩) (fun ad h => (hfar ad h).2) (.bool false); simpa using this)
            (((HW.out.setCell (p := ⟨w.heap.size + 1, 1, none⟩) (by show w.heap.size ≤ w.heap.size + 1; omega) _).setCell (p := ⟨w.heap.size, 0, none⟩) (Nat.le_refl _) _).setCell (p := ⟨w.heap.size, 1, none⟩) (Nat.le_refl _) _)
          have e : (decide (0 < (ptsOf l).length) && l.getLast? == some 47) = false := by rw [show (ptsOf l).length = 0 from HM.out]; rfl
          rw [e] at hp
          exact hp
        · have g0 : decide ((0 : Int) < (m : Int)) = true := decide_eq_true (by omega)
          go_wp2_with fail
          refine (hasSuffix_any s sl1 wr ?hs).mono ?_
          case hs => have := (chk_fine HC.out).2.1; rw [← HL.out, ← Lib.size_eq] at this; omega
          rw [show Lib.hasSuffix s.data.toList sl1.data.toList = (l.getLast? == some 47) by rw [HL.out]; exact suffix_sl l]
          obtain ⟨b, hb⟩ : ∃ b, (l.getLast? == some 47) = b := ⟨_, rfl⟩
          rw [hb]
          rintro e w5 ⟨rfl, hw⟩
          rw [hw]
          clear hw
          have HB := hid hb
          clear hb
          go_wp2
          have hF := (((HR.out.far (p := ⟨w.heap.size + 1, 1, none⟩) (by show w.heap.size ≠ w.heap.size + 1; omega) (.bool b)).put 0 (.slice A1 m c1)).put 1 (.bool b))
          have k0 : _ = some (Value.slice A1 m c1) := hF.cell 0
          have k1 : _ = some (Value.bool b) := hF.cell 1
          refine bodyPost_ret (v := .tuple #[.agg #[.slice A1 m c1, .bool b], .nilIface]) (by simp [results, Tryd.results8, go_sem, k0, k1]) rfl ?_
          have hst : St wr wr.heap.size A1 m c1 (ptsOf l) := by have := HST1.out; rwa [HM.out] at this
          have hfar : ∀ ad, A1 = some ad → ad.block ≠ w.heap.size + 1 ∧ ad.block ≠ w.heap.size := fun ad h => by have h1 := HA1.out ad h; have h2 := HSZ.out; omega
          have hp := prsO_of (S := S) (w := w) (w' := ((wr.setCell ⟨w.heap.size + 1, 1, none⟩ (.bool b)).setCell ⟨w.heap.size, 0, none⟩ (.slice A1 m c1)).setCell ⟨w.heap.size, 1, none⟩ (.bool b)) (A := A1) (n := m) (c := c1) (ve := .nilIface) HC.out HGL.out rfl
            (by have := Sv.aside (Sv.aside (Sv.aside hst (p := ⟨w.heap.size + 1, 1, none⟩) (fun ad h => (hfar ad h).1) (.bool b)) (p := ⟨w.heap.size, 0, none⟩) (fun ad h => (hfar ad h).2) (.slice A1 m c1)) (p := ⟨w.heap.size, 1, none⟩) (fun ad h => (hfar ad h).2) (.bool b); simpa using this)
            (((HW.out.setCell (p := ⟨w.heap.size + 1, 1, none⟩) (by show w.heap.size ≤ w.heap.size + 1; omega) _).setCell (p := ⟨w.heap.size, 0, none⟩) (Nat.le_refl _) _).setCell (p := ⟨w.heap.size, 1, none⟩) (Nat.le_refl _) _)
          have e : (decide (0 < (ptsOf l).length) && l.getLast? == some 47) = b := by rw [show (ptsOf l).length = m from HM.out]; rw [HB.out, decide_eq_true (by omega)]; rfl
          rw [e] at hp
          exact hp
  · have HC := hid hc
    clear hc
    go_wp2
    obtain ⟨h1, h2, h3⟩ := prs_bad HC.out (by omega)
    refine bodyPost_ret (v := .tuple #[.agg #[.slice none 0 0, .bool false], .iface 106 (.pointer (some (S j)))]) (by simp [results, Tryd.results8, go_sem]) rfl ?_
    refine ⟨none, 0, 0, _, by rw [h3], by rw [h1]; exact EV.err j hj, by rw [h2]; exact Sv.empty _ _, ?_⟩
    repeat (first | exact Below.refl _ _ | refine Below.setCell ?_ (Nat.le_refl _) _ | refine Below.alloc ?_ (Nat.le_refl _) _)
end Go.Proofs.YtjoajjndopfbmaaDoor
