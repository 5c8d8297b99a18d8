/- Package node: New, Put, Del. -/
import Derived.Test.YtklplmldhhlgiaaDoorGNeD
namespace Go.Proofs.YtklplmldhhlgiaaDoor
open Go.RowKit Go.Maps Go.Sort

theorem turned_from {R' : World → (Nat → Prop) → Prop} {w W w' : World} {F : Nat → Prop} (hb : Below w.heap.size w W) (h : Turned R' W F w') : Turned R' w F w' := by
  obtain ⟨F', h1, h2, h3⟩ := h
  refine ⟨F', h1, (Only.of_below hb).trans h2 (fun _ h => .inl h), fun k hk => ?_⟩
  rcases h3 k hk with h | h
  · exact .inl h
  · have := hb.size
    exact .inr (by omega)
section
variable {w : World} {g : Nat} {T : Tab} {F : Nat → Prop}
/-- nothing was turned -/
theorem TabN.idle {w' : World} (h : TabN w g T F) (hb : Below w.heap.size w w') : Turned (fun w F => TabN w g T F) w F w' :=
  ⟨F, h.on hb, Only.of_below hb, fun _ hk => .inl hk⟩
set_option linter.unusedSimpArgs false in
set_option maxRecDepth 100000 in
set_option maxHeartbeats 4000000 in
theorem tabNew_any (S : Nat → Addr) (k : Int) (hS : Sent w S) (h : TabN w g T F) :
    Calls Tryd.prog 9 #[.pointer (some ⟨g, 0, none⟩), .int .i64 k] w fun r w' => (∃ v, r = .returned (.tuple #[.int .i64 (if newE T k = 0 then T.last + 1 else 0), v]) ∧ EV S (newE T k) v) ∧ Turned (fun w F => TabN w g (newT T k) F) w F w' := by
  have HH := hid h
  have HS := hid hS
  have HId := hid (fun w' (hb : Below w.heap.size w w') => h.idle hb)
  obtain ⟨mb, D, hbx, _, _, _⟩ := h.box
  have c1 := hbx.cell 1
  simp at c1
  have hlen := h.is.len
  have hlast := h.is.last
  clear hbx hS h
  rcases hk : okK k with _ | _
  · have e1 : newE T k = 103 := by unfold newE; rw [hk]; rfl
    have e2 : newT T k = T := by unfold newT; rw [if_neg (by rw [e1]; decide)]
    rw [e1, e2, if_neg (by decide)]
    have HK := hid hk
    have g1 : w.cell? ⟨0, 0, none⟩ = some (.iface 104 (.pointer (some (S 2)))) := HS.out.at_ 2 (by decide)
    clear e1 e2 hk hlen hlast c1
    go_enter Tryd.func9, Tryd.ntmps9
    go_wp2_with fail
    refine (isKind_any k _).mono ?_
    rw [HK.out]
    rintro e w1 ⟨rfl, rfl⟩
    go_wp2
    go_region
    all_goals
      go_wp2
      go_ret2
      exact ⟨⟨_, rfl, EV.err 2 (by decide)⟩, HId.out _ (by repeat (first | exact Below.refl _ _ | refine Below.drew ?_))⟩
  · have HK := hid hk
    by_cases hl : 512 ≤ T.L.length
    · have e1 : newE T k = 104 := by unfold newE; rw [hk, if_pos rfl, if_pos (.inl hl)]
      have e2 : newT T k = T := by unfold newT; rw [if_neg (by rw [e1]; decide)]
      rw [e1, e2, if_neg (by decide)]
      have g1 : w.cell? ⟨1, 0, none⟩ = some (.iface 104 (.pointer (some (S 3)))) := HS.out.at_ 3 (by decide)
      have hli : (512 : Int) ≤ T.L.length := by omega
      clear e1 e2 hk hlen hlast c1 hl
      go_enter Tryd.func9, Tryd.ntmps9
      go_wp2_with fail
      refine (isKind_any k _).mono ?_
      rw [HK.out]
      rintro e w1 ⟨rfl, rfl⟩
      go_wp2_with fail
      refine (tabLen_any HH.out).mono ?_
      rintro e w1 ⟨rfl, rfl⟩
      go_wp2
      go_region
      all_goals
        go_wp2
        go_ret2
        exact ⟨⟨_, rfl, EV.err 3 (by decide)⟩, HId.out _ (by repeat (first | exact Below.refl _ _ | refine Below.drew ?_))⟩
    · have hli : ¬ (512 : Int) ≤ T.L.length := by omega
      by_cases hm : 16777215 ≤ T.last
      · have e1 : newE T k = 104 := by unfold newE; rw [hk, if_pos rfl, if_pos (.inr hm)]
        have e2 : newT T k = T := by unfold newT; rw [if_neg (by rw [e1]; decide)]
        rw [e1, e2, if_neg (by decide)]
        have g1 : w.cell? ⟨1, 0, none⟩ = some (.iface 104 (.pointer (some (S 3)))) := HS.out.at_ 3 (by decide)
        clear e1 e2 hk hlen hlast hl
        go_enter Tryd.func9, Tryd.ntmps9
        go_wp2_with fail
        refine (isKind_any k _).mono ?_
        rw [HK.out]
        rintro e w1 ⟨rfl, rfl⟩
        go_wp2_with fail
        refine (tabLen_any HH.out).mono ?_
        rintro e w1 ⟨rfl, rfl⟩
        go_wp2
        go_region
        all_goals
          go_wp2
          go_ret2
          exact ⟨⟨_, rfl, EV.err 3 (by decide)⟩, HId.out _ (by repeat (first | exact Below.refl _ _ | refine Below.drew ?_))⟩
      · have e1 : newE T k = 0 := by unfold newE; rw [hk, if_pos rfl, if_neg (by omega)]
        have e2 : newT T k = ⟨putL T.L (newN (T.last + 1) k), max T.last (newN (T.last + 1) k).id⟩ := by
          unfold newT
          rw [if_pos e1]
          show (⟨_, T.last + 1⟩ : Tab) = ⟨_, max T.last (T.last + 1)⟩
          rw [show max T.last (T.last + 1) = T.last + 1 by omega]
        rw [e1, e2, if_pos rfl]
        have hfit : fitsN (newN (T.last + 1) k) = true := by
          have h3 : k = 1 ∨ k = 2 ∨ k = 3 := by unfold okK at hk; simp at hk; omega
          rcases h3 with rfl | rfl | rfl <;> (unfold fitsN newN; simp; omega)
        have HFit := hid hfit
        have HEm := hid (emptyN_any (T.last + 1) k hk w)
        have hnid : (newN (T.last + 1) k).id = T.last + 1 := rfl
        obtain ⟨nd, hnd⟩ : ∃ nd, newN (T.last + 1) k = nd := ⟨_, rfl⟩
        rw [hnd] at HFit HEm hnid
        rw [hnd]
        obtain ⟨n0, n1, n2, n3, n4, n5⟩ := nd
        simp only at hnid
        subst hnid
        have hL2 : T.L.length < 512 := by omega
        have HL2 := hid hL2
        clear e1 e2 hk hfit hnd hl
        go_enter Tryd.func9, Tryd.ntmps9
        go_wp2_with fail
        refine (isKind_any k _).mono ?_
        rw [HK.out]
        rintro e w1 ⟨rfl, rfl⟩
        go_wp2_with fail
        refine (tabLen_any HH.out).mono ?_
        rintro e w1 ⟨rfl, rfl⟩
        go_wp2_with fail
        refine HEm.out.mono ?_
        rintro e w1 ⟨rfl, hb1⟩
        have HB1 := hid (hb1.alloc hb1.size (.cells #[.int .i64 (T.last + 1), .int .i64 n1, .int .i64 n2, .int .i64 n3, encStr n4, .int .i64 n5] 30))
        have HSet := hid (tabSet_any (⟨T.last + 1, n1, n2, n3, n4, n5⟩ : Nd) (HH.out.on HB1.out) HFit.out (.inr HL2.out))
        have hw1 := hb1.size
        clear hb1
        go_wp2_with fail
        refine HSet.out.mono ?_
        rintro e w2 ⟨⟨v, rfl⟩, ht⟩
        have HT := hid (turned_from HB1.out ht)
        have hk2 : Blk w2 w1.heap.size 30 #[.int .i64 (T.last + 1), .int .i64 n1, .int .i64 n2, .int .i64 n3, encStr n4, .int .i64 n5] := by
          obtain ⟨F', _, ho, _⟩ := ht
          refine (Blk.new w1 _ _).same (ho.block _ (by simp) (fun hF => ?_))
          have := HH.out.lt _ hF
          omega
        have b0 := hk2.cell 0
        simp at b0
        clear ht hk2 hw1
        go_wp2
        go_ret2
        exact ⟨⟨_, rfl, EV.fine⟩, HT.out⟩
set_option linter.unusedSimpArgs false in
set_option maxRecDepth 100000 in
set_option maxHeartbeats 4000000 in
theorem tabDel_any (id : Int) (h : TabN w g T F) (hI : I64 id) :
    Calls Tryd.prog 15 #[.pointer (some ⟨g, 0, none⟩), .int .i64 id] w fun r w' => r = .returned (.bool (isInN T.L id)) ∧ Turned (fun w F => TabN w g (delT T id) F) w F w' := by
  obtain ⟨mb, D, hbx, hM, hT, hap⟩ := h.box
  obtain ⟨x, _, hq⟩ := MapAt.look hT hI
  obtain ⟨x0, x1, x2, x3, x4, x5⟩ := x
  have hlk : (Instr.lookup 25 (.map mb) (.int .i64 id) true).run Tryd.prog w = .ok (.tuple #[.agg #[.int .i64 x0, .int .i64 x1, .int .i64 x2, .int .i64 x3, encStr x4, .int .i64 x5], .bool (isInN T.L id)]) w := hq _ _ hM
  have hMa : MapAt (w.alloc (.cells #[.int .i64 x0, .int .i64 x1, .int .i64 x2, .int .i64 x3, encStr x4, .int .i64 x5] 30)) mb D := hM.on ((Below.refl _ _).alloc (Nat.le_refl _) _)
  obtain ⟨w2, hrun, hM2, hg2⟩ := hMa.drop hI
  have ht := hM.tidy
  have c0 := hbx.cell 0
  have d0 := (hbx.alloc (.cells #[.int .i64 x0, .int .i64 x1, .int .i64 x2, .int .i64 x3, encStr x4, .int .i64 x5] 30)).cell 0
  simp at c0 d0
  have hB2 : Blk w2 g 27 #[.map mb, .int .i64 T.last] := (hbx.alloc (.cells #[.int .i64 x0, .int .i64 x1, .int .i64 x2, .int .i64 x3, encStr x4, .int .i64 x5] 30)).grown hg2 (fun e => (hap g e.symm).1 rfl)
  have HFin := hid (show Turned (fun w F => TabN w g (delT T id) F) w F w2 from
    turned_from ((Below.refl _ _).alloc (Nat.le_refl _) (.cells #[.int .i64 x0, .int .i64 x1, .int .i64 x2, .int .i64 x3, encStr x4, .int .i64 x5] 30)) ⟨F, ⟨⟨mb, D.del (kz id), hB2, hM2, hT.del h.is.ris ht id, hap⟩, h.own, fun k hk => Nat.lt_of_lt_of_le (h.lt k hk) (Nat.le_trans (by simp) hg2.size), h.is.del id⟩,
      ⟨hg2.os, hg2.tape, hg2.output, hg2.size, fun k hk hkF => hg2.block k hk (fun e => hkF (hap k e.symm).2)⟩, fun _ hk => .inl hk⟩)
  obtain ⟨bi, hbi⟩ : ∃ bi, isInN T.L id = bi := ⟨_, rfl⟩
  rw [hbi] at hlk
  rw [hbi]
  clear hM hT hap hq hMa hM2 hg2 ht hB2 hbx hbi h
  go_enter Tryd.func15, Tryd.ntmps15
  go_wp2
  go_ret
  exact ⟨rfl, HFin.out⟩
set_option linter.unusedSimpArgs false in
set_option maxRecDepth 100000 in
set_option maxHeartbeats 4000000 in
theorem tabPut_any (S : Nat → Addr) (e : Nd) (hS : Sent w S) (h : TabN w g T F) (he : NdOk e) :
    Calls Tryd.prog 12 #[.pointer (some ⟨g, 0, none⟩), ndV e] w fun r w' => (∃ v, r = .returned v ∧ EV S (putE T e) v) ∧ Turned (fun w F => TabN w g (putT T e) F) w F w' := by
  have hi := he.t
  have hI : I64 e.id := ⟨he.id0, he.id1⟩
  obtain ⟨id, ek, el, es, et, ep⟩ := e
  have hb0 : Below w.heap.size w (w.alloc (.cells #[.int .i64 id, .int .i64 ek, .int .i64 el, .int .i64 es, encStr et, .int .i64 ep] 30)) := (Below.refl _ _).alloc (Nat.le_refl _) _
  have HV := hid (nodeValid_any S ⟨id, ek, el, es, et, ep⟩ (w.alloc (.cells #[.int .i64 id, .int .i64 ek, .int .i64 el, .int .i64 es, encStr et, .int .i64 ep] 30)) (hS.on hb0) hi)
  have HH := hid h
  have HS := hid hS
  have HB := hid hb0
  have HBk := hid (Blk.new w 30 #[.int .i64 id, .int .i64 ek, .int .i64 el, .int .i64 es, encStr et, .int .i64 ep])
  have HId := hid (fun w' (hb : Below w.heap.size w w') => h.idle hb)
  simp only at hI
  clear hS hb0 hi he
  rcases hf : fitsN ⟨id, ek, el, es, et, ep⟩ with _ | _
  · have e1 : putE T ⟨id, ek, el, es, et, ep⟩ = 103 := by unfold putE; rw [if_neg (by rw [hf]; decide)]
    have e2 : putT T ⟨id, ek, el, es, et, ep⟩ = T := by unfold putT; rw [if_neg (by rw [e1]; decide)]
    rw [e1, e2]
    rw [vldN_no hf] at HV
    clear e1 e2 hf h hI
    go_enter Tryd.func12, Tryd.ntmps12
    go_wp2_with fail
    refine HV.out.mono ?_
    rintro e w1 ⟨⟨v, rfl, hv⟩, hb⟩
    have HB1 := hid (HB.out.trans (hb.mono HB.out.size))
    obtain ⟨j, hj, hc, rfl⟩ := hv.one (by decide)
    have HEv := hid hv
    clear hb hc hv
    go_wp2
    go_ret
    exact ⟨⟨_, rfl, HEv.out⟩, HId.out _ HB1.out⟩
  · rw [vldN_yes hf] at HV
    have HF := hid hf
    clear hf
    obtain ⟨mb, D, hbx, hM, hT, hap⟩ := h.box
    obtain ⟨x, _, hq⟩ := MapAt.look hT hI
    have HQ := hid hq
    have HBx := hid hbx
    have HM := hid hM
    obtain ⟨x0, x1, x2, x3, x4, x5⟩ := x
    have hlen := h.is.len
    clear hbx hM hT hap hq h
    go_enter Tryd.func12, Tryd.ntmps12
    go_wp2_with fail
    refine HV.out.mono ?_
    rintro e w1 ⟨⟨v, rfl, hv⟩, hb⟩
    obtain rfl := hv.nil
    have hb1 := HB.out.trans (hb.mono HB.out.size)
    have HB1 := hid hb1
    have hk1 := HBk.out.below hb HBk.out.lt
    have HBk1 := hid hk1
    have b0 := hk1.cell 0
    have b1 := hk1.cell 1
    have b2 := hk1.cell 2
    have b3 := hk1.cell 3
    have b4 := hk1.cell 4
    have b5 := hk1.cell 5
    simp at b0 b1 b2 b3 b4 b5
    have c0 := (HBx.out.below hb1 HBx.out.lt).cell 0
    simp at c0
    have hlk : (Instr.lookup 25 (.map mb) (.int .i64 id) true).run Tryd.prog w1.drew = .ok (.tuple #[.agg #[.int .i64 x0, .int .i64 x1, .int .i64 x2, .int .i64 x3, encStr x4, .int .i64 x5], .bool (isInN T.L id)]) w1.drew := HQ.out _ _ (HM.out.on hb1.drew)
    obtain ⟨bi, hbi⟩ : ∃ bi, isInN T.L id = bi := ⟨_, rfl⟩
    rw [hbi] at hlk
    have HBi := hid hbi
    have hl1 : w.heap.size < w1.heap.size := hk1.lt
    have hl2 : g < w1.heap.size := (HBx.out.below hb1 HBx.out.lt).lt
    have hlk2 : (Instr.lookup 25 (.map mb) (.int .i64 id) true).run Tryd.prog (w1.alloc (.cells #[.int .i64 0, .int .i64 0, .int .i64 0, .int .i64 0, .string ⟨#[]⟩, .int .i64 0] 30)).drew = .ok (.tuple #[.agg #[.int .i64 x0, .int .i64 x1, .int .i64 x2, .int .i64 x3, encStr x4, .int .i64 x5], .bool (isInN T.L id)]) (w1.alloc (.cells #[.int .i64 0, .int .i64 0, .int .i64 0, .int .i64 0, .string ⟨#[]⟩, .int .i64 0] 30)).drew := HQ.out _ _ (HM.out.on (hb1.alloc hb1.size _).drew)
    rw [HBi.out] at hlk2
    clear hb hv hb1 hk1 hbi
    go_upto_region 4 with fail
    go_region
    all_goals
      have HB2 := hid (show Below w.heap.size w (w1.alloc (.cells #[.int .i64 x0, .int .i64 x1, .int .i64 x2, .int .i64 x3, encStr x4, .int .i64 x5] 30)).drew from (HB1.out.alloc HB1.out.size _).drew)
      have HH2 := hid (HH.out.on HB2.out)
      have HLen := hid (tabLen_any HH2.out)
      cases bi
      · by_cases hfu : 512 ≤ T.L.length
        · have e1 : putE T ⟨id, ek, el, es, et, ep⟩ = 104 := by unfold putE; rw [if_pos HF.out, if_pos ⟨HBi.out, hfu⟩]
          have e2 : putT T ⟨id, ek, el, es, et, ep⟩ = T := by unfold putT; rw [if_neg (by rw [e1]; decide)]
          have HE1 := hid e1
          have HE2 := hid e2
          have g1 : (w1.alloc (.cells #[.int .i64 x0, .int .i64 x1, .int .i64 x2, .int .i64 x3, encStr x4, .int .i64 x5] 30)).drew.cell? ⟨1, 0, none⟩ = some (.iface 104 (.pointer (some (S 3)))) := (HS.out.on HB2.out).at_ 3 (by decide)
          have hli : (512 : Int) ≤ T.L.length := by omega
          clear e1 e2 hlk hlk2 c0 HH2 HH HM b0 b1 b2 b3 b4 b5 hfu
          go_wp2_with fail
          refine HLen.out.mono ?_
          rintro e w2 ⟨rfl, rfl⟩
          go_wp2
          go_ret
          exact ⟨⟨_, rfl, by rw [HE1.out]; exact EV.err 3 (by decide)⟩, by rw [HE2.out]; exact HId.out _ HB2.out⟩
        · have e1 : putE T ⟨id, ek, el, es, et, ep⟩ = 0 := by unfold putE; rw [if_pos HF.out, if_neg (by rintro ⟨_, h⟩; omega)]
          have hli : ¬ (512 : Int) ≤ T.L.length := by omega
          have e2 : putT T ⟨id, ek, el, es, et, ep⟩ = ⟨putL T.L ⟨id, ek, el, es, et, ep⟩, max T.last id⟩ := by unfold putT; rw [if_pos e1]
          have HE1 := hid e1
          have HE2 := hid e2
          have HSet := hid (tabSet_any (⟨id, ek, el, es, et, ep⟩ : Nd) HH2.out HF.out (.inr (by omega)))
          clear e1 e2 hlk hlk2 c0 HH2 HH HM
          go_wp2_with fail
          refine HLen.out.mono ?_
          rintro e w2 ⟨rfl, rfl⟩
          go_wp2_with fail
          refine HSet.out.mono ?_
          rintro e w2 ⟨⟨v, rfl⟩, ht⟩
          have HT := hid (turned_from HB2.out ht)
          clear ht
          go_wp2
          go_ret
          exact ⟨⟨_, rfl, by rw [HE1.out]; exact EV.fine⟩, by rw [HE2.out]; exact HT.out⟩
      · have e1 : putE T ⟨id, ek, el, es, et, ep⟩ = 0 := by unfold putE; rw [if_pos HF.out, if_neg (by rintro ⟨h, _⟩; have := HBi.out; rw [this] at h; cases h)]
        have e2 : putT T ⟨id, ek, el, es, et, ep⟩ = ⟨putL T.L ⟨id, ek, el, es, et, ep⟩, max T.last id⟩ := by unfold putT; rw [if_pos e1]
        have HE1 := hid e1
        have HE2 := hid e2
        have HSet := hid (tabSet_any (⟨id, ek, el, es, et, ep⟩ : Nd) HH2.out HF.out (.inl HBi.out))
        clear e1 e2 hlk hlk2 c0 HH2 HH HM
        go_wp2_with fail
        refine HSet.out.mono ?_
        rintro e w2 ⟨⟨v, rfl⟩, ht⟩
        have HT := hid (turned_from HB2.out ht)
        clear ht
        go_wp2
        go_ret
        exact ⟨⟨_, rfl, by rw [HE1.out]; exact EV.fine⟩, by rw [HE2.out]; exact HT.out⟩
end
end Go.Proofs.YtklplmldhhlgiaaDoor
