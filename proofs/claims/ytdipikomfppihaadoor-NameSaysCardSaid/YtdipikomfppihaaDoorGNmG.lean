/- The document's Sort: names put in, one by one. -/
import Derived.Test.YtdipikomfppihaaDoorGNmF
namespace Go.Proofs.YtdipikomfppihaaDoor
open Go.RowKit Go.Shelf Go.Sort

theorem Sv.cut {w : World} {B n c : Nat} {A : Option Addr} {xs : List Value} (h : Sv w B A n c xs) {k : Nat} (hk : k ≤ n) : Sv w B (if c = k then A else A.map (·.add k)) (n - k) (c - k) (xs.drop k) := by
  refine ⟨by rw [List.length_drop, h.len], by have := h.cap; omega, by have := h.max; omega, ?_, ?_⟩
  · intro hA
    by_cases hc : c = k
    · omega
    · rw [if_neg hc] at hA
      rcases A with _ | ad
      · have := h.nil rfl; omega
      · simp at hA
  · intro ad hA hn
    have hcap := h.cap
    rw [if_neg (by omega)] at hA
    rcases A with _ | a0
    · simp at hA
    · simp only [Option.map_some, Option.some.injEq] at hA
      subst hA
      obtain ⟨h1, h2⟩ := h.at_ a0 rfl (by omega)
      refine ⟨by rw [add_block]; exact h1, fun j u hj => ?_⟩
      rw [List.getElem?_drop] at hj
      rw [add_add']
      exact h2 _ _ hj
theorem ris_insert {M : List Nam} {k : Nat} {x : Nam} (hM : Ris M) (h1 : ∀ j y, j < k → M[j]? = some y → y < x) (h2 : ∀ y, M[k]? = some y → x < y) : Ris (M.take k ++ [x] ++ M.drop k) := by
  have hd : ∀ y, y ∈ M.drop k → x < y := by
    intro y hy
    obtain ⟨j, hj⟩ := List.getElem?_of_mem hy
    rw [List.getElem?_drop] at hj
    rcases Nat.eq_zero_or_pos j with rfl | hp
    · exact h2 y hj
    · have hl := (List.getElem?_eq_some_iff.1 hj).1
      obtain ⟨z, hz⟩ : ∃ z, M[k]? = some z := ⟨M[k]'(by omega), List.getElem?_eq_getElem (by omega)⟩
      exact nam_lt_trans (h2 z hz) (ris_at hM hz hj (by omega))
  have ht : ∀ y, y ∈ M.take k → y < x := by
    intro y hy
    obtain ⟨j, hj⟩ := List.getElem?_of_mem hy
    have hl := (List.getElem?_eq_some_iff.1 hj).1
    rw [List.length_take] at hl
    rw [List.getElem?_take, if_pos (by omega)] at hj
    exact h1 j y (by omega) hj
  unfold Ris
  rw [List.append_assoc, List.pairwise_append]
  refine ⟨List.Pairwise.take hM, ?_, ?_⟩
  · rw [List.singleton_append, List.pairwise_cons]
    exact ⟨hd, List.Pairwise.drop hM⟩
  · intro a ha b hb
    rw [List.singleton_append, List.mem_cons] at hb
    rcases hb with rfl | hb
    · exact ht a ha
    · exact nam_lt_trans (ht a ha) (hd b hb)
theorem mem_insert {M : List Nam} {k : Nat} {x y : Nam} : y ∈ M.take k ++ [x] ++ M.drop k ↔ y ∈ M ∨ y = x := by
  rw [List.append_assoc, List.mem_append, List.singleton_append, List.mem_cons]
  constructor
  · rintro (h | h | h)
    · exact .inl (List.mem_of_mem_take h)
    · exact .inr h
    · exact .inl (List.mem_of_mem_drop h)
  · rintro (h | h)
    · rw [← List.take_append_drop k M, List.mem_append] at h
      rcases h with h | h
      · exact .inl h
      · exact .inr (.inr h)
    · exact .inr (.inl h)
/-- what the document's Sort has made of the first names -/
def Sofar (l : List Nam) (i : Nat) (M : List Nam) : Prop := Ris M ∧ (∀ x, x ∈ M ↔ x ∈ l.take i) ∧ M.length ≤ i
theorem Sofar.skip {l M : List Nam} {i k : Nat} {x : Nam} (h : Sofar l i M) (hx : l[i]? = some x) (hk : M[k]? = some x) : Sofar l (i + 1) M :=
  ⟨h.1, fun y => by
    rw [takeN hx, List.mem_append, h.2.1 y]
    refine ⟨.inl, ?_⟩
    rintro (e | e)
    · exact e
    · simp at e
      subst e
      exact (h.2.1 y).1 (List.mem_of_getElem? hk), by have := h.2.2; omega⟩
theorem Sofar.put {l M : List Nam} {i k : Nat} {x : Nam} (h : Sofar l i M) (hx : l[i]? = some x) (h1 : ∀ j y, j < k → M[j]? = some y → y < x) (h2 : ∀ y, M[k]? = some y → x < y) : Sofar l (i + 1) (M.take k ++ [x] ++ M.drop k) :=
  ⟨ris_insert h.1 h1 h2, fun y => by
    rw [mem_insert, takeN hx, List.mem_append, h.2.1 y]
    simp, by
    have := h.2.2
    simp only [List.length_append, List.length_take, List.length_drop, List.length_cons, List.length_nil]
    omega⟩
theorem Ot.lower {w : World} {B B' : Nat} {v : Value} {l : List Nam} (h : Ot w B v l) (hB : B' ≤ B) : Ot w B' v l := by
  refine ⟨h.1, ?_⟩
  rcases h.2 with e | ⟨g, cap, cur, e, hb, hr⟩
  · exact .inl e
  · exact .inr ⟨g, cap, cur, e, Nat.le_trans hB hb, hr⟩
theorem step_append_tx {w : World} {ops : Array Oper} {o : Oper} {a : Act} {K : Act → World → Prop} {Q : Exit → Act → World → Prop} {E : Prop} (hgd : o.guard = none) (s x : Operand)
    (ho : o.op = .call { callee := .builtin .append, args := #[s, x], argTypes := #[22, 22] }) (B B' : Nat) (v : Value) (l m : List Nam) (hs : a.eval s = v) (hown : Ot w B v l) (ad : Addr) (n c : Nat) (hx : a.eval x = .slice (some ad) n c)
    (hsl : St w B' (some ad) n c m) (hlen : l.length + n ≤ 1000000) (hB : B ≤ w.heap.size) (h : ∀ v' w', Ot w' B v' (l ++ m) → Below B w w' → K (a.put o.dst v') w') : if Region.wanted o (yielded ops a.tmps) = true then Oper.wp Tryd.prog o a w K Q else E := by
  obtain ⟨i0, hi, hz0, hz1, hz2⟩ := info_parts Tryd.infoS
  have hw : Region.wanted o (yielded ops a.tmps) = true := by simp [Region.wanted, hgd]
  rw [if_pos hw]
  refine wp_append_own w s x 22 ho B 9 i0 (.string ⟨#[]⟩) 1 16 Tryd.underlying22 hi hz0 hz1 hz2 rfl (by decide) v _ _ hs hown ad n c (Tx m) hx (by rw [Tx_len, hsl.size]; omega) ?_ Tx_one (by rw [Tx_len]; unfold maxLen; omega) (by rw [Tx_len]; omega) hB ?_
  · intro j u hu
    have hj : j < (Tx m).length := (List.getElem?_eq_some_iff.1 hu).1
    exact (hsl.at_ ad rfl (by have := hsl.len; omega)).2 j u hu
  · intro v' w' h1 h2 _
    refine h v' w' ?_ ((Below.refl _ _).grown h2 hB (fun k hk => (hown.lt k hk).1))
    unfold Ot OwnV
    rw [Tx_append, List.length_append, Tx_len m, hsl.size]
    exact h1
set_option linter.unusedSimpArgs false in
set_option maxHeartbeats 1000000 in
set_option maxRecDepth 100000 in
theorem refSort_any (A : Option Addr) (n c B : Nat) (l : List Nam) (w : World) (h : St w B A n c l) (hB : B ≤ w.heap.size) (hn : n ≤ 10000) :
    Calls Tryd.prog 7 #[.slice A n c] w (MadeV 9 w (Tx (srt l))) := by
  have HS := hid h
  have HBB := hid hB
  clear h hB
  go_enter Tryd.func7, Tryd.ntmps7
  go_wp2
  go_loopw [3, 4] (fun v i wr => ∃ k : Nat, k ≤ n ∧ i = .int .i64 (k : Int) ∧ Hid (∃ M, Ot wr w.heap.size v M ∧ Sofar l k M) ∧ Hid (Below w.heap.size w wr)) (fun _ i _ => n - (intOf i).toNat)
  case atStart => exact ⟨0, Nat.zero_le _, rfl, ⟨[], OwnV.nil _ _ _, by simp [Ris], by simp, Nat.le_refl _⟩, Below.refl _ _⟩
  case round =>
    rename World => w5
    obtain ⟨i, hi, rfl, HO1, HB1⟩ := hrel
    by_cases hlt : i < n
    · obtain ⟨ad, x, rfl, hbl, hx, hc⟩ := St.at (Sv.below HS.out (HB1.out.mono HBB.out)) hlt
      have HX := hid hx
      obtain ⟨M, hM, hso⟩ := HO1.out
      obtain ⟨A3, c3, hv, hst, hbA⟩ := Ot.is hM
      have HML := hid (show M.length ≤ 10000 from by have := hso.2.2; omega)
      obtain ⟨m, hm⟩ : ∃ m, M.length = m := ⟨_, rfl⟩
      rw [hm] at hv hst HML
      subst hv
      have HM := hid hm
      have HST := hid hst
      have HSO := hid hso
      have HMO := hid hM
      have hmx : m ≤ 10000 := HML.out
      clear hx hbl hM hst hbA hso hm HO1 HML
      go_wp2
      go_loopw [5] (fun i5 wx => ∃ k q : Nat, k ≤ m ∧ i5 = .int .i64 (k : Int) ∧ wx = w5.drewN q ∧ Hid (∀ j y, j < k → M[j]? = some y → y < x)) (fun i5 _ => m - (intOf i5).toNat)
      case atStart => exact ⟨0, 0, Nat.zero_le _, rfl, rfl, fun j y hj => absurd hj (Nat.not_lt_zero _)⟩
      case round =>
        obtain ⟨k, q, hk, rfl, rfl, HK⟩ := hrel
        have hways : (∃ y, M[k]? = some y ∧ y < x) ∨ (∃ y, M[k]? = some y ∧ y = x) ∨ (∃ y, M[k]? = some y ∧ x < y) ∨ k = m := by
          by_cases hkm : k = m
          · exact .inr (.inr (.inr hkm))
          · obtain ⟨y, hy⟩ : ∃ y, M[k]? = some y := ⟨M[k]'(by have := HM.out; omega), List.getElem?_eq_getElem (by have := HM.out; omega)⟩
            rcases nam_tri y x with e | e | e
            · exact .inl ⟨y, hy, e⟩
            · exact .inr (.inl ⟨y, hy, e⟩)
            · exact .inr (.inr (.inl ⟨y, hy, e⟩))
        rcases hways with ⟨y, hy, hyx⟩ | ⟨y, hy, hyx⟩ | ⟨y, hy, hyx⟩ | hkm
        · have hkm : k < m := by have := (List.getElem?_eq_some_iff.1 hy).1; have := HM.out; omega
          obtain ⟨ad3, y', hA3, _, hy', hc3⟩ := St.at HST.out hkm
          obtain rfl : y' = y := Option.some.inj (hy'.symm.trans hy)
          subst hA3
          have t1 : Op.bytesLess y' x = true := by rw [bl_lt]; exact decide_eq_true hyx
          have HK2 := hid (show ∀ j z, j < k + 1 → M[j]? = some z → z < x from fun j z hj hz => by
            by_cases e : j = k
            · subst e
              rw [hy] at hz
              obtain rfl := Option.some.inj hz
              exact hyx
            · exact HK.out j z (by omega) hz)
          clear hyx hy hy'
          go_wp2
          go_quiet (fail)
          go_wp2
          go_roundw
          case rel => exact ⟨k + 1, _, by omega, by go_num, rfl, HK2⟩
          case measure => simp [intOf]; omega
        · have hkm : k < m := by have := (List.getElem?_eq_some_iff.1 hy).1; have := HM.out; omega
          obtain ⟨ad3, y', hA3, _, hy', hc3⟩ := St.at HST.out hkm
          obtain rfl : y' = y := Option.some.inj (hy'.symm.trans hy)
          subst hA3
          have t1 : Op.bytesLess y' x = false := by rw [bl_lt]; exact decide_eq_false (by rw [hyx]; exact nam_lt_irrefl _)
          have t2 : (y' == x) = true := beq_iff_eq.2 hyx
          have HN := hid (show Sofar l (i + 1) M from HSO.out.skip HX.out (hyx ▸ hy))
          clear hyx hy hy'
          go_wp2
          go_quiet (fail)
          go_wp2
          go_quiet (fail)
          go_wp2
          refine ⟨⟨i + 1, by omega, by go_num, hid ⟨M, HMO.out, HN.out⟩, hid (below_drewN HB1.out _)⟩, ?_⟩
          simp [intOf]; omega
        · have hkm : k < m := by have := (List.getElem?_eq_some_iff.1 hy).1; have := HM.out; omega
          obtain ⟨ad3, y', hA3, _, hy', hc3⟩ := St.at HST.out hkm
          obtain rfl : y' = y := Option.some.inj (hy'.symm.trans hy)
          have t1 : Op.bytesLess y' x = false := by rw [bl_lt]; exact decide_eq_false (nam_lt_asymm hyx)
          have t2 : (y' == x) = false := beq_eq_false_iff_ne.2 fun e => nam_lt_irrefl x (by rw [e] at hyx; exact hyx)
          have HU := hid (show ∀ z, M[k]? = some z → x < z from fun z hz => by rw [hy] at hz; obtain rfl := Option.some.inj hz; exact hyx)
          subst hA3
          clear hyx hy hy'
          go_wp2
          go_quiet (fail)
          rename Nat => nq1
          go_wp2
          go_quiet (fail)
          have hkc : k ≤ c3 := by have := HST.out.cap; omega
          have HNX := hid (HSO.out.put HX.out HK.out HU.out)
          have HB2 := hid (show Below w.heap.size w (((w5.drewN q).drewN nq1).drewN nq) from below_drewN (below_drewN (below_drewN HB1.out _) _) _)
          have HMO2 := hid (show Ot (((w5.drewN q).drewN nq1).drewN nq) w.heap.size (.slice _ _ c3) M from HMO.out)
          have HST2 := hid (Sv.drewN (Sv.drewN (Sv.drewN HST.out q) nq1) nq)
          have hcx : (((w5.drewN q).drewN nq1).drewN nq).cell? (ad.add i) = some (encStr x) := hc
          have hsz : (((w5.drewN q).drewN nq1).drewN nq).heap.size = w5.heap.size := rfl
          rw [← hsz] at HST2
          generalize ((w5.drewN q).drewN nq1).drewN nq = W at HB2 HMO2 HST2 hcx ⊢
          clear hc hsz
          go_upto_region 9 with fail
          refine wp_region_held_drew (S := fun w' => w'.cell? (ad.add i) = some (encStr x)) (by kernel_rfl) hcx (fun hH => ?_)
          refine wpAnyH_take (i := 0) (oi := _) (v := ?_) (by simp only [List.getElem?_toArray, List.getElem?_cons_zero]; rfl) (by kernel_rfl) (by kernel_rfl) (by kernel_rfl) (by exact fun _ _ _ h => h) (Or.inl ⟨by rfl, ?_⟩) hH ?_
          rotate_left
          · intro w hSw; (try dsimp only at hSw); go_simp; try with_reducible rfl
          try simp only [Act.put, List.setIfInBounds_toArray, List.set_cons_zero, List.set_cons_succ]
          refine wpAnyH_take (i := 1) (oi := _) (v := ?_) (by simp only [List.getElem?_toArray, List.getElem?_cons_succ, List.getElem?_cons_zero]; rfl) (by kernel_rfl) (by kernel_rfl) (by kernel_rfl) (by exact fun _ _ _ h => h) (Or.inl ⟨by rfl, ?_⟩) hH ?_
          rotate_left
          · intro w hSw; (try dsimp only at hSw); go_simp; try with_reducible rfl
          try simp only [Act.put, List.setIfInBounds_toArray, List.set_cons_zero, List.set_cons_succ]
          refine wpAnyH_take (i := 2) (oi := _) (v := ?_) (by simp only [List.getElem?_toArray, List.getElem?_cons_succ, List.getElem?_cons_zero]; rfl) (by kernel_rfl) (by kernel_rfl) (by kernel_rfl) (by exact fun _ _ _ h => h) (Or.inl ⟨by rfl, ?_⟩) hH ?_
          rotate_left
          · intro w hSw; (try dsimp only at hSw); go_simp; try with_reducible rfl
          try simp only [Act.put, List.setIfInBounds_toArray, List.set_cons_zero, List.set_cons_succ]
          refine wpAnyH_take (i := 4) (oi := _) (v := ?_) (by simp only [List.getElem?_toArray, List.getElem?_cons_succ, List.getElem?_cons_zero]; rfl) (by kernel_rfl) (by kernel_rfl) (by kernel_rfl) (by exact fun _ _ _ h => h) (Or.inl ⟨by rfl, ?_⟩) hH ?_
          rotate_left
          · intro w hSw; (try dsimp only at hSw); go_simp; try with_reducible rfl
          try simp only [Act.put, List.setIfInBounds_toArray, List.set_cons_zero, List.set_cons_succ]
          refine wpAnyH_take (i := 5) (oi := _) (v := ?_) (by simp only [List.getElem?_toArray, List.getElem?_cons_succ, List.getElem?_cons_zero]; rfl) (by kernel_rfl) (by kernel_rfl) (by kernel_rfl) (by exact fun _ _ _ h => h) (Or.inl ⟨by rfl, ?_⟩) hH ?_
          rotate_left
          · intro w hSw; (try dsimp only at hSw); go_simp; try with_reducible rfl
          try simp only [Act.put, List.setIfInBounds_toArray, List.set_cons_zero, List.set_cons_succ]
          refine wpAnyH_take (i := 6) (oi := _) (v := ?_) (by simp only [List.getElem?_toArray, List.getElem?_cons_succ, List.getElem?_cons_zero]; rfl) (by kernel_rfl) (by kernel_rfl) (by kernel_rfl) (by exact fun _ _ _ h => h) (Or.inl ⟨by rfl, ?_⟩) hH ?_
          rotate_left
          · intro w hSw; (try dsimp only at hSw); go_simp; try with_reducible rfl
          try simp only [Act.put, List.setIfInBounds_toArray, List.set_cons_zero, List.set_cons_succ]
          refine wpAnyH_take (i := 7) (oi := _) (v := ?_) (by simp only [List.getElem?_toArray, List.getElem?_cons_succ, List.getElem?_cons_zero]; rfl) (by kernel_rfl) (by kernel_rfl) (by kernel_rfl) (by exact fun _ _ _ h => h) (Or.inl ⟨by rfl, ?_⟩) hH ?_
          rotate_left
          · intro w hSw; (try dsimp only at hSw); go_simp; try with_reducible rfl
          try simp only [Act.put, List.setIfInBounds_toArray, List.set_cons_zero, List.set_cons_succ]
          refine wpAnyH_ready (rs := [3, 8]) (by kernel_rfl) (by simp) (AllReadyH.cons rfl (fun K hK => ?_) (AllReadyH.cons rfl (fun K hK => ?_) AllReadyH.nil))
          · go_simp
            go_at_call 17
            refine (texts_any _ k c3 _ (M.take k) _ (show St W.drew W.heap.size _ k c3 (M.take k) from by have := Sv.head HST2.out hk; rw [← Tx_take] at this; exact Sv.drewN this 1) (Nat.le_refl _) (by omega)).mono ?_
            rintro e w6 ⟨v6, rfl, hown, hbw⟩
            have hcx6 : w6.cell? (ad.add i) = some (encStr x) := (hbw.cell (World.block_lt_of_cell? W _ hcx)).trans hcx
            have HO6 := hid (show Ot w6 W.heap.size v6 (M.take k) from hown)
            have HB6 := hid (show Below W.heap.size W w6 from ⟨hbw.os, hbw.tape, hbw.output, hbw.size, hbw.block⟩)
            clear hown hbw
            refine hK.out _ _ hcx6 (fun hH => ?_)
            clear hK K
            try simp only [Act.put, List.setIfInBounds_toArray, List.set_cons_zero, List.set_cons_succ]
            refine wpAnyH_ready (rs := [8]) (by kernel_rfl) (by simp) (AllReadyH.cons rfl (fun K hK => ?_) AllReadyH.nil)
            go_simp
            refine hK.out _ _ (by first | exact (World.cell?_alloc_lt w6 _ _ (World.block_lt_of_cell? w6 _ hcx6)).trans hcx6) (fun hH => ?_)
            clear hK K
            try simp only [Act.put, List.setIfInBounds_toArray, List.set_cons_zero, List.set_cons_succ]
            refine wpAnyH_ready (rs := [9]) (by kernel_rfl) (by simp) (AllReadyH.cons rfl (fun K hK => ?_) AllReadyH.nil)
            refine step_append_tx rfl (.tmp 48) (.tmp 53) rfl W.heap.size _ v6 (M.take k) [x] (by simp [Act.eval]) (World.ownsRow.alloc HO6.out _) ⟨w6.heap.size, 0, none⟩ 1 1 (by simp [Act.eval]) (st_one w6 x) (by rw [List.length_take]; omega) (by have := HB6.out.size; simp; omega) ?_
            rintro v7 w7 hown7 hb7
            have HB7 := hid (show Below W.heap.size W w7 from ((HB6.out.alloc HB6.out.size _).trans hb7))
            have hcx7 : w7.cell? (ad.add i) = some (encStr x) := (HB7.out.cell (World.block_lt_of_cell? W _ hcx)).trans hcx
            have HO7 := hid (Ot.lower hown7 HB2.out.size)
            clear hown7 hb7 hcx
            refine hK.out _ _ hcx7 (fun hH => ?_)
            clear hK K
            try simp only [Act.put, List.setIfInBounds_toArray, List.set_cons_zero, List.set_cons_succ]
            refine wpAnyH_take (i := 10) (oi := _) (v := ?_) (by simp only [List.getElem?_toArray, List.getElem?_cons_succ, List.getElem?_cons_zero]; rfl) (by kernel_rfl) (by kernel_rfl) (by kernel_rfl) (by exact fun _ _ _ h => h) (Or.inl ⟨by rfl, ?_⟩) hH ?_
            rotate_left
            · intro w hSw; (try dsimp only at hSw); go_simp; try with_reducible rfl
            try simp only [Act.put, List.setIfInBounds_toArray, List.set_cons_zero, List.set_cons_succ]
            refine wpAnyH_done (by kernel_rfl) ?_ _
            have HST7 := hid (show St w7 W.heap.size _ _ _ (M.drop k) from by have := Sv.cut (Sv.below HST2.out HB7.out) hk; rw [← Tx_drop] at this; exact this)
            obtain ⟨N, hN⟩ : ∃ N, M.take k ++ [x] = N := ⟨_, rfl⟩
            obtain ⟨D, hD⟩ : ∃ D, M.drop k = D := ⟨_, rfl⟩
            have hNl : N.length ≤ k + 1 := by rw [← hN]; simp only [List.length_append, List.length_take, List.length_cons, List.length_nil]; omega
            rw [hN] at HO7 HNX
            rw [hD] at HNX HST7
            clear hN hD
            have hw7 : w.heap.size ≤ w7.heap.size := by have := HB7.out.size; have := HB2.out.size; omega
            go_wp2_with (at_builtin; refine wpList_append_tx rfl _ _ rfl w.heap.size W.heap.size v7 N D rfl HO7.out _ _ _ rfl HST7.out (by omega) hw7 ?_)
            all_goals (intro v8 w8 hown8 hb8)
            all_goals (have HO8 := hid hown8)
            all_goals (have HB8 := hid (HB2.out.trans ((HB7.out.mono HB2.out.size).trans hb8)))
            all_goals (clear hown8 hb8)
            all_goals go_wp2
            all_goals (refine ⟨⟨i + 1, by omega, by go_num, hid ⟨_, HO8.out, HNX.out⟩, HB8⟩, ?_⟩)
            all_goals (simp [intOf]; omega)
          · go_simp
            refine hK.out _ _ ((World.cell?_alloc_lt W _ _ (World.block_lt_of_cell? W _ hcx)).trans hcx) (fun hH => ?_)
            clear hK K
            try simp only [Act.put, List.setIfInBounds_toArray, List.set_cons_zero, List.set_cons_succ]
            have hs1 : (W.alloc (.cells #[encStr x] 9)).drew.heap.size = W.heap.size + 1 := by simp
            have HL1 := hid (show St (W.alloc (.cells #[encStr x] 9)).drew (W.heap.size + 1) (some ⟨W.heap.size, 0, none⟩) 1 1 [x] from Sv.drewN (st_one W x) 1)
            have HM1 := hid (show St (W.alloc (.cells #[encStr x] 9)).drew W.heap.size _ k c3 (M.take k) from by have := Sv.head HST2.out hk; rw [← Tx_take] at this; exact Sv.drewN (Sv.alloc this (Nat.le_refl _) _) 1)
            have HW1 := hid (show Below W.heap.size W (W.alloc (.cells #[encStr x] 9)).drew from below_drewN ((Below.refl _ _).alloc (Nat.le_refl _) _) 1)
            generalize (W.alloc (.cells #[encStr x] 9)).drew = W1 at hs1 HL1 HM1 HW1 ⊢
            refine wpAnyH_ready (rs := [3]) (by kernel_rfl) (by simp) (AllReadyH.cons rfl (fun K hK => ?_) AllReadyH.nil)
            go_simp
            go_at_call 17
            refine (texts_any _ k c3 W.heap.size (M.take k) W1 HM1.out HW1.out.size (by omega)).mono ?_
            rintro e w6 ⟨v6, rfl, hown, hbw⟩
            have HO6 := hid (show Ot w6 W.heap.size v6 (M.take k) from Ot.lower hown HW1.out.size)
            have HB6 := hid (HW1.out.trans (hbw.mono HW1.out.size))
            have HL6 := hid (show St w6 (W.heap.size + 1) (some ⟨W.heap.size, 0, none⟩) 1 1 [x] from Sv.keep HL1.out fun p hp => hbw.cell (by rw [hs1]; exact hp))
            have hcx6 : w6.cell? (ad.add i) = some (encStr x) := (HB6.out.cell (World.block_lt_of_cell? W _ hcx)).trans hcx
            clear hown hbw hs1 HL1 HM1 HW1
            refine hK.out _ _ hcx6 (fun hH => ?_)
            clear hK K
            try simp only [Act.put, List.setIfInBounds_toArray, List.set_cons_zero, List.set_cons_succ]
            refine wpAnyH_ready (rs := [9]) (by kernel_rfl) (by simp) (AllReadyH.cons rfl (fun K hK => ?_) AllReadyH.nil)
            refine step_append_tx rfl (.tmp 48) (.tmp 53) rfl W.heap.size _ v6 (M.take k) [x] (by simp [Act.eval]) HO6.out ⟨W.heap.size, 0, none⟩ 1 1 (by simp [Act.eval]) HL6.out (by rw [List.length_take]; omega) HB6.out.size ?_
            rintro v7 w7 hown7 hb7
            have HB7 := hid (show Below W.heap.size W w7 from (HB6.out.trans hb7))
            have hcx7 : w7.cell? (ad.add i) = some (encStr x) := (HB7.out.cell (World.block_lt_of_cell? W _ hcx)).trans hcx
            have HO7 := hid (Ot.lower hown7 HB2.out.size)
            clear hown7 hb7 hcx
            refine hK.out _ _ hcx7 (fun hH => ?_)
            clear hK K
            try simp only [Act.put, List.setIfInBounds_toArray, List.set_cons_zero, List.set_cons_succ]
            refine wpAnyH_take (i := 10) (oi := _) (v := ?_) (by simp only [List.getElem?_toArray, List.getElem?_cons_succ, List.getElem?_cons_zero]; rfl) (by kernel_rfl) (by kernel_rfl) (by kernel_rfl) (by exact fun _ _ _ h => h) (Or.inl ⟨by rfl, ?_⟩) hH ?_
            rotate_left
            · intro w hSw; (try dsimp only at hSw); go_simp; try with_reducible rfl
            try simp only [Act.put, List.setIfInBounds_toArray, List.set_cons_zero, List.set_cons_succ]
            refine wpAnyH_done (by kernel_rfl) ?_ _
            have HST7 := hid (show St w7 W.heap.size _ _ _ (M.drop k) from by have := Sv.cut (Sv.below HST2.out HB7.out) hk; rw [← Tx_drop] at this; exact this)
            obtain ⟨N, hN⟩ : ∃ N, M.take k ++ [x] = N := ⟨_, rfl⟩
            obtain ⟨D, hD⟩ : ∃ D, M.drop k = D := ⟨_, rfl⟩
            have hNl : N.length ≤ k + 1 := by rw [← hN]; simp only [List.length_append, List.length_take, List.length_cons, List.length_nil]; omega
            rw [hN] at HO7 HNX
            rw [hD] at HNX HST7
            clear hN hD
            have hw7 : w.heap.size ≤ w7.heap.size := by have := HB7.out.size; have := HB2.out.size; omega
            go_wp2_with (at_builtin; refine wpList_append_tx rfl _ _ rfl w.heap.size W.heap.size v7 N D rfl HO7.out _ _ _ rfl HST7.out (by omega) hw7 ?_)
            all_goals (intro v8 w8 hown8 hb8)
            all_goals (have HO8 := hid hown8)
            all_goals (have HB8 := hid (HB2.out.trans ((HB7.out.mono HB2.out.size).trans hb8)))
            all_goals (clear hown8 hb8)
            all_goals go_wp2
            all_goals (refine ⟨⟨i + 1, by omega, by go_num, hid ⟨_, HO8.out, HNX.out⟩, HB8⟩, ?_⟩)
            all_goals (simp [intOf]; omega)

        · have HU := hid (show ∀ z, M[k]? = some z → x < z from fun z hz => by have := (List.getElem?_eq_some_iff.1 hz).1; have := HM.out; omega)
          have hkz : decide (k < m) = false := decide_eq_false (by omega)
          have hkn : m ≤ k := by omega
          clear hkm
          rcases A3 with _ | ad3
          · have hc0 := HST.out.nil rfl
            have hm0 : m = 0 := by have := HST.out.cap; omega
            have hk0 : k = 0 := by omega
            clear hkz hkn
            subst hm0
            subst hk0
            subst hc0
            go_wp2
            go_quiet (fail)
            rename Nat => nq1
            go_wp2
            go_quiet (fail)
            have hkc : 0 ≤ 0 := by have := HST.out.cap; omega
            have HNX := hid (HSO.out.put HX.out HK.out HU.out)
            have HB2 := hid (show Below w.heap.size w (((w5.drewN q).drewN nq1).drewN nq) from below_drewN (below_drewN (below_drewN HB1.out _) _) _)
            have HMO2 := hid (show Ot (((w5.drewN q).drewN nq1).drewN nq) w.heap.size (.slice _ _ 0) M from HMO.out)
            have HST2 := hid (Sv.drewN (Sv.drewN (Sv.drewN HST.out q) nq1) nq)
            have hcx : (((w5.drewN q).drewN nq1).drewN nq).cell? (ad.add i) = some (encStr x) := hc
            have hsz : (((w5.drewN q).drewN nq1).drewN nq).heap.size = w5.heap.size := rfl
            rw [← hsz] at HST2
            generalize ((w5.drewN q).drewN nq1).drewN nq = W at HB2 HMO2 HST2 hcx ⊢
            clear hc hsz
            go_upto_region 9 with fail
            refine wp_region_held_drew (S := fun w' => w'.cell? (ad.add i) = some (encStr x)) (by kernel_rfl) hcx (fun hH => ?_)
            refine wpAnyH_take (i := 0) (oi := _) (v := ?_) (by simp only [List.getElem?_toArray, List.getElem?_cons_zero]; rfl) (by kernel_rfl) (by kernel_rfl) (by kernel_rfl) (by exact fun _ _ _ h => h) (Or.inl ⟨by rfl, ?_⟩) hH ?_
            rotate_left
            · intro w hSw; (try dsimp only at hSw); go_simp; try with_reducible rfl
            try simp only [Act.put, List.setIfInBounds_toArray, List.set_cons_zero, List.set_cons_succ]
            refine wpAnyH_take (i := 1) (oi := _) (v := ?_) (by simp only [List.getElem?_toArray, List.getElem?_cons_succ, List.getElem?_cons_zero]; rfl) (by kernel_rfl) (by kernel_rfl) (by kernel_rfl) (by exact fun _ _ _ h => h) (Or.inl ⟨by rfl, ?_⟩) hH ?_
            rotate_left
            · intro w hSw; (try dsimp only at hSw); go_simp; try with_reducible rfl
            try simp only [Act.put, List.setIfInBounds_toArray, List.set_cons_zero, List.set_cons_succ]
            refine wpAnyH_take (i := 2) (oi := _) (v := ?_) (by simp only [List.getElem?_toArray, List.getElem?_cons_succ, List.getElem?_cons_zero]; rfl) (by kernel_rfl) (by kernel_rfl) (by kernel_rfl) (by exact fun _ _ _ h => h) (Or.inl ⟨by rfl, ?_⟩) hH ?_
            rotate_left
            · intro w hSw; (try dsimp only at hSw); go_simp; try with_reducible rfl
            try simp only [Act.put, List.setIfInBounds_toArray, List.set_cons_zero, List.set_cons_succ]
            refine wpAnyH_take (i := 4) (oi := _) (v := ?_) (by simp only [List.getElem?_toArray, List.getElem?_cons_succ, List.getElem?_cons_zero]; rfl) (by kernel_rfl) (by kernel_rfl) (by kernel_rfl) (by exact fun _ _ _ h => h) (Or.inl ⟨by rfl, ?_⟩) hH ?_
            rotate_left
            · intro w hSw; (try dsimp only at hSw); go_simp; try with_reducible rfl
            try simp only [Act.put, List.setIfInBounds_toArray, List.set_cons_zero, List.set_cons_succ]
            refine wpAnyH_take (i := 5) (oi := _) (v := ?_) (by simp only [List.getElem?_toArray, List.getElem?_cons_succ, List.getElem?_cons_zero]; rfl) (by kernel_rfl) (by kernel_rfl) (by kernel_rfl) (by exact fun _ _ _ h => h) (Or.inl ⟨by rfl, ?_⟩) hH ?_
            rotate_left
            · intro w hSw; (try dsimp only at hSw); go_simp; try with_reducible rfl
            try simp only [Act.put, List.setIfInBounds_toArray, List.set_cons_zero, List.set_cons_succ]
            refine wpAnyH_take (i := 6) (oi := _) (v := ?_) (by simp only [List.getElem?_toArray, List.getElem?_cons_succ, List.getElem?_cons_zero]; rfl) (by kernel_rfl) (by kernel_rfl) (by kernel_rfl) (by exact fun _ _ _ h => h) (Or.inl ⟨by rfl, ?_⟩) hH ?_
            rotate_left
            · intro w hSw; (try dsimp only at hSw); go_simp; try with_reducible rfl
            try simp only [Act.put, List.setIfInBounds_toArray, List.set_cons_zero, List.set_cons_succ]
            refine wpAnyH_take (i := 7) (oi := _) (v := ?_) (by simp only [List.getElem?_toArray, List.getElem?_cons_succ, List.getElem?_cons_zero]; rfl) (by kernel_rfl) (by kernel_rfl) (by kernel_rfl) (by exact fun _ _ _ h => h) (Or.inl ⟨by rfl, ?_⟩) hH ?_
            rotate_left
            · intro w hSw; (try dsimp only at hSw); go_simp; try with_reducible rfl
            try simp only [Act.put, List.setIfInBounds_toArray, List.set_cons_zero, List.set_cons_succ]
            refine wpAnyH_ready (rs := [3, 8]) (by kernel_rfl) (by simp) (AllReadyH.cons rfl (fun K hK => ?_) (AllReadyH.cons rfl (fun K hK => ?_) AllReadyH.nil))
            · go_simp
              go_at_call 17
              refine (texts_any _ 0 0 _ (M.take 0) _ (show St W.drew W.heap.size _ 0 0 (M.take 0) from by have := Sv.head HST2.out hk; rw [← Tx_take] at this; exact Sv.drewN this 1) (Nat.le_refl _) (by omega)).mono ?_
              rintro e w6 ⟨v6, rfl, hown, hbw⟩
              have hcx6 : w6.cell? (ad.add i) = some (encStr x) := (hbw.cell (World.block_lt_of_cell? W _ hcx)).trans hcx
              have HO6 := hid (show Ot w6 W.heap.size v6 (M.take 0) from hown)
              have HB6 := hid (show Below W.heap.size W w6 from ⟨hbw.os, hbw.tape, hbw.output, hbw.size, hbw.block⟩)
              clear hown hbw
              refine hK.out _ _ hcx6 (fun hH => ?_)
              clear hK K
              try simp only [Act.put, List.setIfInBounds_toArray, List.set_cons_zero, List.set_cons_succ]
              refine wpAnyH_ready (rs := [8]) (by kernel_rfl) (by simp) (AllReadyH.cons rfl (fun K hK => ?_) AllReadyH.nil)
              go_simp
              refine hK.out _ _ (by first | exact (World.cell?_alloc_lt w6 _ _ (World.block_lt_of_cell? w6 _ hcx6)).trans hcx6) (fun hH => ?_)
              clear hK K
              try simp only [Act.put, List.setIfInBounds_toArray, List.set_cons_zero, List.set_cons_succ]
              refine wpAnyH_ready (rs := [9]) (by kernel_rfl) (by simp) (AllReadyH.cons rfl (fun K hK => ?_) AllReadyH.nil)
              refine step_append_tx rfl (.tmp 48) (.tmp 53) rfl W.heap.size _ v6 (M.take 0) [x] (by simp [Act.eval]) (World.ownsRow.alloc HO6.out _) ⟨w6.heap.size, 0, none⟩ 1 1 (by simp [Act.eval]) (st_one w6 x) (by rw [List.length_take]; omega) (by have := HB6.out.size; simp; omega) ?_
              rintro v7 w7 hown7 hb7
              have HB7 := hid (show Below W.heap.size W w7 from ((HB6.out.alloc HB6.out.size _).trans hb7))
              have hcx7 : w7.cell? (ad.add i) = some (encStr x) := (HB7.out.cell (World.block_lt_of_cell? W _ hcx)).trans hcx
              have HO7 := hid (Ot.lower hown7 HB2.out.size)
              clear hown7 hb7 hcx
              refine hK.out _ _ hcx7 (fun hH => ?_)
              clear hK K
              try simp only [Act.put, List.setIfInBounds_toArray, List.set_cons_zero, List.set_cons_succ]
              refine wpAnyH_take (i := 10) (oi := _) (v := ?_) (by simp only [List.getElem?_toArray, List.getElem?_cons_succ, List.getElem?_cons_zero]; rfl) (by kernel_rfl) (by kernel_rfl) (by kernel_rfl) (by exact fun _ _ _ h => h) (Or.inl ⟨by rfl, ?_⟩) hH ?_
              rotate_left
              · intro w hSw; (try dsimp only at hSw); go_simp; try with_reducible rfl
              try simp only [Act.put, List.setIfInBounds_toArray, List.set_cons_zero, List.set_cons_succ]
              refine wpAnyH_done (by kernel_rfl) ?_ _
              have HST7 := hid (show St w7 W.heap.size _ _ _ (M.drop 0) from by have := Sv.cut (Sv.below HST2.out HB7.out) hk; rw [← Tx_drop] at this; exact this)
              obtain ⟨N, hN⟩ : ∃ N, M.take 0 ++ [x] = N := ⟨_, rfl⟩
              obtain ⟨D, hD⟩ : ∃ D, M.drop 0 = D := ⟨_, rfl⟩
              have hNl : N.length ≤ 0 + 1 := by rw [← hN]; simp only [List.length_append, List.length_take, List.length_cons, List.length_nil]; omega
              rw [hN] at HO7 HNX
              rw [hD] at HNX HST7
              clear hN hD
              have hw7 : w.heap.size ≤ w7.heap.size := by have := HB7.out.size; have := HB2.out.size; omega
              go_wp2_with (at_builtin; refine wpList_append_tx rfl _ _ rfl w.heap.size W.heap.size v7 N D rfl HO7.out _ _ _ rfl HST7.out (by omega) hw7 ?_)
              all_goals (intro v8 w8 hown8 hb8)
              all_goals (have HO8 := hid hown8)
              all_goals (have HB8 := hid (HB2.out.trans ((HB7.out.mono HB2.out.size).trans hb8)))
              all_goals (clear hown8 hb8)
              all_goals go_wp2
              all_goals (refine ⟨⟨i + 1, by omega, by go_num, hid ⟨_, HO8.out, HNX.out⟩, HB8⟩, ?_⟩)
              all_goals (simp [intOf]; omega)
            · go_simp
              refine hK.out _ _ ((World.cell?_alloc_lt W _ _ (World.block_lt_of_cell? W _ hcx)).trans hcx) (fun hH => ?_)
              clear hK K
              try simp only [Act.put, List.setIfInBounds_toArray, List.set_cons_zero, List.set_cons_succ]
              have hs1 : (W.alloc (.cells #[encStr x] 9)).drew.heap.size = W.heap.size + 1 := by simp
              have HL1 := hid (show St (W.alloc (.cells #[encStr x] 9)).drew (W.heap.size + 1) (some ⟨W.heap.size, 0, none⟩) 1 1 [x] from Sv.drewN (st_one W x) 1)
              have HM1 := hid (show St (W.alloc (.cells #[encStr x] 9)).drew W.heap.size _ 0 0 (M.take 0) from by have := Sv.head HST2.out hk; rw [← Tx_take] at this; exact Sv.drewN (Sv.alloc this (Nat.le_refl _) _) 1)
              have HW1 := hid (show Below W.heap.size W (W.alloc (.cells #[encStr x] 9)).drew from below_drewN ((Below.refl _ _).alloc (Nat.le_refl _) _) 1)
              generalize (W.alloc (.cells #[encStr x] 9)).drew = W1 at hs1 HL1 HM1 HW1 ⊢
              refine wpAnyH_ready (rs := [3]) (by kernel_rfl) (by simp) (AllReadyH.cons rfl (fun K hK => ?_) AllReadyH.nil)
              go_simp
              go_at_call 17
              refine (texts_any _ 0 0 W.heap.size (M.take 0) W1 HM1.out HW1.out.size (by omega)).mono ?_
              rintro e w6 ⟨v6, rfl, hown, hbw⟩
              have HO6 := hid (show Ot w6 W.heap.size v6 (M.take 0) from Ot.lower hown HW1.out.size)
              have HB6 := hid (HW1.out.trans (hbw.mono HW1.out.size))
              have HL6 := hid (show St w6 (W.heap.size + 1) (some ⟨W.heap.size, 0, none⟩) 1 1 [x] from Sv.keep HL1.out fun p hp => hbw.cell (by rw [hs1]; exact hp))
              have hcx6 : w6.cell? (ad.add i) = some (encStr x) := (HB6.out.cell (World.block_lt_of_cell? W _ hcx)).trans hcx
              clear hown hbw hs1 HL1 HM1 HW1
              refine hK.out _ _ hcx6 (fun hH => ?_)
              clear hK K
              try simp only [Act.put, List.setIfInBounds_toArray, List.set_cons_zero, List.set_cons_succ]
              refine wpAnyH_ready (rs := [9]) (by kernel_rfl) (by simp) (AllReadyH.cons rfl (fun K hK => ?_) AllReadyH.nil)
              refine step_append_tx rfl (.tmp 48) (.tmp 53) rfl W.heap.size _ v6 (M.take 0) [x] (by simp [Act.eval]) HO6.out ⟨W.heap.size, 0, none⟩ 1 1 (by simp [Act.eval]) HL6.out (by rw [List.length_take]; omega) HB6.out.size ?_
              rintro v7 w7 hown7 hb7
              have HB7 := hid (show Below W.heap.size W w7 from (HB6.out.trans hb7))
              have hcx7 : w7.cell? (ad.add i) = some (encStr x) := (HB7.out.cell (World.block_lt_of_cell? W _ hcx)).trans hcx
              have HO7 := hid (Ot.lower hown7 HB2.out.size)
              clear hown7 hb7 hcx
              refine hK.out _ _ hcx7 (fun hH => ?_)
              clear hK K
              try simp only [Act.put, List.setIfInBounds_toArray, List.set_cons_zero, List.set_cons_succ]
              refine wpAnyH_take (i := 10) (oi := _) (v := ?_) (by simp only [List.getElem?_toArray, List.getElem?_cons_succ, List.getElem?_cons_zero]; rfl) (by kernel_rfl) (by kernel_rfl) (by kernel_rfl) (by exact fun _ _ _ h => h) (Or.inl ⟨by rfl, ?_⟩) hH ?_
              rotate_left
              · intro w hSw; (try dsimp only at hSw); go_simp; try with_reducible rfl
              try simp only [Act.put, List.setIfInBounds_toArray, List.set_cons_zero, List.set_cons_succ]
              refine wpAnyH_done (by kernel_rfl) ?_ _
              have HST7 := hid (show St w7 W.heap.size _ _ _ (M.drop 0) from by have := Sv.cut (Sv.below HST2.out HB7.out) hk; rw [← Tx_drop] at this; exact this)
              obtain ⟨N, hN⟩ : ∃ N, M.take 0 ++ [x] = N := ⟨_, rfl⟩
              obtain ⟨D, hD⟩ : ∃ D, M.drop 0 = D := ⟨_, rfl⟩
              have hNl : N.length ≤ 0 + 1 := by rw [← hN]; simp only [List.length_append, List.length_take, List.length_cons, List.length_nil]; omega
              rw [hN] at HO7 HNX
              rw [hD] at HNX HST7
              clear hN hD
              have hw7 : w.heap.size ≤ w7.heap.size := by have := HB7.out.size; have := HB2.out.size; omega
              go_wp2_with (at_builtin; refine wpList_append_tx rfl _ _ rfl w.heap.size W.heap.size v7 N D rfl HO7.out _ _ _ rfl HST7.out (by omega) hw7 ?_)
              all_goals (intro v8 w8 hown8 hb8)
              all_goals (have HO8 := hid hown8)
              all_goals (have HB8 := hid (HB2.out.trans ((HB7.out.mono HB2.out.size).trans hb8)))
              all_goals (clear hown8 hb8)
              all_goals go_wp2
              all_goals (refine ⟨⟨i + 1, by omega, by go_num, hid ⟨_, HO8.out, HNX.out⟩, HB8⟩, ?_⟩)
              all_goals (simp [intOf]; omega)

          · by_cases hck : c3 = k
            · subst hck
              go_wp2
              go_quiet (fail)
              rename Nat => nq1
              go_wp2
              go_quiet (fail)
              have hkc : c3 ≤ c3 := by have := HST.out.cap; omega
              have HNX := hid (HSO.out.put HX.out HK.out HU.out)
              have HB2 := hid (show Below w.heap.size w (((w5.drewN q).drewN nq1).drewN nq) from below_drewN (below_drewN (below_drewN HB1.out _) _) _)
              have HMO2 := hid (show Ot (((w5.drewN q).drewN nq1).drewN nq) w.heap.size (.slice _ _ c3) M from HMO.out)
              have HST2 := hid (Sv.drewN (Sv.drewN (Sv.drewN HST.out q) nq1) nq)
              have hcx : (((w5.drewN q).drewN nq1).drewN nq).cell? (ad.add i) = some (encStr x) := hc
              have hsz : (((w5.drewN q).drewN nq1).drewN nq).heap.size = w5.heap.size := rfl
              rw [← hsz] at HST2
              generalize ((w5.drewN q).drewN nq1).drewN nq = W at HB2 HMO2 HST2 hcx ⊢
              clear hc hsz
              go_upto_region 9 with fail
              refine wp_region_held_drew (S := fun w' => w'.cell? (ad.add i) = some (encStr x)) (by kernel_rfl) hcx (fun hH => ?_)
              refine wpAnyH_take (i := 0) (oi := _) (v := ?_) (by simp only [List.getElem?_toArray, List.getElem?_cons_zero]; rfl) (by kernel_rfl) (by kernel_rfl) (by kernel_rfl) (by exact fun _ _ _ h => h) (Or.inl ⟨by rfl, ?_⟩) hH ?_
              rotate_left
              · intro w hSw; (try dsimp only at hSw); go_simp; try with_reducible rfl
              try simp only [Act.put, List.setIfInBounds_toArray, List.set_cons_zero, List.set_cons_succ]
              refine wpAnyH_take (i := 1) (oi := _) (v := ?_) (by simp only [List.getElem?_toArray, List.getElem?_cons_succ, List.getElem?_cons_zero]; rfl) (by kernel_rfl) (by kernel_rfl) (by kernel_rfl) (by exact fun _ _ _ h => h) (Or.inl ⟨by rfl, ?_⟩) hH ?_
              rotate_left
              · intro w hSw; (try dsimp only at hSw); go_simp; try with_reducible rfl
              try simp only [Act.put, List.setIfInBounds_toArray, List.set_cons_zero, List.set_cons_succ]
              refine wpAnyH_take (i := 2) (oi := _) (v := ?_) (by simp only [List.getElem?_toArray, List.getElem?_cons_succ, List.getElem?_cons_zero]; rfl) (by kernel_rfl) (by kernel_rfl) (by kernel_rfl) (by exact fun _ _ _ h => h) (Or.inl ⟨by rfl, ?_⟩) hH ?_
              rotate_left
              · intro w hSw; (try dsimp only at hSw); go_simp; try with_reducible rfl
              try simp only [Act.put, List.setIfInBounds_toArray, List.set_cons_zero, List.set_cons_succ]
              refine wpAnyH_take (i := 4) (oi := _) (v := ?_) (by simp only [List.getElem?_toArray, List.getElem?_cons_succ, List.getElem?_cons_zero]; rfl) (by kernel_rfl) (by kernel_rfl) (by kernel_rfl) (by exact fun _ _ _ h => h) (Or.inl ⟨by rfl, ?_⟩) hH ?_
              rotate_left
              · intro w hSw; (try dsimp only at hSw); go_simp; try with_reducible rfl
              try simp only [Act.put, List.setIfInBounds_toArray, List.set_cons_zero, List.set_cons_succ]
              refine wpAnyH_take (i := 5) (oi := _) (v := ?_) (by simp only [List.getElem?_toArray, List.getElem?_cons_succ, List.getElem?_cons_zero]; rfl) (by kernel_rfl) (by kernel_rfl) (by kernel_rfl) (by exact fun _ _ _ h => h) (Or.inl ⟨by rfl, ?_⟩) hH ?_
              rotate_left
              · intro w hSw; (try dsimp only at hSw); go_simp; try with_reducible rfl
              try simp only [Act.put, List.setIfInBounds_toArray, List.set_cons_zero, List.set_cons_succ]
              refine wpAnyH_take (i := 6) (oi := _) (v := ?_) (by simp only [List.getElem?_toArray, List.getElem?_cons_succ, List.getElem?_cons_zero]; rfl) (by kernel_rfl) (by kernel_rfl) (by kernel_rfl) (by exact fun _ _ _ h => h) (Or.inl ⟨by rfl, ?_⟩) hH ?_
              rotate_left
              · intro w hSw; (try dsimp only at hSw); go_simp; try with_reducible rfl
              try simp only [Act.put, List.setIfInBounds_toArray, List.set_cons_zero, List.set_cons_succ]
              refine wpAnyH_take (i := 7) (oi := _) (v := ?_) (by simp only [List.getElem?_toArray, List.getElem?_cons_succ, List.getElem?_cons_zero]; rfl) (by kernel_rfl) (by kernel_rfl) (by kernel_rfl) (by exact fun _ _ _ h => h) (Or.inl ⟨by rfl, ?_⟩) hH ?_
              rotate_left
              · intro w hSw; (try dsimp only at hSw); go_simp; try with_reducible rfl
              try simp only [Act.put, List.setIfInBounds_toArray, List.set_cons_zero, List.set_cons_succ]
              refine wpAnyH_ready (rs := [3, 8]) (by kernel_rfl) (by simp) (AllReadyH.cons rfl (fun K hK => ?_) (AllReadyH.cons rfl (fun K hK => ?_) AllReadyH.nil))
              · go_simp
                go_at_call 17
                refine (texts_any _ c3 c3 _ (M.take c3) _ (show St W.drew W.heap.size _ c3 c3 (M.take c3) from by have := Sv.head HST2.out hk; rw [← Tx_take] at this; exact Sv.drewN this 1) (Nat.le_refl _) (by omega)).mono ?_
                rintro e w6 ⟨v6, rfl, hown, hbw⟩
                have hcx6 : w6.cell? (ad.add i) = some (encStr x) := (hbw.cell (World.block_lt_of_cell? W _ hcx)).trans hcx
                have HO6 := hid (show Ot w6 W.heap.size v6 (M.take c3) from hown)
                have HB6 := hid (show Below W.heap.size W w6 from ⟨hbw.os, hbw.tape, hbw.output, hbw.size, hbw.block⟩)
                clear hown hbw
                refine hK.out _ _ hcx6 (fun hH => ?_)
                clear hK K
                try simp only [Act.put, List.setIfInBounds_toArray, List.set_cons_zero, List.set_cons_succ]
                refine wpAnyH_ready (rs := [8]) (by kernel_rfl) (by simp) (AllReadyH.cons rfl (fun K hK => ?_) AllReadyH.nil)
                go_simp
                refine hK.out _ _ (by first | exact (World.cell?_alloc_lt w6 _ _ (World.block_lt_of_cell? w6 _ hcx6)).trans hcx6) (fun hH => ?_)
                clear hK K
                try simp only [Act.put, List.setIfInBounds_toArray, List.set_cons_zero, List.set_cons_succ]
                refine wpAnyH_ready (rs := [9]) (by kernel_rfl) (by simp) (AllReadyH.cons rfl (fun K hK => ?_) AllReadyH.nil)
                refine step_append_tx rfl (.tmp 48) (.tmp 53) rfl W.heap.size _ v6 (M.take c3) [x] (by simp [Act.eval]) (World.ownsRow.alloc HO6.out _) ⟨w6.heap.size, 0, none⟩ 1 1 (by simp [Act.eval]) (st_one w6 x) (by rw [List.length_take]; omega) (by have := HB6.out.size; simp; omega) ?_
                rintro v7 w7 hown7 hb7
                have HB7 := hid (show Below W.heap.size W w7 from ((HB6.out.alloc HB6.out.size _).trans hb7))
                have hcx7 : w7.cell? (ad.add i) = some (encStr x) := (HB7.out.cell (World.block_lt_of_cell? W _ hcx)).trans hcx
                have HO7 := hid (Ot.lower hown7 HB2.out.size)
                clear hown7 hb7 hcx
                refine hK.out _ _ hcx7 (fun hH => ?_)
                clear hK K
                try simp only [Act.put, List.setIfInBounds_toArray, List.set_cons_zero, List.set_cons_succ]
                refine wpAnyH_take (i := 10) (oi := _) (v := ?_) (by simp only [List.getElem?_toArray, List.getElem?_cons_succ, List.getElem?_cons_zero]; rfl) (by kernel_rfl) (by kernel_rfl) (by kernel_rfl) (by exact fun _ _ _ h => h) (Or.inl ⟨by rfl, ?_⟩) hH ?_
                rotate_left
                · intro w hSw; (try dsimp only at hSw); go_simp; try with_reducible rfl
                try simp only [Act.put, List.setIfInBounds_toArray, List.set_cons_zero, List.set_cons_succ]
                refine wpAnyH_done (by kernel_rfl) ?_ _
                have HST7 := hid (show St w7 W.heap.size _ _ _ (M.drop c3) from by have := Sv.cut (Sv.below HST2.out HB7.out) hk; rw [← Tx_drop] at this; exact this)
                rw [if_pos rfl, Nat.sub_self, show m - c3 = 0 by omega] at HST7
                obtain ⟨N, hN⟩ : ∃ N, M.take c3 ++ [x] = N := ⟨_, rfl⟩
                obtain ⟨D, hD⟩ : ∃ D, M.drop c3 = D := ⟨_, rfl⟩
                have hNl : N.length ≤ c3 + 1 := by rw [← hN]; simp only [List.length_append, List.length_take, List.length_cons, List.length_nil]; omega
                rw [hN] at HO7 HNX
                rw [hD] at HNX HST7
                clear hN hD
                have hw7 : w.heap.size ≤ w7.heap.size := by have := HB7.out.size; have := HB2.out.size; omega
                go_wp2_with (at_builtin; refine wpList_append_tx rfl _ _ rfl w.heap.size W.heap.size v7 N D rfl HO7.out _ _ _ rfl HST7.out (by omega) hw7 ?_)
                all_goals (intro v8 w8 hown8 hb8)
                all_goals (have HO8 := hid hown8)
                all_goals (have HB8 := hid (HB2.out.trans ((HB7.out.mono HB2.out.size).trans hb8)))
                all_goals (clear hown8 hb8)
                all_goals go_wp2
                all_goals (refine ⟨⟨i + 1, by omega, by go_num, hid ⟨_, HO8.out, HNX.out⟩, HB8⟩, ?_⟩)
                all_goals (simp [intOf]; omega)
              · go_simp
                refine hK.out _ _ ((World.cell?_alloc_lt W _ _ (World.block_lt_of_cell? W _ hcx)).trans hcx) (fun hH => ?_)
                clear hK K
                try simp only [Act.put, List.setIfInBounds_toArray, List.set_cons_zero, List.set_cons_succ]
                have hs1 : (W.alloc (.cells #[encStr x] 9)).drew.heap.size = W.heap.size + 1 := by simp
                have HL1 := hid (show St (W.alloc (.cells #[encStr x] 9)).drew (W.heap.size + 1) (some ⟨W.heap.size, 0, none⟩) 1 1 [x] from Sv.drewN (st_one W x) 1)
                have HM1 := hid (show St (W.alloc (.cells #[encStr x] 9)).drew W.heap.size _ c3 c3 (M.take c3) from by have := Sv.head HST2.out hk; rw [← Tx_take] at this; exact Sv.drewN (Sv.alloc this (Nat.le_refl _) _) 1)
                have HW1 := hid (show Below W.heap.size W (W.alloc (.cells #[encStr x] 9)).drew from below_drewN ((Below.refl _ _).alloc (Nat.le_refl _) _) 1)
                generalize (W.alloc (.cells #[encStr x] 9)).drew = W1 at hs1 HL1 HM1 HW1 ⊢
                refine wpAnyH_ready (rs := [3]) (by kernel_rfl) (by simp) (AllReadyH.cons rfl (fun K hK => ?_) AllReadyH.nil)
                go_simp
                go_at_call 17
                refine (texts_any _ c3 c3 W.heap.size (M.take c3) W1 HM1.out HW1.out.size (by omega)).mono ?_
                rintro e w6 ⟨v6, rfl, hown, hbw⟩
                have HO6 := hid (show Ot w6 W.heap.size v6 (M.take c3) from Ot.lower hown HW1.out.size)
                have HB6 := hid (HW1.out.trans (hbw.mono HW1.out.size))
                have HL6 := hid (show St w6 (W.heap.size + 1) (some ⟨W.heap.size, 0, none⟩) 1 1 [x] from Sv.keep HL1.out fun p hp => hbw.cell (by rw [hs1]; exact hp))
                have hcx6 : w6.cell? (ad.add i) = some (encStr x) := (HB6.out.cell (World.block_lt_of_cell? W _ hcx)).trans hcx
                clear hown hbw hs1 HL1 HM1 HW1
                refine hK.out _ _ hcx6 (fun hH => ?_)
                clear hK K
                try simp only [Act.put, List.setIfInBounds_toArray, List.set_cons_zero, List.set_cons_succ]
                refine wpAnyH_ready (rs := [9]) (by kernel_rfl) (by simp) (AllReadyH.cons rfl (fun K hK => ?_) AllReadyH.nil)
                refine step_append_tx rfl (.tmp 48) (.tmp 53) rfl W.heap.size _ v6 (M.take c3) [x] (by simp [Act.eval]) HO6.out ⟨W.heap.size, 0, none⟩ 1 1 (by simp [Act.eval]) HL6.out (by rw [List.length_take]; omega) HB6.out.size ?_
                rintro v7 w7 hown7 hb7
                have HB7 := hid (show Below W.heap.size W w7 from (HB6.out.trans hb7))
                have hcx7 : w7.cell? (ad.add i) = some (encStr x) := (HB7.out.cell (World.block_lt_of_cell? W _ hcx)).trans hcx
                have HO7 := hid (Ot.lower hown7 HB2.out.size)
                clear hown7 hb7 hcx
                refine hK.out _ _ hcx7 (fun hH => ?_)
                clear hK K
                try simp only [Act.put, List.setIfInBounds_toArray, List.set_cons_zero, List.set_cons_succ]
                refine wpAnyH_take (i := 10) (oi := _) (v := ?_) (by simp only [List.getElem?_toArray, List.getElem?_cons_succ, List.getElem?_cons_zero]; rfl) (by kernel_rfl) (by kernel_rfl) (by kernel_rfl) (by exact fun _ _ _ h => h) (Or.inl ⟨by rfl, ?_⟩) hH ?_
                rotate_left
                · intro w hSw; (try dsimp only at hSw); go_simp; try with_reducible rfl
                try simp only [Act.put, List.setIfInBounds_toArray, List.set_cons_zero, List.set_cons_succ]
                refine wpAnyH_done (by kernel_rfl) ?_ _
                have HST7 := hid (show St w7 W.heap.size _ _ _ (M.drop c3) from by have := Sv.cut (Sv.below HST2.out HB7.out) hk; rw [← Tx_drop] at this; exact this)
                rw [if_pos rfl, Nat.sub_self, show m - c3 = 0 by omega] at HST7
                obtain ⟨N, hN⟩ : ∃ N, M.take c3 ++ [x] = N := ⟨_, rfl⟩
                obtain ⟨D, hD⟩ : ∃ D, M.drop c3 = D := ⟨_, rfl⟩
                have hNl : N.length ≤ c3 + 1 := by rw [← hN]; simp only [List.length_append, List.length_take, List.length_cons, List.length_nil]; omega
                rw [hN] at HO7 HNX
                rw [hD] at HNX HST7
                clear hN hD
                have hw7 : w.heap.size ≤ w7.heap.size := by have := HB7.out.size; have := HB2.out.size; omega
                go_wp2_with (at_builtin; refine wpList_append_tx rfl _ _ rfl w.heap.size W.heap.size v7 N D rfl HO7.out _ _ _ rfl HST7.out (by omega) hw7 ?_)
                all_goals (intro v8 w8 hown8 hb8)
                all_goals (have HO8 := hid hown8)
                all_goals (have HB8 := hid (HB2.out.trans ((HB7.out.mono HB2.out.size).trans hb8)))
                all_goals (clear hown8 hb8)
                all_goals go_wp2
                all_goals (refine ⟨⟨i + 1, by omega, by go_num, hid ⟨_, HO8.out, HNX.out⟩, HB8⟩, ?_⟩)
                all_goals (simp [intOf]; omega)

            ·
              go_wp2
              go_quiet (fail)
              rename Nat => nq1
              go_wp2
              go_quiet (fail)
              have hkc : k ≤ c3 := by have := HST.out.cap; omega
              have HNX := hid (HSO.out.put HX.out HK.out HU.out)
              have HB2 := hid (show Below w.heap.size w (((w5.drewN q).drewN nq1).drewN nq) from below_drewN (below_drewN (below_drewN HB1.out _) _) _)
              have HMO2 := hid (show Ot (((w5.drewN q).drewN nq1).drewN nq) w.heap.size (.slice _ _ c3) M from HMO.out)
              have HST2 := hid (Sv.drewN (Sv.drewN (Sv.drewN HST.out q) nq1) nq)
              have hcx : (((w5.drewN q).drewN nq1).drewN nq).cell? (ad.add i) = some (encStr x) := hc
              have hsz : (((w5.drewN q).drewN nq1).drewN nq).heap.size = w5.heap.size := rfl
              rw [← hsz] at HST2
              generalize ((w5.drewN q).drewN nq1).drewN nq = W at HB2 HMO2 HST2 hcx ⊢
              clear hc hsz
              go_upto_region 9 with fail
              refine wp_region_held_drew (S := fun w' => w'.cell? (ad.add i) = some (encStr x)) (by kernel_rfl) hcx (fun hH => ?_)
              refine wpAnyH_take (i := 0) (oi := _) (v := ?_) (by simp only [List.getElem?_toArray, List.getElem?_cons_zero]; rfl) (by kernel_rfl) (by kernel_rfl) (by kernel_rfl) (by exact fun _ _ _ h => h) (Or.inl ⟨by rfl, ?_⟩) hH ?_
              rotate_left
              · intro w hSw; (try dsimp only at hSw); go_simp; try with_reducible rfl
              try simp only [Act.put, List.setIfInBounds_toArray, List.set_cons_zero, List.set_cons_succ]
              refine wpAnyH_take (i := 1) (oi := _) (v := ?_) (by simp only [List.getElem?_toArray, List.getElem?_cons_succ, List.getElem?_cons_zero]; rfl) (by kernel_rfl) (by kernel_rfl) (by kernel_rfl) (by exact fun _ _ _ h => h) (Or.inl ⟨by rfl, ?_⟩) hH ?_
              rotate_left
              · intro w hSw; (try dsimp only at hSw); go_simp; try with_reducible rfl
              try simp only [Act.put, List.setIfInBounds_toArray, List.set_cons_zero, List.set_cons_succ]
              refine wpAnyH_take (i := 2) (oi := _) (v := ?_) (by simp only [List.getElem?_toArray, List.getElem?_cons_succ, List.getElem?_cons_zero]; rfl) (by kernel_rfl) (by kernel_rfl) (by kernel_rfl) (by exact fun _ _ _ h => h) (Or.inl ⟨by rfl, ?_⟩) hH ?_
              rotate_left
              · intro w hSw; (try dsimp only at hSw); go_simp; try with_reducible rfl
              try simp only [Act.put, List.setIfInBounds_toArray, List.set_cons_zero, List.set_cons_succ]
              refine wpAnyH_take (i := 4) (oi := _) (v := ?_) (by simp only [List.getElem?_toArray, List.getElem?_cons_succ, List.getElem?_cons_zero]; rfl) (by kernel_rfl) (by kernel_rfl) (by kernel_rfl) (by exact fun _ _ _ h => h) (Or.inl ⟨by rfl, ?_⟩) hH ?_
              rotate_left
              · intro w hSw; (try dsimp only at hSw); go_simp; try with_reducible rfl
              try simp only [Act.put, List.setIfInBounds_toArray, List.set_cons_zero, List.set_cons_succ]
              refine wpAnyH_take (i := 5) (oi := _) (v := ?_) (by simp only [List.getElem?_toArray, List.getElem?_cons_succ, List.getElem?_cons_zero]; rfl) (by kernel_rfl) (by kernel_rfl) (by kernel_rfl) (by exact fun _ _ _ h => h) (Or.inl ⟨by rfl, ?_⟩) hH ?_
              rotate_left
              · intro w hSw; (try dsimp only at hSw); go_simp; try with_reducible rfl
              try simp only [Act.put, List.setIfInBounds_toArray, List.set_cons_zero, List.set_cons_succ]
              refine wpAnyH_take (i := 6) (oi := _) (v := ?_) (by simp only [List.getElem?_toArray, List.getElem?_cons_succ, List.getElem?_cons_zero]; rfl) (by kernel_rfl) (by kernel_rfl) (by kernel_rfl) (by exact fun _ _ _ h => h) (Or.inl ⟨by rfl, ?_⟩) hH ?_
              rotate_left
              · intro w hSw; (try dsimp only at hSw); go_simp; try with_reducible rfl
              try simp only [Act.put, List.setIfInBounds_toArray, List.set_cons_zero, List.set_cons_succ]
              refine wpAnyH_take (i := 7) (oi := _) (v := ?_) (by simp only [List.getElem?_toArray, List.getElem?_cons_succ, List.getElem?_cons_zero]; rfl) (by kernel_rfl) (by kernel_rfl) (by kernel_rfl) (by exact fun _ _ _ h => h) (Or.inl ⟨by rfl, ?_⟩) hH ?_
              rotate_left
              · intro w hSw; (try dsimp only at hSw); go_simp; try with_reducible rfl
              try simp only [Act.put, List.setIfInBounds_toArray, List.set_cons_zero, List.set_cons_succ]
              refine wpAnyH_ready (rs := [3, 8]) (by kernel_rfl) (by simp) (AllReadyH.cons rfl (fun K hK => ?_) (AllReadyH.cons rfl (fun K hK => ?_) AllReadyH.nil))
              · go_simp
                go_at_call 17
                refine (texts_any _ k c3 _ (M.take k) _ (show St W.drew W.heap.size _ k c3 (M.take k) from by have := Sv.head HST2.out hk; rw [← Tx_take] at this; exact Sv.drewN this 1) (Nat.le_refl _) (by omega)).mono ?_
                rintro e w6 ⟨v6, rfl, hown, hbw⟩
                have hcx6 : w6.cell? (ad.add i) = some (encStr x) := (hbw.cell (World.block_lt_of_cell? W _ hcx)).trans hcx
                have HO6 := hid (show Ot w6 W.heap.size v6 (M.take k) from hown)
                have HB6 := hid (show Below W.heap.size W w6 from ⟨hbw.os, hbw.tape, hbw.output, hbw.size, hbw.block⟩)
                clear hown hbw
                refine hK.out _ _ hcx6 (fun hH => ?_)
                clear hK K
                try simp only [Act.put, List.setIfInBounds_toArray, List.set_cons_zero, List.set_cons_succ]
                refine wpAnyH_ready (rs := [8]) (by kernel_rfl) (by simp) (AllReadyH.cons rfl (fun K hK => ?_) AllReadyH.nil)
                go_simp
                refine hK.out _ _ (by first | exact (World.cell?_alloc_lt w6 _ _ (World.block_lt_of_cell? w6 _ hcx6)).trans hcx6) (fun hH => ?_)
                clear hK K
                try simp only [Act.put, List.setIfInBounds_toArray, List.set_cons_zero, List.set_cons_succ]
                refine wpAnyH_ready (rs := [9]) (by kernel_rfl) (by simp) (AllReadyH.cons rfl (fun K hK => ?_) AllReadyH.nil)
                refine step_append_tx rfl (.tmp 48) (.tmp 53) rfl W.heap.size _ v6 (M.take k) [x] (by simp [Act.eval]) (World.ownsRow.alloc HO6.out _) ⟨w6.heap.size, 0, none⟩ 1 1 (by simp [Act.eval]) (st_one w6 x) (by rw [List.length_take]; omega) (by have := HB6.out.size; simp; omega) ?_
                rintro v7 w7 hown7 hb7
                have HB7 := hid (show Below W.heap.size W w7 from ((HB6.out.alloc HB6.out.size _).trans hb7))
                have hcx7 : w7.cell? (ad.add i) = some (encStr x) := (HB7.out.cell (World.block_lt_of_cell? W _ hcx)).trans hcx
                have HO7 := hid (Ot.lower hown7 HB2.out.size)
                clear hown7 hb7 hcx
                refine hK.out _ _ hcx7 (fun hH => ?_)
                clear hK K
                try simp only [Act.put, List.setIfInBounds_toArray, List.set_cons_zero, List.set_cons_succ]
                refine wpAnyH_take (i := 10) (oi := _) (v := ?_) (by simp only [List.getElem?_toArray, List.getElem?_cons_succ, List.getElem?_cons_zero]; rfl) (by kernel_rfl) (by kernel_rfl) (by kernel_rfl) (by exact fun _ _ _ h => h) (Or.inl ⟨by rfl, ?_⟩) hH ?_
                rotate_left
                · intro w hSw; (try dsimp only at hSw); go_simp; try with_reducible rfl
                try simp only [Act.put, List.setIfInBounds_toArray, List.set_cons_zero, List.set_cons_succ]
                refine wpAnyH_done (by kernel_rfl) ?_ _
                have HST7 := hid (show St w7 W.heap.size _ _ _ (M.drop k) from by have := Sv.cut (Sv.below HST2.out HB7.out) hk; rw [← Tx_drop] at this; exact this)
                rw [if_neg hck, show m - k = 0 by omega] at HST7
                obtain ⟨N, hN⟩ : ∃ N, M.take k ++ [x] = N := ⟨_, rfl⟩
                obtain ⟨D, hD⟩ : ∃ D, M.drop k = D := ⟨_, rfl⟩
                have hNl : N.length ≤ k + 1 := by rw [← hN]; simp only [List.length_append, List.length_take, List.length_cons, List.length_nil]; omega
                rw [hN] at HO7 HNX
                rw [hD] at HNX HST7
                clear hN hD
                have hw7 : w.heap.size ≤ w7.heap.size := by have := HB7.out.size; have := HB2.out.size; omega
                go_wp2_with (at_builtin; refine wpList_append_tx rfl _ _ rfl w.heap.size W.heap.size v7 N D rfl HO7.out _ _ _ rfl HST7.out (by omega) hw7 ?_)
                all_goals (intro v8 w8 hown8 hb8)
                all_goals (have HO8 := hid hown8)
                all_goals (have HB8 := hid (HB2.out.trans ((HB7.out.mono HB2.out.size).trans hb8)))
                all_goals (clear hown8 hb8)
                all_goals go_wp2
                all_goals (refine ⟨⟨i + 1, by omega, by go_num, hid ⟨_, HO8.out, HNX.out⟩, HB8⟩, ?_⟩)
                all_goals (simp [intOf]; omega)
              · go_simp
                refine hK.out _ _ ((World.cell?_alloc_lt W _ _ (World.block_lt_of_cell? W _ hcx)).trans hcx) (fun hH => ?_)
                clear hK K
                try simp only [Act.put, List.setIfInBounds_toArray, List.set_cons_zero, List.set_cons_succ]
                have hs1 : (W.alloc (.cells #[encStr x] 9)).drew.heap.size = W.heap.size + 1 := by simp
                have HL1 := hid (show St (W.alloc (.cells #[encStr x] 9)).drew (W.heap.size + 1) (some ⟨W.heap.size, 0, none⟩) 1 1 [x] from Sv.drewN (st_one W x) 1)
                have HM1 := hid (show St (W.alloc (.cells #[encStr x] 9)).drew W.heap.size _ k c3 (M.take k) from by have := Sv.head HST2.out hk; rw [← Tx_take] at this; exact Sv.drewN (Sv.alloc this (Nat.le_refl _) _) 1)
                have HW1 := hid (show Below W.heap.size W (W.alloc (.cells #[encStr x] 9)).drew from below_drewN ((Below.refl _ _).alloc (Nat.le_refl _) _) 1)
                generalize (W.alloc (.cells #[encStr x] 9)).drew = W1 at hs1 HL1 HM1 HW1 ⊢
                refine wpAnyH_ready (rs := [3]) (by kernel_rfl) (by simp) (AllReadyH.cons rfl (fun K hK => ?_) AllReadyH.nil)
                go_simp
                go_at_call 17
                refine (texts_any _ k c3 W.heap.size (M.take k) W1 HM1.out HW1.out.size (by omega)).mono ?_
                rintro e w6 ⟨v6, rfl, hown, hbw⟩
                have HO6 := hid (show Ot w6 W.heap.size v6 (M.take k) from Ot.lower hown HW1.out.size)
                have HB6 := hid (HW1.out.trans (hbw.mono HW1.out.size))
                have HL6 := hid (show St w6 (W.heap.size + 1) (some ⟨W.heap.size, 0, none⟩) 1 1 [x] from Sv.keep HL1.out fun p hp => hbw.cell (by rw [hs1]; exact hp))
                have hcx6 : w6.cell? (ad.add i) = some (encStr x) := (HB6.out.cell (World.block_lt_of_cell? W _ hcx)).trans hcx
                clear hown hbw hs1 HL1 HM1 HW1
                refine hK.out _ _ hcx6 (fun hH => ?_)
                clear hK K
                try simp only [Act.put, List.setIfInBounds_toArray, List.set_cons_zero, List.set_cons_succ]
                refine wpAnyH_ready (rs := [9]) (by kernel_rfl) (by simp) (AllReadyH.cons rfl (fun K hK => ?_) AllReadyH.nil)
                refine step_append_tx rfl (.tmp 48) (.tmp 53) rfl W.heap.size _ v6 (M.take k) [x] (by simp [Act.eval]) HO6.out ⟨W.heap.size, 0, none⟩ 1 1 (by simp [Act.eval]) HL6.out (by rw [List.length_take]; omega) HB6.out.size ?_
                rintro v7 w7 hown7 hb7
                have HB7 := hid (show Below W.heap.size W w7 from (HB6.out.trans hb7))
                have hcx7 : w7.cell? (ad.add i) = some (encStr x) := (HB7.out.cell (World.block_lt_of_cell? W _ hcx)).trans hcx
                have HO7 := hid (Ot.lower hown7 HB2.out.size)
                clear hown7 hb7 hcx
                refine hK.out _ _ hcx7 (fun hH => ?_)
                clear hK K
                try simp only [Act.put, List.setIfInBounds_toArray, List.set_cons_zero, List.set_cons_succ]
                refine wpAnyH_take (i := 10) (oi := _) (v := ?_) (by simp only [List.getElem?_toArray, List.getElem?_cons_succ, List.getElem?_cons_zero]; rfl) (by kernel_rfl) (by kernel_rfl) (by kernel_rfl) (by exact fun _ _ _ h => h) (Or.inl ⟨by rfl, ?_⟩) hH ?_
                rotate_left
                · intro w hSw; (try dsimp only at hSw); go_simp; try with_reducible rfl
                try simp only [Act.put, List.setIfInBounds_toArray, List.set_cons_zero, List.set_cons_succ]
                refine wpAnyH_done (by kernel_rfl) ?_ _
                have HST7 := hid (show St w7 W.heap.size _ _ _ (M.drop k) from by have := Sv.cut (Sv.below HST2.out HB7.out) hk; rw [← Tx_drop] at this; exact this)
                rw [if_neg hck, show m - k = 0 by omega] at HST7
                obtain ⟨N, hN⟩ : ∃ N, M.take k ++ [x] = N := ⟨_, rfl⟩
                obtain ⟨D, hD⟩ : ∃ D, M.drop k = D := ⟨_, rfl⟩
                have hNl : N.length ≤ k + 1 := by rw [← hN]; simp only [List.length_append, List.length_take, List.length_cons, List.length_nil]; omega
                rw [hN] at HO7 HNX
                rw [hD] at HNX HST7
                clear hN hD
                have hw7 : w.heap.size ≤ w7.heap.size := by have := HB7.out.size; have := HB2.out.size; omega
                go_wp2_with (at_builtin; refine wpList_append_tx rfl _ _ rfl w.heap.size W.heap.size v7 N D rfl HO7.out _ _ _ rfl HST7.out (by omega) hw7 ?_)
                all_goals (intro v8 w8 hown8 hb8)
                all_goals (have HO8 := hid hown8)
                all_goals (have HB8 := hid (HB2.out.trans ((HB7.out.mono HB2.out.size).trans hb8)))
                all_goals (clear hown8 hb8)
                all_goals go_wp2
                all_goals (refine ⟨⟨i + 1, by omega, by go_num, hid ⟨_, HO8.out, HNX.out⟩, HB8⟩, ?_⟩)
                all_goals (simp [intOf]; omega)
    · go_wp2
      go_ret
      obtain ⟨M, hM, hso⟩ := HO1.out
      have e : M = srt l := srt_of hso.1 fun y => by rw [hso.2.1 y, List.take_of_length_le (by have := HS.out.size; omega)]
      rw [e] at hM
      exact ⟨_, rfl, hM, HB1.out⟩
end Go.Proofs.YtdipikomfppihaaDoor
