/- Lists of entries compared; those behind a name. -/
import Derived.Test.YtcjiimfgmmgifaaDoorGEnA
namespace Go.Proofs.YtcjiimfgmmgifaaDoor
open Go.RowKit Go.Shelf Go.Sort

theorem fromE_room {L : List En} {a : Nam} {m : Int} {x : En} (h : ((fromE L a m).length : Int) < m) : (behindE L a ++ [x]).take m.toNat = fromE L a m ++ [x] ∧ decide (m.toNat < (behindE L a ++ [x]).length) = moreE L a m := by
  unfold fromE moreE at *
  rw [List.length_take] at h
  have h1 : (behindE L a).length < m.toNat := by omega
  refine ⟨by rw [List.take_of_length_le (by simp; omega), List.take_of_length_le (by omega)], ?_⟩
  rw [List.length_append, decide_eq_decide]
  simp
  omega
theorem fromE_full {L : List En} {a : Nam} {m : Int} {x : En} (h : ¬ ((fromE L a m).length : Int) < m) : (behindE L a ++ [x]).take m.toNat = fromE L a m ∧ decide (m.toNat < (behindE L a ++ [x]).length) = true := by
  unfold fromE at *
  rw [List.length_take] at h
  have h1 : m.toNat ≤ (behindE L a).length := by omega
  refine ⟨by rw [List.take_append_of_le_length h1], ?_⟩
  rw [List.length_append]
  simp
  omega
theorem sameE_not {L M : List En} {k : Nat} {x y : En} (hx : L[k]? = some x) (hy : M[k]? = some y) (hne : x ≠ y) : decide (L = M) = false := by
  simp only [decide_eq_false_iff_not]
  intro e
  subst e
  rw [hx] at hy
  exact hne (Option.some.inj hy)
theorem sameE_end {L M : List En} {n k : Nat} (hl : L.length = n) (hm : M.length = n) (hk : ¬ k < n) (h : L.take k = M.take k) : decide (L = M) = true := by
  rw [List.take_of_length_le (by omega), List.take_of_length_le (by omega)] at h
  simp [h]
set_option maxRecDepth 100000 in
set_option maxHeartbeats 2000000 in
theorem sameEntrys_any (A A' : Option Addr) (n c n' c' B B' : Nat) (L M : List En) (w : World) (h : ESl w B A n c L) (h' : ESl w B' A' n' c' M) (hB : B ≤ w.heap.size) (hB' : B' ≤ w.heap.size) :
    Calls Tryd.prog 19 #[.slice A n c, .slice A' n' c'] w fun r w' => r = .returned (.bool (decide (L = M))) ∧ Below w.heap.size w w' := by
  have hmx : n ≤ 9223372036854775807 := by have := h.cap; have := h.max; unfold maxLen at this; omega
  have HS := hid (h.more hB)
  have HS' := hid (h'.more hB')
  clear h h'
  by_cases hne : n = n'
  · subst hne
    go_enter Tryd.func19, Tryd.ntmps19
    go_wp2
    go_loopw [5] (fun i wr => ∃ k : Nat, k ≤ n ∧ i = .int .i64 (k : Int) ∧ Hid (L.take k = M.take k) ∧ Below w.heap.size w wr) (fun i _ => n - (intOf i).toNat)
    case atStart => exact ⟨0, Nat.zero_le _, rfl, rfl, Below.refl _ _⟩
    case round =>
      obtain ⟨k, hk, rfl, HT, hb⟩ := hrel
      have HB := hid hb
      have HB0 := hid (show Below w.heap.size w wr.drew from HB.out.drew)
      clear hb
      by_cases hlt : k < n
      · obtain ⟨b, o, x, rfl, hbl, hx, c0, c1, c2⟩ := (HS.out.below HB0.out).get hlt
        obtain ⟨b', o', y, rfl, hbl', hy, d0, d1, d2⟩ := (HS'.out.below HB0.out).get hlt
        have HX := hid hx
        have HY := hid hy
        clear hx hy hbl hbl'
        have hi0 : (0 : Int) ≤ (k : Int) := by omega
        have hi1 : (k : Int) < (n : Int) := by omega
        go_wp2_with fail
        obtain ⟨r, hr⟩ : ∃ r, decide (x = y) = r := ⟨_, rfl⟩
        have HR := hid hr
        go_region_held3 (fun w' => w'.cell? ⟨b, o + k * 3, none⟩ = some (encStr x.s) ∧ w'.cell? ⟨b, o + k * 3 + 1, none⟩ = some (.int .i64 x.n) ∧ w'.cell? ⟨b, o + k * 3 + 2, none⟩ = some (.int .i64 x.k) ∧ w'.cell? ⟨b', o' + k * 3, none⟩ = some (encStr y.s) ∧ w'.cell? ⟨b', o' + k * 3 + 1, none⟩ = some (.int .i64 y.n) ∧ w'.cell? ⟨b', o' + k * 3 + 2, none⟩ = some (.int .i64 y.k)) (first | exact ⟨c0, c1, c2, d0, d1, d2⟩ | exact hcs | go_keep)
          ((first | (go_at_call 17; refine (sameEntry_any x y _).mono ?_; rw [HR.out]; rintro e w2 ⟨rfl, hb2⟩; have HB2 := hid (HB0.out.trans (hb2.mono HB0.out.size)); have hcs := (show w2.cell? ⟨b, o + k * 3, none⟩ = some (encStr x.s) ∧ w2.cell? ⟨b, o + k * 3 + 1, none⟩ = some (.int .i64 x.n) ∧ w2.cell? ⟨b, o + k * 3 + 2, none⟩ = some (.int .i64 x.k) ∧ w2.cell? ⟨b', o' + k * 3, none⟩ = some (encStr y.s) ∧ w2.cell? ⟨b', o' + k * 3 + 1, none⟩ = some (.int .i64 y.n) ∧ w2.cell? ⟨b', o' + k * 3 + 2, none⟩ = some (.int .i64 y.k) from ⟨(hb2.cell (World.block_lt_of_cell? _ _ c0)).trans c0, (hb2.cell (World.block_lt_of_cell? _ _ c1)).trans c1, (hb2.cell (World.block_lt_of_cell? _ _ c2)).trans c2, (hb2.cell (World.block_lt_of_cell? _ _ d0)).trans d0, (hb2.cell (World.block_lt_of_cell? _ _ d1)).trans d1, (hb2.cell (World.block_lt_of_cell? _ _ d2)).trans d2⟩); clear hb2)))
        rcases r with _ | _
        · have HN := hid (sameE_not HX.out HY.out (of_decide_eq_false HR.out))
          clear hr HR
          go_wp2
          go_ret
          exact ⟨by rw [HN.out]; rfl, HB2.out⟩
        · have HT2 := hid (show L.take (k + 1) = M.take (k + 1) by rw [takeE HX.out, takeE HY.out, HT.out, of_decide_eq_true HR.out])
          clear hr HR
          go_wp2
          go_roundw
          case rel => exact ⟨k + 1, by omega, by go_num, HT2, HB2.out⟩
          case measure => simp [intOf]; omega
      · have HN := hid (sameE_end HS.out.len HS'.out.len hlt HT.out)
        go_wp2
        go_ret
        exact ⟨by rw [HN.out]; rfl, HB.out⟩
  · have HN := hid (show decide (L = M) = false by
      simp only [decide_eq_false_iff_not]
      intro e
      have h1 := HS.out.len
      have h2 := HS'.out.len
      rw [e] at h1
      omega)
    have hb : ((n : Int) != (n' : Int)) = true := by rw [bne_iff_ne]; omega
    clear hne
    go_enter Tryd.func19, Tryd.ntmps19
    go_wp2
    go_ret
    exact ⟨by rw [HN.out]; rfl, Below.refl _ _⟩
set_option maxRecDepth 100000 in
set_option maxHeartbeats 2000000 in
theorem refFrom_any (A : Option Addr) (n c B : Nat) (L : List En) (a : Nam) (m : Int) (w : World) (h : ESl w B A n c L) (hB : B ≤ w.heap.size) (hn : n ≤ 100000) :
    Calls Tryd.prog 22 #[.slice A n c, encStr a, .int .i64 m] w fun r w' => (∃ v, r = .returned (.tuple #[v, .bool (moreE L a m)]) ∧ EOwn w' w.heap.size v (fromE L a m)) ∧ Below w.heap.size w w' := by
  have HS := hid h
  have HBB := hid hB
  clear h hB
  go_enter Tryd.func22, Tryd.ntmps22
  go_wp2
  go_loopw [8, 9, 10] (fun v mv i wr => ∃ k : Nat, k ≤ n ∧ i = .int .i64 (k : Int) ∧ mv = .bool (moreE (L.take k) a m) ∧ Hid (EOwn wr w.heap.size v (fromE (L.take k) a m)) ∧ Hid (Below w.heap.size w wr)) (fun _ _ i _ => n - (intOf i).toNat)
  case atStart =>
    have h0 : fromE (L.take 0) a m = [] ∧ moreE (L.take 0) a m = false := by unfold fromE moreE behindE; simp
    exact ⟨0, Nat.zero_le _, rfl, by rw [h0.2], (show EOwn w _ _ _ by rw [h0.1]; exact EOwn.nil _ _), Below.refl _ _⟩
  case round =>
    obtain ⟨k, hk, rfl, rfl, HO, HB⟩ := hrel
    by_cases hlt : k < n
    · obtain ⟨b, o, x, rfl, hbl, hx, c0, c1, c2⟩ := (HS.out.below (HB.out.mono HBB.out)).get hlt
      have HX := hid hx
      have HN := hid (behindE_next (a := a) hx)
      have hi0 : (0 : Int) ≤ (k : Int) := by omega
      have hi1 : (k : Int) < (n : Int) := by omega
      clear hx hbl
      obtain ⟨A2, c2', rfl, hsl, _⟩ := HO.out.form
      have hcap := hsl.cap
      have hmax := hsl.max
      have hln := behindE_len (L.take k) a
      rw [List.length_take] at hln
      clear hsl
      by_cases hs : a < x.s
      · have t1 : Op.bytesLess a x.s = true := by rw [blt]; exact decide_eq_true hs
        have t2 : (x.s == a) = false := beq_eq_false_iff_ne.2 fun e => nam_lt_irrefl a (by rw [e] at hs; exact hs)
        have t3 : Op.bytesLess x.s a = false := by rw [blt]; exact decide_eq_false (nam_lt_asymm hs)
        have hN := HN.out
        rw [if_pos hs] at hN
        by_cases hr : ((fromE (L.take k) a m).length : Int) < m
        · have HF := hid (show fromE (L.take (k + 1)) a m = fromE (L.take k) a m ++ [x] from by
            have := (fromE_room (x := x) hr).1
            rw [← hN] at this
            exact this)
          have HM := hid (show moreE (L.take k) a m = moreE (L.take (k + 1)) a m from by
            have := (fromE_room (x := x) hr).2
            rw [← hN] at this
            exact this.symm)
          have hlf : (fromE (L.take k) a m).length ≤ 100000 := by unfold fromE; rw [List.length_take]; omega
          clear hN hs hln
          go_wp2_with (at_builtin; refine wpList_append_en rfl _ _ rfl w.heap.size (wr.heap.size + 1) _ (fromE (L.take k) a m) [x] rfl (World.ownsRow.alloc HO.out _) (some ⟨wr.heap.size, 0, none⟩) 1 1 rfl (esl_one wr x) ?c1 ?c2 ?_)
          case c1 => omega
          case c2 => have := HB.out.size; simp; omega
          intro v' w2 hown' hgrow _
          have R1 := hid (show EOwn w2 w.heap.size v' (fromE (L.take (k + 1)) a m) by rw [HF.out]; exact hown')
          have R2 := hid (show Below w.heap.size w w2 from (HB.out.alloc HB.out.size _).grown hgrow (by have := HB.out.size; simp; omega) (fun k hk => (HO.out.lt k hk).1))
          clear hown' hgrow
          go_wp2
          go_roundw
          case rel => exact ⟨k + 1, by omega, by go_num, by rw [HM.out], R1, R2⟩
          case measure => simp [intOf]; omega
        · have HF := hid (show fromE (L.take (k + 1)) a m = fromE (L.take k) a m from by
            have := (fromE_full (x := x) hr).1
            rw [← hN] at this
            exact this)
          have HM := hid (show moreE (L.take (k + 1)) a m = true from by
            have := (fromE_full (x := x) hr).2
            rw [← hN] at this
            exact this)
          have R1 := hid (show EOwn wr w.heap.size (.slice A2 (fromE (L.take k) a m).length c2') (fromE (L.take (k + 1)) a m) by rw [HF.out]; exact HO.out)
          clear hN hs hln
          go_wp2
          go_roundw
          case rel => exact ⟨k + 1, by omega, by go_num, by rw [HM.out], R1, HB⟩
          case measure => simp [intOf]; omega
      · have hN := HN.out
        rw [if_neg hs, List.append_nil] at hN
        have HF := hid (show fromE (L.take (k + 1)) a m = fromE (L.take k) a m ∧ moreE (L.take (k + 1)) a m = moreE (L.take k) a m from by unfold fromE moreE; rw [hN]; exact ⟨rfl, rfl⟩)
        have R1 := hid (show EOwn wr w.heap.size (.slice A2 (fromE (L.take k) a m).length c2') (fromE (L.take (k + 1)) a m) by rw [HF.out.1]; exact HO.out)
        clear hN
        by_cases e : x.s = a
        · have t2 : (x.s == a) = true := beq_iff_eq.2 e
          clear hs e
          go_wp2
          go_roundw
          case rel => exact ⟨k + 1, by omega, by go_num, by rw [HF.out.2], R1, HB⟩
          case measure => simp [intOf]; omega
        · have t2 : (x.s == a) = false := beq_eq_false_iff_ne.2 e
          have t1 : Op.bytesLess x.s a = true := by
            rw [blt]
            rcases nam_tri a x.s with h | h | h
            · exact absurd h hs
            · exact absurd h.symm e
            · exact decide_eq_true h
          clear hs e
          go_wp2
          go_roundw
          case rel => exact ⟨k + 1, by omega, by go_num, by rw [HF.out.2], R1, HB⟩
          case measure => simp [intOf]; omega
    · have HT := hid (show L.take k = L from List.take_of_length_le (by have := HS.out.len; omega))
      go_wp2
      go_ret2
      exact ⟨⟨_, by rw [HT.out]; rfl, by have := HO.out; rw [HT.out] at this; exact this⟩, HB.out⟩
end Go.Proofs.YtcjiimfgmmgifaaDoor
