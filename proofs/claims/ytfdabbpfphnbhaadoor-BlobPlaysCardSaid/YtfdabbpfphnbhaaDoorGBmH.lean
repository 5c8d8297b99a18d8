/- Package blob's own area: Done, Used, Left. -/
import Derived.Test.YtfdabbpfphnbhaaDoorGBmG
namespace Go.Proofs.YtfdabbpfphnbhaaDoor
open Go.RowKit

theorem range_dats {n : Nat} (h : 300 ≤ n) : List.range n = List.range (datN n) ++ dats n := by
  have hd := (datN_lt h).1
  have e : n = datN n + (n - datN n) := by omega
  unfold dats
  conv => lhs; rw [e]
  exact List.range_add
def usedTm (n : Nat) (a : ASt) (k : Nat) : List Int := ((List.range k).filter (fun i => decide (useV n a i = 2))).map (fun i : Nat => (i : Int))
theorem usedTm_all {n : Nat} {a : ASt} (h : 300 ≤ n) (hk : a.ok n) : usedTm n a n = usedA n a := by
  unfold usedTm usedA
  rw [range_dats h, List.filter_append]
  have e1 : (List.range (datN n)).filter (fun i => decide (useV n a i = 2)) = [] := by
    rw [List.filter_eq_nil_iff]
    intro i hi
    rw [useV_aside.2 (List.mem_range.1 hi)]
    decide
  rw [e1, List.nil_append]
  congr 1
  apply List.filter_congr
  intro i _
  rcases hu : a.use i with _ | _
  · rw [decide_eq_false_iff_not]
    intro e; rw [(useV_used hk).1 e] at hu; cases hu
  · rw [decide_eq_true_iff]
    exact (useV_used hk).2 hu
theorem usedTm_yes {n k : Nat} {a : ASt} (h : useV n a k = 2) : usedTm n a (k + 1) = usedTm n a k ++ [(k : Int)] := by
  unfold usedTm
  rw [List.range_succ, List.filter_append, List.map_append, List.filter_cons_of_pos (by simpa using h)]
  rfl
theorem usedTm_no {n k : Nat} {a : ASt} (h : useV n a k ≠ 2) : usedTm n a (k + 1) = usedTm n a k := by
  unfold usedTm
  rw [List.range_succ, List.filter_append, List.map_append, List.filter_cons_of_neg (by simpa using h)]
  simp
theorem usedTm_le (n : Nat) (a : ASt) (k : Nat) : (usedTm n a k).length ≤ k := by
  unfold usedTm
  rw [List.length_map]
  exact Nat.le_trans (List.length_filter_le _ _) (by rw [List.length_range]; exact Nat.le_refl _)
def leftTm (n : Nat) (a : ASt) (k : Nat) : Nat := (List.range k).countP (fun i => decide (useV n a i = 1))
theorem leftTm_all {n : Nat} {a : ASt} (h : 300 ≤ n) : leftTm n a n = leftA n a := by
  unfold leftTm leftA
  rw [range_dats h, List.countP_append]
  have e1 : (List.range (datN n)).countP (fun i => decide (useV n a i = 1)) = 0 := by
    rw [List.countP_eq_zero]
    intro i hi
    rw [useV_aside.2 (List.mem_range.1 hi)]
    decide
  rw [e1, Nat.zero_add]
  apply List.countP_congr
  intro i hi
  have h1 := (dats_mem.1 hi).1
  rw [decide_eq_true_iff, useV_free]
  exact ⟨fun h => h.2, fun h => ⟨h1, h⟩⟩
theorem leftTm_yes {n k : Nat} {a : ASt} (h : useV n a k = 1) : leftTm n a (k + 1) = leftTm n a k + 1 := by
  unfold leftTm
  rw [List.range_succ, List.countP_append]
  simp [h]
theorem leftTm_no {n k : Nat} {a : ASt} (h : useV n a k ≠ 1) : leftTm n a (k + 1) = leftTm n a k := by
  unfold leftTm
  rw [List.range_succ, List.countP_append]
  simp [h]
theorem leftTm_le (n : Nat) (a : ASt) (k : Nat) : leftTm n a k ≤ k := by
  unfold leftTm
  exact Nat.le_trans List.countP_le_length (by rw [List.length_range]; exact Nat.le_refl _)
set_option maxRecDepth 100000 in
set_option maxHeartbeats 2000000 in
theorem bleft_any (d g u n nx : Nat) (a : ASt) (w : World) (ha : ARat w g u d n a nx) (h0 : 300 ≤ n) (hn : n ≤ 6000) :
    Calls Tryd.prog 25 #[.pointer (some ⟨g, 0, none⟩)] w fun e w' => e = .returned (.int .i64 (leftA n a : Int)) ∧ w' = w := by
  have HA := hid ha
  have c1 := ha.cells.2.1
  have HE := hid (leftTm_all (a := a) h0)
  have HN := hid hn
  clear ha h0
  go_enter Tryd.func25, Tryd.ntmps25
  go_wp2
  go_loop [11, 3] (fun i v => ∃ k c : Nat, k ≤ n ∧ i = .int .i64 (k : Int) ∧ v = .int .i64 (c : Int) ∧ c = leftTm n a k) (fun i _ => n - (intOf i).toNat)
  case atStart => exact ⟨0, 0, Nat.zero_le _, rfl, rfl, rfl⟩
  case round =>
    obtain ⟨k, c, hk, rfl, rfl, hc⟩ := hrel
    have HC := hid hc
    have hck : (c : Int) ≤ k := by have := leftTm_le n a k; omega
    have hk6 : (k : Int) ≤ 6000 := by have := HN.out; omega
    clear hc
    by_cases hlt : k < n
    · have c3 := HA.out.use hlt
      obtain ⟨x, hx⟩ : ∃ x, useV n a k = x := ⟨_, rfl⟩
      rw [hx] at c3
      have HX := hid hx
      clear hx
      rcases hx1 : (x == 1) with _ | _
      · have HNo := hid (leftTm_no (n := n) (k := k) (a := a) (by rw [HX.out]; exact beq_eq_false_iff_ne.1 hx1))
        go_wp2
        go_round
        case rel => exact ⟨k + 1, c, by omega, by go_num, rfl, by rw [HNo.out]; exact HC.out⟩
        case measure => simp [intOf]; omega
      · have HYe := hid (leftTm_yes (n := n) (k := k) (a := a) (by rw [HX.out]; exact eq_of_beq hx1))
        go_wp2
        go_round
        case rel => exact ⟨k + 1, c + 1, by omega, by go_num, by go_num, by rw [HYe.out, HC.out]⟩
        case measure => simp [intOf]; omega
    · have hnlt : decide (k < n) = false := by simpa using hlt
      have HF := hid (show c = leftA n a from by rw [← HE.out, HC.out, show k = n by omega])
      go_wp2
      go_ret
      exact ⟨by rw [← HF.out]; rfl, rfl⟩
set_option maxRecDepth 100000 in
set_option maxHeartbeats 2000000 in
theorem bused_any (d g u n nx : Nat) (a : ASt) (w : World) (ha : ARat w g u d n a nx) (hok : a.ok n) (h0 : 300 ≤ n) (hn : n ≤ 6000) :
    Calls Tryd.prog 24 #[.pointer (some ⟨g, 0, none⟩)] w fun e w' => ∃ v, e = .returned v ∧ OwnN w' w.heap.size v (usedA n a) ∧ Below w.heap.size w w' := by
  obtain ⟨i0, hi, hz0, hz1, hz2⟩ := info_parts Tryd.info3
  have HA := hid ha
  have c1 := ha.cells.2.1
  have HE := hid (usedTm_all h0 hok)
  have HN := hid hn
  clear ha h0 hok
  go_enter Tryd.func24, Tryd.ntmps24
  go_wp2
  go_loopw [11, 3] (fun i v wr => ∃ k : Nat, k ≤ n ∧ i = .int .i64 (k : Int) ∧ OwnN wr w.heap.size v (usedTm n a k) ∧ Below w.heap.size w wr) (fun i _ _ => n - (intOf i).toNat)
  case atStart => exact ⟨0, Nat.zero_le _, rfl, World.ownsRow_nil _ _ _ _, Below.refl _ _⟩
  case round =>
    obtain ⟨k, hk, rfl, ho, hb⟩ := hrel
    have HO := hid ho
    have HB := hid hb
    have hk6 : (k : Int) ≤ 6000 := by have := HN.out; omega
    clear ho hb
    by_cases hlt : k < n
    · have c3 := (HA.out.on HB.out).use hlt
      obtain ⟨x, hx⟩ : ∃ x, useV n a k = x := ⟨_, rfl⟩
      rw [hx] at c3
      have HX := hid hx
      clear hx
      rcases hx1 : (x == 2) with _ | _
      · have HNo := hid (usedTm_no (n := n) (k := k) (a := a) (by rw [HX.out]; exact beq_eq_false_iff_ne.1 hx1))
        go_wp2
        go_roundw
        case rel => exact ⟨k + 1, by omega, by go_num, by rw [HNo.out]; exact HO.out, HB.out⟩
        case measure => simp [intOf]; omega
      · have HYe := hid (usedTm_yes (n := n) (k := k) (a := a) (by rw [HX.out]; exact eq_of_beq hx1))
        obtain ⟨L, hL⟩ : ∃ L, (usedTm n a k).length = L := ⟨_, rfl⟩
        have HLl := hid (show (usedTm n a k).length = L ∧ L ≤ 6000 from ⟨hL, by rw [← hL]; have := usedTm_le n a k; have := HN.out; omega⟩)
        have HOl := hid (show wr.ownsRow w.heap.size 3 1 u3 L ((usedTm n a k).map (Value.int .i64)) from by
          have := HO.out; unfold OwnN at this; rwa [hL] at this)
        clear hL
        go_wp2_with (at_builtin; refine wpList_append_lies _ rfl _ _ 53 rfl w.heap.size 3 i0 (.int .i64 0) 1 8 Tryd.underlying53 hi hz0 hz1 hz2 rfl (by decide) _ L _ rfl (World.ownsRow.alloc HOl.out _) ⟨wr.heap.size, 0, none⟩ 1 1 [.int .i64 (k : Int)] rfl rfl (cell_one_new _ _ _) ?c2 (by decide) ?c3 ?c4 ?c5 (wr.heap.size + 1) ?c6 ?_)
        case c2 => intro u hu; simp at hu; subst hu; rfl
        case c3 => have := HLl.out.2; unfold maxLen; omega
        case c4 => have := HLl.out.2; omega
        case c5 => have := HB.out.size; simp; omega
        case c6 => simp
        intro g' cap' w4 hown' hgrow hgv _
        have HO4 := hid (show OwnN w4 w.heap.size (.slice (some ⟨g', 0, none⟩) (L + 1) cap') (usedTm n a (k + 1)) from by
          rw [HYe.out]
          unfold OwnN
          rw [List.length_append, HLl.out.1, List.map_append]
          exact hown')
        have HB5 := hid (show Below w.heap.size w w4 from (HB.out.alloc HB.out.size (.cells #[.int .i64 (k : Int)] 3)).grown hgrow (by have := HB.out.size; simp; omega) (fun q hq => (World.ownsRow.lt HO.out q hq).1))
        clear hown' hgrow hgv
        go_wp2
        go_roundw
        case rel => exact ⟨k + 1, by omega, by go_num, HO4.out, HB5.out⟩
        case measure => simp [intOf]; omega
    · have hnlt : decide (k < n) = false := by simpa using hlt
      have hkn : k = n := by omega
      have HF := hid (show OwnN wr w.heap.size u3 (usedA n a) from by
        have h1 := HO.out
        rwa [hkn, HE.out] at h1)
      go_wp2
      go_ret
      exact ⟨_, rfl, HF.out, HB.out⟩
end Go.Proofs.YtfdabbpfphnbhaaDoor
