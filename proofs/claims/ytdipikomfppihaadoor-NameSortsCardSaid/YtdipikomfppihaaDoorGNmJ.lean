/- NameSorts, walked. -/
import Derived.Test.YtdipikomfppihaaDoorGNmH
import Derived.Test.YtdipikomfppihaaDoorGNumber
namespace Go.Proofs.YtdipikomfppihaaDoor
open Go.RowKit Go.Shelf Go.Sort

theorem mem_take_next {l : List Nam} {k : Nat} {x y : Nam} (h : l[k]? = some y) : decide (x ∈ l.take (k + 1)) = (decide (x ∈ l.take k) || y == x) := by
  rw [takeN h]
  by_cases h1 : x ∈ l.take k
  · simp [h1]
  · by_cases h2 : y = x
    · simp [h1, h2]
    · have : ¬ x = y := fun e => h2 e.symm
      simp [h1, this, beq_eq_false_iff_ne.2 h2]
set_option linter.unusedSimpArgs false in
set_option maxHeartbeats 2000000 in
set_option maxRecDepth 100000 in
theorem nameSorts_any (S : Nat → Addr) (at' : Int) (A : Option Addr) (n c : Nat) (l : List Nam) (w : World) (hS : Sent w S) (h : St w w.heap.size A n c l) :
    Calls Tryd.prog 5 #[.slice A n c, .int .i64 at'] w fun e w' => e = .returned (.bool true) ∧ Below w.heap.size w w' := by
  have HS := hid h
  have HE := hid hS
  have hmx : n ≤ 9223372036854775807 := by have := h.cap; have := h.max; unfold maxLen at this; omega
  clear h hS
  go_enter Tryd.func5, Tryd.ntmps5
  go_wp2_with fail
  refine (first11_any S w HE.out).mono ?_
  rintro e w1 ⟨rfl, hb⟩
  have HB1 := hid hb
  have HS1 := hid (Sv.on HS.out hb)
  clear hb HS HE
  by_cases h40 : 30 < n
  · go_wp2
    go_ret
    exact ⟨rfl, HB1.out⟩
  have hn40 : n ≤ 30 := by omega
  clear h40 hmx
  go_wp2
  go_loopg [6] n (fun g i wr => ∃ k : Nat, k ≤ n ∧ n - k ≤ g ∧ i = .int .i64 (k : Int) ∧ Hid (wr = w1))
  case atStart => exact ⟨0, Nat.zero_le _, Nat.le_refl _, rfl, rfl⟩
  case round =>
    obtain ⟨k, hk, hg, rfl, HW⟩ := hrel
    by_cases hlt : k < n
    · obtain ⟨ad, x, rfl, hbl, hx, hc⟩ := St.at HS1.out hlt
      have hc' : wr.cell? (ad.add k) = some (encStr x) := by rw [HW.out]; exact hc
      have hxl := sz_of x
      clear hc hbl hx
      by_cases h60 : 60 < x.length
      · go_wp2
        go_ret
        exact ⟨rfl, by rw [HW.out]; exact HB1.out⟩
      · go_wp2
        go_roundg (n - (k + 1))
        case measure => omega
        case rel => exact ⟨k + 1, by omega, Nat.le_refl _, by go_num, HW⟩
    · obtain rfl : wr = w1 := HW.out
      go_wp2_with fail
      refine (sort_any A n c _ l wr HS1.out (Nat.le_refl _) (by omega)).mono ?_
      rintro e w2 hmv
      obtain ⟨A2, m, c2, rfl, hst2, hb2, _, _⟩ := hmv.fresh
      have HST := hid hst2
      have hm : (srt l).length = m := by have := St.size hst2; exact this
      have hml : m ≤ n := by rw [← hm, ← St.size HS1.out]; exact srt_len l
      have HM := hid hm
      have HB2 := hid (HB1.out.trans (hb2.mono HB1.out.size))
      have HL := hid (Sv.on HS1.out hb2)
      have HOK := hid (srt_ok l)
      clear hmv hst2 hb2 hm HB1 HS1 HW
      go_wp2
      go_loopw [8] (fun i wx => ∃ k q : Nat, k ≤ m ∧ i = .int .i64 (k : Int) ∧ wx = w2.drewN q) (fun i _ => m - (intOf i).toNat)
      case atStart => exact ⟨0, 0, Nat.zero_le _, rfl, rfl⟩
      case round =>
        obtain ⟨i, q, hi, rfl, rfl⟩ := hrel
        by_cases hlt : i < m
        · obtain ⟨ad2, x, rfl, _, hx, hc⟩ := St.at HST.out hlt
          have HX := hid hx
          clear hx
          go_wp2
          go_loopw [9, 10] (fun b i' wx => ∃ k q2 : Nat, k ≤ n ∧ i' = .int .i64 (k : Int) ∧ b = .bool (decide (x ∈ l.take k)) ∧ wx = w2.drewN q2) (fun _ i' _ => n - (intOf i').toNat)
          case atStart => exact ⟨0, q, Nat.zero_le _, rfl, by simp, rfl⟩
          case round =>
            obtain ⟨k, q2, hk, rfl, rfl, rfl⟩ := hrel
            by_cases hlk : k < n
            · obtain ⟨ad, y, rfl, _, hy, hcy⟩ := St.at HL.out hlk
              have HN := hid (mem_take_next (x := x) hy)
              clear hy
              rcases hb : decide (x ∈ l.take k) with _ | _
              · rw [hb, Bool.false_or] at HN
                rcases he : (y == x) with _ | _
                · rw [he] at HN
                  go_wp2
                  go_quiet (fail)
                  go_wp2
                  go_roundw
                  case rel => exact ⟨k + 1, _, by omega, by go_num, by rw [HN.out], rfl⟩
                  case measure => simp [intOf]; omega
                · rw [he] at HN
                  go_wp2
                  go_quiet (fail)
                  go_wp2
                  go_roundw
                  case rel => exact ⟨k + 1, _, by omega, by go_num, by rw [HN.out], rfl⟩
                  case measure => simp [intOf]; omega
              · rw [hb, Bool.true_or] at HN
                go_wp2
                go_quiet (fail)
                go_wp2
                go_roundw
                case rel => exact ⟨k + 1, _, by omega, by go_num, by rw [HN.out], rfl⟩
                case measure => simp [intOf]; omega
            · have hin : decide (x ∈ l.take k) = true := decide_eq_true (by rw [List.take_of_length_le (by have := St.size HL.out; omega)]; exact (HOK.out.2 x).1 (List.mem_of_getElem? HX.out))
              rw [hin]
              by_cases h0 : i = 0
              · have hz : decide (0 < i) = false := decide_eq_false (by omega)
                clear hin
                go_wp2
                go_quiet (fail)
                go_wp2
                refine ⟨⟨i + 1, _, by omega, by go_num, rfl⟩, ?_⟩
                simp [intOf]; omega
              · have hz : decide (0 < i) = true := decide_eq_true (by omega)
                obtain ⟨i1, hI⟩ : ∃ i1, i = i1 + 1 := ⟨i - 1, by omega⟩
                have hi1 : i1 < m := by omega
                obtain ⟨ad2', z, e2, _, hzz, hcz⟩ := St.at HST.out hi1
                obtain rfl : ad2' = ad2 := (Option.some.inj e2).symm
                have t1 : Op.bytesLess z x = true := by rw [bl_lt]; exact decide_eq_true (ris_at HOK.out.1 hzz HX.out (by omega))
                have hwr : IntKind.i64.wrap ((i : Int) - 1) = (i1 : Int) := by rw [IntKind.wrap_i64]; omega
                clear hin e2 hzz h0 hI
                go_wp2
                go_quiet (fail)
                go_wp2
                refine ⟨⟨i + 1, _, by omega, by go_num, rfl⟩, ?_⟩
                simp [intOf]; omega
        · go_wp2
          clear hlt
          go_loopw [11] (fun i wx => ∃ k q : Nat, k ≤ n ∧ i = .int .i64 (k : Int) ∧ wx = w2.drewN q) (fun i _ => n - (intOf i).toNat)
          case atStart => exact ⟨0, q, Nat.zero_le _, rfl, rfl⟩
          case round =>
            obtain ⟨k, q1, hk, rfl, rfl⟩ := hrel
            by_cases hlk : k < n
            · obtain ⟨ad, x, rfl, _, hx, hc⟩ := St.at HL.out hlk
              have HX := hid hx
              clear hx
              go_wp2
              go_loopw [12, 13] (fun b i' wx => ∃ p q2 : Nat, p ≤ m ∧ i' = .int .i64 (p : Int) ∧ b = .bool (decide (x ∈ (srt l).take p)) ∧ wx = w2.drewN q2) (fun _ i' _ => m - (intOf i').toNat)
              case atStart => exact ⟨0, q1, Nat.zero_le _, rfl, by simp, rfl⟩
              case round =>
                obtain ⟨p, q2, hp, rfl, rfl, rfl⟩ := hrel
                by_cases hlp : p < m
                · obtain ⟨ad2, y, rfl, _, hy, hcy⟩ := St.at HST.out hlp
                  have HN := hid (mem_take_next (x := x) hy)
                  clear hy
                  rcases hb : decide (x ∈ (srt l).take p) with _ | _
                  · rw [hb, Bool.false_or] at HN
                    rcases he : (y == x) with _ | _
                    · rw [he] at HN
                      have he2 : (x == y) = false := beq_eq_false_iff_ne.2 fun e => by rw [e, beq_self_eq_true] at he; cases he
                      go_wp2
                      go_quiet (fail)
                      go_wp2
                      go_roundw
                      case rel => exact ⟨p + 1, _, by omega, by go_num, by rw [HN.out], rfl⟩
                      case measure => simp [intOf]; omega
                    · rw [he] at HN
                      have he2 : (x == y) = true := by rw [eq_of_beq he]; exact beq_self_eq_true _
                      go_wp2
                      go_quiet (fail)
                      go_wp2
                      go_roundw
                      case rel => exact ⟨p + 1, _, by omega, by go_num, by rw [HN.out], rfl⟩
                      case measure => simp [intOf]; omega
                  · rw [hb, Bool.true_or] at HN
                    go_wp2
                    go_quiet (fail)
                    go_wp2
                    go_roundw
                    case rel => exact ⟨p + 1, _, by omega, by go_num, by rw [HN.out], rfl⟩
                    case measure => simp [intOf]; omega
                · have hin : decide (x ∈ (srt l).take p) = true := decide_eq_true (by rw [List.take_of_length_le (by have := HM.out; omega)]; exact (HOK.out.2 x).2 (List.mem_of_getElem? HX.out))
                  rw [hin]
                  clear hin
                  go_wp2
                  refine ⟨⟨k + 1, _, by omega, by go_num, rfl⟩, ?_⟩
                  simp [intOf]; omega
            · by_cases hm0 : m = 0
              · have hn0 : n = 0 := by
                  rw [← St.size HL.out]
                  rcases hl : l with _ | ⟨y, t⟩
                  · rfl
                  · exfalso
                    have h1 : y ∈ srt l := (HOK.out.2 y).2 (by rw [hl]; simp)
                    have h2 : srt l = [] := List.eq_nil_of_length_eq_zero (by rw [HM.out]; exact hm0)
                    rw [h2] at h1; simp at h1
                go_wp2
                go_ret
                exact ⟨rfl, below_drewN HB2.out _⟩
              · have hmp : 0 < m := by omega
                clear hm0
                go_wp2_with fail
                refine (number_any at' (m : Int) _ (by omega) (by omega)).mono ?_
                rintro e w5 ⟨rfl, hw⟩
                rw [← hw]
                clear hw
                obtain ⟨j, hj⟩ : ∃ j : Nat, at' % (m : Int) = (j : Int) := ⟨(at' % (m : Int)).toNat, by have := Int.emod_nonneg at' (show (m : Int) ≠ 0 by omega); omega⟩
                have hjm : j < m := by have := Int.emod_lt_of_pos at' (show (0 : Int) < (m : Int) by omega); omega
                rw [hj]
                clear hj
                obtain ⟨ad2, x, rfl, _, hx, hc⟩ := St.at HST.out hjm
                have HD := hid (behind_at HOK.out.1 hx)
                have HSS := hid (srt_same HOK.out.1)
                have HB5 := hid (show Below w.heap.size w (w2.drewN q1) from below_drewN HB2.out q1)
                have HST5 := hid (show St (w2.drewN q1) (w2.drewN q1).heap.size (some ad2) m c2 (srt l) from Sv.drewN HST.out q1)
                have hc5 : (w2.drewN q1).cell? (ad2.add j) = some (encStr x) := hc
                generalize w2.drewN q1 = W at HB5 HST5 hc5 ⊢
                generalize srt l = M at HD HSS HST5
                clear hx hc HST HB2 HM HOK HL
                have hjc : j + 1 ≤ c2 := by have := HST5.out.cap; omega
                go_upto_region 33 with fail
                obtain ⟨J, hJ⟩ : ∃ J, j + 1 = J := ⟨_, rfl⟩
                have hjm1 : J ≤ m := by omega
                have hjc1 : J ≤ c2 := by omega
                have hwj : IntKind.i64.wrap ((j : Int) + 1) = (J : Int) := by rw [IntKind.wrap_i64]; omega
                rw [hJ] at HD
                clear hjc hJ
                have HCUT := hid (show St W W.heap.size _ (m - J) (c2 - J) (M.drop J) from by have := Sv.cut HST5.out hjm1; rw [← Tx_drop] at this; exact this)
                refine wp_region_held_drew (S := fun w' => w'.cell? (ad2.add j) = some (encStr x)) (by kernel_rfl) hc5 (fun hH => ?_)
                refine wpAnyH_take (i := 0) (oi := _) (v := ?_) (by simp only [List.getElem?_toArray, List.getElem?_cons_zero]; rfl) (by kernel_rfl) (by kernel_rfl) (by kernel_rfl) (by exact fun _ _ _ h => h) (Or.inl ⟨by rfl, ?_⟩) hH ?_
                rotate_left
                · intro w hSw; (try dsimp only at hSw); go_simp; try with_reducible rfl
                try simp only [Act.put, List.setIfInBounds_toArray, List.set_cons_zero, List.set_cons_succ]
                refine wpAnyH_take (i := 1) (oi := _) (v := ?_) (by simp only [List.getElem?_toArray, List.getElem?_cons_succ, List.getElem?_cons_zero]; rfl) (by kernel_rfl) (by kernel_rfl) (by kernel_rfl) (by exact fun _ _ _ h => h) (Or.inl ⟨by rfl, ?_⟩) hH ?_
                rotate_left
                · intro w hSw; (try dsimp only at hSw); go_simp; try with_reducible rfl
                try simp only [Act.put, List.setIfInBounds_toArray, List.set_cons_zero, List.set_cons_succ]
                refine wpAnyH_take (i := 2) (oi := _) (v := ?_) (by simp only [List.getElem?_toArray, List.getElem?_cons_succ, List.getElem?_cons_zero]; rfl) (by kernel_rfl) (by kernel_rfl) (by kernel_rfl) (by exact fun _ _ _ h => h) (Or.inl ⟨by rfl, ?_⟩) hH ?_
                rotate_left
                · intro w hSw; (try dsimp only at hSw); go_simp; try with_reducible rfl
                try simp only [Act.put, List.setIfInBounds_toArray, List.set_cons_zero, List.set_cons_succ]
                refine wpAnyH_take (i := 3) (oi := _) (v := ?_) (by simp only [List.getElem?_toArray, List.getElem?_cons_succ, List.getElem?_cons_zero]; rfl) (by kernel_rfl) (by kernel_rfl) (by kernel_rfl) (by exact fun _ _ _ h => h) (Or.inl ⟨by rfl, ?_⟩) hH ?_
                rotate_left
                · intro w hSw; (try dsimp only at hSw); go_simp; try with_reducible rfl
                try simp only [Act.put, List.setIfInBounds_toArray, List.set_cons_zero, List.set_cons_succ]
                refine wpAnyH_take (i := 4) (oi := _) (v := ?_) (by simp only [List.getElem?_toArray, List.getElem?_cons_succ, List.getElem?_cons_zero]; rfl) (by kernel_rfl) (by kernel_rfl) (by kernel_rfl) (by exact fun _ _ _ h => h) (Or.inl ⟨by rfl, ?_⟩) hH ?_
                rotate_left
                · intro w hSw; (try dsimp only at hSw); go_simp; try with_reducible rfl
                try simp only [Act.put, List.setIfInBounds_toArray, List.set_cons_zero, List.set_cons_succ]
                refine wpAnyH_take (i := 6) (oi := _) (v := ?_) (by simp only [List.getElem?_toArray, List.getElem?_cons_succ, List.getElem?_cons_zero]; rfl) (by kernel_rfl) (by kernel_rfl) (by kernel_rfl) (by exact fun _ _ _ h => h) (Or.inl ⟨by rfl, ?_⟩) hH ?_
                rotate_left
                · intro w hSw; (try dsimp only at hSw); go_simp; try with_reducible rfl
                try simp only [Act.put, List.setIfInBounds_toArray, List.set_cons_zero, List.set_cons_succ]
                refine wpAnyH_take (i := 7) (oi := _) (v := ?_) (by simp only [List.getElem?_toArray, List.getElem?_cons_succ, List.getElem?_cons_zero]; rfl) (by kernel_rfl) (by kernel_rfl) (by kernel_rfl) (by exact fun _ _ _ h => h) (Or.inl ⟨by rfl, ?_⟩) hH ?_
                rotate_left
                · intro w hSw; (try dsimp only at hSw); go_simp; try with_reducible rfl
                try simp only [Act.put, List.setIfInBounds_toArray, List.set_cons_zero, List.set_cons_succ]
                refine wpAnyH_take (i := 8) (oi := _) (v := ?_) (by simp only [List.getElem?_toArray, List.getElem?_cons_succ, List.getElem?_cons_zero]; rfl) (by kernel_rfl) (by kernel_rfl) (by kernel_rfl) (by exact fun _ _ _ h => h) (Or.inl ⟨by rfl, ?_⟩) hH ?_
                rotate_left
                · intro w hSw; (try dsimp only at hSw); go_simp; try with_reducible rfl
                try simp only [Act.put, List.setIfInBounds_toArray, List.set_cons_zero, List.set_cons_succ]
                refine wpAnyH_take (i := 9) (oi := _) (v := ?_) (by simp only [List.getElem?_toArray, List.getElem?_cons_succ, List.getElem?_cons_zero]; rfl) (by kernel_rfl) (by kernel_rfl) (by kernel_rfl) (by exact fun _ _ _ h => h) (Or.inl ⟨by rfl, ?_⟩) hH ?_
                rotate_left
                · intro w hSw; (try dsimp only at hSw); go_simp; try with_reducible rfl
                try simp only [Act.put, List.setIfInBounds_toArray, List.set_cons_zero, List.set_cons_succ]
                refine wpAnyH_ready (rs := [5]) (by kernel_rfl) (by simp) (AllReadyH.cons rfl (fun K hK => ?_) AllReadyH.nil)
                go_simp
                go_at_call 15
                refine (after_any (some ad2) m c2 W.heap.size M x W.drew (show St W.drew W.heap.size (some ad2) m c2 M from Sv.drewN HST5.out 1) (Nat.le_refl _) (by omega)).mono ?_
                rintro e w6 hmv
                obtain ⟨A6, m6, c6, rfl, hst6, hb0, _, _⟩ := hmv.fresh
                have hb : Below W.heap.size W w6 := ⟨hb0.os, hb0.tape, hb0.output, hb0.size, hb0.block⟩
                have HST6 := hid hst6
                have HCUT6 := hid (Sv.on HCUT.out hb)
                have HST7 := hid (Sv.on HST5.out hb)
                have HB6 := hid (HB5.out.trans (hb.mono HB5.out.size))
                have hc6 : w6.cell? (ad2.add j) = some (encStr x) := (hb.cell (World.block_lt_of_cell? W _ hc5)).trans hc5
                clear hb hb0 hst6 hmv HB5 hc5
                refine hK.out _ _ hc6 (fun hH => ?_)
                clear hK K
                try simp only [Act.put, List.setIfInBounds_toArray, List.set_cons_zero, List.set_cons_succ]
                refine wpAnyH_ready (rs := [10]) (by kernel_rfl) (by simp) (AllReadyH.cons rfl (fun K hK => ?_) AllReadyH.nil)
                go_simp
                go_at_call 13
                refine (sameTexts_any A6 _ m6 c6 _ _ (behind M x) (M.drop J) _ _ w6 HST6.out HCUT6.out).mono ?_
                rw [decide_eq_true HD.out]
                rintro e w7 ⟨rfl, q7, hw⟩
                have HB7 := hid (show Below w.heap.size w w7 from by rw [hw]; exact below_drewN HB6.out q7)
                have HST8 := hid (show St w7 w7.heap.size (some ad2) m c2 M from by rw [hw]; exact Sv.drewN HST7.out q7)
                have hc7 : w7.cell? (ad2.add j) = some (encStr x) := by rw [hw]; exact hc6
                clear hw HB6 HST7 hc6
                refine hK.out _ _ hc7 (fun hH => ?_)
                clear hK K
                try simp only [Act.put, List.setIfInBounds_toArray, List.set_cons_zero, List.set_cons_succ]
                refine wpAnyH_take (i := 11) (oi := _) (v := ?_) (by simp only [List.getElem?_toArray, List.getElem?_cons_succ, List.getElem?_cons_zero]; rfl) (by kernel_rfl) (by kernel_rfl) (by kernel_rfl) (by exact fun _ _ _ h => h) (Or.inl ⟨by rfl, ?_⟩) hH ?_
                rotate_left
                · intro w hSw; (try dsimp only at hSw); go_simp; try with_reducible rfl
                try simp only [Act.put, List.setIfInBounds_toArray, List.set_cons_zero, List.set_cons_succ]
                refine wpAnyH_take (i := 12) (oi := _) (v := ?_) (by simp only [List.getElem?_toArray, List.getElem?_cons_succ, List.getElem?_cons_zero]; rfl) (by kernel_rfl) (by kernel_rfl) (by kernel_rfl) (by exact fun _ _ _ h => h) (Or.inl ⟨by rfl, ?_⟩) hH ?_
                rotate_left
                · intro w hSw; (try dsimp only at hSw); go_simp; try with_reducible rfl
                try simp only [Act.put, List.setIfInBounds_toArray, List.set_cons_zero, List.set_cons_succ]
                refine wpAnyH_take (i := 14) (oi := _) (v := ?_) (by simp only [List.getElem?_toArray, List.getElem?_cons_succ, List.getElem?_cons_zero]; rfl) (by kernel_rfl) (by kernel_rfl) (by kernel_rfl) (by exact fun _ _ _ h => h) (Or.inl ⟨by rfl, ?_⟩) hH ?_
                rotate_left
                · intro w hSw; (try dsimp only at hSw); go_simp; try with_reducible rfl
                try simp only [Act.put, List.setIfInBounds_toArray, List.set_cons_zero, List.set_cons_succ]
                refine wpAnyH_ready (rs := [13]) (by kernel_rfl) (by simp) (AllReadyH.cons rfl (fun K hK => ?_) AllReadyH.nil)
                go_simp
                go_at_call 14
                refine (sort_any (some ad2) m c2 w7.heap.size M w7 HST8.out (Nat.le_refl _) (by omega)).mono ?_
                rintro e w8 hmv
                obtain ⟨A8, m8, c8, rfl, hst8, hb, _, _⟩ := hmv.fresh
                have HST9 := hid hst8
                have HST10 := hid (Sv.on HST8.out hb)
                have HB8 := hid (HB7.out.trans (hb.mono HB7.out.size))
                have hc8 : w8.cell? (ad2.add j) = some (encStr x) := (hb.cell (World.block_lt_of_cell? w7 _ hc7)).trans hc7
                clear hb hst8 hmv HB7 HST8 hc7
                refine hK.out _ _ hc8 (fun hH => ?_)
                clear hK K
                try simp only [Act.put, List.setIfInBounds_toArray, List.set_cons_zero, List.set_cons_succ]
                refine wpAnyH_ready (rs := [15]) (by kernel_rfl) (by simp) (AllReadyH.cons rfl (fun K hK => ?_) AllReadyH.nil)
                go_simp
                go_at_call 13
                refine (sameTexts_any A8 (some ad2) m8 c8 m c2 (srt M) M _ _ w8 HST9.out HST10.out).mono ?_
                rw [decide_eq_true HSS.out]
                rintro e w9 ⟨rfl, q9, hw⟩
                have HB9 := hid (show Below w.heap.size w w9 from by rw [hw]; exact below_drewN HB8.out q9)
                have hc9 : w9.cell? (ad2.add j) = some (encStr x) := by rw [hw]; exact hc8
                clear hw HB8 HST9 HST10 hc8
                refine hK.out _ _ hc9 (fun hH => ?_)
                clear hK K
                try simp only [Act.put, List.setIfInBounds_toArray, List.set_cons_zero, List.set_cons_succ]
                refine wpAnyH_take (i := 16) (oi := _) (v := ?_) (by simp only [List.getElem?_toArray, List.getElem?_cons_succ, List.getElem?_cons_zero]; rfl) (by kernel_rfl) (by kernel_rfl) (by kernel_rfl) (by exact fun _ _ _ h => h) (Or.inl ⟨by rfl, ?_⟩) hH ?_
                rotate_left
                · intro w hSw; (try dsimp only at hSw); go_simp; try with_reducible rfl
                try simp only [Act.put, List.setIfInBounds_toArray, List.set_cons_zero, List.set_cons_succ]
                refine wpAnyH_take (i := 17) (oi := _) (v := ?_) (by simp only [List.getElem?_toArray, List.getElem?_cons_succ, List.getElem?_cons_zero]; rfl) (by kernel_rfl) (by kernel_rfl) (by kernel_rfl) (by exact fun _ _ _ h => h) (Or.inl ⟨by rfl, ?_⟩) hH ?_
                rotate_left
                · intro w hSw; (try dsimp only at hSw); go_simp; try with_reducible rfl
                try simp only [Act.put, List.setIfInBounds_toArray, List.set_cons_zero, List.set_cons_succ]
                refine wpAnyH_done (by kernel_rfl) ?_ _
                go_wp2
                all_goals go_ret
                all_goals exact ⟨rfl, HB9.out⟩
end Go.Proofs.YtdipikomfppihaaDoor
