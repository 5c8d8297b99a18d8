/- The walk of RecRanges. -/
import Derived.Test.YtkihoibcgafooaaDoorGRcM
import Derived.Lib.AppendZeros
namespace Go.Proofs.YtkihoibcgafooaaDoor
open Go.RowKit

theorem and255 (n : Int) (h0 : 0 ≤ n) (h1 : n < 16777216) : bits .and .i64 n 255 = n % 256 := by
  obtain ⟨a, rfl⟩ := Int.eq_ofNat_of_zero_le h0
  show IntKind.i64.wrap ((BitVec.ofInt 64 (a : Int) &&& BitVec.ofInt 64 ((255 : Nat) : Int)).toNat : Int) = _
  rw [BitVec.toNat_and, of_i64 a (by omega), of_i64 255 (by omega), IntKind.wrap_i64, Nat.and_two_pow_sub_one_eq_mod a 8]
  omega
theorem lit_sl (w : World) (l : List Int) (h : l.length ≤ 1000) : Sl (w.alloc (.cells (I l).toArray 5)) (w.alloc (.cells (I l).toArray 5)).heap.size (some ⟨w.heap.size, 0, none⟩) l.length l.length l := by
  rw [World.size_alloc]
  exact Sl.lit w l h
theorem lit_sl2 (w : World) (o : Obj) (l : List Int) (h : l.length ≤ 1000) : Sl ((w.alloc o).alloc (.cells (I l).toArray 5)) ((w.alloc o).alloc (.cells (I l).toArray 5)).heap.size (some ⟨w.heap.size + 1, 0, none⟩) l.length l.length l := by
  have h1 := Sl.lit (w.alloc o) l h
  rw [World.size_alloc, World.size_alloc]
  rw [World.size_alloc] at h1
  exact h1
theorem readC_short {l : List Int} (h : l.length < 4) : readC l = 101 := by unfold readC; rw [if_pos h]
theorem readC_longer {k n i : Int} {s : ByteArray} (h : keyC k n i s = 0) : readC (keyL k n i s ++ List.replicate 25 0) = 102 := by
  obtain ⟨a1, a2, a3, a4, a5, a6⟩ := key_facts h
  have hk : (keyL k n i s ++ List.replicate 25 0).getD 0 0 = k := rfl
  have hl : (keyL k n i s ++ List.replicate 25 0).length = (if k = 4 then 7 else 4 + s.size) + 25 := by
    unfold keyL
    split
    · simp [num3]
    · simp [num3, str_len]; omega
  unfold readC
  rw [hk, a1, hl]
  by_cases h4 : k = 4
  · rw [if_pos h4, if_neg (by omega), if_neg (by decide), if_pos h4, if_neg (by omega), if_pos (by omega)]
  · rw [if_neg h4, if_neg (by omega), if_neg (by decide), if_neg h4]
    by_cases h3 : k = 3
    · rw [if_pos h3, if_pos (by omega)]
    · rw [if_neg h3, if_pos (by omega)]
theorem key_at {k n i : Int} {s : ByteArray} : (keyL k n i s)[0]? = some k ∧ (keyL k n i s)[3]? = some (n % 256) := ⟨rfl, rfl⟩
set_option maxRecDepth 100000 in
set_option maxHeartbeats 4000000 in
theorem recRanges_any (S : Nat → Addr) (k n i : Int) (s : ByteArray) (w : World) (hS : Sent w S) :
    Calls Tryd.prog 5 #[.int .i64 k, .int .i64 n, .int .i64 i, .string s] w (Yes w) := by
  have HS := hid hS
  clear hS
  go_enter Tryd.func5, Tryd.ntmps5
  go_wp2_with fail
  refine (first10_any S _ (HS.out.some (by decide))).mono ?_
  rintro e w1 ⟨rfl, hb1⟩
  have HB1 := hid hb1
  have HS1 := hid (HS.out.on hb1)
  clear hb1
  by_cases hs40 : 40 < s.size
  · have g2 : decide ((40 : Int) < (s.size : Int)) = true := by simp; omega
    go_wp2
    go_ret
    exact ⟨rfl, HB1.out⟩
  have g2 : decide ((40 : Int) < (s.size : Int)) = false := by simp; omega
  go_wp2_with fail
  refine (key_any S k n i s _ (HS1.out.some (by decide))).mono ?_
  rintro e w2 ⟨A2, m2, c2, v2, rfl, hv2, hs2, hb2⟩
  have HB2 := hid (HB1.out.trans (hb2.mono HB1.out.size))
  have HS2 := hid (HS1.out.on hb2)
  have HV2 := hid hv2
  have HL2 := hid hs2
  clear hb2 hv2 hs2
  have hs1 : s ≠ ⟨#[]⟩ → (s.toList == ([] : List UInt8)) = false := fun c5 => by
    rw [beq_eq_false_iff_ne, ByteArray.toList_eq]
    intro e
    exact c5 (emp_iff.1 (show s.data.size = 0 by rw [← Array.length_toList, e]; rfl))
  have hs0 : s = ⟨#[]⟩ → (s.toList == ([] : List UInt8)) = true := fun c5 => by subst c5; rw [ByteArray.toList_eq]; rfl
  have HS1' := hid hs1
  have HS0' := hid hs0
  clear hs1 hs0
  have HW := hid (key_ways k n i s)
  obtain ⟨C, hC⟩ : ∃ C, keyC k n i s = C := ⟨_, rfl⟩
  have HC := hid hC
  rw [hC] at HV2 HL2 HW
  clear hC
  go_upto_region 5 with fail
  go_cut [12] (fun b wx => b = .bool (decide (C ≠ 103)) ∧ wx = w2)
  case first =>
    have ni : i ≠ 0 → (i == 0) = false := fun h => by simp [h]
    have n0 : i = 0 → (i == 0) = true := fun h => by simp [h]
    have nk : ∀ a : Int, k ≠ a → (k == a) = false := fun a h => by simp [h]
    have n4 : ∀ a : Int, k = a → (k == a) = true := fun a h => by simp [h]
    rcases HW.out with ⟨c1, c⟩ | ⟨c1, c2, c⟩ | ⟨c1, c2, c3, c⟩ | ⟨c1, c2, c3, c4, c5, c⟩ | ⟨c1, c2, c3, c4, c5, c6, c⟩ | ⟨c1, c2, c3, c4, c5, c6, c⟩ | ⟨c1, c2, c3, c4, c5, c6, c⟩
    · clear ni n0 nk n4
      rcases kin_ways c1 with h | ⟨h, h'⟩
      all_goals
        go_wp2
        go_meet
        exact ⟨by rw [c]; first | rfl | (congr 1; simp; omega), rfl⟩
    · clear ni n0 nk n4
      obtain ⟨h1, h2⟩ := kin_yes c1
      rcases num_ways c2 with h | ⟨h, h'⟩
      all_goals
        go_wp2
        go_meet
        exact ⟨by rw [c]; first | rfl | (congr 1; simp; omega), rfl⟩
    · clear ni n0 nk n4
      obtain ⟨h1, h2⟩ := kin_yes c1
      obtain ⟨h3, h4⟩ := num_yes c2
      rcases num_ways c3 with h | ⟨h, h'⟩
      all_goals
        go_wp2
        go_meet
        exact ⟨by rw [c]; first | rfl | (congr 1; simp; omega), rfl⟩
    · have d1 := ni c4
      have d2 := nk 4 c5
      clear ni n0 nk n4 c4 c5
      obtain ⟨h1, h2⟩ := kin_yes c1
      obtain ⟨h3, h4⟩ := num_yes c2
      obtain ⟨h5, h6⟩ := num_yes c3
      go_wp2
      go_meet
      exact ⟨by rw [c]; first | rfl | (congr 1; simp; omega), rfl⟩
    · obtain ⟨h1, h2⟩ := kin_yes c1
      obtain ⟨h3, h4⟩ := num_yes c2
      obtain ⟨h5, h6⟩ := num_yes c3
      have d3 := HS1'.out c5
      have d4 := nk 3 c6
      rcases c4 with c4 | ⟨c4, c4'⟩
      · have d1 := n0 c4
        clear ni n0 nk n4 c4 c5 c6
        go_wp2
        go_meet
        exact ⟨by rw [c]; first | rfl | (congr 1; simp; omega), rfl⟩
      · have d1 := ni c4
        have d2 := n4 4 c4'
        clear ni n0 nk n4 c4 c5 c6 c4'
        go_wp2
        go_meet
        exact ⟨by rw [c]; first | rfl | (congr 1; simp; omega), rfl⟩
    · obtain ⟨h1, h2⟩ := kin_yes c1
      obtain ⟨h3, h4⟩ := num_yes c2
      obtain ⟨h5, h6⟩ := num_yes c3
      rcases c4 with c4 | ⟨c4, c4'⟩
      · have d1 := n0 c4
        rcases c5 with c5 | ⟨c5, c5'⟩
        · have d3 := HS0'.out c5
          clear ni n0 nk n4 c4 c5
          go_wp2
          go_meet
          exact ⟨by rw [c]; first | rfl | (congr 1; simp; omega), rfl⟩
        · have d3 := HS1'.out c5
          have d4 := n4 3 c5'
          clear ni n0 nk n4 c4 c5 c5'
          go_wp2
          go_meet
          exact ⟨by rw [c]; first | rfl | (congr 1; simp; omega), rfl⟩
      · have d1 := ni c4
        have d2 := n4 4 c4'
        rcases c5 with c5 | ⟨c5, c5'⟩
        · have d3 := HS0'.out c5
          clear ni n0 nk n4 c4 c5 c4'
          go_wp2
          go_meet
          exact ⟨by rw [c]; first | rfl | (congr 1; simp; omega), rfl⟩
        · exact absurd (c4'.symm.trans c5') (by decide)
    · obtain ⟨h1, h2⟩ := kin_yes c1
      obtain ⟨h3, h4⟩ := num_yes c2
      obtain ⟨h5, h6⟩ := num_yes c3
      rcases c4 with c4 | ⟨c4, c4'⟩
      · have d1 := n0 c4
        rcases c5 with c5 | ⟨c5, c5'⟩
        · have d3 := HS0'.out c5
          clear ni n0 nk n4 c4 c5
          go_wp2
          go_meet
          exact ⟨by rw [c]; first | rfl | (congr 1; simp; omega), rfl⟩
        · have d3 := HS1'.out c5
          have d4 := n4 3 c5'
          clear ni n0 nk n4 c4 c5 c5'
          go_wp2
          go_meet
          exact ⟨by rw [c]; first | rfl | (congr 1; simp; omega), rfl⟩
      · have d1 := ni c4
        have d2 := n4 4 c4'
        rcases c5 with c5 | ⟨c5, c5'⟩
        · have d3 := HS0'.out c5
          clear ni n0 nk n4 c4 c5 c4'
          go_wp2
          go_meet
          exact ⟨by rw [c]; first | rfl | (congr 1; simp; omega), rfl⟩
        · exact absurd (c4'.symm.trans c5') (by decide)
  case rest =>
    obtain ⟨rfl, rfl⟩ := hcut
    rename World => w2
    rename_i _ _
    rcases HV2.out.ways with ⟨hc, hv⟩ | ⟨hc, a, hv⟩
    rotate_left
    · have hl := HL2.out
      rw [if_neg hc] at hl
      obtain rfl : m2 = 0 := by have := hl.len; simpa using this.symm
      by_cases h103 : C = 103
      · have g3 : decide (C ≠ 103) = false := by simp [h103]
        have hv3 := HV2.out
        rw [h103] at hv3
        have HV3 := hid hv3
        clear hv3 hl hv hc
        rw [g3]
        go_wp2_with fail
        refine (is_any S 103 103 v2 _ HS2.out HV3.out).mono ?_
        rintro e w3 ⟨rfl, hb3⟩
        have HB3 := hid (HB2.out.trans (hb3.mono HB2.out.size))
        clear hb3
        go_wp2
        go_ret
        exact ⟨rfl, HB3.out⟩
      · have hc5 : C = 115 ∧ 24 < s.size := by
          rcases HW.out with ⟨_, c⟩ | ⟨_, _, c⟩ | ⟨_, _, _, c⟩ | ⟨_, _, _, _, _, c⟩ | ⟨_, _, _, _, _, _, c⟩ | ⟨_, _, _, _, _, h, c⟩ | ⟨c1, c2, c3, c4, c5, c6, c⟩
          all_goals first | exact ⟨c, h⟩ | (exfalso; omega)
        have g3 : decide (C ≠ 103) = true := by simp [h103]
        have g4 : decide ((24 : Int) < (s.size : Int)) = true := by have := hc5.2; simp; omega
        have hv3 := HV2.out
        rw [hc5.1] at hv3
        have HV3 := hid hv3
        clear hv3 hl hv hc hc5
        rw [g3]
        go_wp2_with fail
        refine (is_any S 115 115 v2 _ HS2.out HV3.out).mono ?_
        rintro e w3 ⟨rfl, hb3⟩
        have HB3 := hid (HB2.out.trans (hb3.mono HB2.out.size))
        clear hb3
        go_wp2
        go_ret
        exact ⟨rfl, HB3.out⟩
    subst hv
    subst hc
    obtain ⟨hby, hrc, hpv⟩ := key_back HC.out
    obtain ⟨a1, a2, a3, a4, a5, a6⟩ := key_facts HC.out
    have hl := HL2.out
    rw [if_pos rfl] at hl
    have hlen : m2 = (keyL k n i s).length := hl.len.symm
    obtain ⟨n1, n2⟩ := num_yes a2
    obtain ⟨kk1, kk2⟩ := kin_yes a1
    have hLn : (keyL k n i s).length = if k = 4 then 7 else 4 + s.size := by
      unfold keyL
      split
      · simp [num3]
      · simp [num3, str_len]; omega
    obtain ⟨ad, x, rfl, _, hx, hc0⟩ := hl.get (show 0 < m2 by rw [hlen, hLn]; split <;> omega)
    obtain rfl : k = x := Option.some.inj (key_at.1.symm.trans hx)
    obtain ⟨_, y, ha, _, hy, hc3⟩ := hl.get (show 3 < m2 by rw [hlen, hLn]; split <;> omega)
    cases ha
    obtain rfl : n % 256 = y := Option.some.inj (key_at.2.symm.trans hy)
    have hd0 : w2.cell? ad = some (.int .u8 k) := by rw [Addr.add_zero'] at hc0; exact hc0
    have hd3 : w2.cell? ⟨ad.block, ad.off + 3, none⟩ = some (.int .u8 (n % 256)) := hc3
    have hn255 := and255 n n1 n2
    have g5 : (k != k) = false := by simp
    have g6 : (n % 256 != n % 256) = false := by simp
    have e7 : IntKind.i64.wrap k = k := by rw [IntKind.wrap_i64]; omega
    have e8 : IntKind.i64.wrap (n % 256) = n % 256 := by rw [IntKind.wrap_i64]; omega
    have hm3 : 3 < m2 := by rw [hlen, hLn]; split <;> omega
    have hm0 : 0 < m2 := by omega
    have hm3i : (3 : Int) < (m2 : Int) := by omega
    have hmc : m2 ≤ c2 := hl.cap
    have hm9 : m2 ≤ 100 := by rw [hlen, hLn]; split <;> omega
    have hw2 : (k = 4 ∧ m2 = 7) ∨ (k ≠ 4 ∧ m2 = 4 + s.size) := by
      rw [hlen, hLn]
      by_cases h4 : k = 4
      · exact .inl ⟨h4, by rw [if_pos h4]⟩
      · exact .inr ⟨h4, by rw [if_neg h4]⟩
    have g3 : decide ((0 : Int) ≠ 103) = true := by decide
    have g4 : decide ((24 : Int) < (s.size : Int)) = false := by simp; omega
    have HLk := hid hl
    have HBy := hid hby
    have HR2 := hid (readC_longer HC.out)
    have HC3 := hid (hl.head (show 3 ≤ m2 by omega))
    rw [g3]
    clear hl hby hrc hpv hlen hLn hx hy hc0 hc3 HL2 HV2 HW HC a1 a2 a3 a4 a5 a6
    rcases hw2 with ⟨h4, h7⟩ | ⟨h4, h7⟩
    · have g8 : (k == 4) = true := by simp [h4]
      have g9 : ((m2 : Int) != 7) = false := by simp; omega
      clear h4 h7
      have hLl := HLk.out.len
      go_wp2_with fail
      refine (read_any S _ _ _ _ _ (HS2.out.some (by decide)) HC3.out (HBy.out.take 3)).mono ?_
      rintro e w3 ⟨v3, rfl, hv3, hb3⟩
      rw [readC_short (by simp; omega)] at hv3
      generalize readK (List.take 3 (keyL k n i s)) = r1
      generalize readN (List.take 3 (keyL k n i s)) = r2
      generalize readI (List.take 3 (keyL k n i s)) = r3
      generalize readS (List.take 3 (keyL k n i s)) = r4
      unfold pv
      have hb3' : Below w2.heap.size w2 (w3.alloc (Obj.cells #[.int .i64 r1, .int .i64 r2, .int .i64 r3, .string r4] 23)) := hb3.alloc hb3.size _
      have HB3 := hid (HB2.out.trans (hb3'.mono HB2.out.size))
      have HS3 := hid (HS2.out.on hb3')
      have HL3 := hid (HLk.out.on hb3')
      have HV3 := hid hv3
      clear hb3 hb3' hv3
      go_wp2_with fail
      refine (bytesX_any _ _ _ _ _ HL3.out (by omega)).mono ?_
      rintro e w4 ⟨rfl, ho, hb4⟩
      have HB4 := hid (HB3.out.trans (hb4.mono HB3.out.size))
      have HS4 := hid (HS3.out.on hb4)
      obtain ⟨cz, w5, hrun, hs5, hb5⟩ := zeros_onto ho hLl (by omega)
      have HB5 := hid (HB4.out.trans (hb5.mono HB4.out.size))
      have HS5 := hid (HS4.out.on hb5)
      have HL5 := hid hs5
      simp only [World.size_alloc] at hrun
      have HRn := hid hrun
      clear hb4 hb5 hs5 hrun ho
      go_wp2_with (at_builtin; refine Lib.wpList_append_run _ rfl _ _ _ _ rfl _ _ rfl rfl _ _ (HRn.out _) ?_)
      go_wp2_with fail
      refine (read_any S _ _ _ _ _ (HS5.out.some (by decide)) HL5.out (HBy.out.append (fun y hy => by have := List.eq_of_mem_replicate hy; omega))).mono ?_
      rintro e w6 ⟨v6, rfl, hv6, hb6⟩
      rw [HR2.out] at hv6
      generalize readK (keyL k n i s ++ List.replicate 25 0) = r5
      generalize readN (keyL k n i s ++ List.replicate 25 0) = r6
      generalize readI (keyL k n i s ++ List.replicate 25 0) = r7
      generalize readS (keyL k n i s ++ List.replicate 25 0) = r8
      unfold pv
      have hb6' : Below w5.heap.size w5 (w6.alloc (Obj.cells #[.int .i64 r5, .int .i64 r6, .int .i64 r7, .string r8] 23)) := hb6.alloc hb6.size _
      have HB6 := hid (HB5.out.trans (hb6'.mono HB5.out.size))
      have HS6 := hid (HS5.out.on hb6')
      have HV6 := hid hv6
      clear hb6 hb6' hv6
      go_wp2_with fail
      have hlit := lit_sl2 w6 (Obj.cells #[.int .i64 r5, .int .i64 r6, .int .i64 r7, .string r8] 23) [9, 0, 0, 0] (by decide)
      have hbl : Below (w6.alloc (Obj.cells #[.int .i64 r5, .int .i64 r6, .int .i64 r7, .string r8] 23)).heap.size (w6.alloc (Obj.cells #[.int .i64 r5, .int .i64 r6, .int .i64 r7, .string r8] 23)) ((w6.alloc (Obj.cells #[.int .i64 r5, .int .i64 r6, .int .i64 r7, .string r8] 23)).alloc (.cells (I [9, 0, 0, 0]).toArray 5)) := (Below.refl _ _).alloc (Nat.le_refl _) _
      have HB7 := hid (HB6.out.trans (hbl.mono HB6.out.size))
      have HS7 := hid (HS6.out.on hbl)
      have hby9 : Byt [9, 0, 0, 0] := by intro y hy; simp at hy; omega
      clear hbl
      refine (read_any S _ _ _ [9, 0, 0, 0] _ (HS7.out.some (by decide)) hlit hby9).mono ?_
      rintro e w8 ⟨v8, rfl, hv8, hb8⟩
      rw [show readC [9, 0, 0, 0] = 103 from by decide] at hv8
      have HB8 := hid (HB7.out.trans (hb8.mono HB7.out.size))
      have HS8 := hid (HS7.out.on hb8)
      have HV8 := hid hv8
      clear hb8 hv8
      unfold pv
      generalize readK [9, 0, 0, 0] = r9
      generalize readN [9, 0, 0, 0] = ra
      generalize readI [9, 0, 0, 0] = rb
      generalize readS [9, 0, 0, 0] = rc
      have hb9 : Below w8.heap.size w8 (w8.alloc (Obj.cells #[.int .i64 r9, .int .i64 ra, .int .i64 rb, .string rc] 23)) := (Below.refl _ _).alloc (Nat.le_refl _) _
      have HB9 := hid (HB8.out.trans (hb9.mono HB8.out.size))
      have HS9 := hid (HS8.out.on hb9)
      clear hb9
      go_wp2_with fail
      refine (is_any S 101 101 v3 _ HS9.out HV3.out).mono ?_
      rintro e wa ⟨rfl, hba⟩
      have HBa := hid (HB9.out.trans (hba.mono HB9.out.size))
      have HSa := hid (HS9.out.on hba)
      clear hba
      rw [show ((101 : Int) == 101) = true by decide]
      go_wp2_with fail
      refine (is_any S 102 102 v6 _ HSa.out HV6.out).mono ?_
      rintro e wb ⟨rfl, hbb⟩
      have HBb := hid (HBa.out.trans (hbb.mono HBa.out.size))
      have HSb := hid (HSa.out.on hbb)
      clear hbb
      rw [show ((102 : Int) == 102) = true by decide]
      go_wp2_with fail
      refine (is_any S 103 103 v8 _ HSb.out HV8.out).mono ?_
      rintro e wc ⟨rfl, hbc⟩
      have HBc := hid (HBb.out.trans (hbc.mono HBb.out.size))
      clear hbc
      rw [show ((103 : Int) == 103) = true by decide]
      go_wp2
      go_ret
      exact ⟨rfl, HBc.out⟩
    · have g8 : (k == 4) = false := by simp [h4]
      have g9 : ((m2 : Int) != 4 + (s.size : Int)) = false := by simp; omega
      clear h4 h7
      have hLl := HLk.out.len
      go_wp2_with fail
      refine (read_any S _ _ _ _ _ (HS2.out.some (by decide)) HC3.out (HBy.out.take 3)).mono ?_
      rintro e w3 ⟨v3, rfl, hv3, hb3⟩
      rw [readC_short (by simp; omega)] at hv3
      generalize readK (List.take 3 (keyL k n i s)) = r1
      generalize readN (List.take 3 (keyL k n i s)) = r2
      generalize readI (List.take 3 (keyL k n i s)) = r3
      generalize readS (List.take 3 (keyL k n i s)) = r4
      unfold pv
      have hb3' : Below w2.heap.size w2 (w3.alloc (Obj.cells #[.int .i64 r1, .int .i64 r2, .int .i64 r3, .string r4] 23)) := hb3.alloc hb3.size _
      have HB3 := hid (HB2.out.trans (hb3'.mono HB2.out.size))
      have HS3 := hid (HS2.out.on hb3')
      have HL3 := hid (HLk.out.on hb3')
      have HV3 := hid hv3
      clear hb3 hb3' hv3
      go_wp2_with fail
      refine (bytesX_any _ _ _ _ _ HL3.out (by omega)).mono ?_
      rintro e w4 ⟨rfl, ho, hb4⟩
      have HB4 := hid (HB3.out.trans (hb4.mono HB3.out.size))
      have HS4 := hid (HS3.out.on hb4)
      obtain ⟨cz, w5, hrun, hs5, hb5⟩ := zeros_onto ho hLl (by omega)
      have HB5 := hid (HB4.out.trans (hb5.mono HB4.out.size))
      have HS5 := hid (HS4.out.on hb5)
      have HL5 := hid hs5
      simp only [World.size_alloc] at hrun
      have HRn := hid hrun
      clear hb4 hb5 hs5 hrun ho
      go_wp2_with (at_builtin; refine Lib.wpList_append_run _ rfl _ _ _ _ rfl _ _ rfl rfl _ _ (HRn.out _) ?_)
      go_wp2_with fail
      refine (read_any S _ _ _ _ _ (HS5.out.some (by decide)) HL5.out (HBy.out.append (fun y hy => by have := List.eq_of_mem_replicate hy; omega))).mono ?_
      rintro e w6 ⟨v6, rfl, hv6, hb6⟩
      rw [HR2.out] at hv6
      generalize readK (keyL k n i s ++ List.replicate 25 0) = r5
      generalize readN (keyL k n i s ++ List.replicate 25 0) = r6
      generalize readI (keyL k n i s ++ List.replicate 25 0) = r7
      generalize readS (keyL k n i s ++ List.replicate 25 0) = r8
      unfold pv
      have hb6' : Below w5.heap.size w5 (w6.alloc (Obj.cells #[.int .i64 r5, .int .i64 r6, .int .i64 r7, .string r8] 23)) := hb6.alloc hb6.size _
      have HB6 := hid (HB5.out.trans (hb6'.mono HB5.out.size))
      have HS6 := hid (HS5.out.on hb6')
      have HV6 := hid hv6
      clear hb6 hb6' hv6
      go_wp2_with fail
      have hlit := lit_sl2 w6 (Obj.cells #[.int .i64 r5, .int .i64 r6, .int .i64 r7, .string r8] 23) [9, 0, 0, 0] (by decide)
      have hbl : Below (w6.alloc (Obj.cells #[.int .i64 r5, .int .i64 r6, .int .i64 r7, .string r8] 23)).heap.size (w6.alloc (Obj.cells #[.int .i64 r5, .int .i64 r6, .int .i64 r7, .string r8] 23)) ((w6.alloc (Obj.cells #[.int .i64 r5, .int .i64 r6, .int .i64 r7, .string r8] 23)).alloc (.cells (I [9, 0, 0, 0]).toArray 5)) := (Below.refl _ _).alloc (Nat.le_refl _) _
      have HB7 := hid (HB6.out.trans (hbl.mono HB6.out.size))
      have HS7 := hid (HS6.out.on hbl)
      have hby9 : Byt [9, 0, 0, 0] := by intro y hy; simp at hy; omega
      clear hbl
      refine (read_any S _ _ _ [9, 0, 0, 0] _ (HS7.out.some (by decide)) hlit hby9).mono ?_
      rintro e w8 ⟨v8, rfl, hv8, hb8⟩
      rw [show readC [9, 0, 0, 0] = 103 from by decide] at hv8
      have HB8 := hid (HB7.out.trans (hb8.mono HB7.out.size))
      have HS8 := hid (HS7.out.on hb8)
      have HV8 := hid hv8
      clear hb8 hv8
      unfold pv
      generalize readK [9, 0, 0, 0] = r9
      generalize readN [9, 0, 0, 0] = ra
      generalize readI [9, 0, 0, 0] = rb
      generalize readS [9, 0, 0, 0] = rc
      have hb9 : Below w8.heap.size w8 (w8.alloc (Obj.cells #[.int .i64 r9, .int .i64 ra, .int .i64 rb, .string rc] 23)) := (Below.refl _ _).alloc (Nat.le_refl _) _
      have HB9 := hid (HB8.out.trans (hb9.mono HB8.out.size))
      have HS9 := hid (HS8.out.on hb9)
      clear hb9
      go_wp2_with fail
      refine (is_any S 101 101 v3 _ HS9.out HV3.out).mono ?_
      rintro e wa ⟨rfl, hba⟩
      have HBa := hid (HB9.out.trans (hba.mono HB9.out.size))
      have HSa := hid (HS9.out.on hba)
      clear hba
      rw [show ((101 : Int) == 101) = true by decide]
      go_wp2_with fail
      refine (is_any S 102 102 v6 _ HSa.out HV6.out).mono ?_
      rintro e wb ⟨rfl, hbb⟩
      have HBb := hid (HBa.out.trans (hbb.mono HBa.out.size))
      have HSb := hid (HSa.out.on hbb)
      clear hbb
      rw [show ((102 : Int) == 102) = true by decide]
      go_wp2_with fail
      refine (is_any S 103 103 v8 _ HSb.out HV8.out).mono ?_
      rintro e wc ⟨rfl, hbc⟩
      have HBc := hid (HBb.out.trans (hbc.mono HBb.out.size))
      clear hbc
      rw [show ((103 : Int) == 103) = true by decide]
      go_wp2
      go_ret
      exact ⟨rfl, HBc.out⟩
end Go.Proofs.YtkihoibcgafooaaDoor
