/- The walk of RecOrders. -/
import Derived.Test.YtkihoibcgafooaaDoorGRcJ
import Derived.Deep.DeepCutAuto
import Derived.Deep.CutBlock
namespace Go.Proofs.YtkihoibcgafooaaDoor
open Go.RowKit

/-- a key is read back -/
theorem key_back {k n i : Int} {s : ByteArray} (h : keyC k n i s = 0) : Byt (keyL k n i s) ∧ readC (keyL k n i s) = 0 ∧ pv (readK (keyL k n i s)) (readN (keyL k n i s)) (readI (keyL k n i s)) (readS (keyL k n i s)) = pv k n i s := by
  obtain ⟨a1, a2, a3, a4, a5, a6⟩ := key_facts h
  obtain ⟨k1, k2⟩ := kin_yes a1
  obtain ⟨n1, n2⟩ := num_yes a2
  obtain ⟨i1, i2⟩ := num_yes a3
  have hb3 : ∀ x, 0 ≤ x ∧ x < 16777216 → Byt (num3 x) := fun x hx y hy => by
    simp only [num3, List.mem_cons, List.not_mem_nil, or_false] at hy
    rcases hy with rfl | rfl | rfl <;> omega
  have hbk : Byt [k] := fun y hy => by
    have : y = k := by simpa using hy
    omega
  have h0 : ∀ x : List Int, (k :: num3 n ++ x).getD 0 0 = k := fun x => rfl
  have hN : ∀ x : List Int, numAt (k :: num3 n ++ x) 1 = n := fun x => by
    show n / 65536 * 65536 + n / 256 % 256 * 256 + n % 256 = n
    omega
  have hI : numAt (k :: num3 n ++ num3 i) 4 = i := by
    show i / 65536 * 65536 + i / 256 % 256 * 256 + i % 256 = i
    omega
  unfold keyL
  by_cases h4 : k = 4
  · have e1 : s = ⟨#[]⟩ := by rcases a5 with h | h; exact h; omega
    rw [if_pos h4]
    have hc : readC (k :: num3 n ++ num3 i) = 0 := by
      unfold readC
      rw [h0, a1, if_neg (show ¬ (k :: num3 n ++ num3 i).length < 4 by simp [num3]), if_neg (by decide), if_pos h4]
      simp [num3]
    refine ⟨(hbk.append (hb3 n ⟨n1, n2⟩)).append (hb3 i ⟨i1, i2⟩), hc, ?_⟩
    unfold readK readN readI readS pv
    rw [hc, h0, hN, hI]
    have h3 : ¬ k = 3 := by omega
    simp [h4, e1]
  · have e0 : i = 0 := by omega
    rw [if_neg h4]
    have hl : (k :: num3 n ++ str s).length = 4 + s.size := by simp [num3, str_len]; omega
    have hs0 : k ≠ 3 → s.size = 0 := fun h3 => by rcases a5 with h | h; exact emp_iff.2 h; exact absurd h h3
    have hc : readC (k :: num3 n ++ str s) = 0 := by
      unfold readC
      rw [h0, a1, hl, if_neg (by omega), if_neg (by decide), if_neg h4]
      by_cases h3 : k = 3
      · rw [if_pos h3, if_neg (by omega)]
      · have := hs0 h3
        rw [if_neg h3, if_neg (by omega)]
    refine ⟨(hbk.append (hb3 n ⟨n1, n2⟩)).append (str_byt s), hc, ?_⟩
    have hd : (k :: num3 n ++ str s).drop 4 = str s := rfl
    unfold readK readN readI readS pv
    rw [hc, h0, hN, hd, str_of]
    by_cases h3 : k = 3
    · simp [h3, e0]
    · have e1 : s = ⟨#[]⟩ := emp_iff.1 (hs0 h3)
      simp [h3, h4, e0, e1]
set_option maxRecDepth 100000 in
set_option maxHeartbeats 4000000 in
theorem recOrders_any (S : Nat → Addr) (k n i : Int) (s : ByteArray) (k2 n2 i2 : Int) (s2 : ByteArray) (w : World) (hS : Sent4 w S) :
    Calls Tryd.prog 4 #[pv k n i s, pv k2 n2 i2 s2] w (Yes w) := by
  have HS := hid hS
  clear hS
  have hb0 : Below w.heap.size w ((w.alloc (Obj.cells #[.int .i64 k, .int .i64 n, .int .i64 i, .string s] 23)).alloc (Obj.cells #[.int .i64 k2, .int .i64 n2, .int .i64 i2, .string s2] 23)) := ((Below.refl _ _).alloc (Nat.le_refl _) _).alloc (by simp) _
  have hp := (Blk.new w 23 #[.int .i64 k, .int .i64 n, .int .i64 i, .string s]).alloc (Obj.cells #[.int .i64 k2, .int .i64 n2, .int .i64 i2, .string s2] 23)
  have hr := Blk.new (w.alloc (Obj.cells #[.int .i64 k, .int .i64 n, .int .i64 i, .string s] 23)) 23 #[.int .i64 k2, .int .i64 n2, .int .i64 i2, .string s2]
  rw [World.size_alloc] at hr
  have HP0 := hid hp
  have HR0 := hid hr
  have HB0 := hid hb0
  have HS0 := hid (HS.out.on hb0)
  clear hb0 hp hr
  unfold pv
  go_enter Tryd.func4, Tryd.ntmps4
  go_wp2_with fail
  refine (first10_any S _ HS0.out).mono ?_
  rintro e w1 ⟨rfl, hb1⟩
  have HP1 := hid (HP0.out.below hb1 HP0.out.lt)
  have HR1 := hid (HR0.out.below hb1 HR0.out.lt)
  have HB1 := hid (HB0.out.trans (hb1.mono HB0.out.size))
  have HS1 := hid (HS0.out.on hb1)
  have k0 := HP1.out.cell 0
  have k1 := HP1.out.cell 1
  have k2' := HP1.out.cell 2
  have k3 := HP1.out.cell 3
  simp at k0 k1 k2' k3
  clear hb1
  go_wp2_with fail
  refine (key_any S k n i s _ HS1.out).mono ?_
  rintro e w2 ⟨A2, m2, c2, v2, rfl, hv2, hs2, hb2⟩
  have HP2 := hid (HP1.out.below hb2 HP1.out.lt)
  have HR2 := hid (HR1.out.below hb2 HR1.out.lt)
  have HB2 := hid (HB1.out.trans (hb2.mono HB1.out.size))
  have HS2 := hid (HS1.out.on hb2)
  have HV2 := hid hv2
  have HL2 := hid hs2
  have q0 := HR2.out.cell 0
  have q1 := HR2.out.cell 1
  have q2 := HR2.out.cell 2
  have q3 := HR2.out.cell 3
  simp at q0 q1 q2 q3
  clear hb2 hv2 hs2 k0 k1 k2' k3
  go_wp2_with fail
  refine (key_any S k2 n2 i2 s2 _ HS2.out).mono ?_
  rintro e w3 ⟨A3, m3, c3, v3, rfl, hv3, hs3, hb3⟩
  have HP3 := hid (HP2.out.below hb3 HP2.out.lt)
  have HR3 := hid (HR2.out.below hb3 HR2.out.lt)
  have HB3 := hid (HB2.out.trans (hb3.mono HB2.out.size))
  have HS3 := hid (HS2.out.on hb3)
  have HV3 := hid hv3
  have HL3 := hid hs3
  have HL23 := hid (HL2.out.on hb3)
  clear hb3 hv3 hs3 q0 q1 q2 q3
  rcases HV2.out.ways with ⟨hc2, hv2⟩ | ⟨_, a, hv2⟩
  rotate_left
  · subst hv2
    go_wp2
    go_ret
    exact ⟨rfl, HB3.out⟩
  subst hv2
  rcases HV3.out.ways with ⟨hc3, hv3⟩ | ⟨_, a, hv3⟩
  rotate_left
  · subst hv3
    go_wp2
    go_ret
    exact ⟨rfl, HB3.out⟩
  subst hv3
  obtain ⟨hby, hrc, hpv⟩ := key_back hc2
  have HA := hid (key_ahead hc2 hc3)
  have hl2 := HL23.out
  have hl3 := HL3.out
  rw [if_pos hc2] at hl2
  rw [if_pos hc3] at hl3
  have HLx := hid hl2
  have HLy := hid hl3
  have HBy := hid hby
  have HRc := hid hrc
  have HPv := hid hpv
  clear hl2 hl3 hby hrc hpv hc2 hc3 HL2 HL3 HL23 HV2 HV3 HS HS0 HS1 HS2 HP0 HP1 HP2 HR0 HR1 HR2 HB0 HB1 HB2
  go_wp2_with fail
  refine (read_any S _ _ _ _ _ HS3.out HLx.out HBy.out).mono ?_
  rintro e w4 ⟨v4, rfl, hv4, hb4⟩
  rw [HRc.out] at hv4
  rw [HPv.out]
  unfold pv
  obtain rfl : v4 = .nilIface := by rcases hv4.ways with ⟨_, h⟩ | ⟨h, _⟩; exact h; exact absurd rfl h
  have HP4 := hid (HP3.out.below hb4 HP3.out.lt)
  have HR4 := hid (HR3.out.below hb4 HR3.out.lt)
  have HB4 := hid (HB3.out.trans (hb4.mono HB3.out.size))
  have HLx4 := hid (HLx.out.on hb4)
  have HLy4 := hid (HLy.out.on hb4)
  clear hv4 hb4 HP3 HR3 HB3 HLx HLy
  have HQ5 := hid (Blk.new w4 23 #[.int .i64 k, .int .i64 n, .int .i64 i, .string s])
  have hb5 : Below w4.heap.size w4 (w4.alloc (Obj.cells #[.int .i64 k, .int .i64 n, .int .i64 i, .string s] 23)) := (Below.refl _ _).alloc (Nat.le_refl _) _
  have HP5 := hid (HP4.out.below hb5 HP4.out.lt)
  have HR5 := hid (HR4.out.below hb5 HR4.out.lt)
  have HB5 := hid (HB4.out.trans (hb5.mono HB4.out.size))
  have HLx5 := hid (HLx4.out.on hb5)
  have HLy5 := hid (HLy4.out.on hb5)
  clear hb5
  have k0 := HP5.out.cell 0
  have k1 := HP5.out.cell 1
  have k2' := HP5.out.cell 2
  have k3 := HP5.out.cell 3
  have q0 := HR5.out.cell 0
  have q1 := HR5.out.cell 1
  have q2 := HR5.out.cell 2
  have q3 := HR5.out.cell 3
  simp at k0 k1 k2' k3 q0 q1 q2 q3
  go_upto_region 9 with fail
  go_cut [12] (fun b wx => b = .bool (lessP k n i s k2 n2 i2 s2) ∧ wx = w4.alloc (Obj.cells #[.int .i64 k, .int .i64 n, .int .i64 i, .string s] 23))
  case first =>
    rcases (show k < k2 ∨ (k2 ≤ k ∧ k2 < k ∧ (k == k2) = false) ∨ (k2 ≤ k ∧ k ≤ k2 ∧ (k == k2) = true) by
      rcases Int.lt_trichotomy k k2 with h | h | h
      · exact .inl h
      · exact .inr (.inr ⟨by omega, by omega, by simp [h]⟩)
      · exact .inr (.inl ⟨by omega, h, by simp; omega⟩)) with a1 | ⟨a1, a2, a3⟩ | ⟨a1, a2, a3⟩
    · have HF := hid (show lessP k n i s k2 n2 i2 s2 = true from by unfold lessP; rw [if_pos (show k ≠ k2 by omega)]; simp; omega)
      go_wp2
      go_meet
      exact ⟨by rw [HF.out] <;> first | rfl | (have x1 : ¬ k < k2 := (by omega); simp [x1]; done) | (have x1 : ¬ k < k2 := (by omega); have x2 : ¬ n < n2 := (by omega); simp [x1, x2]; done) | (have x1 : ¬ k < k2 := (by omega); have x2 : ¬ n < n2 := (by omega); have x3 : ¬ i < i2 := (by omega); simp [x1, x2, x3]; done), rfl⟩
    · have HF := hid (show lessP k n i s k2 n2 i2 s2 = false from by unfold lessP; rw [if_pos (show k ≠ k2 by omega)]; simp; omega)
      go_wp2
      go_meet
      exact ⟨by rw [HF.out] <;> first | rfl | (have x1 : ¬ k < k2 := (by omega); simp [x1]; done) | (have x1 : ¬ k < k2 := (by omega); have x2 : ¬ n < n2 := (by omega); simp [x1, x2]; done) | (have x1 : ¬ k < k2 := (by omega); have x2 : ¬ n < n2 := (by omega); have x3 : ¬ i < i2 := (by omega); simp [x1, x2, x3]; done), rfl⟩
    rcases (show n < n2 ∨ (n2 ≤ n ∧ n2 < n ∧ (n == n2) = false) ∨ (n2 ≤ n ∧ n ≤ n2 ∧ (n == n2) = true) by
      rcases Int.lt_trichotomy n n2 with h | h | h
      · exact .inl h
      · exact .inr (.inr ⟨by omega, by omega, by simp [h]⟩)
      · exact .inr (.inl ⟨by omega, h, by simp; omega⟩)) with b1 | ⟨b1, b2, b3⟩ | ⟨b1, b2, b3⟩
    · have HF := hid (show lessP k n i s k2 n2 i2 s2 = true from by unfold lessP; rw [if_neg (show ¬ k ≠ k2 by omega), if_pos (show n ≠ n2 by omega)]; simp; omega)
      go_wp2
      go_meet
      exact ⟨by rw [HF.out] <;> first | rfl | (have x1 : ¬ k < k2 := (by omega); simp [x1]; done) | (have x1 : ¬ k < k2 := (by omega); have x2 : ¬ n < n2 := (by omega); simp [x1, x2]; done) | (have x1 : ¬ k < k2 := (by omega); have x2 : ¬ n < n2 := (by omega); have x3 : ¬ i < i2 := (by omega); simp [x1, x2, x3]; done), rfl⟩
    · have HF := hid (show lessP k n i s k2 n2 i2 s2 = false from by unfold lessP; rw [if_neg (show ¬ k ≠ k2 by omega), if_pos (show n ≠ n2 by omega)]; simp; omega)
      go_wp2
      go_meet
      exact ⟨by rw [HF.out] <;> first | rfl | (have x1 : ¬ k < k2 := (by omega); simp [x1]; done) | (have x1 : ¬ k < k2 := (by omega); have x2 : ¬ n < n2 := (by omega); simp [x1, x2]; done) | (have x1 : ¬ k < k2 := (by omega); have x2 : ¬ n < n2 := (by omega); have x3 : ¬ i < i2 := (by omega); simp [x1, x2, x3]; done), rfl⟩
    rcases (show i < i2 ∨ (i2 ≤ i ∧ i2 < i ∧ (i == i2) = false) ∨ (i2 ≤ i ∧ i ≤ i2 ∧ (i == i2) = true) by
      rcases Int.lt_trichotomy i i2 with h | h | h
      · exact .inl h
      · exact .inr (.inr ⟨by omega, by omega, by simp [h]⟩)
      · exact .inr (.inl ⟨by omega, h, by simp; omega⟩)) with d1 | ⟨d1, d2, d3⟩ | ⟨d1, d2, d3⟩
    · have HF := hid (show lessP k n i s k2 n2 i2 s2 = true from by unfold lessP; rw [if_neg (show ¬ k ≠ k2 by omega), if_neg (show ¬ n ≠ n2 by omega), if_pos (show i ≠ i2 by omega)]; simp; omega)
      go_wp2
      go_meet
      exact ⟨by rw [HF.out] <;> first | rfl | (have x1 : ¬ k < k2 := (by omega); simp [x1]; done) | (have x1 : ¬ k < k2 := (by omega); have x2 : ¬ n < n2 := (by omega); simp [x1, x2]; done) | (have x1 : ¬ k < k2 := (by omega); have x2 : ¬ n < n2 := (by omega); have x3 : ¬ i < i2 := (by omega); simp [x1, x2, x3]; done), rfl⟩
    · have HF := hid (show lessP k n i s k2 n2 i2 s2 = false from by unfold lessP; rw [if_neg (show ¬ k ≠ k2 by omega), if_neg (show ¬ n ≠ n2 by omega), if_pos (show i ≠ i2 by omega)]; simp; omega)
      go_wp2
      go_meet
      exact ⟨by rw [HF.out] <;> first | rfl | (have x1 : ¬ k < k2 := (by omega); simp [x1]; done) | (have x1 : ¬ k < k2 := (by omega); have x2 : ¬ n < n2 := (by omega); simp [x1, x2]; done) | (have x1 : ¬ k < k2 := (by omega); have x2 : ¬ n < n2 := (by omega); have x3 : ¬ i < i2 := (by omega); simp [x1, x2, x3]; done), rfl⟩
    · have HF := hid (show lessP k n i s k2 n2 i2 s2 = Op.bytesLess s.toList s2.toList from by unfold lessP; rw [if_neg (show ¬ k ≠ k2 by omega), if_neg (show ¬ n ≠ n2 by omega), if_neg (show ¬ i ≠ i2 by omega)])
      go_wp2
      go_meet
      exact ⟨by rw [HF.out] <;> first | rfl | (have x1 : ¬ k < k2 := (by omega); simp [x1]; done) | (have x1 : ¬ k < k2 := (by omega); have x2 : ¬ n < n2 := (by omega); simp [x1, x2]; done) | (have x1 : ¬ k < k2 := (by omega); have x2 : ¬ n < n2 := (by omega); have x3 : ¬ i < i2 := (by omega); simp [x1, x2, x3]; done), rfl⟩
  case rest =>
    obtain ⟨rfl, rfl⟩ := hcut
    obtain ⟨b, hb⟩ : ∃ b, lessP k n i s k2 n2 i2 s2 = b := ⟨_, rfl⟩
    have HLs := hid hb
    rw [hb] at HA ⊢
    clear hb
    have p0 := HQ5.out.cell 0
    have p1 := HQ5.out.cell 1
    have p2 := HQ5.out.cell 2
    have p3 := HQ5.out.cell 3
    simp at p0 p1 p2 p3
    have t3 : (s.toList == s.toList) = true := by simp
    have tb : (b == b) = true := by simp
    go_wp2_with fail
    refine (less_any k n i s k2 n2 i2 s2 _).mono ?_
    rintro e w6 ⟨rfl, hb6⟩
    rw [HLs.out]
    have HB6 := hid (HB5.out.trans (hb6.mono HB5.out.size))
    have HLx6 := hid (HLx5.out.on hb6)
    have HLy6 := hid (HLy5.out.on hb6)
    clear hb6
    go_wp2_with fail
    refine (ahead_any _ _ _ _ _ _ _ _ _ _ _ HLx6.out HLy6.out).mono ?_
    rintro e w7 ⟨rfl, q, rfl⟩
    rw [HA.out]
    go_wp2
    go_ret
    exact ⟨rfl, below_drewN HB6.out q⟩
end Go.Proofs.YtkihoibcgafooaaDoor
