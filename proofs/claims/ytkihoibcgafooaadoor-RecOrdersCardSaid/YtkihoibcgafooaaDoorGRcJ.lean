/- The chapter's example; the walk of RecSays. -/
import Derived.Test.YtkihoibcgafooaaDoorGRcI
namespace Go.Proofs.YtkihoibcgafooaaDoor
open Go.RowKit

set_option maxRecDepth 100000 in
set_option maxHeartbeats 2000000 in
theorem first10_any (S : Nat → Addr) (w : World) (hS : Sent4 w S) :
    Calls Tryd.prog 6 #[] w (Yes w) := by
  have HS := hid hS
  clear hS
  go_enter Tryd.func6, Tryd.ntmps6
  go_wp2_with fail
  refine (key_any S 2 2 0 ⟨#[]⟩ _ HS.out).mono ?_
  rintro e w1 ⟨A, m, c, v, rfl, hv, hs, hb⟩
  have hc : keyC 2 2 0 ⟨#[]⟩ = 0 := by decide
  rw [hc] at hv hs
  rw [if_pos rfl, show keyL 2 2 0 ⟨#[]⟩ = [2, 0, 0, 2] from rfl] at hs
  obtain rfl : v = .nilIface := by rcases hv.ways with ⟨_, h⟩ | ⟨h, _⟩; exact h; exact absurd rfl h
  have HL := hid hs
  have HB := hid hb
  clear hv hs hb hc
  go_wp2_with fail
  refine (same_any _ _ _ _ _ _ _ [2, 0, 0, 2] _ _ _ (HL.out.alloc (Nat.le_refl _) _) (Sl.lit w1 [2, 0, 0, 2] (by decide))).mono ?_
  rintro e w2 ⟨rfl, q, rfl⟩
  rw [same_self]
  have HF := hid (show Yes w (.returned (.bool true)) ((w1.alloc (.cells (I [2, 0, 0, 2]).toArray 5)).drewN q) from ⟨rfl, below_drewN (HB.out.alloc HB.out.size _) q⟩)
  go_wp2
  go_ret
  exact HF.out
set_option maxRecDepth 100000 in
set_option maxHeartbeats 4000000 in
theorem recSays_any (S : Nat → Addr) (k n i : Int) (s : ByteArray) (A : Option Addr) (m c : Nat) (l : List Int) (w : World) (hS : Sent w S) (h : Sl w w.heap.size A m c l) (hb : Byt l) :
    Calls Tryd.prog 3 #[pv k n i s, .slice A m c] w (Yes w) := by
  have HS := hid hS
  have HL := hid h
  have HBy := hid hb
  clear hS h hb
  have hb0 : Below w.heap.size w (w.alloc (Obj.cells #[.int .i64 k, .int .i64 n, .int .i64 i, .string s] 23)) := (Below.refl _ _).alloc (Nat.le_refl _) _
  have hk0 := Blk.new w 23 #[.int .i64 k, .int .i64 n, .int .i64 i, .string s]
  have HK0 := hid hk0
  have HB0 := hid hb0
  have HS0 := hid (HS.out.on hb0)
  clear hb0 hk0
  unfold pv
  go_enter Tryd.func3, Tryd.ntmps3
  go_wp2_with fail
  refine (first10_any S _ (HS0.out.some (by decide))).mono ?_
  rintro e w1 ⟨rfl, hb1⟩
  have HK1 := hid (HK0.out.below hb1 HK0.out.lt)
  have HB1 := hid (HB0.out.trans (hb1.mono HB0.out.size))
  have HS1 := hid (HS0.out.on hb1)
  have k0 := HK1.out.cell 0
  have k1 := HK1.out.cell 1
  have k2 := HK1.out.cell 2
  have k3 := HK1.out.cell 3
  simp at k0 k1 k2 k3
  clear hb1
  by_cases h60 : 60 < m
  · have g : decide ((60 : Int) < (m : Int)) = true := by simp; omega
    go_wp2
    go_ret
    exact ⟨rfl, HB1.out⟩
  have g : decide ((60 : Int) < (m : Int)) = false := by simp; omega
  by_cases hs60 : 60 < s.size
  · have g2 : decide ((60 : Int) < (s.size : Int)) = true := by simp; omega
    go_wp2
    go_ret
    exact ⟨rfl, HB1.out⟩
  have g2 : decide ((60 : Int) < (s.size : Int)) = false := by simp; omega
  go_wp2_with fail
  refine (key_any S k n i s _ (HS1.out.some (by decide))).mono ?_
  rintro e w2 ⟨A2, m2, c2, v2, rfl, hv2, hs2, hb2⟩
  have HK2 := hid (HK1.out.below hb2 HK1.out.lt)
  have HB2 := hid (HB1.out.trans (hb2.mono HB1.out.size))
  have HS2 := hid (HS1.out.on hb2)
  have HV2 := hid hv2
  have HL2 := hid hs2
  have q0 := HK2.out.cell 0
  have q1 := HK2.out.cell 1
  have q2 := HK2.out.cell 2
  have q3 := HK2.out.cell 3
  simp at q0 q1 q2 q3
  clear hb2 hv2 hs2 k0 k1 k2 k3
  go_wp2_with fail
  refine (rkey_any k n i s _).mono ?_
  rintro e w3 ⟨A3, m3, c3, rfl, hs3, hb3⟩
  have HB3 := hid (HB2.out.trans (hb3.mono HB2.out.size))
  have HS3 := hid (HS2.out.on hb3)
  have HL23 := hid (HL2.out.on hb3)
  have HL3 := hid hs3
  have HA3 := hid ((HL.out.below HB3.out).more HB3.out.size)
  clear hb3 hs3 q0 q1 q2 q3
  go_wp2_with fail
  refine (read_any S A m c l _ (HS3.out.some (by decide)) HA3.out HBy.out).mono ?_
  rintro e w4 ⟨v4, rfl, hv4, hb4⟩
  unfold pv
  have HB4 := hid (HB3.out.trans (hb4.mono HB3.out.size))
  have HS4 := hid (HS3.out.on hb4)
  have HL24 := hid (HL23.out.on hb4)
  have HL34 := hid (HL3.out.on hb4)
  have HA4 := hid (HA3.out.on hb4)
  have HV4 := hid hv4
  clear hb4 hv4
  obtain ⟨rk, hrk⟩ : ∃ x, readK l = x := ⟨_, rfl⟩
  obtain ⟨rn, hrn⟩ : ∃ x, readN l = x := ⟨_, rfl⟩
  obtain ⟨ri, hri⟩ : ∃ x, readI l = x := ⟨_, rfl⟩
  obtain ⟨rs, hrs⟩ : ∃ x, readS l = x := ⟨_, rfl⟩
  obtain ⟨rc, hrc⟩ : ∃ x, readC l = x := ⟨_, rfl⟩
  obtain ⟨kc, hkc⟩ : ∃ x, keyC k n i s = x := ⟨_, rfl⟩
  rw [hrk, hrn, hri, hrs]
  have HRk := hid (show ∀ w e w', RReadR w l e w' → e = .returned (.tuple #[.int .i64 rk, .int .i64 rn, .int .i64 ri, .string rs, .int .i64 rc]) ∧ Below w.heap.size w w' from fun w e w' h => by
    unfold RReadR at h
    rwa [hrk, hrn, hri, hrs, hrc] at h)
  rw [hrc] at HV4
  rw [hkc] at HV2 HL24 HL34 ⊢
  clear hrk hrn hri hrs hrc hkc
  go_wp2_with fail
  have HQ := hid (Blk.new w4 23 #[.int .i64 rk, .int .i64 rn, .int .i64 ri, .string rs])
  have hb5 : Below w4.heap.size w4 (w4.alloc (Obj.cells #[.int .i64 rk, .int .i64 rn, .int .i64 ri, .string rs] 23)) := (Below.refl _ _).alloc (Nat.le_refl _) _
  have HB5 := hid (HB4.out.trans (hb5.mono HB4.out.size))
  have HS5 := hid (HS4.out.on hb5)
  have HL25 := hid (HL24.out.on hb5)
  have HL35 := hid (HL34.out.on hb5)
  have HA5 := hid (HA4.out.on hb5)
  clear hb5
  refine (readKey_any _ _ _ _ _ _ HA5.out HBy.out).mono ?_
  rintro e w6 h6
  obtain ⟨rfl, hb6⟩ := HRk.out _ _ _ h6
  have HQ6 := hid (HQ.out.below hb6 HQ.out.lt)
  have HB6 := hid (HB5.out.trans (hb6.mono HB5.out.size))
  have HS6 := hid (HS5.out.on hb6)
  have HL26 := hid (HL25.out.on hb6)
  have HL36 := hid (HL35.out.on hb6)
  clear h6 hb6
  go_wp2_with fail
  refine (is_any S kc kc v2 _ HS6.out HV2.out).mono ?_
  rintro e w7 ⟨rfl, hb7⟩
  have HQ7 := hid (HQ6.out.below hb7 HQ6.out.lt)
  have HB7 := hid (HB6.out.trans (hb7.mono HB6.out.size))
  have HS7 := hid (HS6.out.on hb7)
  have HL27 := hid (HL26.out.on hb7)
  have HL37 := hid (HL36.out.on hb7)
  clear hb7
  have hkk : (kc == kc) = true := by simp
  rw [hkk]
  go_wp2_with fail
  refine (same_any _ _ _ _ _ _ _ _ _ _ _ HL27.out HL37.out).mono ?_
  rintro e w8 ⟨rfl, q, rfl⟩
  rw [same_self]
  go_wp2_with fail
  refine (is_any S rc rc v4 _ (HS7.out.drewN q) HV4.out).mono ?_
  rintro e w9 ⟨rfl, hb9⟩
  have hrr : (rc == rc) = true := by simp
  rw [hrr]
  have hq9 := (HQ7.out.drewN q).below hb9 HQ7.out.lt
  have HB9 := hid ((below_drewN HB7.out q).trans (hb9.mono HB7.out.size))
  have p0 := hq9.cell 0
  have p1 := hq9.cell 1
  have p2 := hq9.cell 2
  have p3 := hq9.cell 3
  simp at p0 p1 p2 p3
  clear hq9 hb9
  have t3 : (rs.toList == rs.toList) = true := by simp
  go_wp2
  go_ret
  exact ⟨rfl, HB9.out⟩
end Go.Proofs.YtkihoibcgafooaaDoor
