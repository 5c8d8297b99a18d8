/- PathSays, walked. -/
import Derived.Test.YtjoajjndopfbmaaDoorGPaJ
import Derived.Test.YtjoajjndopfbmaaDoorGPaE
import Derived.Deep.RegionHeld3
namespace Go.Proofs.YtjoajjndopfbmaaDoor
open Go.RowKit Go.Shelf Go.Lib

theorem head_drop {l : List Nam} {k : Nat} {x : Nam} (h : l[k]? = some x) {q : Nat} (hx : x.length ≤ q) (ht : ∀ y ∈ l.take k, y.length ≤ q) : ∀ y ∈ l.take (k + 1), y.length ≤ q := by
  intro y hy
  rw [takeN h, List.mem_append, List.mem_singleton] at hy
  rcases hy with hy | rfl
  · exact ht y hy
  · exact hx
set_option maxRecDepth 100000 in
set_option maxHeartbeats 8000000 in
theorem pathSays_any (S : Nat → Addr) (s : Nam) (A : Option Addr) (n c : Nat) (b : Bool) (l : List Nam) (w : World) (hS : Sent w S) (h : St w w.heap.size A n c l) (hm : s.length ≤ maxLen) :
    Calls Tryd.prog 3 #[encStr s, .agg #[.slice A n c, .bool b]] w fun e w' => e = .returned (.bool true) ∧ Below w.heap.size w w' := by
  have hmx : n ≤ 9223372036854775807 := by have := h.cap; have := h.max; unfold maxLen at this; omega
  have hml : s.length ≤ 9223372036854775807 := by unfold maxLen at hm; omega
  have hsz := sz_of' s
  have hb0 : Below w.heap.size w (w.alloc (.cells #[.slice A n c, .bool b] 24)) := (Below.refl _ _).alloc (Nat.le_refl _) _
  have HE := hid (hS.on hb0)
  have HS := hid (Sv.on h hb0)
  have HQ := hid (Blk.new w 24 #[.slice A n c, .bool b])
  have HW := hid hb0
  have HN := hid h.size
  clear h hS hm hb0
  go_enter Tryd.func3, Tryd.ntmps3
  go_wp2_with fail
  refine (first12_any S _ (HE.out.some (by decide))).mono ?_
  rintro e w1 ⟨rfl, hb⟩
  replace HE := hid (HE.out.on hb)
  replace HS := hid (Sv.on HS.out hb)
  replace HQ := hid (HQ.out.below hb HQ.out.lt)
  replace HW := hid (HW.out.trans (hb.mono HW.out.size))
  clear hb
  have q0 : w1.cell? ⟨w.heap.size, 0, none⟩ = some (.slice A n c) := HQ.out.cell 0
  by_cases h400 : 400 < s.length
  · go_wp2
    go_ret
    exact ⟨rfl, HW.out⟩
  by_cases h20 : 20 < n
  · go_wp2
    go_ret
    exact ⟨rfl, HW.out⟩
  have hs4 : s.length ≤ 400 := by omega
  have hn2 : n ≤ 20 := by omega
  clear h400 h20 hmx hml
  go_wp2
  go_loopg [6] n (fun g i wr => ∃ k : Nat, k ≤ n ∧ n - k ≤ g ∧ i = .int .i64 (k : Int) ∧ Hid (wr = w1) ∧ Hid (∀ y ∈ l.take k, y.length ≤ 40))
  case atStart => exact ⟨0, Nat.zero_le _, Nat.le_refl _, rfl, rfl, hid (fun y hy => by simp at hy)⟩
  case round =>
    obtain ⟨k, hk, hg, rfl, HWr, HT⟩ := hrel
    obtain rfl := HWr.out
    by_cases hlt : k < n
    · obtain ⟨ad, x, rfl, hbl, hx, hc⟩ := St.at HS.out hlt
      have hxl := sz_of' x
      have HX := hid hx
      clear hbl hx
      by_cases h40 : 40 < x.length
      · go_wp2
        go_ret
        exact ⟨rfl, HW.out⟩
      · have HT2 := hid (head_drop HX.out (show x.length ≤ 40 by omega) HT.out)
        go_wp2
        go_roundg (n - (k + 1))
        case measure => omega
        case rel => exact ⟨k + 1, by omega, Nat.le_refl _, by go_num, rfl, HT2⟩
    · have HLN := hid (show ∀ y ∈ l, y.length ≤ 1000 by
        have h1 := HT.out
        rw [List.take_of_length_le (by rw [HN.out]; omega)] at h1
        exact fun y hy => Nat.le_trans (h1 y hy) (by decide))
      clear HT
      go_wp2_with fail
      refine (parse_any S ⟨s.toArray⟩ wr (HE.out.some (by decide))).mono ?_
      rw [show (⟨s.toArray⟩ : ByteArray).data.toList = s by simp]
      rintro e w2 ⟨A2, n2, c2, ve, rfl, hev, hst, hb⟩
      have HEV := hid hev
      have HS2 := hid hst
      replace HE := hid (HE.out.on hb)
      replace HS := hid (Sv.on HS.out hb)
      replace HQ := hid (HQ.out.below hb HQ.out.lt)
      replace HW := hid (HW.out.trans (hb.mono HW.out.size))
      clear hev hst hb q0
      obtain ⟨b2, hb2⟩ : ∃ b2, prsS s = b2 := ⟨_, rfl⟩
      rw [hb2]
      have HB2 := hid hb2
      clear hb2
      obtain ⟨w3, hw3⟩ : ∃ w3, w2.alloc (.cells #[.slice A2 n2 c2, .bool b2] 24) = w3 := ⟨_, rfl⟩
      have hba : Below w2.heap.size w2 w3 := by rw [← hw3]; exact (Below.refl _ _).alloc (Nat.le_refl _) _
      have HP2 := hid (show Blk w3 w2.heap.size 24 #[.slice A2 n2 c2, .bool b2] by rw [← hw3]; exact Blk.new _ _ _)
      replace HE := hid (HE.out.on hba)
      replace HS := hid (Sv.on HS.out hba)
      replace HQ := hid (HQ.out.below hba HQ.out.lt)
      replace HW := hid (HW.out.trans (hba.mono HW.out.size))
      replace HS2 := hid (Sv.on HS2.out hba)
      replace hw3 := hid hw3
      clear hba
      go_wp2_with fail
      rw [hw3.out]
      clear hw3
      refine (refParse_any ⟨s.toArray⟩ w3).mono ?_
      rw [show (⟨s.toArray⟩ : ByteArray).data.toList = s by simp]
      rintro e w4 ⟨A4, n4, c4, rfl, hst, hb⟩
      rw [HB2.out]
      have HS4 := hid hst
      replace HE := hid (HE.out.on hb)
      replace HS := hid (Sv.on HS.out hb)
      replace HQ := hid (HQ.out.below hb HQ.out.lt)
      replace HW := hid (HW.out.trans (hb.mono HW.out.size))
      replace HS2 := hid (Sv.on HS2.out hb)
      replace HP2 := hid (HP2.out.below hb HP2.out.lt)
      clear hst hb
      obtain ⟨pc, hpc⟩ : ∃ pc, prsC s = pc := ⟨_, rfl⟩
      rw [hpc] at HEV ⊢
      clear hpc
      obtain ⟨w5, hw5⟩ : ∃ w5, w4.alloc (.cells #[.slice A4 n4 c4, .bool b2] 30) = w5 := ⟨_, rfl⟩
      have hba : Below w4.heap.size w4 w5 := by rw [← hw5]; exact (Below.refl _ _).alloc (Nat.le_refl _) _
      have HP4 := hid (show Blk w5 w4.heap.size 30 #[.slice A4 n4 c4, .bool b2] by rw [← hw5]; exact Blk.new _ _ _)
      replace HE := hid (HE.out.on hba)
      replace HS := hid (Sv.on HS.out hba)
      replace HQ := hid (HQ.out.below hba HQ.out.lt)
      replace HW := hid (HW.out.trans (hba.mono HW.out.size))
      replace HS2 := hid (Sv.on HS2.out hba)
      replace HP2 := hid (HP2.out.below hba HP2.out.lt)
      replace HS4 := hid (Sv.on HS4.out hba)
      replace hw5 := hid hw5
      clear hba
      go_wp2_with fail
      rw [hw5.out]
      clear hw5
      refine (is_any S _ _ ve w5 HE.out HEV.out).mono ?_
      rw [beq_self_eq_true]
      rintro e w6 ⟨rfl, hb⟩
      replace HE := hid (HE.out.on hb)
      replace HS := hid (Sv.on HS.out hb)
      replace HQ := hid (HQ.out.below hb HQ.out.lt)
      replace HW := hid (HW.out.trans (hb.mono HW.out.size))
      replace HS2 := hid (Sv.on HS2.out hb)
      replace HP2 := hid (HP2.out.below hb HP2.out.lt)
      replace HS4 := hid (Sv.on HS4.out hb)
      replace HP4 := hid (HP4.out.below hb HP4.out.lt)
      clear hb
      have k20 : w6.cell? ⟨w2.heap.size, 0, none⟩ = some (.slice A2 n2 c2) := HP2.out.cell 0
      have k21 : w6.cell? ⟨w2.heap.size, 1, none⟩ = some (.bool b2) := HP2.out.cell 1
      have k40 : w6.cell? ⟨w4.heap.size, 0, none⟩ = some (.slice A4 n4 c4) := HP4.out.cell 0
      have k41 : w6.cell? ⟨w4.heap.size, 1, none⟩ = some (.bool b2) := HP4.out.cell 1
      have q0 : w6.cell? ⟨w.heap.size, 0, none⟩ = some (.slice A n c) := HQ.out.cell 0
      have q1 : w6.cell? ⟨w.heap.size, 1, none⟩ = some (.bool b) := HQ.out.cell 1
      have hbn : (b2 != b2) = false := bne_self_eq_false b2
      go_wp2_with fail
      refine (sameTexts_any A2 A4 n2 c2 n4 c4 _ _ _ _ w6 HS2.out HS4.out).mono ?_
      rw [decide_eq_true (rfl : prsP s = prsP s)]
      rintro e w7 ⟨rfl, q, hw7⟩
      have hb : Below w6.heap.size w6 w7 := by rw [hw7]; exact below_drewN (Below.refl _ _) q
      replace HE := hid (HE.out.on hb)
      replace HS := hid (Sv.on HS.out hb)
      replace HQ := hid (HQ.out.below hb HQ.out.lt)
      replace HW := hid (HW.out.trans (hb.mono HW.out.size))
      replace HS2 := hid (Sv.on HS2.out hb)
      replace HP2 := hid (HP2.out.below hb HP2.out.lt)
      replace HS4 := hid (Sv.on HS4.out hb)
      replace HP4 := hid (HP4.out.below hb HP4.out.lt)
      clear hb k20 k21 k40 k41 q0 q1
      have k21 : w7.cell? ⟨w2.heap.size, 1, none⟩ = some (.bool b2) := HP2.out.cell 1
      have k41 : w7.cell? ⟨w4.heap.size, 1, none⟩ = some (.bool b2) := HP4.out.cell 1
      have q0 : w7.cell? ⟨w.heap.size, 0, none⟩ = some (.slice A n c) := HQ.out.cell 0
      have q1 : w7.cell? ⟨w.heap.size, 1, none⟩ = some (.bool b) := HQ.out.cell 1
      clear hw7
      obtain ⟨w8, hw8⟩ : ∃ w8, w7.alloc (.cells #[.slice A n c, .bool b] 30) = w8 := ⟨_, rfl⟩
      have hba : Below w7.heap.size w7 w8 := by rw [← hw8]; exact (Below.refl _ _).alloc (Nat.le_refl _) _
      have HP8 := hid (show Blk w8 w7.heap.size 30 #[.slice A n c, .bool b] by rw [← hw8]; exact Blk.new _ _ _)
      have q08 : (w7.alloc (.cells #[.slice A n c, .bool b] 30)).cell? ⟨w.heap.size, 0, none⟩ = some (.slice A n c) := by rw [hw8]; exact (hba.cell HQ.out.lt).trans q0
      have q18 : (w7.alloc (.cells #[.slice A n c, .bool b] 30)).cell? ⟨w.heap.size, 1, none⟩ = some (.bool b) := by rw [hw8]; exact (hba.cell HQ.out.lt).trans q1
      replace HE := hid (HE.out.on hba)
      replace HS := hid (Sv.on HS.out hba)
      replace HQ := hid (HQ.out.below hba HQ.out.lt)
      replace HW := hid (HW.out.trans (hba.mono HW.out.size))
      replace HS2 := hid (Sv.on HS2.out hba)
      replace HP2 := hid (HP2.out.below hba HP2.out.lt)
      replace HS4 := hid (Sv.on HS4.out hba)
      replace HP4 := hid (HP4.out.below hba HP4.out.lt)
      replace hw8 := hid hw8
      clear hba
      go_wp2_with fail
      rw [hw8.out]
      clear hw8 q0 q1 q08 q18
      refine (split2_any S A n c _ l b w8 HE.out HS.out (Nat.le_refl _) (by omega)).mono ?_
      rintro e w9 ⟨A9, n9, c9, ve9, rfl, hev, hst, hb⟩
      have HS9 := hid hst
      have HEV9 := hid hev
      replace HE := hid (HE.out.on hb)
      replace HS := hid (Sv.on HS.out hb)
      replace HQ := hid (HQ.out.below hb HQ.out.lt)
      replace HW := hid (HW.out.trans (hb.mono HW.out.size))
      replace HS2 := hid (Sv.on HS2.out hb)
      replace HP2 := hid (HP2.out.below hb HP2.out.lt)
      replace HS4 := hid (Sv.on HS4.out hb)
      replace HP4 := hid (HP4.out.below hb HP4.out.lt)
      replace HP8 := hid (HP8.out.below hb HP8.out.lt)
      clear hst hb hev
      obtain ⟨w10, hw10⟩ : ∃ w10, w9.alloc (.cells #[.slice A9 n9 c9, .bool false] 24) = w10 := ⟨_, rfl⟩
      have hba : Below w9.heap.size w9 w10 := by rw [← hw10]; exact (Below.refl _ _).alloc (Nat.le_refl _) _
      have HP9 := hid (show Blk w10 w9.heap.size 24 #[.slice A9 n9 c9, .bool false] by rw [← hw10]; exact Blk.new _ _ _)
      replace HE := hid (HE.out.on hba)
      replace HS := hid (Sv.on HS.out hba)
      replace HQ := hid (HQ.out.below hba HQ.out.lt)
      replace HW := hid (HW.out.trans (hba.mono HW.out.size))
      replace HS2 := hid (Sv.on HS2.out hba)
      replace HP2 := hid (HP2.out.below hba HP2.out.lt)
      replace HS4 := hid (Sv.on HS4.out hba)
      replace HP4 := hid (HP4.out.below hba HP4.out.lt)
      replace HP8 := hid (HP8.out.below hba HP8.out.lt)
      replace HS9 := hid (Sv.on HS9.out hba)
      replace hw10 := hid hw10
      clear hba
      have y0 : (w9.alloc (.cells #[.slice A9 n9 c9, .bool false] 24)).cell? ⟨w7.heap.size, 0, none⟩ = some (.slice A n c) := by rw [hw10.out]; exact HP8.out.cell 0
      have y1 : (w9.alloc (.cells #[.slice A9 n9 c9, .bool false] 24)).cell? ⟨w7.heap.size, 1, none⟩ = some (.bool b) := by rw [hw10.out]; exact HP8.out.cell 1
      go_wp2_with fail
      rw [hw10.out]
      clear hw10 y0 y1
      refine (refSplit2_any A n c _ l b w10 HS.out (Nat.le_refl _) (by omega)).mono ?_
      rintro e w11 ⟨A11, n11, c11, rfl, hst, hb⟩
      have HS11 := hid hst
      replace HE := hid (HE.out.on hb)
      replace HS := hid (Sv.on HS.out hb)
      replace HQ := hid (HQ.out.below hb HQ.out.lt)
      replace HW := hid (HW.out.trans (hb.mono HW.out.size))
      replace HS2 := hid (Sv.on HS2.out hb)
      replace HP2 := hid (HP2.out.below hb HP2.out.lt)
      replace HS4 := hid (Sv.on HS4.out hb)
      replace HP4 := hid (HP4.out.below hb HP4.out.lt)
      replace HP8 := hid (HP8.out.below hb HP8.out.lt)
      replace HS9 := hid (Sv.on HS9.out hb)
      replace HP9 := hid (HP9.out.below hb HP9.out.lt)
      clear hst hb
      obtain ⟨w12, hw12⟩ : ∃ w12, w11.alloc (.cells #[.slice A11 n11 c11, .bool false] 30) = w12 := ⟨_, rfl⟩
      have hba : Below w11.heap.size w11 w12 := by rw [← hw12]; exact (Below.refl _ _).alloc (Nat.le_refl _) _
      have HP11 := hid (show Blk w12 w11.heap.size 30 #[.slice A11 n11 c11, .bool false] by rw [← hw12]; exact Blk.new _ _ _)
      replace HE := hid (HE.out.on hba)
      replace HS := hid (Sv.on HS.out hba)
      replace HQ := hid (HQ.out.below hba HQ.out.lt)
      replace HW := hid (HW.out.trans (hba.mono HW.out.size))
      replace HS2 := hid (Sv.on HS2.out hba)
      replace HP2 := hid (HP2.out.below hba HP2.out.lt)
      replace HS4 := hid (Sv.on HS4.out hba)
      replace HP4 := hid (HP4.out.below hba HP4.out.lt)
      replace HP8 := hid (HP8.out.below hba HP8.out.lt)
      replace HS9 := hid (Sv.on HS9.out hba)
      replace HP9 := hid (HP9.out.below hba HP9.out.lt)
      replace HS11 := hid (Sv.on HS11.out hba)
      replace hw12 := hid hw12
      clear hba
      have z00 : w12.cell? ⟨w.heap.size, 0, none⟩ = some (.slice A n c) := HQ.out.cell 0
      have z01 : w12.cell? ⟨w.heap.size, 1, none⟩ = some (.bool b) := HQ.out.cell 1
      have z10 : w12.cell? ⟨w7.heap.size, 0, none⟩ = some (.slice A n c) := HP8.out.cell 0
      have z11 : w12.cell? ⟨w7.heap.size, 1, none⟩ = some (.bool b) := HP8.out.cell 1
      have z20 : w12.cell? ⟨w9.heap.size, 0, none⟩ = some (.slice A9 n9 c9) := HP9.out.cell 0
      have z21 : w12.cell? ⟨w9.heap.size, 1, none⟩ = some (.bool false) := HP9.out.cell 1
      have z30 : w12.cell? ⟨w11.heap.size, 0, none⟩ = some (.slice A11 n11 c11) := HP11.out.cell 0
      have z31 : w12.cell? ⟨w11.heap.size, 1, none⟩ = some (.bool false) := HP11.out.cell 1
      have HC := hid (show ∀ w', Below w12.heap.size w12 w' → (w'.cell? ⟨w.heap.size, 0, none⟩ = some (.slice A n c) ∧ w'.cell? ⟨w.heap.size, 1, none⟩ = some (.bool b) ∧ w'.cell? ⟨w7.heap.size, 0, none⟩ = some (.slice A n c) ∧ w'.cell? ⟨w7.heap.size, 1, none⟩ = some (.bool b) ∧ w'.cell? ⟨w9.heap.size, 0, none⟩ = some (.slice A9 n9 c9) ∧ w'.cell? ⟨w9.heap.size, 1, none⟩ = some (.bool false) ∧ w'.cell? ⟨w11.heap.size, 0, none⟩ = some (.slice A11 n11 c11) ∧ w'.cell? ⟨w11.heap.size, 1, none⟩ = some (.bool false)) from fun w' hb => ⟨(HQ.out.below hb HQ.out.lt).cell 0, (HQ.out.below hb HQ.out.lt).cell 1, (HP8.out.below hb HP8.out.lt).cell 0, (HP8.out.below hb HP8.out.lt).cell 1, (HP9.out.below hb HP9.out.lt).cell 0, (HP9.out.below hb HP9.out.lt).cell 1, (HP11.out.below hb HP11.out.lt).cell 0, (HP11.out.below hb HP11.out.lt).cell 1⟩)
      have HSd := hid (show St w12.drew w12.heap.size A n c l from Sv.keep HS.out (fun _ _ => rfl))
      have kd := HC.out w12.drew ⟨rfl, rfl, rfl, Nat.le_refl _, fun _ _ => rfl⟩
      obtain ⟨pe, hpe⟩ : ∃ pe, splE l = pe := ⟨_, rfl⟩
      obtain ⟨ps, hps⟩ : ∃ ps, splC l = ps := ⟨_, rfl⟩
      obtain ⟨pt, hpt⟩ : ∃ pt, txt l b = pt := ⟨_, rfl⟩
      rw [hps] at HEV9
      rw [hpe, hps]
      have HPT := hid hpt
      clear hpe hps hpt
      go_wp2_with fail
      rw [hw12.out]
      clear hw12
      go_region_held3 (fun w' => w'.cell? ⟨w.heap.size, 0, none⟩ = some (.slice A n c) ∧ w'.cell? ⟨w.heap.size, 1, none⟩ = some (.bool b) ∧ w'.cell? ⟨w7.heap.size, 0, none⟩ = some (.slice A n c) ∧ w'.cell? ⟨w7.heap.size, 1, none⟩ = some (.bool b) ∧ w'.cell? ⟨w9.heap.size, 0, none⟩ = some (.slice A9 n9 c9) ∧ w'.cell? ⟨w9.heap.size, 1, none⟩ = some (.bool false) ∧ w'.cell? ⟨w11.heap.size, 0, none⟩ = some (.slice A11 n11 c11) ∧ w'.cell? ⟨w11.heap.size, 1, none⟩ = some (.bool false)) (first | exact kd | exact ka | exact kb | exact kc | exact ke) (first | (go_at_call 14; refine (text_any A n c w12.heap.size l b w12.drew HSd.out (Nat.le_refl _) (by omega) HLN.out).mono ?_; rw [HPT.out]; rintro e wa ⟨rfl, hb⟩; have HBa := hid (show Below w12.heap.size w12 wa from ⟨hb.os, hb.tape, hb.output, hb.size, hb.block⟩); have ka := HC.out wa HBa.out; clear hb) | (go_at_call 15; refine (refText_any A n c w12.heap.size l b wa (Sv.below HS.out HBa.out) HBa.out.size (by omega) HLN.out).mono ?_; rw [HPT.out]; rintro e wb ⟨rfl, hb⟩; have HBb := hid (HBa.out.trans (hb.mono HBa.out.size)); have kb := HC.out wb HBb.out; clear hb) | (go_at_call 10; refine (is_any S _ _ ve9 wb (HE.out.on HBb.out) HEV9.out).mono ?_; rw [beq_self_eq_true]; rintro e wc ⟨rfl, hb⟩; have HBc := hid (HBb.out.trans (hb.mono HBb.out.size)); have kc := HC.out wc HBc.out; clear hb) | (go_at_call 11; refine (sameTexts_any A9 A11 n9 c9 n11 c11 _ _ _ _ wc (Sv.below HS9.out HBc.out) (Sv.below HS11.out HBc.out)).mono ?_; rw [decide_eq_true (rfl : splH l = splH l)]; rintro e we ⟨rfl, q2, hw⟩; have HBe := hid (show Below w12.heap.size w12 we from (by rw [hw]; exact below_drewN HBc.out q2)); have ke := HC.out we HBe.out; clear hw))
      all_goals
        clear kd ka kb kc ke
        go_wp2
        go_ret
        exact ⟨rfl, HW.out.trans (HBe.out.mono HW.out.size)⟩
end Go.Proofs.YtjoajjndopfbmaaDoor
