/- PathBack, walked. -/
import Derived.Test.YtjoajjndopfbmaaDoorGPaJ
import Derived.Test.YtjoajjndopfbmaaDoorGPaL
namespace Go.Proofs.YtjoajjndopfbmaaDoor
open Go.RowKit Go.Shelf Go.Lib

def qs6 (l : List Int) : List Nam := l.map fun x => part6 (x % 6)
theorem qs6_next {l : List Int} {k : Nat} {x : Int} (h : l[k]? = some x) : qs6 (l.take (k + 1)) = qs6 (l.take k) ++ [part6 (x % 6)] := by
  unfold qs6
  rw [List.take_add_one, h]
  simp
theorem qs6_len (l : List Int) : (qs6 l).length = l.length := by simp [qs6]
theorem part6_ok (k : Int) : goodP (part6 k) = true ∧ (part6 k).length ≤ 3 := by
  unfold part6
  repeat (first | (split) | decide)
theorem qs6_good (l : List Int) : ∀ x ∈ qs6 l, goodP x = true ∧ x.length ≤ 3 := by
  intro x hx
  unfold qs6 at hx
  obtain ⟨y, _, rfl⟩ := List.mem_map.1 hx
  exact part6_ok _
set_option maxRecDepth 100000 in
set_option maxHeartbeats 16000000 in
theorem pathBack_any (S : Nat → Addr) (A A' : Option Addr) (n c n' c' : Nat) (b : Bool) (l l' : List Int) (w : World) (hS : SentL [8, 13, 14] w S) (h : Sn w w.heap.size A n c l) (h' : Sn w w.heap.size A' n' c' l') :
    Calls Tryd.prog 4 #[.slice A n c, .slice A' n' c', .bool b] w fun e w' => e = .returned (.bool true) ∧ Below w.heap.size w w' := by
  have hmx : n ≤ 9223372036854775807 := by have := h.cap; have := h.max; unfold maxLen at this; omega
  have hmx' : n' ≤ 9223372036854775807 := by have := h'.cap; have := h'.max; unfold maxLen at this; omega
  have HE := hid hS
  have hS0 := hid hS
  have HL := hid h
  have HY := hid h'
  have HN := hid h.len
  clear h h' hS
  go_enter Tryd.func4, Tryd.ntmps4
  go_wp2_with fail
  refine (first12_any S _ HE.out).mono ?_
  rintro e w1 ⟨rfl, hb⟩
  replace HE := hid (HE.out.on hb)
  have HW := hid hb
  clear hb
  by_cases h8 : 8 < n
  · go_wp2
    go_ret
    exact ⟨rfl, HW.out⟩
  have hn8 : n ≤ 8 := by omega
  clear h8 hmx
  go_wp2
  obtain ⟨g, hg⟩ : ∃ g, w1.heap.size = g := ⟨_, rfl⟩
  have HG := hid (show w.heap.size ≤ g by rw [← hg]; exact HW.out.size)
  have Hg := hid hg
  rw [hg]
  clear hg
  go_loopw [9, 10] (fun s9 s10 wr => ∃ (i : Nat) (s : Nam), i ≤ n ∧ s9 = encStr s ∧ s10 = .int .i64 (i : Int) ∧ Hid (SB s (qs6 (l.take i))) ∧ (∃ v, Hid (Ot wr (g + 1) v (qs6 (l.take i))) ∧ Hid (Blk wr g 24 #[v, .bool false])) ∧ Hid (Below w.heap.size w wr) ∧ Hid (g + 1 ≤ wr.heap.size)) (fun _ i _ => n - (RowKit.intOf i).toNat)
  case atStart =>
    refine ⟨0, [], Nat.zero_le _, rfl, rfl, hid SB.start, ⟨.slice none 0 0, hid (OwnV.nil _ _ _), hid ?_⟩, hid ?_, hid ?_⟩
    · rw [← Hg.out]; exact Blk.new w1 24 #[.slice none 0 0, .bool false]
    · exact HW.out.alloc HW.out.size _
    · rw [← Hg.out]; simp [World.size_alloc]
  case round =>
    obtain ⟨i, s, hi, rfl, rfl, HSB, ⟨v, HO, HP⟩, HWr, HZ⟩ := hrel
    have hsl : s.length ≤ 90 := by
      have h1 := HSB.out.len
      rw [qs6_len, List.length_take] at h1
      omega
    by_cases hlt : i < n
    · obtain ⟨ad, x, rfl, hbl, hx, hc⟩ := Sn.get (HL.out.below HWr.out) hlt
      have HQ := hid (qs6_next hx)
      have HBL := hid (World.block_lt_of_cell? wr _ hc)
      clear hbl hx
      have c6 : (wr.alloc (.cells #[.string ⟨#[97]⟩, .string ⟨#[98, 98]⟩, .string ⟨#[46, 46]⟩, .string ⟨#[99, 46, 100]⟩, .string ⟨#[46, 46, 46]⟩, .string ⟨#[120, 32, 121]⟩] 9)).cell? (ad.add i) = some (.int .i64 x) := (World.cell?_alloc_lt wr _ _ HBL.out).trans hc
      go_wp2_with fail
      refine (number_any x 6 _ (by decide) (by decide)).mono ?_
      rintro e w3 ⟨rfl, rfl⟩
      obtain ⟨kx, hkx⟩ : ∃ kx, x % 6 = kx := ⟨_, rfl⟩
      have hk6 : kx = 0 ∨ kx = 1 ∨ kx = 2 ∨ kx = 3 ∨ kx = 4 ∨ kx = 5 := by omega
      rw [hkx] at HQ ⊢
      have HP6 := hid (part6_ok kx)
      clear hkx hc c6
      rcases hk6 with rfl | rfl | rfl | rfl | rfl | rfl
      · go_upto_region 12 with fail
        obtain ⟨w4, hw4⟩ : ∃ w4, wr.alloc (.cells #[.string ⟨#[97]⟩, .string ⟨#[98, 98]⟩, .string ⟨#[46, 46]⟩, .string ⟨#[99, 46, 100]⟩, .string ⟨#[46, 46, 46]⟩, .string ⟨#[120, 32, 121]⟩] 9) = w4 := ⟨_, rfl⟩
        rw [hw4]
        rw [show part6 0 = [97] from rfl] at HQ HP6
        rw [show Value.string ⟨#[97]⟩ = encStr [97] from rfl]
        obtain ⟨P, hP⟩ : ∃ P : Nam, [97] = P := ⟨_, rfl⟩
        rw [hP] at HQ HP6 ⊢
        have HPP := hid HP6.out
        have hpl := HPP.out.2
        have hba : Below wr.heap.size wr w4 := by rw [← hw4]; exact (Below.refl _ _).alloc (Nat.le_refl _) _
        have HO4 := hid (OwnV.on HO.out hba)
        have HP4 := hid (HP.out.below hba HP.out.lt)
        have HW4 := hid (HWr.out.trans (hba.mono HWr.out.size))
        have HZ4 := hid (Nat.le_trans HZ.out hba.size)
        have p0 : w4.cell? ⟨g, 0, none⟩ = some v := HP4.out.cell 0
        clear hP hw4 hba
        go_wp2_with (at_builtin; refine wpList_append_tx rfl _ _ rfl (g + 1) (w4.heap.size + 1) _ (qs6 (l.take i)) [P] rfl (World.ownsRow.alloc HO4.out _) (some ⟨w4.heap.size, 0, none⟩) 1 1 rfl (st_one w4 P) ?c1 ?c2 ?_)
        case c1 => rw [qs6_len, List.length_take]; omega
        case c2 => have := HZ4.out; simp; omega
        intro v' w5 hown' hb5
        obtain ⟨A5, m5, c5, hv5⟩ : ∃ A m c, v' = .slice A m c := by
          obtain ⟨A, c, h, _⟩ := Ot.is hown'
          exact ⟨_, _, _, h⟩
        subst hv5
        have hP5 := (HP4.out.alloc (.cells #[encStr P] 9)).below hb5 (by omega)
        have q0 : w5.cell? ⟨g, 0, none⟩ = some v := hP5.cell 0
        have e0 := hP5.free 0
        have HP5 := hid hP5
        have HO5 := hid (show Ot w5 (g + 1) (.slice A5 m5 c5) (qs6 (l.take (i + 1))) by rw [HQ.out]; exact hown')
        have HW5 := hid ((HW4.out.alloc HW4.out.size (.cells #[encStr P] 9)).trans (hb5.mono (by have := HG.out; omega)))
        have HZ5 := hid (show g + 1 ≤ w5.heap.size from Nat.le_trans HZ4.out (Nat.le_trans (by simp [World.size_alloc]) hb5.size))
        clear hown' hb5 hP5
        go_upto_region 14 with fail
        obtain ⟨w6, hw6⟩ : ∃ w6, w5.setCell ⟨g, 0, none⟩ (.slice A5 m5 c5) = w6 := ⟨_, rfl⟩
        rw [hw6]
        have HO6 := hid (show Ot w6 (g + 1) (.slice A5 m5 c5) (qs6 (l.take (i + 1))) by rw [← hw6]; exact OwnV.aside HO5.out (by show g < _; omega) _)
        have HP6b := hid (show Blk w6 g 24 #[.slice A5 m5 c5, .bool false] by rw [← hw6]; exact HP5.out.put 0 (.slice A5 m5 c5))
        have HW6 := hid (show Below w.heap.size w w6 by rw [← hw6]; exact HW5.out.setCell (by show w.heap.size ≤ g; exact HG.out) _)
        have HZ6 := hid (show g + 1 ≤ w6.heap.size by rw [← hw6]; simpa using HZ5.out)
        clear hw6 q0 e0 p0 HO5 HP5 HW5 HZ5 HO4 HP4 HW4 HZ4
        by_cases hin : i < n'
        · obtain ⟨ad2, y, rfl, hbl2, hy, hc2⟩ := Sn.get (HY.out.below HW6.out) hin
          have HBL2 := hid (World.block_lt_of_cell? w6 _ hc2)
          have c62 : (w6.alloc (.cells #[.string ⟨#[]⟩, .string ⟨#[47]⟩, .string ⟨#[46, 47]⟩, .string ⟨#[47, 46, 47, 46, 47, 47]⟩] 9)).cell? (ad2.add i) = some (.int .i64 y) := (World.cell?_alloc_lt w6 _ _ HBL2.out).trans hc2
          clear hbl2 hy
          go_wp2_with fail
          refine (number_any y 4 _ (by decide) (by decide)).mono ?_
          rintro e w7 ⟨rfl, rfl⟩
          obtain ⟨ky, hky⟩ : ∃ ky, y % 4 = ky := ⟨_, rfl⟩
          have hk4 : ky = 0 ∨ ky = 1 ∨ ky = 2 ∨ ky = 3 := by omega
          rw [hky]
          clear hky hc2 c62
          have hba : Below w6.heap.size w6 (w6.alloc (.cells #[.string ⟨#[]⟩, .string ⟨#[47]⟩, .string ⟨#[46, 47]⟩, .string ⟨#[47, 46, 47, 46, 47, 47]⟩] 9)) := (Below.refl _ _).alloc (Nat.le_refl _) _
          replace HO6 := hid (OwnV.on HO6.out hba)
          replace HP6b := hid (HP6b.out.below hba HP6b.out.lt)
          replace HW6 := hid (HW6.out.trans (hba.mono HW6.out.size))
          replace HZ6 := hid (Nat.le_trans HZ6.out hba.size)
          clear hba
          rcases hk4 with rfl | rfl | rfl | rfl
          · go_wp2
            go_roundw
            case rel => exact ⟨i + 1, s ++ 47 :: ([] ++ P), by omega, congrArg Value.string (ByteArray.ext (by simp)), by go_num, hid (by rw [HQ.out]; exact HSB.out.next (.inl rfl) HPP.out.1 HPP.out.2), ⟨.slice A5 m5 c5, HO6, HP6b⟩, HW6, HZ6⟩
            case measure => simp [RowKit.intOf]; omega
          · go_wp2
            go_roundw
            case rel => exact ⟨i + 1, s ++ 47 :: ([47] ++ P), by omega, congrArg Value.string (ByteArray.ext (by simp)), by go_num, hid (by rw [HQ.out]; exact HSB.out.next (.inr (.inl rfl)) HPP.out.1 HPP.out.2), ⟨.slice A5 m5 c5, HO6, HP6b⟩, HW6, HZ6⟩
            case measure => simp [RowKit.intOf]; omega
          · go_wp2
            go_roundw
            case rel => exact ⟨i + 1, s ++ 47 :: ([46, 47] ++ P), by omega, congrArg Value.string (ByteArray.ext (by simp)), by go_num, hid (by rw [HQ.out]; exact HSB.out.next (.inr (.inr (.inl rfl))) HPP.out.1 HPP.out.2), ⟨.slice A5 m5 c5, HO6, HP6b⟩, HW6, HZ6⟩
            case measure => simp [RowKit.intOf]; omega
          · go_wp2
            go_roundw
            case rel => exact ⟨i + 1, s ++ 47 :: ([47, 46, 47, 46, 47, 47] ++ P), by omega, congrArg Value.string (ByteArray.ext (by simp)), by go_num, hid (by rw [HQ.out]; exact HSB.out.next (.inr (.inr (.inr rfl))) HPP.out.1 HPP.out.2), ⟨.slice A5 m5 c5, HO6, HP6b⟩, HW6, HZ6⟩
            case measure => simp [RowKit.intOf]; omega
        · go_wp2
          go_roundw
          case rel => exact ⟨i + 1, s ++ 47 :: ([] ++ P), by omega, congrArg Value.string (ByteArray.ext (by simp)), by go_num, hid (by rw [HQ.out]; exact HSB.out.next (.inl rfl) HPP.out.1 HPP.out.2), ⟨.slice A5 m5 c5, HO6, HP6b⟩, HW6, HZ6⟩
          case measure => simp [RowKit.intOf]; omega
      · go_upto_region 12 with fail
        obtain ⟨w4, hw4⟩ : ∃ w4, wr.alloc (.cells #[.string ⟨#[97]⟩, .string ⟨#[98, 98]⟩, .string ⟨#[46, 46]⟩, .string ⟨#[99, 46, 100]⟩, .string ⟨#[46, 46, 46]⟩, .string ⟨#[120, 32, 121]⟩] 9) = w4 := ⟨_, rfl⟩
        rw [hw4]
        rw [show part6 1 = [98, 98] from rfl] at HQ HP6
        rw [show Value.string ⟨#[98, 98]⟩ = encStr [98, 98] from rfl]
        obtain ⟨P, hP⟩ : ∃ P : Nam, [98, 98] = P := ⟨_, rfl⟩
        rw [hP] at HQ HP6 ⊢
        have HPP := hid HP6.out
        have hpl := HPP.out.2
        have hba : Below wr.heap.size wr w4 := by rw [← hw4]; exact (Below.refl _ _).alloc (Nat.le_refl _) _
        have HO4 := hid (OwnV.on HO.out hba)
        have HP4 := hid (HP.out.below hba HP.out.lt)
        have HW4 := hid (HWr.out.trans (hba.mono HWr.out.size))
        have HZ4 := hid (Nat.le_trans HZ.out hba.size)
        have p0 : w4.cell? ⟨g, 0, none⟩ = some v := HP4.out.cell 0
        clear hP hw4 hba
        go_wp2_with (at_builtin; refine wpList_append_tx rfl _ _ rfl (g + 1) (w4.heap.size + 1) _ (qs6 (l.take i)) [P] rfl (World.ownsRow.alloc HO4.out _) (some ⟨w4.heap.size, 0, none⟩) 1 1 rfl (st_one w4 P) ?c1 ?c2 ?_)
        case c1 => rw [qs6_len, List.length_take]; omega
        case c2 => have := HZ4.out; simp; omega
        intro v' w5 hown' hb5
        obtain ⟨A5, m5, c5, hv5⟩ : ∃ A m c, v' = .slice A m c := by
          obtain ⟨A, c, h, _⟩ := Ot.is hown'
          exact ⟨_, _, _, h⟩
        subst hv5
        have hP5 := (HP4.out.alloc (.cells #[encStr P] 9)).below hb5 (by omega)
        have q0 : w5.cell? ⟨g, 0, none⟩ = some v := hP5.cell 0
        have e0 := hP5.free 0
        have HP5 := hid hP5
        have HO5 := hid (show Ot w5 (g + 1) (.slice A5 m5 c5) (qs6 (l.take (i + 1))) by rw [HQ.out]; exact hown')
        have HW5 := hid ((HW4.out.alloc HW4.out.size (.cells #[encStr P] 9)).trans (hb5.mono (by have := HG.out; omega)))
        have HZ5 := hid (show g + 1 ≤ w5.heap.size from Nat.le_trans HZ4.out (Nat.le_trans (by simp [World.size_alloc]) hb5.size))
        clear hown' hb5 hP5
        go_upto_region 14 with fail
        obtain ⟨w6, hw6⟩ : ∃ w6, w5.setCell ⟨g, 0, none⟩ (.slice A5 m5 c5) = w6 := ⟨_, rfl⟩
        rw [hw6]
        have HO6 := hid (show Ot w6 (g + 1) (.slice A5 m5 c5) (qs6 (l.take (i + 1))) by rw [← hw6]; exact OwnV.aside HO5.out (by show g < _; omega) _)
        have HP6b := hid (show Blk w6 g 24 #[.slice A5 m5 c5, .bool false] by rw [← hw6]; exact HP5.out.put 0 (.slice A5 m5 c5))
        have HW6 := hid (show Below w.heap.size w w6 by rw [← hw6]; exact HW5.out.setCell (by show w.heap.size ≤ g; exact HG.out) _)
        have HZ6 := hid (show g + 1 ≤ w6.heap.size by rw [← hw6]; simpa using HZ5.out)
        clear hw6 q0 e0 p0 HO5 HP5 HW5 HZ5 HO4 HP4 HW4 HZ4
        by_cases hin : i < n'
        · obtain ⟨ad2, y, rfl, hbl2, hy, hc2⟩ := Sn.get (HY.out.below HW6.out) hin
          have HBL2 := hid (World.block_lt_of_cell? w6 _ hc2)
          have c62 : (w6.alloc (.cells #[.string ⟨#[]⟩, .string ⟨#[47]⟩, .string ⟨#[46, 47]⟩, .string ⟨#[47, 46, 47, 46, 47, 47]⟩] 9)).cell? (ad2.add i) = some (.int .i64 y) := (World.cell?_alloc_lt w6 _ _ HBL2.out).trans hc2
          clear hbl2 hy
          go_wp2_with fail
          refine (number_any y 4 _ (by decide) (by decide)).mono ?_
          rintro e w7 ⟨rfl, rfl⟩
          obtain ⟨ky, hky⟩ : ∃ ky, y % 4 = ky := ⟨_, rfl⟩
          have hk4 : ky = 0 ∨ ky = 1 ∨ ky = 2 ∨ ky = 3 := by omega
          rw [hky]
          clear hky hc2 c62
          have hba : Below w6.heap.size w6 (w6.alloc (.cells #[.string ⟨#[]⟩, .string ⟨#[47]⟩, .string ⟨#[46, 47]⟩, .string ⟨#[47, 46, 47, 46, 47, 47]⟩] 9)) := (Below.refl _ _).alloc (Nat.le_refl _) _
          replace HO6 := hid (OwnV.on HO6.out hba)
          replace HP6b := hid (HP6b.out.below hba HP6b.out.lt)
          replace HW6 := hid (HW6.out.trans (hba.mono HW6.out.size))
          replace HZ6 := hid (Nat.le_trans HZ6.out hba.size)
          clear hba
          rcases hk4 with rfl | rfl | rfl | rfl
          · go_wp2
            go_roundw
            case rel => exact ⟨i + 1, s ++ 47 :: ([] ++ P), by omega, congrArg Value.string (ByteArray.ext (by simp)), by go_num, hid (by rw [HQ.out]; exact HSB.out.next (.inl rfl) HPP.out.1 HPP.out.2), ⟨.slice A5 m5 c5, HO6, HP6b⟩, HW6, HZ6⟩
            case measure => simp [RowKit.intOf]; omega
          · go_wp2
            go_roundw
            case rel => exact ⟨i + 1, s ++ 47 :: ([47] ++ P), by omega, congrArg Value.string (ByteArray.ext (by simp)), by go_num, hid (by rw [HQ.out]; exact HSB.out.next (.inr (.inl rfl)) HPP.out.1 HPP.out.2), ⟨.slice A5 m5 c5, HO6, HP6b⟩, HW6, HZ6⟩
            case measure => simp [RowKit.intOf]; omega
          · go_wp2
            go_roundw
            case rel => exact ⟨i + 1, s ++ 47 :: ([46, 47] ++ P), by omega, congrArg Value.string (ByteArray.ext (by simp)), by go_num, hid (by rw [HQ.out]; exact HSB.out.next (.inr (.inr (.inl rfl))) HPP.out.1 HPP.out.2), ⟨.slice A5 m5 c5, HO6, HP6b⟩, HW6, HZ6⟩
            case measure => simp [RowKit.intOf]; omega
          · go_wp2
            go_roundw
            case rel => exact ⟨i + 1, s ++ 47 :: ([47, 46, 47, 46, 47, 47] ++ P), by omega, congrArg Value.string (ByteArray.ext (by simp)), by go_num, hid (by rw [HQ.out]; exact HSB.out.next (.inr (.inr (.inr rfl))) HPP.out.1 HPP.out.2), ⟨.slice A5 m5 c5, HO6, HP6b⟩, HW6, HZ6⟩
            case measure => simp [RowKit.intOf]; omega
        · go_wp2
          go_roundw
          case rel => exact ⟨i + 1, s ++ 47 :: ([] ++ P), by omega, congrArg Value.string (ByteArray.ext (by simp)), by go_num, hid (by rw [HQ.out]; exact HSB.out.next (.inl rfl) HPP.out.1 HPP.out.2), ⟨.slice A5 m5 c5, HO6, HP6b⟩, HW6, HZ6⟩
          case measure => simp [RowKit.intOf]; omega
      · go_upto_region 12 with fail
        obtain ⟨w4, hw4⟩ : ∃ w4, wr.alloc (.cells #[.string ⟨#[97]⟩, .string ⟨#[98, 98]⟩, .string ⟨#[46, 46]⟩, .string ⟨#[99, 46, 100]⟩, .string ⟨#[46, 46, 46]⟩, .string ⟨#[120, 32, 121]⟩] 9) = w4 := ⟨_, rfl⟩
        rw [hw4]
        rw [show part6 2 = [46, 46] from rfl] at HQ HP6
        rw [show Value.string ⟨#[46, 46]⟩ = encStr [46, 46] from rfl]
        obtain ⟨P, hP⟩ : ∃ P : Nam, [46, 46] = P := ⟨_, rfl⟩
        rw [hP] at HQ HP6 ⊢
        have HPP := hid HP6.out
        have hpl := HPP.out.2
        have hba : Below wr.heap.size wr w4 := by rw [← hw4]; exact (Below.refl _ _).alloc (Nat.le_refl _) _
        have HO4 := hid (OwnV.on HO.out hba)
        have HP4 := hid (HP.out.below hba HP.out.lt)
        have HW4 := hid (HWr.out.trans (hba.mono HWr.out.size))
        have HZ4 := hid (Nat.le_trans HZ.out hba.size)
        have p0 : w4.cell? ⟨g, 0, none⟩ = some v := HP4.out.cell 0
        clear hP hw4 hba
        go_wp2_with (at_builtin; refine wpList_append_tx rfl _ _ rfl (g + 1) (w4.heap.size + 1) _ (qs6 (l.take i)) [P] rfl (World.ownsRow.alloc HO4.out _) (some ⟨w4.heap.size, 0, none⟩) 1 1 rfl (st_one w4 P) ?c1 ?c2 ?_)
        case c1 => rw [qs6_len, List.length_take]; omega
        case c2 => have := HZ4.out; simp; omega
        intro v' w5 hown' hb5
        obtain ⟨A5, m5, c5, hv5⟩ : ∃ A m c, v' = .slice A m c := by
          obtain ⟨A, c, h, _⟩ := Ot.is hown'
          exact ⟨_, _, _, h⟩
        subst hv5
        have hP5 := (HP4.out.alloc (.cells #[encStr P] 9)).below hb5 (by omega)
        have q0 : w5.cell? ⟨g, 0, none⟩ = some v := hP5.cell 0
        have e0 := hP5.free 0
        have HP5 := hid hP5
        have HO5 := hid (show Ot w5 (g + 1) (.slice A5 m5 c5) (qs6 (l.take (i + 1))) by rw [HQ.out]; exact hown')
        have HW5 := hid ((HW4.out.alloc HW4.out.size (.cells #[encStr P] 9)).trans (hb5.mono (by have := HG.out; omega)))
        have HZ5 := hid (show g + 1 ≤ w5.heap.size from Nat.le_trans HZ4.out (Nat.le_trans (by simp [World.size_alloc]) hb5.size))
        clear hown' hb5 hP5
        go_upto_region 14 with fail
        obtain ⟨w6, hw6⟩ : ∃ w6, w5.setCell ⟨g, 0, none⟩ (.slice A5 m5 c5) = w6 := ⟨_, rfl⟩
        rw [hw6]
        have HO6 := hid (show Ot w6 (g + 1) (.slice A5 m5 c5) (qs6 (l.take (i + 1))) by rw [← hw6]; exact OwnV.aside HO5.out (by show g < _; omega) _)
        have HP6b := hid (show Blk w6 g 24 #[.slice A5 m5 c5, .bool false] by rw [← hw6]; exact HP5.out.put 0 (.slice A5 m5 c5))
        have HW6 := hid (show Below w.heap.size w w6 by rw [← hw6]; exact HW5.out.setCell (by show w.heap.size ≤ g; exact HG.out) _)
        have HZ6 := hid (show g + 1 ≤ w6.heap.size by rw [← hw6]; simpa using HZ5.out)
        clear hw6 q0 e0 p0 HO5 HP5 HW5 HZ5 HO4 HP4 HW4 HZ4
        by_cases hin : i < n'
        · obtain ⟨ad2, y, rfl, hbl2, hy, hc2⟩ := Sn.get (HY.out.below HW6.out) hin
          have HBL2 := hid (World.block_lt_of_cell? w6 _ hc2)
          have c62 : (w6.alloc (.cells #[.string ⟨#[]⟩, .string ⟨#[47]⟩, .string ⟨#[46, 47]⟩, .string ⟨#[47, 46, 47, 46, 47, 47]⟩] 9)).cell? (ad2.add i) = some (.int .i64 y) := (World.cell?_alloc_lt w6 _ _ HBL2.out).trans hc2
          clear hbl2 hy
          go_wp2_with fail
          refine (number_any y 4 _ (by decide) (by decide)).mono ?_
          rintro e w7 ⟨rfl, rfl⟩
          obtain ⟨ky, hky⟩ : ∃ ky, y % 4 = ky := ⟨_, rfl⟩
          have hk4 : ky = 0 ∨ ky = 1 ∨ ky = 2 ∨ ky = 3 := by omega
          rw [hky]
          clear hky hc2 c62
          have hba : Below w6.heap.size w6 (w6.alloc (.cells #[.string ⟨#[]⟩, .string ⟨#[47]⟩, .string ⟨#[46, 47]⟩, .string ⟨#[47, 46, 47, 46, 47, 47]⟩] 9)) := (Below.refl _ _).alloc (Nat.le_refl _) _
          replace HO6 := hid (OwnV.on HO6.out hba)
          replace HP6b := hid (HP6b.out.below hba HP6b.out.lt)
          replace HW6 := hid (HW6.out.trans (hba.mono HW6.out.size))
          replace HZ6 := hid (Nat.le_trans HZ6.out hba.size)
          clear hba
          rcases hk4 with rfl | rfl | rfl | rfl
          · go_wp2
            go_roundw
            case rel => exact ⟨i + 1, s ++ 47 :: ([] ++ P), by omega, congrArg Value.string (ByteArray.ext (by simp)), by go_num, hid (by rw [HQ.out]; exact HSB.out.next (.inl rfl) HPP.out.1 HPP.out.2), ⟨.slice A5 m5 c5, HO6, HP6b⟩, HW6, HZ6⟩
            case measure => simp [RowKit.intOf]; omega
          · go_wp2
            go_roundw
            case rel => exact ⟨i + 1, s ++ 47 :: ([47] ++ P), by omega, congrArg Value.string (ByteArray.ext (by simp)), by go_num, hid (by rw [HQ.out]; exact HSB.out.next (.inr (.inl rfl)) HPP.out.1 HPP.out.2), ⟨.slice A5 m5 c5, HO6, HP6b⟩, HW6, HZ6⟩
            case measure => simp [RowKit.intOf]; omega
          · go_wp2
            go_roundw
            case rel => exact ⟨i + 1, s ++ 47 :: ([46, 47] ++ P), by omega, congrArg Value.string (ByteArray.ext (by simp)), by go_num, hid (by rw [HQ.out]; exact HSB.out.next (.inr (.inr (.inl rfl))) HPP.out.1 HPP.out.2), ⟨.slice A5 m5 c5, HO6, HP6b⟩, HW6, HZ6⟩
            case measure => simp [RowKit.intOf]; omega
          · go_wp2
            go_roundw
            case rel => exact ⟨i + 1, s ++ 47 :: ([47, 46, 47, 46, 47, 47] ++ P), by omega, congrArg Value.string (ByteArray.ext (by simp)), by go_num, hid (by rw [HQ.out]; exact HSB.out.next (.inr (.inr (.inr rfl))) HPP.out.1 HPP.out.2), ⟨.slice A5 m5 c5, HO6, HP6b⟩, HW6, HZ6⟩
            case measure => simp [RowKit.intOf]; omega
        · go_wp2
          go_roundw
          case rel => exact ⟨i + 1, s ++ 47 :: ([] ++ P), by omega, congrArg Value.string (ByteArray.ext (by simp)), by go_num, hid (by rw [HQ.out]; exact HSB.out.next (.inl rfl) HPP.out.1 HPP.out.2), ⟨.slice A5 m5 c5, HO6, HP6b⟩, HW6, HZ6⟩
          case measure => simp [RowKit.intOf]; omega
      · go_upto_region 12 with fail
        obtain ⟨w4, hw4⟩ : ∃ w4, wr.alloc (.cells #[.string ⟨#[97]⟩, .string ⟨#[98, 98]⟩, .string ⟨#[46, 46]⟩, .string ⟨#[99, 46, 100]⟩, .string ⟨#[46, 46, 46]⟩, .string ⟨#[120, 32, 121]⟩] 9) = w4 := ⟨_, rfl⟩
        rw [hw4]
        rw [show part6 3 = [99, 46, 100] from rfl] at HQ HP6
        rw [show Value.string ⟨#[99, 46, 100]⟩ = encStr [99, 46, 100] from rfl]
        obtain ⟨P, hP⟩ : ∃ P : Nam, [99, 46, 100] = P := ⟨_, rfl⟩
        rw [hP] at HQ HP6 ⊢
        have HPP := hid HP6.out
        have hpl := HPP.out.2
        have hba : Below wr.heap.size wr w4 := by rw [← hw4]; exact (Below.refl _ _).alloc (Nat.le_refl _) _
        have HO4 := hid (OwnV.on HO.out hba)
        have HP4 := hid (HP.out.below hba HP.out.lt)
        have HW4 := hid (HWr.out.trans (hba.mono HWr.out.size))
        have HZ4 := hid (Nat.le_trans HZ.out hba.size)
        have p0 : w4.cell? ⟨g, 0, none⟩ = some v := HP4.out.cell 0
        clear hP hw4 hba
        go_wp2_with (at_builtin; refine wpList_append_tx rfl _ _ rfl (g + 1) (w4.heap.size + 1) _ (qs6 (l.take i)) [P] rfl (World.ownsRow.alloc HO4.out _) (some ⟨w4.heap.size, 0, none⟩) 1 1 rfl (st_one w4 P) ?c1 ?c2 ?_)
        case c1 => rw [qs6_len, List.length_take]; omega
        case c2 => have := HZ4.out; simp; omega
        intro v' w5 hown' hb5
        obtain ⟨A5, m5, c5, hv5⟩ : ∃ A m c, v' = .slice A m c := by
          obtain ⟨A, c, h, _⟩ := Ot.is hown'
          exact ⟨_, _, _, h⟩
        subst hv5
        have hP5 := (HP4.out.alloc (.cells #[encStr P] 9)).below hb5 (by omega)
        have q0 : w5.cell? ⟨g, 0, none⟩ = some v := hP5.cell 0
        have e0 := hP5.free 0
        have HP5 := hid hP5
        have HO5 := hid (show Ot w5 (g + 1) (.slice A5 m5 c5) (qs6 (l.take (i + 1))) by rw [HQ.out]; exact hown')
        have HW5 := hid ((HW4.out.alloc HW4.out.size (.cells #[encStr P] 9)).trans (hb5.mono (by have := HG.out; omega)))
        have HZ5 := hid (show g + 1 ≤ w5.heap.size from Nat.le_trans HZ4.out (Nat.le_trans (by simp [World.size_alloc]) hb5.size))
        clear hown' hb5 hP5
        go_upto_region 14 with fail
        obtain ⟨w6, hw6⟩ : ∃ w6, w5.setCell ⟨g, 0, none⟩ (.slice A5 m5 c5) = w6 := ⟨_, rfl⟩
        rw [hw6]
        have HO6 := hid (show Ot w6 (g + 1) (.slice A5 m5 c5) (qs6 (l.take (i + 1))) by rw [← hw6]; exact OwnV.aside HO5.out (by show g < _; omega) _)
        have HP6b := hid (show Blk w6 g 24 #[.slice A5 m5 c5, .bool false] by rw [← hw6]; exact HP5.out.put 0 (.slice A5 m5 c5))
        have HW6 := hid (show Below w.heap.size w w6 by rw [← hw6]; exact HW5.out.setCell (by show w.heap.size ≤ g; exact HG.out) _)
        have HZ6 := hid (show g + 1 ≤ w6.heap.size by rw [← hw6]; simpa using HZ5.out)
        clear hw6 q0 e0 p0 HO5 HP5 HW5 HZ5 HO4 HP4 HW4 HZ4
        by_cases hin : i < n'
        · obtain ⟨ad2, y, rfl, hbl2, hy, hc2⟩ := Sn.get (HY.out.below HW6.out) hin
          have HBL2 := hid (World.block_lt_of_cell? w6 _ hc2)
          have c62 : (w6.alloc (.cells #[.string ⟨#[]⟩, .string ⟨#[47]⟩, .string ⟨#[46, 47]⟩, .string ⟨#[47, 46, 47, 46, 47, 47]⟩] 9)).cell? (ad2.add i) = some (.int .i64 y) := (World.cell?_alloc_lt w6 _ _ HBL2.out).trans hc2
          clear hbl2 hy
          go_wp2_with fail
          refine (number_any y 4 _ (by decide) (by decide)).mono ?_
          rintro e w7 ⟨rfl, rfl⟩
          obtain ⟨ky, hky⟩ : ∃ ky, y % 4 = ky := ⟨_, rfl⟩
          have hk4 : ky = 0 ∨ ky = 1 ∨ ky = 2 ∨ ky = 3 := by omega
          rw [hky]
          clear hky hc2 c62
          have hba : Below w6.heap.size w6 (w6.alloc (.cells #[.string ⟨#[]⟩, .string ⟨#[47]⟩, .string ⟨#[46, 47]⟩, .string ⟨#[47, 46, 47, 46, 47, 47]⟩] 9)) := (Below.refl _ _).alloc (Nat.le_refl _) _
          replace HO6 := hid (OwnV.on HO6.out hba)
          replace HP6b := hid (HP6b.out.below hba HP6b.out.lt)
          replace HW6 := hid (HW6.out.trans (hba.mono HW6.out.size))
          replace HZ6 := hid (Nat.le_trans HZ6.out hba.size)
          clear hba
          rcases hk4 with rfl | rfl | rfl | rfl
          · go_wp2
            go_roundw
            case rel => exact ⟨i + 1, s ++ 47 :: ([] ++ P), by omega, congrArg Value.string (ByteArray.ext (by simp)), by go_num, hid (by rw [HQ.out]; exact HSB.out.next (.inl rfl) HPP.out.1 HPP.out.2), ⟨.slice A5 m5 c5, HO6, HP6b⟩, HW6, HZ6⟩
            case measure => simp [RowKit.intOf]; omega
          · go_wp2
            go_roundw
            case rel => exact ⟨i + 1, s ++ 47 :: ([47] ++ P), by omega, congrArg Value.string (ByteArray.ext (by simp)), by go_num, hid (by rw [HQ.out]; exact HSB.out.next (.inr (.inl rfl)) HPP.out.1 HPP.out.2), ⟨.slice A5 m5 c5, HO6, HP6b⟩, HW6, HZ6⟩
            case measure => simp [RowKit.intOf]; omega
          · go_wp2
            go_roundw
            case rel => exact ⟨i + 1, s ++ 47 :: ([46, 47] ++ P), by omega, congrArg Value.string (ByteArray.ext (by simp)), by go_num, hid (by rw [HQ.out]; exact HSB.out.next (.inr (.inr (.inl rfl))) HPP.out.1 HPP.out.2), ⟨.slice A5 m5 c5, HO6, HP6b⟩, HW6, HZ6⟩
            case measure => simp [RowKit.intOf]; omega
          · go_wp2
            go_roundw
            case rel => exact ⟨i + 1, s ++ 47 :: ([47, 46, 47, 46, 47, 47] ++ P), by omega, congrArg Value.string (ByteArray.ext (by simp)), by go_num, hid (by rw [HQ.out]; exact HSB.out.next (.inr (.inr (.inr rfl))) HPP.out.1 HPP.out.2), ⟨.slice A5 m5 c5, HO6, HP6b⟩, HW6, HZ6⟩
            case measure => simp [RowKit.intOf]; omega
        · go_wp2
          go_roundw
          case rel => exact ⟨i + 1, s ++ 47 :: ([] ++ P), by omega, congrArg Value.string (ByteArray.ext (by simp)), by go_num, hid (by rw [HQ.out]; exact HSB.out.next (.inl rfl) HPP.out.1 HPP.out.2), ⟨.slice A5 m5 c5, HO6, HP6b⟩, HW6, HZ6⟩
          case measure => simp [RowKit.intOf]; omega
      · go_upto_region 12 with fail
        obtain ⟨w4, hw4⟩ : ∃ w4, wr.alloc (.cells #[.string ⟨#[97]⟩, .string ⟨#[98, 98]⟩, .string ⟨#[46, 46]⟩, .string ⟨#[99, 46, 100]⟩, .string ⟨#[46, 46, 46]⟩, .string ⟨#[120, 32, 121]⟩] 9) = w4 := ⟨_, rfl⟩
        rw [hw4]
        rw [show part6 4 = [46, 46, 46] from rfl] at HQ HP6
        rw [show Value.string ⟨#[46, 46, 46]⟩ = encStr [46, 46, 46] from rfl]
        obtain ⟨P, hP⟩ : ∃ P : Nam, [46, 46, 46] = P := ⟨_, rfl⟩
        rw [hP] at HQ HP6 ⊢
        have HPP := hid HP6.out
        have hpl := HPP.out.2
        have hba : Below wr.heap.size wr w4 := by rw [← hw4]; exact (Below.refl _ _).alloc (Nat.le_refl _) _
        have HO4 := hid (OwnV.on HO.out hba)
        have HP4 := hid (HP.out.below hba HP.out.lt)
        have HW4 := hid (HWr.out.trans (hba.mono HWr.out.size))
        have HZ4 := hid (Nat.le_trans HZ.out hba.size)
        have p0 : w4.cell? ⟨g, 0, none⟩ = some v := HP4.out.cell 0
        clear hP hw4 hba
        go_wp2_with (at_builtin; refine wpList_append_tx rfl _ _ rfl (g + 1) (w4.heap.size + 1) _ (qs6 (l.take i)) [P] rfl (World.ownsRow.alloc HO4.out _) (some ⟨w4.heap.size, 0, none⟩) 1 1 rfl (st_one w4 P) ?c1 ?c2 ?_)
        case c1 => rw [qs6_len, List.length_take]; omega
        case c2 => have := HZ4.out; simp; omega
        intro v' w5 hown' hb5
        obtain ⟨A5, m5, c5, hv5⟩ : ∃ A m c, v' = .slice A m c := by
          obtain ⟨A, c, h, _⟩ := Ot.is hown'
          exact ⟨_, _, _, h⟩
        subst hv5
        have hP5 := (HP4.out.alloc (.cells #[encStr P] 9)).below hb5 (by omega)
        have q0 : w5.cell? ⟨g, 0, none⟩ = some v := hP5.cell 0
        have e0 := hP5.free 0
        have HP5 := hid hP5
        have HO5 := hid (show Ot w5 (g + 1) (.slice A5 m5 c5) (qs6 (l.take (i + 1))) by rw [HQ.out]; exact hown')
        have HW5 := hid ((HW4.out.alloc HW4.out.size (.cells #[encStr P] 9)).trans (hb5.mono (by have := HG.out; omega)))
        have HZ5 := hid (show g + 1 ≤ w5.heap.size from Nat.le_trans HZ4.out (Nat.le_trans (by simp [World.size_alloc]) hb5.size))
        clear hown' hb5 hP5
        go_upto_region 14 with fail
        obtain ⟨w6, hw6⟩ : ∃ w6, w5.setCell ⟨g, 0, none⟩ (.slice A5 m5 c5) = w6 := ⟨_, rfl⟩
        rw [hw6]
        have HO6 := hid (show Ot w6 (g + 1) (.slice A5 m5 c5) (qs6 (l.take (i + 1))) by rw [← hw6]; exact OwnV.aside HO5.out (by show g < _; omega) _)
        have HP6b := hid (show Blk w6 g 24 #[.slice A5 m5 c5, .bool false] by rw [← hw6]; exact HP5.out.put 0 (.slice A5 m5 c5))
        have HW6 := hid (show Below w.heap.size w w6 by rw [← hw6]; exact HW5.out.setCell (by show w.heap.size ≤ g; exact HG.out) _)
        have HZ6 := hid (show g + 1 ≤ w6.heap.size by rw [← hw6]; simpa using HZ5.out)
        clear hw6 q0 e0 p0 HO5 HP5 HW5 HZ5 HO4 HP4 HW4 HZ4
        by_cases hin : i < n'
        · obtain ⟨ad2, y, rfl, hbl2, hy, hc2⟩ := Sn.get (HY.out.below HW6.out) hin
          have HBL2 := hid (World.block_lt_of_cell? w6 _ hc2)
          have c62 : (w6.alloc (.cells #[.string ⟨#[]⟩, .string ⟨#[47]⟩, .string ⟨#[46, 47]⟩, .string ⟨#[47, 46, 47, 46, 47, 47]⟩] 9)).cell? (ad2.add i) = some (.int .i64 y) := (World.cell?_alloc_lt w6 _ _ HBL2.out).trans hc2
          clear hbl2 hy
          go_wp2_with fail
          refine (number_any y 4 _ (by decide) (by decide)).mono ?_
          rintro e w7 ⟨rfl, rfl⟩
          obtain ⟨ky, hky⟩ : ∃ ky, y % 4 = ky := ⟨_, rfl⟩
          have hk4 : ky = 0 ∨ ky = 1 ∨ ky = 2 ∨ ky = 3 := by omega
          rw [hky]
          clear hky hc2 c62
          have hba : Below w6.heap.size w6 (w6.alloc (.cells #[.string ⟨#[]⟩, .string ⟨#[47]⟩, .string ⟨#[46, 47]⟩, .string ⟨#[47, 46, 47, 46, 47, 47]⟩] 9)) := (Below.refl _ _).alloc (Nat.le_refl _) _
          replace HO6 := hid (OwnV.on HO6.out hba)
          replace HP6b := hid (HP6b.out.below hba HP6b.out.lt)
          replace HW6 := hid (HW6.out.trans (hba.mono HW6.out.size))
          replace HZ6 := hid (Nat.le_trans HZ6.out hba.size)
          clear hba
          rcases hk4 with rfl | rfl | rfl | rfl
          · go_wp2
            go_roundw
            case rel => exact ⟨i + 1, s ++ 47 :: ([] ++ P), by omega, congrArg Value.string (ByteArray.ext (by simp)), by go_num, hid (by rw [HQ.out]; exact HSB.out.next (.inl rfl) HPP.out.1 HPP.out.2), ⟨.slice A5 m5 c5, HO6, HP6b⟩, HW6, HZ6⟩
            case measure => simp [RowKit.intOf]; omega
          · go_wp2
            go_roundw
            case rel => exact ⟨i + 1, s ++ 47 :: ([47] ++ P), by omega, congrArg Value.string (ByteArray.ext (by simp)), by go_num, hid (by rw [HQ.out]; exact HSB.out.next (.inr (.inl rfl)) HPP.out.1 HPP.out.2), ⟨.slice A5 m5 c5, HO6, HP6b⟩, HW6, HZ6⟩
            case measure => simp [RowKit.intOf]; omega
          · go_wp2
            go_roundw
            case rel => exact ⟨i + 1, s ++ 47 :: ([46, 47] ++ P), by omega, congrArg Value.string (ByteArray.ext (by simp)), by go_num, hid (by rw [HQ.out]; exact HSB.out.next (.inr (.inr (.inl rfl))) HPP.out.1 HPP.out.2), ⟨.slice A5 m5 c5, HO6, HP6b⟩, HW6, HZ6⟩
            case measure => simp [RowKit.intOf]; omega
          · go_wp2
            go_roundw
            case rel => exact ⟨i + 1, s ++ 47 :: ([47, 46, 47, 46, 47, 47] ++ P), by omega, congrArg Value.string (ByteArray.ext (by simp)), by go_num, hid (by rw [HQ.out]; exact HSB.out.next (.inr (.inr (.inr rfl))) HPP.out.1 HPP.out.2), ⟨.slice A5 m5 c5, HO6, HP6b⟩, HW6, HZ6⟩
            case measure => simp [RowKit.intOf]; omega
        · go_wp2
          go_roundw
          case rel => exact ⟨i + 1, s ++ 47 :: ([] ++ P), by omega, congrArg Value.string (ByteArray.ext (by simp)), by go_num, hid (by rw [HQ.out]; exact HSB.out.next (.inl rfl) HPP.out.1 HPP.out.2), ⟨.slice A5 m5 c5, HO6, HP6b⟩, HW6, HZ6⟩
          case measure => simp [RowKit.intOf]; omega
      · go_upto_region 12 with fail
        obtain ⟨w4, hw4⟩ : ∃ w4, wr.alloc (.cells #[.string ⟨#[97]⟩, .string ⟨#[98, 98]⟩, .string ⟨#[46, 46]⟩, .string ⟨#[99, 46, 100]⟩, .string ⟨#[46, 46, 46]⟩, .string ⟨#[120, 32, 121]⟩] 9) = w4 := ⟨_, rfl⟩
        rw [hw4]
        rw [show part6 5 = [120, 32, 121] from rfl] at HQ HP6
        rw [show Value.string ⟨#[120, 32, 121]⟩ = encStr [120, 32, 121] from rfl]
        obtain ⟨P, hP⟩ : ∃ P : Nam, [120, 32, 121] = P := ⟨_, rfl⟩
        rw [hP] at HQ HP6 ⊢
        have HPP := hid HP6.out
        have hpl := HPP.out.2
        have hba : Below wr.heap.size wr w4 := by rw [← hw4]; exact (Below.refl _ _).alloc (Nat.le_refl _) _
        have HO4 := hid (OwnV.on HO.out hba)
        have HP4 := hid (HP.out.below hba HP.out.lt)
        have HW4 := hid (HWr.out.trans (hba.mono HWr.out.size))
        have HZ4 := hid (Nat.le_trans HZ.out hba.size)
        have p0 : w4.cell? ⟨g, 0, none⟩ = some v := HP4.out.cell 0
        clear hP hw4 hba
        go_wp2_with (at_builtin; refine wpList_append_tx rfl _ _ rfl (g + 1) (w4.heap.size + 1) _ (qs6 (l.take i)) [P] rfl (World.ownsRow.alloc HO4.out _) (some ⟨w4.heap.size, 0, none⟩) 1 1 rfl (st_one w4 P) ?c1 ?c2 ?_)
        case c1 => rw [qs6_len, List.length_take]; omega
        case c2 => have := HZ4.out; simp; omega
        intro v' w5 hown' hb5
        obtain ⟨A5, m5, c5, hv5⟩ : ∃ A m c, v' = .slice A m c := by
          obtain ⟨A, c, h, _⟩ := Ot.is hown'
          exact ⟨_, _, _, h⟩
        subst hv5
        have hP5 := (HP4.out.alloc (.cells #[encStr P] 9)).below hb5 (by omega)
        have q0 : w5.cell? ⟨g, 0, none⟩ = some v := hP5.cell 0
        have e0 := hP5.free 0
        have HP5 := hid hP5
        have HO5 := hid (show Ot w5 (g + 1) (.slice A5 m5 c5) (qs6 (l.take (i + 1))) by rw [HQ.out]; exact hown')
        have HW5 := hid ((HW4.out.alloc HW4.out.size (.cells #[encStr P] 9)).trans (hb5.mono (by have := HG.out; omega)))
        have HZ5 := hid (show g + 1 ≤ w5.heap.size from Nat.le_trans HZ4.out (Nat.le_trans (by simp [World.size_alloc]) hb5.size))
        clear hown' hb5 hP5
        go_upto_region 14 with fail
        obtain ⟨w6, hw6⟩ : ∃ w6, w5.setCell ⟨g, 0, none⟩ (.slice A5 m5 c5) = w6 := ⟨_, rfl⟩
        rw [hw6]
        have HO6 := hid (show Ot w6 (g + 1) (.slice A5 m5 c5) (qs6 (l.take (i + 1))) by rw [← hw6]; exact OwnV.aside HO5.out (by show g < _; omega) _)
        have HP6b := hid (show Blk w6 g 24 #[.slice A5 m5 c5, .bool false] by rw [← hw6]; exact HP5.out.put 0 (.slice A5 m5 c5))
        have HW6 := hid (show Below w.heap.size w w6 by rw [← hw6]; exact HW5.out.setCell (by show w.heap.size ≤ g; exact HG.out) _)
        have HZ6 := hid (show g + 1 ≤ w6.heap.size by rw [← hw6]; simpa using HZ5.out)
        clear hw6 q0 e0 p0 HO5 HP5 HW5 HZ5 HO4 HP4 HW4 HZ4
        by_cases hin : i < n'
        · obtain ⟨ad2, y, rfl, hbl2, hy, hc2⟩ := Sn.get (HY.out.below HW6.out) hin
          have HBL2 := hid (World.block_lt_of_cell? w6 _ hc2)
          have c62 : (w6.alloc (.cells #[.string ⟨#[]⟩, .string ⟨#[47]⟩, .string ⟨#[46, 47]⟩, .string ⟨#[47, 46, 47, 46, 47, 47]⟩] 9)).cell? (ad2.add i) = some (.int .i64 y) := (World.cell?_alloc_lt w6 _ _ HBL2.out).trans hc2
          clear hbl2 hy
          go_wp2_with fail
          refine (number_any y 4 _ (by decide) (by decide)).mono ?_
          rintro e w7 ⟨rfl, rfl⟩
          obtain ⟨ky, hky⟩ : ∃ ky, y % 4 = ky := ⟨_, rfl⟩
          have hk4 : ky = 0 ∨ ky = 1 ∨ ky = 2 ∨ ky = 3 := by omega
          rw [hky]
          clear hky hc2 c62
          have hba : Below w6.heap.size w6 (w6.alloc (.cells #[.string ⟨#[]⟩, .string ⟨#[47]⟩, .string ⟨#[46, 47]⟩, .string ⟨#[47, 46, 47, 46, 47, 47]⟩] 9)) := (Below.refl _ _).alloc (Nat.le_refl _) _
          replace HO6 := hid (OwnV.on HO6.out hba)
          replace HP6b := hid (HP6b.out.below hba HP6b.out.lt)
          replace HW6 := hid (HW6.out.trans (hba.mono HW6.out.size))
          replace HZ6 := hid (Nat.le_trans HZ6.out hba.size)
          clear hba
          rcases hk4 with rfl | rfl | rfl | rfl
          · go_wp2
            go_roundw
            case rel => exact ⟨i + 1, s ++ 47 :: ([] ++ P), by omega, congrArg Value.string (ByteArray.ext (by simp)), by go_num, hid (by rw [HQ.out]; exact HSB.out.next (.inl rfl) HPP.out.1 HPP.out.2), ⟨.slice A5 m5 c5, HO6, HP6b⟩, HW6, HZ6⟩
            case measure => simp [RowKit.intOf]; omega
          · go_wp2
            go_roundw
            case rel => exact ⟨i + 1, s ++ 47 :: ([47] ++ P), by omega, congrArg Value.string (ByteArray.ext (by simp)), by go_num, hid (by rw [HQ.out]; exact HSB.out.next (.inr (.inl rfl)) HPP.out.1 HPP.out.2), ⟨.slice A5 m5 c5, HO6, HP6b⟩, HW6, HZ6⟩
            case measure => simp [RowKit.intOf]; omega
          · go_wp2
            go_roundw
            case rel => exact ⟨i + 1, s ++ 47 :: ([46, 47] ++ P), by omega, congrArg Value.string (ByteArray.ext (by simp)), by go_num, hid (by rw [HQ.out]; exact HSB.out.next (.inr (.inr (.inl rfl))) HPP.out.1 HPP.out.2), ⟨.slice A5 m5 c5, HO6, HP6b⟩, HW6, HZ6⟩
            case measure => simp [RowKit.intOf]; omega
          · go_wp2
            go_roundw
            case rel => exact ⟨i + 1, s ++ 47 :: ([47, 46, 47, 46, 47, 47] ++ P), by omega, congrArg Value.string (ByteArray.ext (by simp)), by go_num, hid (by rw [HQ.out]; exact HSB.out.next (.inr (.inr (.inr rfl))) HPP.out.1 HPP.out.2), ⟨.slice A5 m5 c5, HO6, HP6b⟩, HW6, HZ6⟩
            case measure => simp [RowKit.intOf]; omega
        · go_wp2
          go_roundw
          case rel => exact ⟨i + 1, s ++ 47 :: ([] ++ P), by omega, congrArg Value.string (ByteArray.ext (by simp)), by go_num, hid (by rw [HQ.out]; exact HSB.out.next (.inl rfl) HPP.out.1 HPP.out.2), ⟨.slice A5 m5 c5, HO6, HP6b⟩, HW6, HZ6⟩
          case measure => simp [RowKit.intOf]; omega
    · obtain rfl : i = n := by omega
      have hfull : l.take i = l := List.take_of_length_le (by rw [HN.out]; exact Nat.le_refl _)
      rw [hfull] at HSB HO
      obtain ⟨Q, hQ⟩ : ∃ Q, qs6 l = Q := ⟨_, rfl⟩
      have hQl : Q.length = i := by rw [← hQ, qs6_len, HN.out]
      have HQg := hid (show (∀ x ∈ Q, goodP x = true) ∧ (∀ x ∈ Q, x.length ≤ 3) ∧ (∀ x ∈ Q, x.length ≤ 1000) by
        rw [← hQ]
        exact ⟨fun x hx => (qs6_good l x hx).1, fun x hx => (qs6_good l x hx).2, fun x hx => Nat.le_trans (qs6_good l x hx).2 (by decide)⟩)
      rw [hQ] at HSB HO
      clear hQ hfull
      obtain ⟨A1, c1, rfl, hst1, hA1⟩ := Ot.is HO.out
      rw [hQl] at hst1 HP
      have HST := hid hst1
      have HQl := hid hQl
      have p1 : wr.cell? ⟨g, 1, none⟩ = some (.bool false) := HP.out.cell 1
      have e1 := HP.out.free 1
      have hfar : ∀ ad, A1 = some ad → ad.block ≠ g := fun ad h => by have := hA1 ad h; omega
      have HF := hid hfar
      clear hst1 hQl hA1 hfar
      rcases b with _ | _
      · by_cases hi0 : i = 0
        · subst hi0
          go_upto_region 20 with fail
          rw [show Value.string (⟨s.toArray⟩ ++ ⟨#[47]⟩) = encStr (s ++ [47]) from str_app s [47]]
          obtain ⟨U, hU⟩ : ∃ U : Nam, (s ++ [47]) = U := ⟨_, rfl⟩
          have HU := hid (show prsC U = 0 ∧ prsP U = Q ∧ prsS U = false by rw [← hU]; exact ⟨(HSB.out.slash (by rw [HQl.out]; omega)).1, (HSB.out.slash (by rw [HQl.out]; omega)).2.1, (HSB.out.slash (by rw [HQl.out]; omega)).2.2.trans (by rw [HQl.out]; rfl)⟩)
          rw [hU]
          have HT := hid (txt_prs (b := false) HQg.out.1 HQg.out.2.1 (by rw [HQl.out]; omega) (by intro h; cases h))
          obtain ⟨w2, hw2⟩ : ∃ w2, wr.setCell ⟨g, 1, none⟩ (.bool false) = w2 := ⟨_, rfl⟩
          rw [hw2]
          have HE2 := hid (HE.out)
          replace HE := hid (hS0.out.on (show Below w.heap.size w w2 by rw [← hw2]; exact HWr.out.setCell (by show w.heap.size ≤ g; exact HG.out) _))
          replace HST := hid (show St w2 w2.heap.size A1 0 c1 Q by rw [← hw2]; have := Sv.aside HST.out (p := ⟨g, 1, none⟩) HF.out (.bool false); simpa using this)
          have HP2 := hid (show Blk w2 g 24 #[.slice A1 0 c1, .bool false] by rw [← hw2]; exact HP.out.put 1 (.bool false))
          have HV := hid (show Below w.heap.size w w2 by rw [← hw2]; exact HWr.out.setCell (by show w.heap.size ≤ g; exact HG.out) _)
          have q0 : w2.cell? ⟨g, 0, none⟩ = some (.slice A1 0 c1) := HP2.out.cell 0
          have q1 : w2.cell? ⟨g, 1, none⟩ = some (.bool false) := HP2.out.cell 1
          clear hU hw2 p1 e1 HE2 HO HP HWr HZ
          go_wp2_with fail
          refine (text_any A1 0 c1 w2.heap.size Q false w2 HST.out (Nat.le_refl _) (by omega) HQg.out.2.2).mono ?_
          rintro e w3 ⟨rfl, hb⟩
          replace HE := hid (HE.out.on hb)
          replace HST := hid (Sv.on HST.out hb)
          replace HP2 := hid (HP2.out.below hb HP2.out.lt)
          replace HV := hid (HV.out.trans (hb.mono HV.out.size))
          clear hb q0 q1
          obtain ⟨T, hT⟩ : ∃ T, txt Q false = T := ⟨_, rfl⟩
          rw [hT] at HT ⊢
          clear hT
          go_wp2_with fail
          refine (parse_any S ⟨T.toArray⟩ w3 HE.out).mono ?_
          rw [show (⟨T.toArray⟩ : ByteArray).data.toList = T by simp]
          rintro e w4 ⟨A4, n4, c4, ve, rfl, hev, hst, hb⟩
          rw [HT.out.1] at hev
          rw [HT.out.2.1] at hst
          rw [HT.out.2.2]
          obtain rfl := hev.nil rfl
          have HS4 := hid hst
          replace HE := hid (HE.out.on hb)
          replace HST := hid (Sv.on HST.out hb)
          replace HP2 := hid (HP2.out.below hb HP2.out.lt)
          replace HV := hid (HV.out.trans (hb.mono HV.out.size))
          clear hev hst hb
          obtain ⟨w5, hw5⟩ : ∃ w5, w4.alloc (.cells #[.slice A4 n4 c4, .bool false] 24) = w5 := ⟨_, rfl⟩
          have hba : Below w4.heap.size w4 w5 := by rw [← hw5]; exact (Below.refl _ _).alloc (Nat.le_refl _) _
          have HP4 := hid (show Blk w5 w4.heap.size 24 #[.slice A4 n4 c4, .bool false] by rw [← hw5]; exact Blk.new _ _ _)
          replace HE := hid (HE.out.on hba)
          replace HST := hid (Sv.on HST.out hba)
          replace HP2 := hid (HP2.out.below hba HP2.out.lt)
          replace HV := hid (HV.out.trans (hba.mono HV.out.size))
          replace HS4 := hid (Sv.on HS4.out hba)
          replace hw5 := hid hw5
          clear hba
          go_wp2_with fail
          rw [hw5.out]
          clear hw5
          refine (parse_any S ⟨U.toArray⟩ w5 HE.out).mono ?_
          rw [show (⟨U.toArray⟩ : ByteArray).data.toList = U by simp]
          rintro e w6 ⟨A6, n6, c6, ve, rfl, hev, hst, hb⟩
          rw [HU.out.1] at hev
          rw [HU.out.2.1] at hst
          rw [HU.out.2.2]
          obtain rfl := hev.nil rfl
          have HS6 := hid hst
          replace HE := hid (HE.out.on hb)
          replace HST := hid (Sv.on HST.out hb)
          replace HP2 := hid (HP2.out.below hb HP2.out.lt)
          replace HV := hid (HV.out.trans (hb.mono HV.out.size))
          replace HS4 := hid (Sv.on HS4.out hb)
          replace HP4 := hid (HP4.out.below hb HP4.out.lt)
          clear hev hst hb
          obtain ⟨w7, hw7⟩ : ∃ w7, w6.alloc (.cells #[.slice A6 n6 c6, .bool false] 24) = w7 := ⟨_, rfl⟩
          have hba : Below w6.heap.size w6 w7 := by rw [← hw7]; exact (Below.refl _ _).alloc (Nat.le_refl _) _
          have HP6c := hid (show Blk w7 w6.heap.size 24 #[.slice A6 n6 c6, .bool false] by rw [← hw7]; exact Blk.new _ _ _)
          replace HE := hid (HE.out.on hba)
          replace HST := hid (Sv.on HST.out hba)
          replace HP2 := hid (HP2.out.below hba HP2.out.lt)
          replace HV := hid (HV.out.trans (hba.mono HV.out.size))
          replace HS4 := hid (Sv.on HS4.out hba)
          replace HP4 := hid (HP4.out.below hba HP4.out.lt)
          replace HS6 := hid (Sv.on HS6.out hba)
          replace hw7 := hid hw7
          clear hba
          have q0 : (w6.alloc (.cells #[.slice A6 n6 c6, .bool false] 24)).cell? ⟨g, 0, none⟩ = some (.slice A1 0 c1) := by rw [hw7.out]; exact HP2.out.cell 0
          go_wp2_with fail
          rw [hw7.out]
          clear hw7 q0
          refine (pathJoin_any [] A1 0 c1 w7.heap.size Q w7 HST.out (Nat.le_refl _) (by omega) HQg.out.2.2 (by decide)).mono ?_
          rw [List.nil_append]
          rintro e w8 ⟨rfl, hb⟩
          have HJ := hid ((SB.ofSlashed Q HQg.out.1 HQg.out.2.1).slash (by rw [HQl.out]; omega))
          have hJl := (SB.ofSlashed Q HQg.out.1 HQg.out.2.1).len
          rw [HQl.out] at hJl
          obtain ⟨J, hJ⟩ : ∃ J, slashed Q = J := ⟨_, rfl⟩
          rw [hJ] at HJ hJl ⊢
          have hJ2 : J.length ≤ 1000 := by omega
          clear hJ hJl
          replace HE := hid (HE.out.on hb)
          replace HST := hid (Sv.on HST.out hb)
          replace HP2 := hid (HP2.out.below hb HP2.out.lt)
          replace HV := hid (HV.out.trans (hb.mono HV.out.size))
          replace HS4 := hid (Sv.on HS4.out hb)
          replace HP4 := hid (HP4.out.below hb HP4.out.lt)
          replace HS6 := hid (Sv.on HS6.out hb)
          replace HP6c := hid (HP6c.out.below hb HP6c.out.lt)
          clear hb
          go_wp2_with fail
          rw [show Value.string (⟨J.toArray⟩ ++ ⟨#[47]⟩) = encStr (J ++ [47]) from str_app J [47]]
          obtain ⟨K, hK⟩ : ∃ K, J ++ [47] = K := ⟨_, rfl⟩
          rw [hK] at HJ ⊢
          clear hK
          refine (parse_any S ⟨K.toArray⟩ w8 HE.out).mono ?_
          rw [show (⟨K.toArray⟩ : ByteArray).data.toList = K by simp]
          rintro e w9 ⟨A9, n9, c9, ve, rfl, hev, hst, hb⟩
          rw [HJ.out.1] at hev
          rw [HJ.out.2.1] at hst
          obtain rfl := hev.nil rfl
          have HS9 := hid hst
          obtain ⟨bj, hbj⟩ : ∃ bj, prsS K = bj := ⟨_, rfl⟩
          rw [hbj]
          clear hbj
          replace HE := hid (HE.out.on hb)
          replace HST := hid (Sv.on HST.out hb)
          replace HP2 := hid (HP2.out.below hb HP2.out.lt)
          replace HV := hid (HV.out.trans (hb.mono HV.out.size))
          replace HS4 := hid (Sv.on HS4.out hb)
          replace HP4 := hid (HP4.out.below hb HP4.out.lt)
          replace HS6 := hid (Sv.on HS6.out hb)
          replace HP6c := hid (HP6c.out.below hb HP6c.out.lt)
          clear hev hst hb
          obtain ⟨w10, hw10⟩ : ∃ w10, w9.alloc (.cells #[.slice A9 n9 c9, .bool bj] 24) = w10 := ⟨_, rfl⟩
          have hba : Below w9.heap.size w9 w10 := by rw [← hw10]; exact (Below.refl _ _).alloc (Nat.le_refl _) _
          have HP9 := hid (show Blk w10 w9.heap.size 24 #[.slice A9 n9 c9, .bool bj] by rw [← hw10]; exact Blk.new _ _ _)
          replace HE := hid (HE.out.on hba)
          replace HST := hid (Sv.on HST.out hba)
          replace HP2 := hid (HP2.out.below hba HP2.out.lt)
          replace HV := hid (HV.out.trans (hba.mono HV.out.size))
          replace HS4 := hid (Sv.on HS4.out hba)
          replace HP4 := hid (HP4.out.below hba HP4.out.lt)
          replace HS6 := hid (Sv.on HS6.out hba)
          replace HP6c := hid (HP6c.out.below hba HP6c.out.lt)
          replace HS9 := hid (Sv.on HS9.out hba)
          replace hw10 := hid hw10
          clear hba
          have a0 : (w9.alloc (.cells #[.slice A9 n9 c9, .bool bj] 24)).cell? ⟨w4.heap.size, 0, none⟩ = some (.slice A4 n4 c4) := by rw [hw10.out]; exact HP4.out.cell 0
          have b0 : (w9.alloc (.cells #[.slice A9 n9 c9, .bool bj] 24)).cell? ⟨g, 0, none⟩ = some (.slice A1 0 c1) := by rw [hw10.out]; exact HP2.out.cell 0
          go_wp2_with fail
          rw [hw10.out]
          clear hw10 a0 b0
          refine (sameTexts_any A4 A1 n4 c4 0 c1 Q Q _ _ w10 HS4.out HST.out).mono ?_
          rw [decide_eq_true (rfl : Q = Q)]
          rintro e w11 ⟨rfl, q, hw⟩
          have hb : Below w10.heap.size w10 w11 := by rw [hw]; exact below_drewN (Below.refl _ _) q
          replace HE := hid (HE.out.on hb)
          replace HST := hid (Sv.on HST.out hb)
          replace HP2 := hid (HP2.out.below hb HP2.out.lt)
          replace HV := hid (HV.out.trans (hb.mono HV.out.size))
          replace HS4 := hid (Sv.on HS4.out hb)
          replace HP4 := hid (HP4.out.below hb HP4.out.lt)
          replace HS6 := hid (Sv.on HS6.out hb)
          replace HP6c := hid (HP6c.out.below hb HP6c.out.lt)
          replace HS9 := hid (Sv.on HS9.out hb)
          replace HP9 := hid (HP9.out.below hb HP9.out.lt)
          clear hb hw
          have a1 : w11.cell? ⟨w4.heap.size, 1, none⟩ = some (.bool false) := HP4.out.cell 1
          have b1 : w11.cell? ⟨g, 1, none⟩ = some (.bool false) := HP2.out.cell 1
          have b0 : w11.cell? ⟨g, 0, none⟩ = some (.slice A1 0 c1) := HP2.out.cell 0
          have d0 : w11.cell? ⟨w6.heap.size, 0, none⟩ = some (.slice A6 n6 c6) := HP6c.out.cell 0
          go_wp2_with fail
          clear a1 b1 b0 d0
          refine (sameTexts_any A6 A1 n6 c6 0 c1 Q Q _ _ w11 HS6.out HST.out).mono ?_
          rw [decide_eq_true (rfl : Q = Q)]
          rintro e w12 ⟨rfl, q, hw⟩
          have hb : Below w11.heap.size w11 w12 := by rw [hw]; exact below_drewN (Below.refl _ _) q
          replace HE := hid (HE.out.on hb)
          replace HST := hid (Sv.on HST.out hb)
          replace HP2 := hid (HP2.out.below hb HP2.out.lt)
          replace HV := hid (HV.out.trans (hb.mono HV.out.size))
          replace HS4 := hid (Sv.on HS4.out hb)
          replace HP4 := hid (HP4.out.below hb HP4.out.lt)
          replace HS6 := hid (Sv.on HS6.out hb)
          replace HP6c := hid (HP6c.out.below hb HP6c.out.lt)
          replace HS9 := hid (Sv.on HS9.out hb)
          replace HP9 := hid (HP9.out.below hb HP9.out.lt)
          clear hb hw
          have d1 : w12.cell? ⟨w6.heap.size, 1, none⟩ = some (.bool false) := HP6c.out.cell 1
          have b1 : w12.cell? ⟨g, 1, none⟩ = some (.bool false) := HP2.out.cell 1
          have b0 : w12.cell? ⟨g, 0, none⟩ = some (.slice A1 0 c1) := HP2.out.cell 0
          have z0 : w12.cell? ⟨w9.heap.size, 0, none⟩ = some (.slice A9 n9 c9) := HP9.out.cell 0
          go_wp2_with fail
          clear d1 b1 b0 z0
          refine (sameTexts_any A9 A1 n9 c9 0 c1 Q Q _ _ w12 HS9.out HST.out).mono ?_
          rw [decide_eq_true (rfl : Q = Q)]
          rintro e w13 ⟨rfl, q, hw⟩
          have hb : Below w12.heap.size w12 w13 := by rw [hw]; exact below_drewN (Below.refl _ _) q
          replace HV := hid (HV.out.trans (hb.mono HV.out.size))
          clear hb hw
          go_wp2
          go_ret
          exact ⟨rfl, HV.out⟩
        · have g0 : decide ((0 : Int) < (i : Int)) = true := decide_eq_true (by omega)
          have g1 : ((i : Int) == 0) = false := beq_eq_false_iff_ne.2 (by omega)
          have g2 : decide (0 < i) = true := decide_eq_true (by omega)
          go_upto_region 20 with fail
          obtain ⟨U, hU⟩ : ∃ U : Nam, s = U := ⟨_, rfl⟩
          have HU := hid (show prsC U = 0 ∧ prsP U = Q ∧ prsS U = false by rw [← hU]; exact HSB.out.plain (by rw [HQl.out]; omega) (by intro h; have := HQl.out; rw [h] at this; exact hi0 this.symm))
          rw [hU]
          have HT := hid (txt_prs (b := false) HQg.out.1 HQg.out.2.1 (by rw [HQl.out]; omega) (by intro h; cases h))
          obtain ⟨w2, hw2⟩ : ∃ w2, wr.setCell ⟨g, 1, none⟩ (.bool false) = w2 := ⟨_, rfl⟩
          rw [hw2]
          have HE2 := hid (HE.out)
          replace HE := hid (hS0.out.on (show Below w.heap.size w w2 by rw [← hw2]; exact HWr.out.setCell (by show w.heap.size ≤ g; exact HG.out) _))
          replace HST := hid (show St w2 w2.heap.size A1 i c1 Q by rw [← hw2]; have := Sv.aside HST.out (p := ⟨g, 1, none⟩) HF.out (.bool false); simpa using this)
          have HP2 := hid (show Blk w2 g 24 #[.slice A1 i c1, .bool false] by rw [← hw2]; exact HP.out.put 1 (.bool false))
          have HV := hid (show Below w.heap.size w w2 by rw [← hw2]; exact HWr.out.setCell (by show w.heap.size ≤ g; exact HG.out) _)
          have q0 : w2.cell? ⟨g, 0, none⟩ = some (.slice A1 i c1) := HP2.out.cell 0
          have q1 : w2.cell? ⟨g, 1, none⟩ = some (.bool false) := HP2.out.cell 1
          clear hU hw2 p1 e1 HE2 HO HP HWr HZ
          go_wp2_with fail
          refine (text_any A1 i c1 w2.heap.size Q false w2 HST.out (Nat.le_refl _) (by omega) HQg.out.2.2).mono ?_
          rintro e w3 ⟨rfl, hb⟩
          replace HE := hid (HE.out.on hb)
          replace HST := hid (Sv.on HST.out hb)
          replace HP2 := hid (HP2.out.below hb HP2.out.lt)
          replace HV := hid (HV.out.trans (hb.mono HV.out.size))
          clear hb q0 q1
          obtain ⟨T, hT⟩ : ∃ T, txt Q false = T := ⟨_, rfl⟩
          rw [hT] at HT ⊢
          clear hT
          go_wp2_with fail
          refine (parse_any S ⟨T.toArray⟩ w3 HE.out).mono ?_
          rw [show (⟨T.toArray⟩ : ByteArray).data.toList = T by simp]
          rintro e w4 ⟨A4, n4, c4, ve, rfl, hev, hst, hb⟩
          rw [HT.out.1] at hev
          rw [HT.out.2.1] at hst
          rw [HT.out.2.2]
          obtain rfl := hev.nil rfl
          have HS4 := hid hst
          replace HE := hid (HE.out.on hb)
          replace HST := hid (Sv.on HST.out hb)
          replace HP2 := hid (HP2.out.below hb HP2.out.lt)
          replace HV := hid (HV.out.trans (hb.mono HV.out.size))
          clear hev hst hb
          obtain ⟨w5, hw5⟩ : ∃ w5, w4.alloc (.cells #[.slice A4 n4 c4, .bool false] 24) = w5 := ⟨_, rfl⟩
          have hba : Below w4.heap.size w4 w5 := by rw [← hw5]; exact (Below.refl _ _).alloc (Nat.le_refl _) _
          have HP4 := hid (show Blk w5 w4.heap.size 24 #[.slice A4 n4 c4, .bool false] by rw [← hw5]; exact Blk.new _ _ _)
          replace HE := hid (HE.out.on hba)
          replace HST := hid (Sv.on HST.out hba)
          replace HP2 := hid (HP2.out.below hba HP2.out.lt)
          replace HV := hid (HV.out.trans (hba.mono HV.out.size))
          replace HS4 := hid (Sv.on HS4.out hba)
          replace hw5 := hid hw5
          clear hba
          go_wp2_with fail
          rw [hw5.out]
          clear hw5
          refine (parse_any S ⟨U.toArray⟩ w5 HE.out).mono ?_
          rw [show (⟨U.toArray⟩ : ByteArray).data.toList = U by simp]
          rintro e w6 ⟨A6, n6, c6, ve, rfl, hev, hst, hb⟩
          rw [HU.out.1] at hev
          rw [HU.out.2.1] at hst
          rw [HU.out.2.2]
          obtain rfl := hev.nil rfl
          have HS6 := hid hst
          replace HE := hid (HE.out.on hb)
          replace HST := hid (Sv.on HST.out hb)
          replace HP2 := hid (HP2.out.below hb HP2.out.lt)
          replace HV := hid (HV.out.trans (hb.mono HV.out.size))
          replace HS4 := hid (Sv.on HS4.out hb)
          replace HP4 := hid (HP4.out.below hb HP4.out.lt)
          clear hev hst hb
          obtain ⟨w7, hw7⟩ : ∃ w7, w6.alloc (.cells #[.slice A6 n6 c6, .bool false] 24) = w7 := ⟨_, rfl⟩
          have hba : Below w6.heap.size w6 w7 := by rw [← hw7]; exact (Below.refl _ _).alloc (Nat.le_refl _) _
          have HP6c := hid (show Blk w7 w6.heap.size 24 #[.slice A6 n6 c6, .bool false] by rw [← hw7]; exact Blk.new _ _ _)
          replace HE := hid (HE.out.on hba)
          replace HST := hid (Sv.on HST.out hba)
          replace HP2 := hid (HP2.out.below hba HP2.out.lt)
          replace HV := hid (HV.out.trans (hba.mono HV.out.size))
          replace HS4 := hid (Sv.on HS4.out hba)
          replace HP4 := hid (HP4.out.below hba HP4.out.lt)
          replace HS6 := hid (Sv.on HS6.out hba)
          replace hw7 := hid hw7
          clear hba
          have q0 : (w6.alloc (.cells #[.slice A6 n6 c6, .bool false] 24)).cell? ⟨g, 0, none⟩ = some (.slice A1 i c1) := by rw [hw7.out]; exact HP2.out.cell 0
          go_wp2_with fail
          rw [hw7.out]
          clear hw7 q0
          refine (pathJoin_any [] A1 i c1 w7.heap.size Q w7 HST.out (Nat.le_refl _) (by omega) HQg.out.2.2 (by decide)).mono ?_
          rw [List.nil_append]
          rintro e w8 ⟨rfl, hb⟩
          have HJ := hid ((SB.ofSlashed Q HQg.out.1 HQg.out.2.1).slash (by rw [HQl.out]; omega))
          have hJl := (SB.ofSlashed Q HQg.out.1 HQg.out.2.1).len
          rw [HQl.out] at hJl
          obtain ⟨J, hJ⟩ : ∃ J, slashed Q = J := ⟨_, rfl⟩
          rw [hJ] at HJ hJl ⊢
          have hJ2 : J.length ≤ 1000 := by omega
          clear hJ hJl
          replace HE := hid (HE.out.on hb)
          replace HST := hid (Sv.on HST.out hb)
          replace HP2 := hid (HP2.out.below hb HP2.out.lt)
          replace HV := hid (HV.out.trans (hb.mono HV.out.size))
          replace HS4 := hid (Sv.on HS4.out hb)
          replace HP4 := hid (HP4.out.below hb HP4.out.lt)
          replace HS6 := hid (Sv.on HS6.out hb)
          replace HP6c := hid (HP6c.out.below hb HP6c.out.lt)
          clear hb
          go_wp2_with fail
          rw [show Value.string (⟨J.toArray⟩ ++ ⟨#[47]⟩) = encStr (J ++ [47]) from str_app J [47]]
          obtain ⟨K, hK⟩ : ∃ K, J ++ [47] = K := ⟨_, rfl⟩
          rw [hK] at HJ ⊢
          clear hK
          refine (parse_any S ⟨K.toArray⟩ w8 HE.out).mono ?_
          rw [show (⟨K.toArray⟩ : ByteArray).data.toList = K by simp]
          rintro e w9 ⟨A9, n9, c9, ve, rfl, hev, hst, hb⟩
          rw [HJ.out.1] at hev
          rw [HJ.out.2.1] at hst
          obtain rfl := hev.nil rfl
          have HS9 := hid hst
          obtain ⟨bj, hbj⟩ : ∃ bj, prsS K = bj := ⟨_, rfl⟩
          rw [hbj]
          clear hbj
          replace HE := hid (HE.out.on hb)
          replace HST := hid (Sv.on HST.out hb)
          replace HP2 := hid (HP2.out.below hb HP2.out.lt)
          replace HV := hid (HV.out.trans (hb.mono HV.out.size))
          replace HS4 := hid (Sv.on HS4.out hb)
          replace HP4 := hid (HP4.out.below hb HP4.out.lt)
          replace HS6 := hid (Sv.on HS6.out hb)
          replace HP6c := hid (HP6c.out.below hb HP6c.out.lt)
          clear hev hst hb
          obtain ⟨w10, hw10⟩ : ∃ w10, w9.alloc (.cells #[.slice A9 n9 c9, .bool bj] 24) = w10 := ⟨_, rfl⟩
          have hba : Below w9.heap.size w9 w10 := by rw [← hw10]; exact (Below.refl _ _).alloc (Nat.le_refl _) _
          have HP9 := hid (show Blk w10 w9.heap.size 24 #[.slice A9 n9 c9, .bool bj] by rw [← hw10]; exact Blk.new _ _ _)
          replace HE := hid (HE.out.on hba)
          replace HST := hid (Sv.on HST.out hba)
          replace HP2 := hid (HP2.out.below hba HP2.out.lt)
          replace HV := hid (HV.out.trans (hba.mono HV.out.size))
          replace HS4 := hid (Sv.on HS4.out hba)
          replace HP4 := hid (HP4.out.below hba HP4.out.lt)
          replace HS6 := hid (Sv.on HS6.out hba)
          replace HP6c := hid (HP6c.out.below hba HP6c.out.lt)
          replace HS9 := hid (Sv.on HS9.out hba)
          replace hw10 := hid hw10
          clear hba
          have a0 : (w9.alloc (.cells #[.slice A9 n9 c9, .bool bj] 24)).cell? ⟨w4.heap.size, 0, none⟩ = some (.slice A4 n4 c4) := by rw [hw10.out]; exact HP4.out.cell 0
          have b0 : (w9.alloc (.cells #[.slice A9 n9 c9, .bool bj] 24)).cell? ⟨g, 0, none⟩ = some (.slice A1 i c1) := by rw [hw10.out]; exact HP2.out.cell 0
          go_wp2_with fail
          rw [hw10.out]
          clear hw10 a0 b0
          refine (sameTexts_any A4 A1 n4 c4 i c1 Q Q _ _ w10 HS4.out HST.out).mono ?_
          rw [decide_eq_true (rfl : Q = Q)]
          rintro e w11 ⟨rfl, q, hw⟩
          have hb : Below w10.heap.size w10 w11 := by rw [hw]; exact below_drewN (Below.refl _ _) q
          replace HE := hid (HE.out.on hb)
          replace HST := hid (Sv.on HST.out hb)
          replace HP2 := hid (HP2.out.below hb HP2.out.lt)
          replace HV := hid (HV.out.trans (hb.mono HV.out.size))
          replace HS4 := hid (Sv.on HS4.out hb)
          replace HP4 := hid (HP4.out.below hb HP4.out.lt)
          replace HS6 := hid (Sv.on HS6.out hb)
          replace HP6c := hid (HP6c.out.below hb HP6c.out.lt)
          replace HS9 := hid (Sv.on HS9.out hb)
          replace HP9 := hid (HP9.out.below hb HP9.out.lt)
          clear hb hw
          have a1 : w11.cell? ⟨w4.heap.size, 1, none⟩ = some (.bool false) := HP4.out.cell 1
          have b1 : w11.cell? ⟨g, 1, none⟩ = some (.bool false) := HP2.out.cell 1
          have b0 : w11.cell? ⟨g, 0, none⟩ = some (.slice A1 i c1) := HP2.out.cell 0
          have d0 : w11.cell? ⟨w6.heap.size, 0, none⟩ = some (.slice A6 n6 c6) := HP6c.out.cell 0
          go_wp2_with fail
          clear a1 b1 b0 d0
          refine (sameTexts_any A6 A1 n6 c6 i c1 Q Q _ _ w11 HS6.out HST.out).mono ?_
          rw [decide_eq_true (rfl : Q = Q)]
          rintro e w12 ⟨rfl, q, hw⟩
          have hb : Below w11.heap.size w11 w12 := by rw [hw]; exact below_drewN (Below.refl _ _) q
          replace HE := hid (HE.out.on hb)
          replace HST := hid (Sv.on HST.out hb)
          replace HP2 := hid (HP2.out.below hb HP2.out.lt)
          replace HV := hid (HV.out.trans (hb.mono HV.out.size))
          replace HS4 := hid (Sv.on HS4.out hb)
          replace HP4 := hid (HP4.out.below hb HP4.out.lt)
          replace HS6 := hid (Sv.on HS6.out hb)
          replace HP6c := hid (HP6c.out.below hb HP6c.out.lt)
          replace HS9 := hid (Sv.on HS9.out hb)
          replace HP9 := hid (HP9.out.below hb HP9.out.lt)
          clear hb hw
          have d1 : w12.cell? ⟨w6.heap.size, 1, none⟩ = some (.bool false) := HP6c.out.cell 1
          have b1 : w12.cell? ⟨g, 1, none⟩ = some (.bool false) := HP2.out.cell 1
          have b0 : w12.cell? ⟨g, 0, none⟩ = some (.slice A1 i c1) := HP2.out.cell 0
          have z0 : w12.cell? ⟨w9.heap.size, 0, none⟩ = some (.slice A9 n9 c9) := HP9.out.cell 0
          go_wp2_with fail
          clear d1 b1 b0 z0
          refine (sameTexts_any A9 A1 n9 c9 i c1 Q Q _ _ w12 HS9.out HST.out).mono ?_
          rw [decide_eq_true (rfl : Q = Q)]
          rintro e w13 ⟨rfl, q, hw⟩
          have hb : Below w12.heap.size w12 w13 := by rw [hw]; exact below_drewN (Below.refl _ _) q
          replace HV := hid (HV.out.trans (hb.mono HV.out.size))
          clear hb hw
          go_wp2
          go_ret
          exact ⟨rfl, HV.out⟩
      · by_cases hi0 : i = 0
        · subst hi0
          go_upto_region 20 with fail
          rw [show Value.string (⟨s.toArray⟩ ++ ⟨#[47]⟩) = encStr (s ++ [47]) from str_app s [47]]
          obtain ⟨U, hU⟩ : ∃ U : Nam, (s ++ [47]) = U := ⟨_, rfl⟩
          have HU := hid (show prsC U = 0 ∧ prsP U = Q ∧ prsS U = false by rw [← hU]; exact ⟨(HSB.out.slash (by rw [HQl.out]; omega)).1, (HSB.out.slash (by rw [HQl.out]; omega)).2.1, (HSB.out.slash (by rw [HQl.out]; omega)).2.2.trans (by rw [HQl.out]; rfl)⟩)
          rw [hU]
          have HT := hid (txt_prs (b := false) HQg.out.1 HQg.out.2.1 (by rw [HQl.out]; omega) (by intro h; cases h))
          obtain ⟨w2, hw2⟩ : ∃ w2, wr.setCell ⟨g, 1, none⟩ (.bool false) = w2 := ⟨_, rfl⟩
          rw [hw2]
          have HE2 := hid (HE.out)
          replace HE := hid (hS0.out.on (show Below w.heap.size w w2 by rw [← hw2]; exact HWr.out.setCell (by show w.heap.size ≤ g; exact HG.out) _))
          replace HST := hid (show St w2 w2.heap.size A1 0 c1 Q by rw [← hw2]; have := Sv.aside HST.out (p := ⟨g, 1, none⟩) HF.out (.bool false); simpa using this)
          have HP2 := hid (show Blk w2 g 24 #[.slice A1 0 c1, .bool false] by rw [← hw2]; exact HP.out.put 1 (.bool false))
          have HV := hid (show Below w.heap.size w w2 by rw [← hw2]; exact HWr.out.setCell (by show w.heap.size ≤ g; exact HG.out) _)
          have q0 : w2.cell? ⟨g, 0, none⟩ = some (.slice A1 0 c1) := HP2.out.cell 0
          have q1 : w2.cell? ⟨g, 1, none⟩ = some (.bool false) := HP2.out.cell 1
          clear hU hw2 p1 e1 HE2 HO HP HWr HZ
          go_wp2_with fail
          refine (text_any A1 0 c1 w2.heap.size Q false w2 HST.out (Nat.le_refl _) (by omega) HQg.out.2.2).mono ?_
          rintro e w3 ⟨rfl, hb⟩
          replace HE := hid (HE.out.on hb)
          replace HST := hid (Sv.on HST.out hb)
          replace HP2 := hid (HP2.out.below hb HP2.out.lt)
          replace HV := hid (HV.out.trans (hb.mono HV.out.size))
          clear hb q0 q1
          obtain ⟨T, hT⟩ : ∃ T, txt Q false = T := ⟨_, rfl⟩
          rw [hT] at HT ⊢
          clear hT
          go_wp2_with fail
          refine (parse_any S ⟨T.toArray⟩ w3 HE.out).mono ?_
          rw [show (⟨T.toArray⟩ : ByteArray).data.toList = T by simp]
          rintro e w4 ⟨A4, n4, c4, ve, rfl, hev, hst, hb⟩
          rw [HT.out.1] at hev
          rw [HT.out.2.1] at hst
          rw [HT.out.2.2]
          obtain rfl := hev.nil rfl
          have HS4 := hid hst
          replace HE := hid (HE.out.on hb)
          replace HST := hid (Sv.on HST.out hb)
          replace HP2 := hid (HP2.out.below hb HP2.out.lt)
          replace HV := hid (HV.out.trans (hb.mono HV.out.size))
          clear hev hst hb
          obtain ⟨w5, hw5⟩ : ∃ w5, w4.alloc (.cells #[.slice A4 n4 c4, .bool false] 24) = w5 := ⟨_, rfl⟩
          have hba : Below w4.heap.size w4 w5 := by rw [← hw5]; exact (Below.refl _ _).alloc (Nat.le_refl _) _
          have HP4 := hid (show Blk w5 w4.heap.size 24 #[.slice A4 n4 c4, .bool false] by rw [← hw5]; exact Blk.new _ _ _)
          replace HE := hid (HE.out.on hba)
          replace HST := hid (Sv.on HST.out hba)
          replace HP2 := hid (HP2.out.below hba HP2.out.lt)
          replace HV := hid (HV.out.trans (hba.mono HV.out.size))
          replace HS4 := hid (Sv.on HS4.out hba)
          replace hw5 := hid hw5
          clear hba
          go_wp2_with fail
          rw [hw5.out]
          clear hw5
          refine (parse_any S ⟨U.toArray⟩ w5 HE.out).mono ?_
          rw [show (⟨U.toArray⟩ : ByteArray).data.toList = U by simp]
          rintro e w6 ⟨A6, n6, c6, ve, rfl, hev, hst, hb⟩
          rw [HU.out.1] at hev
          rw [HU.out.2.1] at hst
          rw [HU.out.2.2]
          obtain rfl := hev.nil rfl
          have HS6 := hid hst
          replace HE := hid (HE.out.on hb)
          replace HST := hid (Sv.on HST.out hb)
          replace HP2 := hid (HP2.out.below hb HP2.out.lt)
          replace HV := hid (HV.out.trans (hb.mono HV.out.size))
          replace HS4 := hid (Sv.on HS4.out hb)
          replace HP4 := hid (HP4.out.below hb HP4.out.lt)
          clear hev hst hb
          obtain ⟨w7, hw7⟩ : ∃ w7, w6.alloc (.cells #[.slice A6 n6 c6, .bool false] 24) = w7 := ⟨_, rfl⟩
          have hba : Below w6.heap.size w6 w7 := by rw [← hw7]; exact (Below.refl _ _).alloc (Nat.le_refl _) _
          have HP6c := hid (show Blk w7 w6.heap.size 24 #[.slice A6 n6 c6, .bool false] by rw [← hw7]; exact Blk.new _ _ _)
          replace HE := hid (HE.out.on hba)
          replace HST := hid (Sv.on HST.out hba)
          replace HP2 := hid (HP2.out.below hba HP2.out.lt)
          replace HV := hid (HV.out.trans (hba.mono HV.out.size))
          replace HS4 := hid (Sv.on HS4.out hba)
          replace HP4 := hid (HP4.out.below hba HP4.out.lt)
          replace HS6 := hid (Sv.on HS6.out hba)
          replace hw7 := hid hw7
          clear hba
          have q0 : (w6.alloc (.cells #[.slice A6 n6 c6, .bool false] 24)).cell? ⟨g, 0, none⟩ = some (.slice A1 0 c1) := by rw [hw7.out]; exact HP2.out.cell 0
          go_wp2_with fail
          rw [hw7.out]
          clear hw7 q0
          refine (pathJoin_any [] A1 0 c1 w7.heap.size Q w7 HST.out (Nat.le_refl _) (by omega) HQg.out.2.2 (by decide)).mono ?_
          rw [List.nil_append]
          rintro e w8 ⟨rfl, hb⟩
          have HJ := hid ((SB.ofSlashed Q HQg.out.1 HQg.out.2.1).slash (by rw [HQl.out]; omega))
          have hJl := (SB.ofSlashed Q HQg.out.1 HQg.out.2.1).len
          rw [HQl.out] at hJl
          obtain ⟨J, hJ⟩ : ∃ J, slashed Q = J := ⟨_, rfl⟩
          rw [hJ] at HJ hJl ⊢
          have hJ2 : J.length ≤ 1000 := by omega
          clear hJ hJl
          replace HE := hid (HE.out.on hb)
          replace HST := hid (Sv.on HST.out hb)
          replace HP2 := hid (HP2.out.below hb HP2.out.lt)
          replace HV := hid (HV.out.trans (hb.mono HV.out.size))
          replace HS4 := hid (Sv.on HS4.out hb)
          replace HP4 := hid (HP4.out.below hb HP4.out.lt)
          replace HS6 := hid (Sv.on HS6.out hb)
          replace HP6c := hid (HP6c.out.below hb HP6c.out.lt)
          clear hb
          go_wp2_with fail
          rw [show Value.string (⟨J.toArray⟩ ++ ⟨#[47]⟩) = encStr (J ++ [47]) from str_app J [47]]
          obtain ⟨K, hK⟩ : ∃ K, J ++ [47] = K := ⟨_, rfl⟩
          rw [hK] at HJ ⊢
          clear hK
          refine (parse_any S ⟨K.toArray⟩ w8 HE.out).mono ?_
          rw [show (⟨K.toArray⟩ : ByteArray).data.toList = K by simp]
          rintro e w9 ⟨A9, n9, c9, ve, rfl, hev, hst, hb⟩
          rw [HJ.out.1] at hev
          rw [HJ.out.2.1] at hst
          obtain rfl := hev.nil rfl
          have HS9 := hid hst
          obtain ⟨bj, hbj⟩ : ∃ bj, prsS K = bj := ⟨_, rfl⟩
          rw [hbj]
          clear hbj
          replace HE := hid (HE.out.on hb)
          replace HST := hid (Sv.on HST.out hb)
          replace HP2 := hid (HP2.out.below hb HP2.out.lt)
          replace HV := hid (HV.out.trans (hb.mono HV.out.size))
          replace HS4 := hid (Sv.on HS4.out hb)
          replace HP4 := hid (HP4.out.below hb HP4.out.lt)
          replace HS6 := hid (Sv.on HS6.out hb)
          replace HP6c := hid (HP6c.out.below hb HP6c.out.lt)
          clear hev hst hb
          obtain ⟨w10, hw10⟩ : ∃ w10, w9.alloc (.cells #[.slice A9 n9 c9, .bool bj] 24) = w10 := ⟨_, rfl⟩
          have hba : Below w9.heap.size w9 w10 := by rw [← hw10]; exact (Below.refl _ _).alloc (Nat.le_refl _) _
          have HP9 := hid (show Blk w10 w9.heap.size 24 #[.slice A9 n9 c9, .bool bj] by rw [← hw10]; exact Blk.new _ _ _)
          replace HE := hid (HE.out.on hba)
          replace HST := hid (Sv.on HST.out hba)
          replace HP2 := hid (HP2.out.below hba HP2.out.lt)
          replace HV := hid (HV.out.trans (hba.mono HV.out.size))
          replace HS4 := hid (Sv.on HS4.out hba)
          replace HP4 := hid (HP4.out.below hba HP4.out.lt)
          replace HS6 := hid (Sv.on HS6.out hba)
          replace HP6c := hid (HP6c.out.below hba HP6c.out.lt)
          replace HS9 := hid (Sv.on HS9.out hba)
          replace hw10 := hid hw10
          clear hba
          have a0 : (w9.alloc (.cells #[.slice A9 n9 c9, .bool bj] 24)).cell? ⟨w4.heap.size, 0, none⟩ = some (.slice A4 n4 c4) := by rw [hw10.out]; exact HP4.out.cell 0
          have b0 : (w9.alloc (.cells #[.slice A9 n9 c9, .bool bj] 24)).cell? ⟨g, 0, none⟩ = some (.slice A1 0 c1) := by rw [hw10.out]; exact HP2.out.cell 0
          go_wp2_with fail
          rw [hw10.out]
          clear hw10 a0 b0
          refine (sameTexts_any A4 A1 n4 c4 0 c1 Q Q _ _ w10 HS4.out HST.out).mono ?_
          rw [decide_eq_true (rfl : Q = Q)]
          rintro e w11 ⟨rfl, q, hw⟩
          have hb : Below w10.heap.size w10 w11 := by rw [hw]; exact below_drewN (Below.refl _ _) q
          replace HE := hid (HE.out.on hb)
          replace HST := hid (Sv.on HST.out hb)
          replace HP2 := hid (HP2.out.below hb HP2.out.lt)
          replace HV := hid (HV.out.trans (hb.mono HV.out.size))
          replace HS4 := hid (Sv.on HS4.out hb)
          replace HP4 := hid (HP4.out.below hb HP4.out.lt)
          replace HS6 := hid (Sv.on HS6.out hb)
          replace HP6c := hid (HP6c.out.below hb HP6c.out.lt)
          replace HS9 := hid (Sv.on HS9.out hb)
          replace HP9 := hid (HP9.out.below hb HP9.out.lt)
          clear hb hw
          have a1 : w11.cell? ⟨w4.heap.size, 1, none⟩ = some (.bool false) := HP4.out.cell 1
          have b1 : w11.cell? ⟨g, 1, none⟩ = some (.bool false) := HP2.out.cell 1
          have b0 : w11.cell? ⟨g, 0, none⟩ = some (.slice A1 0 c1) := HP2.out.cell 0
          have d0 : w11.cell? ⟨w6.heap.size, 0, none⟩ = some (.slice A6 n6 c6) := HP6c.out.cell 0
          go_wp2_with fail
          clear a1 b1 b0 d0
          refine (sameTexts_any A6 A1 n6 c6 0 c1 Q Q _ _ w11 HS6.out HST.out).mono ?_
          rw [decide_eq_true (rfl : Q = Q)]
          rintro e w12 ⟨rfl, q, hw⟩
          have hb : Below w11.heap.size w11 w12 := by rw [hw]; exact below_drewN (Below.refl _ _) q
          replace HE := hid (HE.out.on hb)
          replace HST := hid (Sv.on HST.out hb)
          replace HP2 := hid (HP2.out.below hb HP2.out.lt)
          replace HV := hid (HV.out.trans (hb.mono HV.out.size))
          replace HS4 := hid (Sv.on HS4.out hb)
          replace HP4 := hid (HP4.out.below hb HP4.out.lt)
          replace HS6 := hid (Sv.on HS6.out hb)
          replace HP6c := hid (HP6c.out.below hb HP6c.out.lt)
          replace HS9 := hid (Sv.on HS9.out hb)
          replace HP9 := hid (HP9.out.below hb HP9.out.lt)
          clear hb hw
          have d1 : w12.cell? ⟨w6.heap.size, 1, none⟩ = some (.bool false) := HP6c.out.cell 1
          have b1 : w12.cell? ⟨g, 1, none⟩ = some (.bool false) := HP2.out.cell 1
          have b0 : w12.cell? ⟨g, 0, none⟩ = some (.slice A1 0 c1) := HP2.out.cell 0
          have z0 : w12.cell? ⟨w9.heap.size, 0, none⟩ = some (.slice A9 n9 c9) := HP9.out.cell 0
          go_wp2_with fail
          clear d1 b1 b0 z0
          refine (sameTexts_any A9 A1 n9 c9 0 c1 Q Q _ _ w12 HS9.out HST.out).mono ?_
          rw [decide_eq_true (rfl : Q = Q)]
          rintro e w13 ⟨rfl, q, hw⟩
          have hb : Below w12.heap.size w12 w13 := by rw [hw]; exact below_drewN (Below.refl _ _) q
          replace HV := hid (HV.out.trans (hb.mono HV.out.size))
          clear hb hw
          go_wp2
          go_ret
          exact ⟨rfl, HV.out⟩
        · have g0 : decide ((0 : Int) < (i : Int)) = true := decide_eq_true (by omega)
          have g1 : ((i : Int) == 0) = false := beq_eq_false_iff_ne.2 (by omega)
          have g2 : decide (0 < i) = true := decide_eq_true (by omega)
          go_upto_region 20 with fail
          rw [show Value.string (⟨s.toArray⟩ ++ ⟨#[47]⟩) = encStr (s ++ [47]) from str_app s [47]]
          obtain ⟨U, hU⟩ : ∃ U : Nam, (s ++ [47]) = U := ⟨_, rfl⟩
          have HU := hid (show prsC U = 0 ∧ prsP U = Q ∧ prsS U = true by rw [← hU]; exact ⟨(HSB.out.slash (by rw [HQl.out]; omega)).1, (HSB.out.slash (by rw [HQl.out]; omega)).2.1, (HSB.out.slash (by rw [HQl.out]; omega)).2.2.trans (by rw [HQl.out]; exact decide_eq_true (by omega))⟩)
          rw [hU]
          have HT := hid (txt_prs (b := true) HQg.out.1 HQg.out.2.1 (by rw [HQl.out]; omega) (by intro _ h; have := HQl.out; rw [h] at this; exact hi0 this.symm))
          obtain ⟨w2, hw2⟩ : ∃ w2, wr.setCell ⟨g, 1, none⟩ (.bool true) = w2 := ⟨_, rfl⟩
          rw [hw2]
          have HE2 := hid (HE.out)
          replace HE := hid (hS0.out.on (show Below w.heap.size w w2 by rw [← hw2]; exact HWr.out.setCell (by show w.heap.size ≤ g; exact HG.out) _))
          replace HST := hid (show St w2 w2.heap.size A1 i c1 Q by rw [← hw2]; have := Sv.aside HST.out (p := ⟨g, 1, none⟩) HF.out (.bool true); simpa using this)
          have HP2 := hid (show Blk w2 g 24 #[.slice A1 i c1, .bool true] by rw [← hw2]; exact HP.out.put 1 (.bool true))
          have HV := hid (show Below w.heap.size w w2 by rw [← hw2]; exact HWr.out.setCell (by show w.heap.size ≤ g; exact HG.out) _)
          have q0 : w2.cell? ⟨g, 0, none⟩ = some (.slice A1 i c1) := HP2.out.cell 0
          have q1 : w2.cell? ⟨g, 1, none⟩ = some (.bool true) := HP2.out.cell 1
          clear hU hw2 p1 e1 HE2 HO HP HWr HZ
          go_wp2_with fail
          refine (text_any A1 i c1 w2.heap.size Q true w2 HST.out (Nat.le_refl _) (by omega) HQg.out.2.2).mono ?_
          rintro e w3 ⟨rfl, hb⟩
          replace HE := hid (HE.out.on hb)
          replace HST := hid (Sv.on HST.out hb)
          replace HP2 := hid (HP2.out.below hb HP2.out.lt)
          replace HV := hid (HV.out.trans (hb.mono HV.out.size))
          clear hb q0 q1
          obtain ⟨T, hT⟩ : ∃ T, txt Q true = T := ⟨_, rfl⟩
          rw [hT] at HT ⊢
          clear hT
          go_wp2_with fail
          refine (parse_any S ⟨T.toArray⟩ w3 HE.out).mono ?_
          rw [show (⟨T.toArray⟩ : ByteArray).data.toList = T by simp]
          rintro e w4 ⟨A4, n4, c4, ve, rfl, hev, hst, hb⟩
          rw [HT.out.1] at hev
          rw [HT.out.2.1] at hst
          rw [HT.out.2.2]
          obtain rfl := hev.nil rfl
          have HS4 := hid hst
          replace HE := hid (HE.out.on hb)
          replace HST := hid (Sv.on HST.out hb)
          replace HP2 := hid (HP2.out.below hb HP2.out.lt)
          replace HV := hid (HV.out.trans (hb.mono HV.out.size))
          clear hev hst hb
          obtain ⟨w5, hw5⟩ : ∃ w5, w4.alloc (.cells #[.slice A4 n4 c4, .bool true] 24) = w5 := ⟨_, rfl⟩
          have hba : Below w4.heap.size w4 w5 := by rw [← hw5]; exact (Below.refl _ _).alloc (Nat.le_refl _) _
          have HP4 := hid (show Blk w5 w4.heap.size 24 #[.slice A4 n4 c4, .bool true] by rw [← hw5]; exact Blk.new _ _ _)
          replace HE := hid (HE.out.on hba)
          replace HST := hid (Sv.on HST.out hba)
          replace HP2 := hid (HP2.out.below hba HP2.out.lt)
          replace HV := hid (HV.out.trans (hba.mono HV.out.size))
          replace HS4 := hid (Sv.on HS4.out hba)
          replace hw5 := hid hw5
          clear hba
          go_wp2_with fail
          rw [hw5.out]
          clear hw5
          refine (parse_any S ⟨U.toArray⟩ w5 HE.out).mono ?_
          rw [show (⟨U.toArray⟩ : ByteArray).data.toList = U by simp]
          rintro e w6 ⟨A6, n6, c6, ve, rfl, hev, hst, hb⟩
          rw [HU.out.1] at hev
          rw [HU.out.2.1] at hst
          rw [HU.out.2.2]
          obtain rfl := hev.nil rfl
          have HS6 := hid hst
          replace HE := hid (HE.out.on hb)
          replace HST := hid (Sv.on HST.out hb)
          replace HP2 := hid (HP2.out.below hb HP2.out.lt)
          replace HV := hid (HV.out.trans (hb.mono HV.out.size))
          replace HS4 := hid (Sv.on HS4.out hb)
          replace HP4 := hid (HP4.out.below hb HP4.out.lt)
          clear hev hst hb
          obtain ⟨w7, hw7⟩ : ∃ w7, w6.alloc (.cells #[.slice A6 n6 c6, .bool true] 24) = w7 := ⟨_, rfl⟩
          have hba : Below w6.heap.size w6 w7 := by rw [← hw7]; exact (Below.refl _ _).alloc (Nat.le_refl _) _
          have HP6c := hid (show Blk w7 w6.heap.size 24 #[.slice A6 n6 c6, .bool true] by rw [← hw7]; exact Blk.new _ _ _)
          replace HE := hid (HE.out.on hba)
          replace HST := hid (Sv.on HST.out hba)
          replace HP2 := hid (HP2.out.below hba HP2.out.lt)
          replace HV := hid (HV.out.trans (hba.mono HV.out.size))
          replace HS4 := hid (Sv.on HS4.out hba)
          replace HP4 := hid (HP4.out.below hba HP4.out.lt)
          replace HS6 := hid (Sv.on HS6.out hba)
          replace hw7 := hid hw7
          clear hba
          have q0 : (w6.alloc (.cells #[.slice A6 n6 c6, .bool true] 24)).cell? ⟨g, 0, none⟩ = some (.slice A1 i c1) := by rw [hw7.out]; exact HP2.out.cell 0
          go_wp2_with fail
          rw [hw7.out]
          clear hw7 q0
          refine (pathJoin_any [] A1 i c1 w7.heap.size Q w7 HST.out (Nat.le_refl _) (by omega) HQg.out.2.2 (by decide)).mono ?_
          rw [List.nil_append]
          rintro e w8 ⟨rfl, hb⟩
          have HJ := hid ((SB.ofSlashed Q HQg.out.1 HQg.out.2.1).slash (by rw [HQl.out]; omega))
          have hJl := (SB.ofSlashed Q HQg.out.1 HQg.out.2.1).len
          rw [HQl.out] at hJl
          obtain ⟨J, hJ⟩ : ∃ J, slashed Q = J := ⟨_, rfl⟩
          rw [hJ] at HJ hJl ⊢
          have hJ2 : J.length ≤ 1000 := by omega
          clear hJ hJl
          replace HE := hid (HE.out.on hb)
          replace HST := hid (Sv.on HST.out hb)
          replace HP2 := hid (HP2.out.below hb HP2.out.lt)
          replace HV := hid (HV.out.trans (hb.mono HV.out.size))
          replace HS4 := hid (Sv.on HS4.out hb)
          replace HP4 := hid (HP4.out.below hb HP4.out.lt)
          replace HS6 := hid (Sv.on HS6.out hb)
          replace HP6c := hid (HP6c.out.below hb HP6c.out.lt)
          clear hb
          go_wp2_with fail
          rw [show Value.string (⟨J.toArray⟩ ++ ⟨#[47]⟩) = encStr (J ++ [47]) from str_app J [47]]
          obtain ⟨K, hK⟩ : ∃ K, J ++ [47] = K := ⟨_, rfl⟩
          rw [hK] at HJ ⊢
          clear hK
          refine (parse_any S ⟨K.toArray⟩ w8 HE.out).mono ?_
          rw [show (⟨K.toArray⟩ : ByteArray).data.toList = K by simp]
          rintro e w9 ⟨A9, n9, c9, ve, rfl, hev, hst, hb⟩
          rw [HJ.out.1] at hev
          rw [HJ.out.2.1] at hst
          obtain rfl := hev.nil rfl
          have HS9 := hid hst
          obtain ⟨bj, hbj⟩ : ∃ bj, prsS K = bj := ⟨_, rfl⟩
          rw [hbj]
          clear hbj
          replace HE := hid (HE.out.on hb)
          replace HST := hid (Sv.on HST.out hb)
          replace HP2 := hid (HP2.out.below hb HP2.out.lt)
          replace HV := hid (HV.out.trans (hb.mono HV.out.size))
          replace HS4 := hid (Sv.on HS4.out hb)
          replace HP4 := hid (HP4.out.below hb HP4.out.lt)
          replace HS6 := hid (Sv.on HS6.out hb)
          replace HP6c := hid (HP6c.out.below hb HP6c.out.lt)
          clear hev hst hb
          obtain ⟨w10, hw10⟩ : ∃ w10, w9.alloc (.cells #[.slice A9 n9 c9, .bool bj] 24) = w10 := ⟨_, rfl⟩
          have hba : Below w9.heap.size w9 w10 := by rw [← hw10]; exact (Below.refl _ _).alloc (Nat.le_refl _) _
          have HP9 := hid (show Blk w10 w9.heap.size 24 #[.slice A9 n9 c9, .bool bj] by rw [← hw10]; exact Blk.new _ _ _)
          replace HE := hid (HE.out.on hba)
          replace HST := hid (Sv.on HST.out hba)
          replace HP2 := hid (HP2.out.below hba HP2.out.lt)
          replace HV := hid (HV.out.trans (hba.mono HV.out.size))
          replace HS4 := hid (Sv.on HS4.out hba)
          replace HP4 := hid (HP4.out.below hba HP4.out.lt)
          replace HS6 := hid (Sv.on HS6.out hba)
          replace HP6c := hid (HP6c.out.below hba HP6c.out.lt)
          replace HS9 := hid (Sv.on HS9.out hba)
          replace hw10 := hid hw10
          clear hba
          have a0 : (w9.alloc (.cells #[.slice A9 n9 c9, .bool bj] 24)).cell? ⟨w4.heap.size, 0, none⟩ = some (.slice A4 n4 c4) := by rw [hw10.out]; exact HP4.out.cell 0
          have b0 : (w9.alloc (.cells #[.slice A9 n9 c9, .bool bj] 24)).cell? ⟨g, 0, none⟩ = some (.slice A1 i c1) := by rw [hw10.out]; exact HP2.out.cell 0
          go_wp2_with fail
          rw [hw10.out]
          clear hw10 a0 b0
          refine (sameTexts_any A4 A1 n4 c4 i c1 Q Q _ _ w10 HS4.out HST.out).mono ?_
          rw [decide_eq_true (rfl : Q = Q)]
          rintro e w11 ⟨rfl, q, hw⟩
          have hb : Below w10.heap.size w10 w11 := by rw [hw]; exact below_drewN (Below.refl _ _) q
          replace HE := hid (HE.out.on hb)
          replace HST := hid (Sv.on HST.out hb)
          replace HP2 := hid (HP2.out.below hb HP2.out.lt)
          replace HV := hid (HV.out.trans (hb.mono HV.out.size))
          replace HS4 := hid (Sv.on HS4.out hb)
          replace HP4 := hid (HP4.out.below hb HP4.out.lt)
          replace HS6 := hid (Sv.on HS6.out hb)
          replace HP6c := hid (HP6c.out.below hb HP6c.out.lt)
          replace HS9 := hid (Sv.on HS9.out hb)
          replace HP9 := hid (HP9.out.below hb HP9.out.lt)
          clear hb hw
          have a1 : w11.cell? ⟨w4.heap.size, 1, none⟩ = some (.bool true) := HP4.out.cell 1
          have b1 : w11.cell? ⟨g, 1, none⟩ = some (.bool true) := HP2.out.cell 1
          have b0 : w11.cell? ⟨g, 0, none⟩ = some (.slice A1 i c1) := HP2.out.cell 0
          have d0 : w11.cell? ⟨w6.heap.size, 0, none⟩ = some (.slice A6 n6 c6) := HP6c.out.cell 0
          go_wp2_with fail
          clear a1 b1 b0 d0
          refine (sameTexts_any A6 A1 n6 c6 i c1 Q Q _ _ w11 HS6.out HST.out).mono ?_
          rw [decide_eq_true (rfl : Q = Q)]
          rintro e w12 ⟨rfl, q, hw⟩
          have hb : Below w11.heap.size w11 w12 := by rw [hw]; exact below_drewN (Below.refl _ _) q
          replace HE := hid (HE.out.on hb)
          replace HST := hid (Sv.on HST.out hb)
          replace HP2 := hid (HP2.out.below hb HP2.out.lt)
          replace HV := hid (HV.out.trans (hb.mono HV.out.size))
          replace HS4 := hid (Sv.on HS4.out hb)
          replace HP4 := hid (HP4.out.below hb HP4.out.lt)
          replace HS6 := hid (Sv.on HS6.out hb)
          replace HP6c := hid (HP6c.out.below hb HP6c.out.lt)
          replace HS9 := hid (Sv.on HS9.out hb)
          replace HP9 := hid (HP9.out.below hb HP9.out.lt)
          clear hb hw
          have d1 : w12.cell? ⟨w6.heap.size, 1, none⟩ = some (.bool true) := HP6c.out.cell 1
          have b1 : w12.cell? ⟨g, 1, none⟩ = some (.bool true) := HP2.out.cell 1
          have b0 : w12.cell? ⟨g, 0, none⟩ = some (.slice A1 i c1) := HP2.out.cell 0
          have z0 : w12.cell? ⟨w9.heap.size, 0, none⟩ = some (.slice A9 n9 c9) := HP9.out.cell 0
          go_wp2_with fail
          clear d1 b1 b0 z0
          refine (sameTexts_any A9 A1 n9 c9 i c1 Q Q _ _ w12 HS9.out HST.out).mono ?_
          rw [decide_eq_true (rfl : Q = Q)]
          rintro e w13 ⟨rfl, q, hw⟩
          have hb : Below w12.heap.size w12 w13 := by rw [hw]; exact below_drewN (Below.refl _ _) q
          replace HV := hid (HV.out.trans (hb.mono HV.out.size))
          clear hb hw
          go_wp2
          go_ret
          exact ⟨rfl, HV.out⟩
end Go.Proofs.YtjoajjndopfbmaaDoor
