/- The walk of CrcAdds. -/
import Derived.Test.YtljgkkgeaojolaaGCrcC
import Derived.Test.YtljgkkgeaojolaaGRow
namespace Go.Proofs.Ytljgkkgeaojolaa
open Go.RowKit

set_option maxHeartbeats 400000 in
theorem crcAdds_far (A A' : Option Addr) (n c n' c' : Nat) (x y : Int) (w : World) (hn : 100 < n ∨ n ≤ 100 ∧ 100 < n') :
    Calls Try.prog 6 #[.slice A n c, .slice A' n' c', .int .u8 x, .int .u8 y] w (Yes w) := by
  rcases hn with hn | ⟨hn, hn'⟩
  · have h2 : (100 : Int) < n := by omega
    go_enter Try.func6, Try.ntmps6
    go_wp2_with fail
    refine (first_any _).mono ?_
    rintro e w1 ⟨rfl, hb⟩
    have HB := hid hb
    clear hb
    go_wp2
    go_ret
    exact ⟨rfl, HB.out⟩
  · have h2 : (100 : Int) < n' := by omega
    go_enter Try.func6, Try.ntmps6
    go_wp2_with fail
    refine (first_any _).mono ?_
    rintro e w1 ⟨rfl, hb⟩
    have HB := hid hb
    clear hb
    go_wp2
    go_ret
    exact ⟨rfl, HB.out⟩

set_option maxRecDepth 100000 in
set_option maxHeartbeats 1000000 in
theorem crcAdds_near (A A' : Option Addr) (n c n' c' : Nat) (l m : List Int) (x y : Nat) (w : World) (h : Sl w w.heap.size A n c l) (hm : Sl w w.heap.size A' n' c' m) (hl : Byt l) (hym : Byt m) (hn : n ≤ 100) (hn' : n' ≤ 100) (hx : x < 256) (hy : y < 256) :
    Calls Try.prog 6 #[.slice A n c, .slice A' n' c', .int .u8 (x : Int), .int .u8 (y : Int)] w (Yes w) := by
  obtain ⟨i0, hi, hz0, hz1, hz2⟩ := info_parts Try.info5
  have HS := hid h
  have HM := hid hm
  have HY := hid hl
  have HYM := hid hym
  have HL := hid h.len
  have HX := hid hx
  have HXY := hid hy
  clear h hm hl hym hx hy
  go_enter Try.func6, Try.ntmps6
  go_wp2_with fail
  refine (first_any _).mono ?_
  rintro e w1 ⟨rfl, hb⟩
  have HB1 := hid hb
  have HS1 := hid (HS.out.on hb)
  have HM1 := hid (HM.out.on hb)
  clear hb
  go_wp2_with fail
  refine (bytes_any A n c l _ HS1.out (by omega)).mono ?_
  rintro e w2 hm
  obtain ⟨v, rfl, ho, hb⟩ := hm
  have HN2 := hid hb
  have HO2 := hid ho
  clear hb ho
  go_wp2_with (at_builtin; refine wpList_append_own _ rfl _ _ 22 rfl w1.heap.size 5 i0 (.int .u8 0) 1 1 Try.underlying22 hi hz0 hz1 hz2 rfl (by decide) _ _ _ rfl (World.ownsRow.alloc HO2.out _) ⟨w2.heap.size, 0, none⟩ 1 1 [.int .u8 (x : Int)] rfl rfl ?c21 ?c22 ?c23 ?c24 ?c25 ?_)
  case c21 => exact cell_one_new _ _ _
  case c22 => intro u hu; simp at hu; subst hu; rfl
  case c23 => have := HL.out; unfold maxLen; omega
  case c24 => have := HL.out; omega
  case c25 => have := HN2.out.size; simp; omega
  intro v3 w3 hown hgrow _
  have ho : Own w3 w1.heap.size v3 (l ++ [(x : Int)]) := by
    unfold Own
    rw [I_append]
    simpa [I] using hown
  have hb : Below w1.heap.size w1 w3 := HN2.out.trans (((Below.refl _ _).alloc HN2.out.size _).grown hgrow (by have := HN2.out.size; simp; omega) (fun k hk => (HO2.out.lt k hk).1))
  have HO3 := hid ho
  have HN3 := hid hb
  clear hown hgrow ho hb
  go_wp2_with (at_builtin; refine wpList_append_sl rfl _ _ rfl w1.heap.size w1.heap.size _ _ m rfl HO3.out A' n' c' rfl (HM1.out.below HN3.out) ?hlen2 ?hB2 ?_)
  case hlen2 => have := HL.out; simp; omega
  case hB2 => exact HN3.out.size
  intro v4 w4 ho hb0
  have hb := HN3.out.trans hb0
  have HB4 := hid (HB1.out.trans (hb.mono HB1.out.size))
  have HS4 := hid (HS1.out.on hb)
  have HM4 := hid (HM1.out.on hb)
  obtain ⟨P4, hP4⟩ : ∃ P, P = l ++ (x : Int) :: m := ⟨_, rfl⟩
  rw [← hP4] at ho
  have HE4 := hid (show P4 = l ++ [(x : Int)] ++ m by rw [hP4]; simp)
  clear hP4
  obtain ⟨A4, C4, rfl, hs, _⟩ := ho.form
  obtain ⟨N4, hN4⟩ : ∃ n, P4.length = n := ⟨_, rfl⟩
  rw [hN4] at hs ⊢
  clear hN4
  have HP4 := hid hs
  clear hb0 hb ho hs
  go_wp2_with fail
  refine (bytes_any A n c l _ HS4.out (by omega)).mono ?_
  rintro e w5 hm
  obtain ⟨v, rfl, ho, hb⟩ := hm
  have HN5 := hid hb
  have HO5 := hid ho
  clear hb ho
  go_wp2_with (at_builtin; refine wpList_append_own _ rfl _ _ 22 rfl w4.heap.size 5 i0 (.int .u8 0) 1 1 Try.underlying22 hi hz0 hz1 hz2 rfl (by decide) _ _ _ rfl (World.ownsRow.alloc HO5.out _) ⟨w5.heap.size, 0, none⟩ 1 1 [.int .u8 (y : Int)] rfl rfl ?c51 ?c52 ?c53 ?c54 ?c55 ?_)
  case c51 => exact cell_one_new _ _ _
  case c52 => intro u hu; simp at hu; subst hu; rfl
  case c53 => have := HL.out; unfold maxLen; omega
  case c54 => have := HL.out; omega
  case c55 => have := HN5.out.size; simp; omega
  intro v6 w6 hown hgrow _
  have ho : Own w6 w4.heap.size v6 (l ++ [(y : Int)]) := by
    unfold Own
    rw [I_append]
    simpa [I] using hown
  have hb : Below w4.heap.size w4 w6 := HN5.out.trans (((Below.refl _ _).alloc HN5.out.size _).grown hgrow (by have := HN5.out.size; simp; omega) (fun k hk => (HO5.out.lt k hk).1))
  have HO6 := hid ho
  have HN6 := hid hb
  clear hown hgrow ho hb
  go_wp2_with (at_builtin; refine wpList_append_sl rfl _ _ rfl w4.heap.size w4.heap.size _ _ m rfl HO6.out A' n' c' rfl (HM4.out.below HN6.out) ?hlen5 ?hB5 ?_)
  case hlen5 => have := HL.out; simp; omega
  case hB5 => exact HN6.out.size
  intro v7 w7 ho hb0
  have hb := HN6.out.trans hb0
  have HB7 := hid (HB4.out.trans (hb.mono HB4.out.size))
  have HS7 := hid (HS4.out.on hb)
  have HM7 := hid (HM4.out.on hb)
  obtain ⟨P7, hP7⟩ : ∃ P, P = l ++ (y : Int) :: m := ⟨_, rfl⟩
  rw [← hP7] at ho
  have HE7 := hid (show P7 = l ++ [(y : Int)] ++ m by rw [hP7]; simp)
  clear hP7
  obtain ⟨A7, C7, rfl, hs, _⟩ := ho.form
  obtain ⟨N7, hN7⟩ : ∃ n, P7.length = n := ⟨_, rfl⟩
  rw [hN7] at hs ⊢
  clear hN7
  have HP7 := hid hs
  have HP4' := hid (HP4.out.on hb)
  clear hb0 hb ho hs
  have hyx : Byt P4 := by rw [HE4.out]; exact (HY.out.append (fun z hz => by rw [List.mem_singleton.1 hz]; have := HX.out; omega)).append HYM.out
  have hyy : Byt P7 := by rw [HE7.out]; exact (HY.out.append (fun z hz => by rw [List.mem_singleton.1 hz]; have := HXY.out; omega)).append HYM.out
  obtain ⟨s1, e1⟩ : ∃ s, crcOf (nats P4) = s := ⟨_, rfl⟩
  obtain ⟨s2, e2⟩ : ∃ s, crcOf (nats P7) = s := ⟨_, rfl⟩
  obtain ⟨t, ht⟩ : ∃ t, ((x : Int) == (y : Int)) = t := ⟨_, rfl⟩
  have hs : (((s1 : Nat) : Int) == ((s2 : Nat) : Int)) = t := by
    rw [← ht]
    by_cases e : x = y
    · subst e
      rw [← e1, ← e2, HE4.out, HE7.out]; simp
    · have hne : s1 ≠ s2 := by
        intro h
        rw [← e1, ← e2, HE4.out, HE7.out, nats_append, nats_append, nats_append, nats_append] at h
        have := crc_tells (nats_bts HY.out) (l := [x]) (m := [y]) (fun z hz => by rw [List.mem_singleton.1 hz]; exact HX.out) (fun z hz => by rw [List.mem_singleton.1 hz]; exact HXY.out) (nats_bts HYM.out) rfl (by simp) h
        exact e (by injection this)
      have h1 : (((s1 : Nat) : Int) == ((s2 : Nat) : Int)) = false := by rw [beq_eq_false_iff_ne]; omega
      have h2 : ((x : Int) == (y : Int)) = false := by rw [beq_eq_false_iff_ne]; omega
      rw [h1, h2]
  have E1 := hid e1
  have E2 := hid e2
  have HY1 := hid hyx
  have HY2 := hid hyy
  clear e1 e2 hyx hyy
  have E0 := hid (show crcOf (nats []) = 0 from crc_nil)
  go_wp2_with fail
  refine (sum_any none 0 0 0 [] _ (Sl.empty _ _) Byt.nil).mono ?_
  rw [E0.out]
  rintro e w' ⟨rfl, rfl⟩
  go_wp2_with fail
  refine (sum_any _ _ _ _ _ _ HP4'.out HY1.out).mono ?_
  rw [E1.out]
  rintro e w' ⟨rfl, rfl⟩
  go_wp2_with fail
  refine (sum_any _ _ _ _ _ _ HP7.out HY2.out).mono ?_
  rw [E2.out]
  rintro e w' ⟨rfl, rfl⟩
  go_wp2
  go_ret
  exact ⟨rfl, HB7.out⟩
theorem crcAdds_all (A : Option Addr) (n c : Nat) (zs : List Int) (A' : Option Addr) (n' c' : Nat) (zs' : List Int) (x y : Int) (w : World) (hr : IsRow .u8 w A n c zs) (hr' : IsRow .u8 w A' n' c' zs') (hx : (Lit.int .u8 x).wf = true) (hy : (Lit.int .u8 y).wf = true) :
    Calls Try.prog 6 #[.slice A n c, .slice A' n' c', .int .u8 x, .int .u8 y] w (Yes w) := by
  have hS := sl_of_row hr
  have hY := byt_of_row hr
  have hS' := sl_of_row hr'
  have hY' := byt_of_row hr'
  have h1 := bounds_u8 hx
  have h2 := bounds_u8 hy
  rcases Nat.lt_or_ge 100 n with h | h
  · exact crcAdds_far A A' n c n' c' x y w (.inl h)
  · rcases Nat.lt_or_ge 100 n' with h' | h'
    · exact crcAdds_far A A' n c n' c' x y w (.inr ⟨h, h'⟩)
    · obtain ⟨i, rfl⟩ : ∃ i : Nat, x = (i : Int) := ⟨x.toNat, by omega⟩
      obtain ⟨j, rfl⟩ : ∃ j : Nat, y = (j : Int) := ⟨y.toNat, by omega⟩
      exact crcAdds_near A A' n c n' c' _ _ i j w hS hS' hY hY' h h' (by omega) (by omega)
end Go.Proofs.Ytljgkkgeaojolaa
