/- The chapter's example; DirOwn, walked. -/
import Derived.Test.YtcjiimfgmmgifaaDoorGDrIf
namespace Go.Proofs.YtcjiimfgmmgifaaDoor
open Go.RowKit Go.Shelf Go.Sort

set_option maxRecDepth 100000 in
set_option maxHeartbeats 1000000 in
theorem first14_any {DR : World → Nat → List En → (Nat → Prop) → Prop} (O : DirOk DR) (S : Nat → Addr) (w : World) (hS : Sent w S) : Calls Tryd.prog 6 #[] w (Yes w) := by
  have HS := hid hS
  have HD := hid (dk_zero O (w0 := w) (w := w) (ks := []) (Below.refl _ _) (fun K h => by cases h))
  clear hS
  go_enter Tryd.func6, Tryd.ntmps6
  go_wp2_with fail
  refine (dk_add O S ⟨[46], 2, 1⟩ HS.out HD.out (by simp) ⟨by simp, by simp, by simp, by simp, by simp⟩).mono ?_
  rintro e w1 ⟨⟨v, rfl, hv⟩, hd⟩
  have hc : addC [] ⟨[46], 2, 1⟩ = 114 := by kernel_rfl
  rw [hc] at hv
  have HV := hid hv
  have HD1 := hid hd
  clear hv hd hc
  go_wp2_with fail
  refine (is_any S _ _ _ _ (HS.out.on HD1.out.below) HV.out).mono ?_
  rintro e w2 ⟨rfl, hb⟩
  have HB := hid (HD1.out.below.trans (hb.mono HD1.out.below.size))
  clear hb
  go_wp2
  go_ret
  exact ⟨rfl, HB.out⟩
theorem let1 (b : Nam) (h : b = [97] ∨ b = [98]) : vldC ⟨b.toArray⟩ = 0 ∧ spec ⟨b.toArray⟩ = false := by
  rcases h with rfl | rfl <;> exact ⟨by kernel_rfl, by kernel_rfl⟩
theorem addC_right {D : List En} {e : En} (h : e.s = [97] ∨ e.s = [98]) (hr : rightE e = true) : addC D e = if fnd D e.s < D.length then 110 else 0 := by
  obtain ⟨h1, h2⟩ := let1 _ h
  unfold addC
  rw [if_pos h1, h2, hr]
  simp
set_option maxRecDepth 100000 in
set_option maxHeartbeats 4000000 in
theorem dirOwn_any {DR : World → Nat → List En → (Nat → Prop) → Prop} (O : DirOk DR) (S : Nat → Addr) (x y z : Int) (w : World) (hS : Sent w S) :
    Calls Tryd.prog 5 #[.int .i64 x, .int .i64 y, .int .i64 z] w (Yes w) := by
  have HS := hid hS
  clear hS
  obtain ⟨n, hn, hn0, hn1⟩ : ∃ n : Int, x % 900 = n ∧ 0 ≤ n ∧ n < 900 := ⟨_, rfl, by omega, by omega⟩
  obtain ⟨m, hm, hm0, hm1⟩ : ∃ m : Int, y % 900 = m ∧ 0 ≤ m ∧ m < 900 := ⟨_, rfl, by omega, by omega⟩
  obtain ⟨k, hk, hk0, hk1⟩ : ∃ k : Int, z % 3 = k ∧ 0 ≤ k ∧ k < 3 := ⟨_, rfl, by omega, by omega⟩
  have HX := hid hn
  have HY := hid hm
  have HZ := hid hk
  have hr0 : ∀ (s : Nam) (a b : Int), 0 ≤ a → a < 900 → 0 ≤ b → b < 3 → rightE ⟨s, a + 1, b + 1⟩ = true := fun s a b h1 h2 h3 h4 => by unfold rightE; simp; omega
  have hr1 : ∀ (s : Nam) (a : Int), 0 ≤ a → a < 900 → rightE ⟨s, a + 1, 1⟩ = true := fun s a h1 h2 => by unfold rightE; simp; omega
  have A1 := hid (show addC [] ⟨[98], n + 1, 1⟩ = 0 ∧ addE [] ⟨[98], n + 1, 1⟩ = [⟨[98], n + 1, 1⟩] from by
    have h : addC [] ⟨[98], n + 1, 1⟩ = 0 := by
      rw [addC_right (by simp) (hr1 _ n hn0 hn1)]
      rfl
    refine ⟨h, ?_⟩
    unfold addE
    rw [if_pos h]
    rfl)
  have A2 := hid (show addC [⟨[98], n + 1, 1⟩] ⟨[97], n + 1, 1⟩ = 0 ∧ addE [⟨[98], n + 1, 1⟩] ⟨[97], n + 1, 1⟩ = [⟨[97], n + 1, 1⟩, ⟨[98], n + 1, 1⟩] from by
    have h : addC [⟨[98], n + 1, 1⟩] ⟨[97], n + 1, 1⟩ = 0 := by
      rw [addC_right (by simp) (hr1 _ n hn0 hn1)]
      rfl
    refine ⟨h, ?_⟩
    unfold addE
    rw [if_pos h]
    rfl)
  have A3 := hid (show addC [⟨[97], n + 1, 1⟩, ⟨[98], n + 1, 1⟩] ⟨[98], m + 1, 1⟩ = 110 ∧ addE [⟨[97], n + 1, 1⟩, ⟨[98], n + 1, 1⟩] ⟨[98], m + 1, 1⟩ = [⟨[97], n + 1, 1⟩, ⟨[98], n + 1, 1⟩] from by
    have h : addC [⟨[97], n + 1, 1⟩, ⟨[98], n + 1, 1⟩] ⟨[98], m + 1, 1⟩ = 110 := by
      rw [addC_right (by simp) (hr1 _ m hm0 hm1)]
      rfl
    refine ⟨h, ?_⟩
    unfold addE
    rw [h]
    rfl)
  have A4 := hid (show (isIn [⟨[97], n + 1, 1⟩, ⟨[98], n + 1, 1⟩] [98] && rightE ⟨[111, 116, 104, 101, 114], m + 1, k + 1⟩) = true ∧ setE [⟨[97], n + 1, 1⟩, ⟨[98], n + 1, 1⟩] [98] ⟨[111, 116, 104, 101, 114], m + 1, k + 1⟩ = [⟨[97], n + 1, 1⟩, ⟨[98], m + 1, k + 1⟩] from by
    unfold setE
    rw [hr0 _ m k hm0 hm1 hk0 hk1]
    exact ⟨rfl, rfl⟩)
  have A5 := hid (show (isIn [⟨[97], n + 1, 1⟩, ⟨[98], m + 1, k + 1⟩] [99] && rightE ⟨[99], m + 1, k + 1⟩) = false ∧ setE [⟨[97], n + 1, 1⟩, ⟨[98], m + 1, k + 1⟩] [99] ⟨[99], m + 1, k + 1⟩ = [⟨[97], n + 1, 1⟩, ⟨[98], m + 1, k + 1⟩] from by
    unfold setE
    rw [hr0 _ m k hm0 hm1 hk0 hk1]
    exact ⟨rfl, rfl⟩)
  clear hn hm hk hr0 hr1
  go_enter Tryd.func5, Tryd.ntmps5
  go_wp2_with fail
  refine (first14_any O S w HS.out).mono ?_
  rintro e w1 ⟨rfl, hb⟩
  have HB1 := hid hb
  clear hb
  go_wp2_with fail
  refine (number_any x 900 _ (by omega) (by omega)).mono ?_
  rintro e w2 ⟨rfl, rfl⟩
  rw [HX.out]
  go_wp2_with fail
  refine (number_any y 900 _ (by omega) (by omega)).mono ?_
  rintro e w2 ⟨rfl, rfl⟩
  rw [HY.out]
  go_wp2_with fail
  refine (number_any z 3 _ (by omega) (by omega)).mono ?_
  rintro e w2 ⟨rfl, rfl⟩
  rw [HZ.out]
  have HD0 := hid (dk_zero O (w0 := w) (ks := []) HB1.out (fun K h => by cases h))
  go_wp2_with fail
  refine (dk_add O S ⟨[98], n + 1, 1⟩ HS.out HD0.out (by simp) ⟨by simp, by simp; omega, by simp; omega, by simp, by simp⟩).mono ?_
  rintro e w2 ⟨⟨v, rfl, hv⟩, hd⟩
  rw [A1.out.1] at hv
  rw [A1.out.2] at hd
  obtain rfl := hv.nil
  have HD1 := hid hd
  clear hv hd
  go_wp2_with fail
  refine (dk_add O S ⟨[97], n + 1, 1⟩ HS.out HD1.out (by simp) ⟨by simp, by simp; omega, by simp; omega, by simp, by simp⟩).mono ?_
  rintro e w3 ⟨⟨v, rfl, hv⟩, hd⟩
  rw [A2.out.1] at hv
  rw [A2.out.2] at hd
  obtain rfl := hv.nil
  have HD2 := hid hd
  clear hv hd
  go_wp2_with fail
  refine (dk_add O S ⟨[98], m + 1, 1⟩ HS.out HD2.out (by simp) ⟨by simp, by simp; omega, by simp; omega, by simp, by simp⟩).mono ?_
  rintro e w4 ⟨⟨v, rfl, hv⟩, hd⟩
  rw [A3.out.1] at hv
  rw [A3.out.2] at hd
  have HV := hid hv
  have HD3 := hid hd
  clear hv hd
  go_wp2_with fail
  refine (dk_all O HD3.out (by simp)).mono ?_
  rintro e w5 ⟨⟨vl, rfl, ho, hb⟩, hd⟩
  have HD5 := hid (HD3.out.made O hb ho (Nat.le_refl _))
  have HB4 := hid HD3.out.below.size
  have HO5 := hid ho
  clear hb ho hd HD3
  obtain ⟨gl, cl, rfl, hgl⟩ : ∃ gl cl, vl = .slice (some ⟨gl, 0, none⟩) 2 cl ∧ 2 ≤ cl := by
    rcases HO5.out.2 with ⟨_, h0⟩ | ⟨g', cap', cur, hv, _, _, h2, _⟩
    · cases h0
    · exact ⟨g', cap', hv, h2⟩
  have hr5 : World.ownsRow w5 w4.heap.size 29 3 (.slice (some ⟨gl, 0, none⟩) 2 cl) 2 _ := HO5.out
  have e0 : w5.cell? ⟨gl, 0, none⟩ = some (encStr [97]) := hr5.cellAt 0 (by decide)
  have e4 : w5.cell? ⟨gl, 4, none⟩ = some (.int .i64 (n + 1)) := hr5.cellAt 4 (by decide)
  have f0 := row_free hr5 0
  have f4 := row_free hr5 4
  have HD6 := hid (((HD5.out.store O (i := 0) (u := .string ⟨#[122]⟩) (fun L h => by cases h) (by have := HB4.out; exact this)).store O (i := 4) (u := .int .i64 7) (fun L h => by cases h) (by have := HB4.out; exact this)))
  have e4' : (w5.setCell ⟨gl, 0, none⟩ (.string ⟨#[122]⟩)).cell? ⟨gl, 4, none⟩ = some (.int .i64 (n + 1)) := by
    have := (hr5.stored 0 (.string ⟨#[122]⟩)).1.cellAt 4 (by decide)
    exact this
  have f4' := row_free (hr5.stored 0 (.string ⟨#[122]⟩)).1 4
  clear hr5 HD5 HO5
  go_wp2_with fail
  refine (dk_set O [98] ⟨[111, 116, 104, 101, 114], m + 1, k + 1⟩ HD6.out (by simp) ⟨by simp, by simp; omega, by simp; omega, by simp; omega, by simp; omega⟩).mono ?_
  rintro e w6 ⟨rfl, hd⟩
  rw [A4.out.2] at hd
  rw [A4.out.1]
  have HD7 := hid hd
  clear hd HD6 e0 e4 f0 f4 e4' f4'
  go_wp2_with fail
  refine (dk_set O [99] ⟨[99], m + 1, k + 1⟩ HD7.out (by simp) ⟨by simp, by simp; omega, by simp; omega, by simp; omega, by simp; omega⟩).mono ?_
  rintro e w7 ⟨rfl, hd⟩
  rw [A5.out.2] at hd
  rw [A5.out.1]
  have HD8 := hid hd
  clear hd HD7
  go_wp2_with fail
  refine (dk_get O [98] HD8.out (by simp)).mono ?_
  rintro e w8 ⟨⟨xb, rfl, hx⟩, hb, hd⟩
  obtain rfl : xb = ⟨[98], m + 1, k + 1⟩ := hx _ rfl
  have hi : isIn [⟨[97], n + 1, 1⟩, ⟨[98], m + 1, k + 1⟩] [98] = true := rfl
  rw [hi]
  have HD9 := hid (hd.tail.box (O.stays _ _) 29 #[encStr [98], .int .i64 (m + 1), .int .i64 (k + 1)])
  clear hd hb hx hi HD8
  go_wp2_with fail
  refine (dk_get O [111, 116, 104, 101, 114] HD9.out (by simp)).mono ?_
  rintro e w9 ⟨⟨⟨xs, xn, xk⟩, rfl, _⟩, hb, hd⟩
  have hi : isIn [⟨[97], n + 1, 1⟩, ⟨[98], m + 1, k + 1⟩] [111, 116, 104, 101, 114] = false := rfl
  rw [hi]
  have HD10 := hid (hd.box (O.stays _ _) 29 #[encStr xs, .int .i64 xn, .int .i64 xk])
  clear hd hb hi HD9
  go_wp2_with fail
  refine (is_any S _ _ _ _ (HS.out.on HD10.out.below) HV.out).mono ?_
  rintro e w10 ⟨rfl, hb⟩
  have HD11 := hid (HD10.out.on (O.stays _ _) hb)
  clear hb HD10
  have hbx : Blk w10 w8.heap.size 29 #[encStr [98], .int .i64 (m + 1), .int .i64 (k + 1)] := HD11.out.get (K := Ly.blk w8.heap.size 29 #[encStr [98], .int .i64 (m + 1), .int .i64 (k + 1)]) (by simp)
  have c0 := hbx.cell 0
  have c1 := hbx.cell 1
  have c2 := hbx.cell 2
  simp at c0 c1 c2
  clear hbx
  go_wp2_with fail
  refine (dk_len O HD11.out).mono ?_
  rintro e w11 ⟨rfl, hd, hb⟩
  have HD12 := hid hd
  clear hd hb HD11 c0 c1 c2
  go_wp2_with fail
  refine (dk_all O HD12.out (by simp)).mono ?_
  rintro e w12 ⟨⟨vl, rfl, ho, hb⟩, hd⟩
  obtain ⟨A2, c2, rfl, hsl, _⟩ := ho.form
  have HL := hid (hsl.on ((Below.refl _ _).alloc (Nat.le_refl _) (.cells (EC [⟨[97], n + 1, 1⟩, ⟨[98], m + 1, k + 1⟩]).toArray 29)))
  have HM := hid (esl_lit w12 [⟨[97], n + 1, 1⟩, ⟨[98], m + 1, k + 1⟩] (by simp))
  have HB12 := hid (hd.below.alloc hd.below.size (.cells (EC [⟨[97], n + 1, 1⟩, ⟨[98], m + 1, k + 1⟩]).toArray 29))
  have HSz := hid (show w12.heap.size + 1 ≤ (w12.alloc (.cells (EC [⟨[97], n + 1, 1⟩, ⟨[98], m + 1, k + 1⟩]).toArray 29)).heap.size from by rw [World.alloc]; simp)
  clear hd hb ho hsl HD12
  go_wp2_with fail
  refine (sameEntrys_any _ _ _ _ _ _ _ _ _ _ _ HL.out HM.out (Nat.le_refl _) HSz.out).mono ?_
  rintro e w13 ⟨rfl, hb⟩
  have HB13 := hid (HB12.out.trans (hb.mono HB12.out.size))
  clear hb
  have hs : decide (([⟨[97], n + 1, 1⟩, ⟨[98], m + 1, k + 1⟩] : List En) = [⟨[97], n + 1, 1⟩, ⟨[98], m + 1, k + 1⟩]) = true := by simp
  rw [hs]
  go_wp2
  go_ret
  exact ⟨rfl, HB13.out⟩
end Go.Proofs.YtcjiimfgmmgifaaDoor
