/- Package blob's own area: Get, Good, Drop. -/
import Derived.Test.YtfdabbpfphnbhaaDoorGBmE
namespace Go.Proofs.YtfdabbpfphnbhaaDoor
open Go.RowKit

theorem read_bytM {s : DSt} {n q k : Nat} (u : Up s n q) (hk : k < n) : Byt (s.read (k : Int)).2 := by
  obtain ⟨b, hb⟩ := u.at_ hk
  have ho := u.okN.1 b (List.mem_of_getElem? hb)
  rw [u.read hk hb]
  unfold BSt.read
  split
  · exact ho.2.2.1
  · split
    · exact Byt.nil
    · exact ho.1
section
variable {Real : World → Nat → DSt → (Nat → Prop) → Prop}
theorem useOf_dat {n : Nat} {a : ASt} (k : Nat) : ∃ v : Int, (if 0 ≤ (k : Int) ∧ (k : Int) < (n : Int) then useV n a (k : Int).toNat else 0) = v ∧ ((isDat n (k : Int) = false ∧ v = 0) ∨ (isDat n (k : Int) = true ∧ datN n ≤ k ∧ k < n ∧ (v == 0) = false ∧ v = useV n a k)) := by
  refine ⟨_, rfl, ?_⟩
  unfold isDat
  by_cases h : k < n
  · rw [if_pos ⟨by omega, by omega⟩]
    show (_ ∧ useV n a k = 0) ∨ _
    by_cases h2 : k < datN n
    · exact .inl ⟨by simp; omega, useV_aside.2 h2⟩
    · refine .inr ⟨by simp; omega, by omega, h, ?_, rfl⟩
      rw [beq_eq_false_iff_ne]
      exact fun e => h2 (useV_aside.1 e)
  · rw [if_neg (by omega)]
    exact .inl ⟨by simp; omega, rfl⟩
set_option maxRecDepth 100000 in
set_option maxHeartbeats 4000000 in
theorem bget_any (D : DevOk Real) (S : Nat → Addr) (d g u n nx q k z : Nat) (s : DSt) (a : ASt) (F : Nat → Prop) (w0 w : World) (h : Bd Real AReal S w0 w d g s n a q F (ARw g u)) (ha : ARat w g u d n a nx) (hk : k ≤ 6000) :
    Calls Tryd.prog 21 #[.pointer (some ⟨g, 0, none⟩), .agg #[.int .i64 (k : Int), .int .u32 (z : Int)]] w fun e w' => Below w.heap.size w w' ∧ ∃ A m c v, e = .returned (.tuple #[.slice A m c, v]) ∧ EV S (getA s n (k : Int) z).1 v ∧ ((getA s n (k : Int) z).1 = 0 → Sl w' w'.heap.size A m c (getA s n (k : Int) z).2 ∧ ∀ ad, A = some ad → w.heap.size ≤ ad.block) := by
  have hb0 : Below w.heap.size w (w.alloc (Obj.cells #[.int .i64 (k : Int), .int .u32 (z : Int)] 36)) := (Below.refl _ _).alloc (Nat.le_refl _) _
  have HH := hid (bd_on D h hb0)
  have HA := hid (ha.on hb0)
  have HB := hid hb0
  have hn6 := h.n1
  have HN := hid hn6
  have HGl := hid (show ∀ w' j, j < 24 → Below w.heap.size w w' → w'.cell? ⟨glo.getD j 0, 0, none⟩ = some (.iface 118 (.pointer (some (S j)))) from fun w' j hj hb => (h.sent.on hb).at_ j hj)
  have hbk := Blk.new w 36 #[.int .i64 (k : Int), .int .u32 (z : Int)]
  have HBk := hid hbk
  have b0 := hbk.cell 0
  simp at b0
  have hki : (k : Int) ≤ 6000 := by omega
  obtain ⟨v, hv, hw⟩ := useOf_dat (n := n) (a := a) k
  have HV := hid hv
  clear h ha hb0 hbk hv
  go_enter Tryd.func21, Tryd.ntmps21
  go_wp2_with fail
  refine (useOf_any g u d n nx a (k : Int) _ HA.out (by omega) (by omega)).mono ?_
  rw [HV.out]
  rintro e w1 ⟨rfl, rfl⟩
  rcases hw with ⟨hd, rfl⟩ | ⟨hd, hk0, hk1, hne, hve⟩
  · have hg := HGl.out _ 2 (by decide) HB.out
    have hget : getA s n (k : Int) z = (103, []) := by unfold getA; rw [hd]; rfl
    have HGe := hid hget
    clear hd hget
    have hg1 : (w.alloc (Obj.cells #[.int .i64 (k : Int), .int .u32 (z : Int)] 36)).cell? ⟨0, 0, none⟩ = some (.iface 118 (.pointer (some (S 2)))) := hg
    go_wp2_with fail
    go_quiet (fail)
    go_wp2
    go_ret2
    exact ⟨below_drewN HB.out _, none, 0, 0, _, rfl, by rw [HGe.out]; exact .err 2 (by decide), fun h => by rw [HGe.out] at h; cases h⟩
  · have c0 := HA.out.cells.1
    have hrd := D.read S d s F (k : Int) (w.alloc (Obj.cells #[.int .i64 (k : Int), .int .u32 (z : Int)] 36)).drew (HH.out.sent.drew.five) ((bd_on D HH.out (Below.refl _ _).drew).real) HH.out.dok
    have HGt := hid (show getA s n (k : Int) z = (if (s.read (k : Int)).1 = 0 then (if crcOf (nats (s.read (k : Int)).2) = z then (0, (s.read (k : Int)).2) else (107, [])) else ((s.read (k : Int)).1, [])) from by unfold getA; rw [hd]; rfl)
    have HY := hid (read_bytM (k := k) HH.out.up hk1)
    clear hd hk0 hk1 hve b0
    go_wp2_with fail
    generalize hW : w.alloc (Obj.cells #[.int .i64 (k : Int), .int .u32 (z : Int)] 36) = W at HH HA HB HBk c0 hrd ⊢
    have HRd := hid hrd
    have b0 := HBk.out.cell 0
    simp at b0
    have HZ := hid (show ∀ wx, Below W.heap.size W wx → wx.cell? ⟨g, 0, none⟩ = some (.pointer (some ⟨d, 0, none⟩)) ∧ wx.cell? ⟨w.heap.size, 0, none⟩ = some (.int .i64 (k : Int)) from fun wx hb => ⟨(HA.out.on hb).cells.1, (HBk.out.below hb HBk.out.lt).cell 0⟩)
    have hzd := HZ.out _ (Below.refl _ _).drew
    clear hrd hW
    go_region_held3 (fun w' => w'.cell? ⟨g, 0, none⟩ = some (.pointer (some ⟨d, 0, none⟩)) ∧ w'.cell? ⟨w.heap.size, 0, none⟩ = some (.int .i64 (k : Int))) (assumption)
      ((go_at_call 20; refine HRd.out.mono ?_; rintro e w3 ⟨A, m, c, v3, rfl, hv3, hl3, hb3, hn3⟩; have HV3 := hid hv3; have HL3 := hid hl3; have HN3 := hid hn3; have HB3 := hid ((Below.refl W.heap.size W).drew.trans hb3); have hz3 := HZ.out _ HB3.out; clear hv3 hl3 hn3 hb3))
    have HBe := hid (HB.out.trans (HB3.out.mono HB.out.size))
    have k1 := (HBk.out.below HB3.out HBk.out.lt).cell 1
    simp at k1
    clear hzd hz3 c0
    by_cases hc : (s.read (k : Int)).1 = 0
    · have hv0 : v3 = .nilIface := by have := HV3.out; rw [hc] at this; exact this.nil
      subst hv0
      by_cases hcr : crcOf (nats (s.read (k : Int)).2) = z
      · have HGe := hid (show getA s n (k : Int) z = (0, (s.read (k : Int)).2) from by rw [HGt.out, if_pos hc, if_pos hcr])
        have hSum := hid (fun q => sum_any A m c _ _ (w3.drewN q) (HL3.out.on (below_drewN (Below.refl _ _) q)) HY.out)
        rw [hcr] at hSum
        clear hc hcr
        go_wp2_with fail
        go_quiet ((go_at_call 39; exact Calls.quiet_of_same ((hSum.out _).mono fun e w' h => ⟨h.1, h.2.symm⟩)))
        go_wp2
        go_ret2
        exact ⟨below_drewN HBe.out _, A, m, c, _, rfl, by rw [HGe.out]; exact .fine, fun _ => by
          rw [HGe.out]
          exact ⟨HL3.out.on (below_drewN (Below.refl _ _) _), fun ad he => by have := HN3.out ad he; have := HB.out.size; simp at *; omega⟩⟩
      · have HGe := hid (show getA s n (k : Int) z = (107, []) from by rw [HGt.out, if_pos hc, if_neg hcr])
        have hSum := hid (fun q => sum_any A m c _ _ (w3.drewN q) (HL3.out.on (below_drewN (Below.refl _ _) q)) HY.out)
        obtain ⟨y, hy⟩ : ∃ y, crcOf (nats (s.read (k : Int)).2) = y := ⟨_, rfl⟩
        rw [hy] at hSum hcr
        have hyz : ¬ (y : Int) = (z : Int) := by omega
        have hg := HGl.out _ 6 (by decide) HBe.out
        have hg1 : w3.cell? ⟨3, 0, none⟩ = some (.iface 118 (.pointer (some (S 6)))) := hg
        clear hc hcr hy hg
        go_wp2_with fail
        go_quiet ((go_at_call 39; exact Calls.quiet_of_same ((hSum.out _).mono fun e w' h => ⟨h.1, h.2.symm⟩)))
        go_wp2_with fail
        go_quiet (fail)
        go_wp2
        go_ret2
        rw [World.drewN_drewN]
        exact ⟨below_drewN HBe.out _, none, 0, 0, _, rfl, by rw [HGe.out]; exact .err 6 (by decide), fun h => by rw [HGe.out] at h; cases h⟩
    · have HGe := hid (show getA s n (k : Int) z = ((s.read (k : Int)).1, []) from by rw [HGt.out, if_neg hc])
      have HC := hid hc
      obtain ⟨j, rfl⟩ := HV3.out.is hc
      clear hc
      go_wp2
      go_ret2
      exact ⟨HBe.out, none, 0, 0, _, rfl, by rw [HGe.out]; exact HV3.out, fun h => by rw [HGe.out] at h; exact absurd h HC.out⟩
end
end Go.Proofs.YtfdabbpfphnbhaaDoor
