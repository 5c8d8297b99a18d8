/- Package blob's own area: Good, Drop, Done. -/
import Derived.Test.YtfdabbpfphnbhaaDoorGBmF
namespace Go.Proofs.YtfdabbpfphnbhaaDoor
open Go.RowKit

section
variable {Real : World → Nat → DSt → (Nat → Prop) → Prop}
set_option maxRecDepth 100000 in
set_option maxHeartbeats 4000000 in
theorem bgood_any (D : DevOk Real) (S : Nat → Addr) (d g u n nx q k z : Nat) (s : DSt) (a : ASt) (F : Nat → Prop) (w0 w : World) (h : Bd Real AReal S w0 w d g s n a q F (ARw g u)) (ha : ARat w g u d n a nx) (hk : k ≤ 6000) :
    Calls Tryd.prog 23 #[.pointer (some ⟨g, 0, none⟩), .agg #[.int .i64 (k : Int), .int .u32 (z : Int)]] w fun e w' => e = .returned (.bool ((getA s n (k : Int) z).1 == 0)) ∧ Below w.heap.size w w' := by
  have hb0 : Below w.heap.size w (w.alloc (Obj.cells #[.int .i64 (k : Int), .int .u32 (z : Int)] 36)) := (Below.refl _ _).alloc (Nat.le_refl _) _
  have HG := hid (bget_any D S d g u n nx q k z s a F w0 _ (bd_on D h hb0) (ha.on hb0) hk)
  have HB := hid hb0
  clear h ha hb0
  go_enter Tryd.func23, Tryd.ntmps23
  go_wp2_with fail
  refine HG.out.mono ?_
  rintro e w1 ⟨hb, A, m, c, v, rfl, hv, _⟩
  have HBe := hid (HB.out.trans (hb.mono HB.out.size))
  have HV := hid hv
  clear hv hb
  by_cases hc : (getA s n (k : Int) z).1 = 0
  · have hv0 : v = .nilIface := by have := HV.out; rw [hc] at this; exact this.nil
    subst hv0
    have HC := hid hc
    clear hc
    go_wp2
    go_ret
    exact ⟨by rw [HC.out]; rfl, HBe.out⟩
  · obtain ⟨j, rfl⟩ := HV.out.is hc
    have HC := hid (show ((getA s n (k : Int) z).1 == 0) = false from by rw [beq_eq_false_iff_ne]; exact hc)
    clear hc
    go_wp2
    go_ret
    exact ⟨by rw [HC.out]; rfl, HBe.out⟩
theorem ARat.drop {w : World} {g u d n nx k : Nat} {a : ASt} (h : ARat w g u d n a nx) (hk0 : datN n ≤ k) : ARat (w.setCell ⟨u, k, none⟩ (.int .i8 3)) g u d n (a.drop k) nx where
  blk := h.blk.far (fun e => h.ne e.symm) _
  row := by
    have := h.row.put (by rw [U8_len, useL_len]) k (.int .i8 3)
    rwa [U8_set, useL_turn (b := a.drop k) (by
      unfold useV
      rw [if_neg (by omega), show (a.drop k).use k = false from setN_same _ _ _, show (a.drop k).held k = true from setN_same _ _ _]
      simp) (fun i hi => by
      unfold useV
      rw [show (a.drop k).use i = a.use i from setN_other _ _ hi, show (a.drop k).held i = a.held i from setN_other _ _ hi])] at this
  ne := h.ne
  nx := h.nx
theorem ARat.setc {Real : World → Nat → DSt → (Nat → Prop) → Prop} (D : DevOk Real) {w w1 : World} {d g u n nx i : Nat} {s : DSt} {a' : ASt} {F : Nat → Prop} {v : Value} (hb : Below w.heap.size w w1) (hr : Real w d s F) (hap : ∀ k, F k → ¬ ARw g u k) (ha : ARat (w1.setCell ⟨u, i, none⟩ v) g u d n a' nx) : BwOut Real w d g u n nx s a' F (w1.setCell ⟨u, i, none⟩ v) := by
  have hk : ∀ k, k ≠ u → (w1.setCell ⟨u, i, none⟩ v).heap[k]? = w1.heap[k]? := fun k hk => Below.heap_setCell w1 ⟨u, i, none⟩ v k hk
  have hsz : (w1.setCell ⟨u, i, none⟩ v).heap.size = w1.heap.size := by simp [World.setCell]
  refine ⟨F, D.kept hr ⟨fun k hf => (hk k (fun e => hap k hf (.inr e))).trans (hb.block k (D.lt hr k hf)), by rw [hsz]; exact hb.size⟩, ha, (Only.of_below hb).put (.inr (.inr rfl)) v, fun k hf => .inl hf⟩
set_option maxRecDepth 100000 in
set_option maxHeartbeats 4000000 in
theorem bdrop_any (D : DevOk Real) (S : Nat → Addr) (d g u n nx q k z : Nat) (s : DSt) (a : ASt) (F : Nat → Prop) (w0 w : World) (h : Bd Real AReal S w0 w d g s n a q F (ARw g u)) (ha : ARat w g u d n a nx) (hk : k ≤ 6000) :
    Calls Tryd.prog 17 #[.pointer (some ⟨g, 0, none⟩), .agg #[.int .i64 (k : Int), .int .u32 (z : Int)]] w fun e w' => e = .returned (.bool (a.use k)) ∧ BwOut Real w d g u n nx s (if a.use k = true then a.drop k else a) F w' := by
  have hb0 : Below w.heap.size w (w.alloc (Obj.cells #[.int .i64 (k : Int), .int .u32 (z : Int)] 36)) := (Below.refl _ _).alloc (Nat.le_refl _) _
  have HH := hid h
  have HAA := hid ha
  have HA := hid (ha.on hb0)
  have HB := hid hb0
  have hn6 := h.n1
  have hki : (k : Int) ≤ 6000 := by omega
  obtain ⟨a2, ha2⟩ : ∃ a2, (if a.use k = true then a.drop k else a) = a2 := ⟨_, rfl⟩
  obtain ⟨ub, hub⟩ : ∃ ub, a.use k = ub := ⟨_, rfl⟩
  rw [ha2, hub]
  have HUb := hid hub
  have HA2 := hid ha2
  clear ha2 hub
  obtain ⟨v, hv, hw⟩ := useOf_dat (n := n) (a := a) k
  have HV := hid hv
  have hbk := Blk.new w 36 #[.int .i64 (k : Int), .int .u32 (z : Int)]
  have b0 := hbk.cell 0
  simp at b0
  clear h ha hb0 hv hbk
  go_enter Tryd.func17, Tryd.ntmps17
  go_wp2_with fail
  refine (useOf_any g u d n nx a (k : Int) _ HA.out (by omega) (by omega)).mono ?_
  rw [HV.out]
  rintro e w1 ⟨rfl, rfl⟩
  by_cases hu : a.use k = true
  · have hin := HH.out.ok.use k hu
    have hv2 : v = 2 := by
      rcases hw with ⟨hd, _⟩ | ⟨_, _, _, _, e⟩
      · unfold isDat at hd; simp at hd; omega
      · rw [e]; exact (useV_used HH.out.ok).2 hu
    subst hv2
    have c1 := HA.out.cells.2.1
    have c3 := HA.out.use hin.2
    have fr := HA.out.row.free k
    have hki2 : (k : Int) < n := by omega
    have HA4 := hid (HA.out.drop hin.1)
    have HU := hid hu
    have HF := hid (ARat.setc D HB.out HH.out.real HH.out.ap HA4.out)
    clear hu hw hin
    go_wp2_with fail
    go_region
    go_wp2
    go_ret
    exact ⟨by rw [← HUb.out, HU.out]; rfl, by rw [← HA2.out, if_pos HU.out]; exact HF.out.on D (Below.refl _ _).drew⟩
  · have hu' : a.use k = false := by simpa using hu
    have hv2 : (v == 2) = false := by
      rw [beq_eq_false_iff_ne]
      rcases hw with ⟨_, rfl⟩ | ⟨_, _, _, _, e⟩
      · omega
      · intro e2; rw [e] at e2; exact hu ((useV_used HH.out.ok).1 e2)
    have HU := hid hu'
    clear hu hu' hw
    go_wp2
    go_ret
    exact ⟨by rw [← HUb.out, HU.out]; rfl, by rw [← HA2.out, if_neg (by rw [HU.out]; decide)]; exact BwOut.start D HH.out.real HAA.out HB.out⟩
end
end Go.Proofs.YtfdabbpfphnbhaaDoor
