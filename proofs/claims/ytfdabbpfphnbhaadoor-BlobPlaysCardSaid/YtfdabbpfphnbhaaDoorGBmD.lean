/- Package blob's own area: Put and Low. -/
import Derived.Test.YtfdabbpfphnbhaaDoorGBmC
namespace Go.Proofs.YtfdabbpfphnbhaaDoor
open Go.RowKit

section
variable {Real : World → Nat → DSt → (Nat → Prop) → Prop}
theorem BwOut.below {w w1 w' : World} {d g u n nx : Nat} {s : DSt} {a : ASt} {F : Nat → Prop} (hb : Below w.heap.size w w1) (h : BwOut Real w1 d g u n nx s a F w') : BwOut Real w d g u n nx s a F w' := h.after hb
theorem sent_at {w : World} {S : Nat → Addr} (h : Sent w S) (i : Nat) (hi : i < 24) : w.cell? ⟨glo.getD i 0, 0, none⟩ = some (.iface 118 (.pointer (some (S i)))) := h.at_ i hi
theorem ARat.put {w : World} {g u d n nx k : Nat} {a : ASt} (h : ARat w g u d n (a.took k) nx) : ARat (w.setCell ⟨g, 2, none⟩ (.int .i64 ((k : Int) + 1))) g u d n (a.put k) (k + 1) where
  blk := by
    have := h.blk.put 2 (.int .i64 ((k + 1 : Nat) : Int))
    rwa [show ((k + 1 : Nat) : Int) = (k : Int) + 1 from rfl] at this
  row := h.row.far (p := ⟨g, 2, none⟩) h.ne _
  ne := h.ne
  nx := .inl rfl
set_option maxRecDepth 100000 in
set_option maxHeartbeats 4000000 in
theorem bputLong_any (D : DevOk Real) (S : Nat → Addr) (d g u n nx q : Nat) (s : DSt) (a : ASt) (F : Nat → Prop) (A : Option Addr) (m c : Nat) (w0 w : World) (h : Bd Real AReal S w0 w d g s n a q F (ARw g u)) (ha : ARat w g u d n a nx) (hm : 256 < m) (hmx : m ≤ 9223372036854775807) :
    Calls Tryd.prog 11 #[.pointer (some ⟨g, 0, none⟩), .slice A m c] w fun e w' => (∃ v, EV S 103 v ∧ e = .returned (.tuple #[.agg #[.int .i64 0, .int .u32 0], v])) ∧ BwOut Real w d g u n nx s a F w' := by
  have HB := hid (show ∀ w', Below w.heap.size w w' → BwOut Real w d g u n nx s a F w' from fun w' hb => BwOut.start D h.real ha hb)
  have hg : (w.alloc (Obj.cells #[.int .i64 0, .int .u32 0] 36)).cell? ⟨0, 0, none⟩ = some (.iface 118 (.pointer (some (S 2)))) := (World.cell?_alloc_lt w _ _ (World.block_lt_of_cell? w _ (h.sent.at_ 2 (by decide)))).trans (h.sent.at_ 2 (by decide))
  have hbk := Blk.new w 36 #[.int .i64 0, .int .u32 0]
  have b0 := hbk.cell 0
  have b1 := hbk.cell 1
  have f0 := hbk.free 0
  have f1 := hbk.free 1
  simp at b0 b1
  have g1 : decide (256 < m) = true := by simpa using hm
  clear h ha hbk
  go_enter Tryd.func11, Tryd.ntmps11
  go_wp2_with fail
  go_region
  go_wp2
  refine bodyPost_ret (v := .tuple #[.agg #[.int .i64 0, .int .u32 0], .iface 118 (.pointer (some (S 2)))]) (by simp [results, Tryd.results11, go_sem, *]) rfl ⟨⟨_, .err 2 (by decide), rfl⟩, HB.out _ ?_⟩
  repeat (first | exact Below.refl _ _ | refine Below.setCell ?_ (by simp) _ | refine Below.alloc ?_ (by simp) _ | refine Below.drew ?_)
set_option maxRecDepth 100000 in
set_option maxHeartbeats 4000000 in
theorem bput_any (D : DevOk Real) (S : Nat → Addr) (d g u n nx q : Nat) (s : DSt) (a : ASt) (F : Nat → Prop) (A : Option Addr) (m c : Nat) (l : List Int) (w0 w : World) (h : Bd Real AReal S w0 w d g s n a q F (ARw g u)) (ha : ARat w g u d n a nx) (hm : m ≤ 256) (hl : Sl w w.heap.size A m c l) (hA : ∀ ad, A = some ad → 0 < m → ¬ F ad.block ∧ ¬ ARw g u ad.block) (hy : Byt l) :
    Calls Tryd.prog 11 #[.pointer (some ⟨g, 0, none⟩), .slice A m c] w fun e w' => (∃ k, IsNext n a k ∧ e = .returned (.tuple #[.agg #[.int .i64 (k : Int), .int .u32 (crcOf (nats (padB l)) : Int)], .nilIface]) ∧ BwOut Real w d g u n (k + 1) (s.put k (padB l)) (a.put k) F w') ∨
      (NoRoom n a ∧ (∃ v, EV S 105 v ∧ e = .returned (.tuple #[.agg #[.int .i64 0, .int .u32 0], v])) ∧ BwOut Real w d g u n nx s a F w') := by
  have hb0 : Below w.heap.size w (w.alloc (Obj.cells #[.int .i64 0, .int .u32 0] 36)) := (Below.refl _ _).alloc (Nat.le_refl _) _
  have HH := hid (bd_on D h hb0)
  have HA := hid (ha.on hb0)
  have HB := hid hb0
  have HL := hid (hl.on hb0)
  have HAf := hid hA
  have HY := hid hy
  have HM := hid hm
  have HF0 := hid (D.lt h.real)
  have HG0 := hid ha.lt
  have HN := hid (show 300 ≤ n ∧ n ≤ 6000 ∧ a.ok n from ⟨h.n0, h.n1, h.ok⟩)
  have HS := hid (show (∀ w', Below w.heap.size w w' → BwOut Real w d g u n nx s a F w') ∧ Sent w S from ⟨fun w' hb => BwOut.start D h.real ha hb, h.sent⟩)
  have HBk := hid (Blk.new w 36 #[.int .i64 0, .int .u32 0])
  have hmi : (m : Int) ≤ 256 := by omega
  clear h ha hb0 hl hA hy
  go_enter Tryd.func11, Tryd.ntmps11
  go_wp2_with fail
  refine (nextFree_any g u d n nx a _ HA.out HN.out.1 HN.out.2.1 HN.out.2.2).mono ?_
  rintro e w1 ⟨⟨q1, rfl⟩, ⟨k, hnx, hk, rfl⟩ | ⟨hno, rfl⟩⟩
  · have HNx := hid hnx
    have HKd := hid (hnx.in_ HN.out.1)
    have hki : (k : Int) < n := by omega
    have hn6 : (n : Int) ≤ 6000 := by have := HN.out.2.1; omega
    clear hnx
    go_wp2_with fail
    refine (bwrite_any D S d g u n nx q k s a F A m c l w0 _ (bd_on D HH.out (below_drewN (Below.refl _ _) q1)) (HA.out.on (below_drewN (Below.refl _ _) q1)) HM.out (HL.out.on (below_drewN (Below.refl _ _) q1)) HAf.out HY.out HKd.out.1 HKd.out.2).mono ?_
    rintro e w2 ⟨rfl, F2, hr2, ha2, ho2, hf2⟩
    obtain ⟨z, hz⟩ : ∃ z : Nat, crcOf (nats (padB l)) = z := ⟨_, rfl⟩
    rw [hz]
    have HZ := hid hz
    have hsz : w.heap.size + 1 ≤ w2.heap.size := by have := ho2.size; simp at this; omega
    have HSz := hid hsz
    have HR2 := hid hr2
    have HA2 := hid ha2
    have HO2 := hid (show Only (fun k => F k ∨ ARw g u k) w w2 from (Only.of_below (below_drewN HB.out q1)).trans ho2 (fun k hk => .inl hk))
    have HF2 := hid (show ∀ i, F2 i → F i ∨ w.heap.size + 1 ≤ i from fun i hi => (hf2 i hi).imp id (fun h => by simpa using h))
    have HBk2 := hid (show Blk w2 w.heap.size 36 #[.int .i64 0, .int .u32 0] from Blk.same (HBk.out.drewN q1) (ho2.block _ (by simp) (fun hf => by
      rcases hf with hf | hf | hf
      · have := HF0.out _ hf; omega
      · have := HG0.out; omega
      · have := HG0.out; omega)))
    clear hr2 ha2 ho2 hf2 hz
    have hc := Blk.new w2 36 #[.int .i64 (k : Int), .int .u32 (z : Int)]
    have HA3 := hid ((HA2.out.on ((Below.refl _ _).alloc (Nat.le_refl _) (.cells #[.int .i64 (k : Int), .int .u32 (z : Int)] 36))))
    have HBk3 := hid (HBk2.out.alloc (.cells #[.int .i64 (k : Int), .int .u32 (z : Int)] 36))
    have HR3 := hid (D.kept HR2.out (Kept.of_below ((Below.refl _ _).alloc (Nat.le_refl _) (.cells #[.int .i64 (k : Int), .int .u32 (z : Int)] 36)) (D.lt HR2.out)))
    have HO3 := hid (HO2.out.then_below ((Below.refl _ _).alloc (Nat.le_refl _) (.cells #[.int .i64 (k : Int), .int .u32 (z : Int)] 36)))
    generalize hw3 : w2.alloc (.cells #[.int .i64 (k : Int), .int .u32 (z : Int)] 36) = w3 at HA3 HBk3 HR3 HO3 hc
    have hx2 := HA3.out.cells.2.2
    have hfr := HA3.out.blk.free 2
    have hgb : g ≠ w2.heap.size := by have := HG0.out; omega
    have hgw : g ≠ w.heap.size := by have := HG0.out; omega
    have hc2 := hc.far (p := ⟨g, 2, none⟩) (fun e => hgb e.symm) (.int .i64 ((k : Int) + 1))
    have HBk4 := hid (HBk3.out.far (p := ⟨g, 2, none⟩) (fun e => hgw e.symm) (.int .i64 ((k : Int) + 1)))
    have HA4 := hid HA3.out.put
    have HR4 := hid (D.kept HR3.out (w' := w3.setCell ⟨g, 2, none⟩ (.int .i64 ((k : Int) + 1))) ⟨fun i hi => Below.heap_setCell w3 ⟨g, 2, none⟩ _ i (fun e => by
      subst e
      rcases HF2.out i hi with hf | hf
      · exact HH.out.ap i hf (.inl rfl)
      · have := HG0.out; simp at *; omega), by simp [World.setCell]⟩)
    have HO4 := hid (HO3.out.put (p := ⟨g, 2, none⟩) (.inr (.inl rfl)) (.int .i64 ((k : Int) + 1)))
    have HB4 := hid (show BwB Real w w.heap.size d g u n (k + 1) (s.put k (padB l)) (a.put k) F (w3.setCell ⟨g, 2, none⟩ (.int .i64 ((k : Int) + 1))) from
      ⟨F2, HR4.out, HA4.out, HO4.out, fun i hi => (HF2.out i hi).imp id (fun h => by omega)⟩)
    have d0 := hc2.cell 0
    have d1 := hc2.cell 1
    have fr := fun i => HBk3.out.free i
    have b0 := HBk3.out.cell 0
    have b1 := HBk3.out.cell 1
    simp at b0 b1 d0 d1
    have HK4 := (HBk4.out.put 0 (.int .i64 (k : Int))).put 1 (.int .u32 (z : Int))
    have m0 := HK4.cell 0
    have m1 := HK4.cell 1
    simp at m0 m1
    subst hw3
    clear HK4 hc hc2 hgb hgw
    go_wp2
    refine bodyPost_ret (v := .tuple #[.agg #[.int .i64 (k : Int), .int .u32 (z : Int)], .nilIface]) (by simp [results, Tryd.results11, go_sem, m0, m1]) rfl (.inl ⟨k, HNx.out, by rw [HZ.out], ?_⟩)
    exact ((HB4.out.setc D 0 HF0.out HG0.out (Nat.le_refl _) _).setc D 1 HF0.out HG0.out (Nat.le_refl _) _).out
  · have HNo := hid hno
    have HW := hid (below_drewN HB.out q1)
    obtain ⟨W, hW⟩ : ∃ W, (w.alloc (Obj.cells #[.int .i64 0, .int .u32 0] 36)).drewN q1 = W := ⟨_, rfl⟩
    have hgl := (bd_on D HH.out (below_drewN (Below.refl _ _) q1)).sent.at_ 4 (by decide)
    have hbk := HBk.out.drewN q1
    rw [hW] at hgl hbk HW
    rw [hW]
    have hg : W.cell? ⟨1, 0, none⟩ = some (.iface 118 (.pointer (some (S 4)))) := hgl
    have hgn : ¬ 1 = w.heap.size := fun e => by
      have := World.block_lt_of_cell? w _ (HS.out.2.at_ 4 (by decide))
      simp only [] at this
      exact absurd e (Nat.ne_of_lt this)
    have hgn' : ¬ w.heap.size = 1 := fun e => hgn e.symm
    have b0 := hbk.cell 0
    have b1 := hbk.cell 1
    have f0 := hbk.free 0
    have f1 := hbk.free 1
    simp at b0 b1
    clear hgl hbk hno hW
    go_wp2_with fail
    go_region
    go_wp2
    refine bodyPost_ret (v := .tuple #[.agg #[.int .i64 0, .int .u32 0], .iface 118 (.pointer (some (S 4)))]) (by simp [results, Tryd.results11, go_sem, *]) rfl (.inr ⟨HNo.out, ⟨_, .err 4 (by decide), rfl⟩, HS.out.1 _ ?_⟩)
    repeat (first | exact HW.out | refine Below.setCell ?_ (by simp) _ | refine Below.alloc ?_ (by simp) _ | refine Below.drew ?_)
end
end Go.Proofs.YtfdabbpfphnbhaaDoor
