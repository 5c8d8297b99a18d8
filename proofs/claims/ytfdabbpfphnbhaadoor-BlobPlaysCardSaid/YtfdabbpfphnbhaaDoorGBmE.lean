/- Package blob's own area: Low. -/
import Derived.Test.YtfdabbpfphnbhaaDoorGBmD
namespace Go.Proofs.YtfdabbpfphnbhaaDoor
open Go.RowKit

section
variable {Real : World → Nat → DSt → (Nat → Prop) → Prop}
set_option maxRecDepth 100000 in
set_option maxHeartbeats 4000000 in
theorem blowLong_any (D : DevOk Real) (S : Nat → Addr) (d g u n nx q : Nat) (s : DSt) (a : ASt) (F : Nat → Prop) (A : Option Addr) (m c : Nat) (below : Int) (w0 w : World) (h : Bd Real AReal S w0 w d g s n a q F (ARw g u)) (ha : ARat w g u d n a nx) (hm : 256 < m) (hmx : m ≤ 9223372036854775807) :
    Calls Tryd.prog 15 #[.pointer (some ⟨g, 0, none⟩), .slice A m c, .int .i64 below] w fun e w' => (∃ v, EV S 103 v ∧ e = .returned (.tuple #[.agg #[.int .i64 0, .int .u32 0], .bool false, v])) ∧ BwOut Real w d g u n nx s a F w' := by
  have HB := hid (show ∀ w', Below w.heap.size w w' → BwOut Real w d g u n nx s a F w' from fun w' hb => BwOut.start D h.real ha hb)
  have hg : (w.alloc (Obj.cells #[.int .i64 0, .int .u32 0] 36)).cell? ⟨0, 0, none⟩ = some (.iface 118 (.pointer (some (S 2)))) := (World.cell?_alloc_lt w _ _ (World.block_lt_of_cell? w _ (h.sent.at_ 2 (by decide)))).trans (h.sent.at_ 2 (by decide))
  have hbk := Blk.new w 36 #[.int .i64 0, .int .u32 0]
  have b0 := hbk.cell 0
  have b1 := hbk.cell 1
  have f0 := hbk.free 0
  have f1 := hbk.free 1
  simp at b0 b1
  have g1 : decide (256 < m) = true := by simpa using hm
  clear h ha hbk
  go_enter Tryd.func15, Tryd.ntmps15
  go_wp2_with fail
  go_region
  go_wp2
  refine bodyPost_ret (v := .tuple #[.agg #[.int .i64 0, .int .u32 0], .bool false, .iface 118 (.pointer (some (S 2)))]) (by simp [results, Tryd.results15, go_sem, *]) rfl ⟨⟨_, .err 2 (by decide), rfl⟩, HB.out _ ?_⟩
  repeat (first | exact Below.refl _ _ | refine Below.setCell ?_ (by simp) _ | refine Below.alloc ?_ (by simp) _ | refine Below.drew ?_)
theorem BwOut.on (D : DevOk Real) {w w1 w' : World} {d g u n nx : Nat} {s : DSt} {a : ASt} {F : Nat → Prop} (h : BwOut Real w d g u n nx s a F w1) (hb : Below w1.heap.size w1 w') : BwOut Real w d g u n nx s a F w' := by
  obtain ⟨F', h1, h2, h3, h4⟩ := h
  exact ⟨F', D.kept h1 (Kept.of_below hb (D.lt h1)), h2.on hb, h3.then_below hb, h4⟩
theorem noLow {n : Nat} {a : ASt} {b : Int} (h : ∀ i : Nat, (useL n a)[i]? ≠ some 1) : ∀ k, IsLow n a k → b ≤ (k : Int) := fun k hk => absurd (by rw [useL_get a hk.2.1, useV_free.2 ⟨hk.1, hk.2.2.1⟩]) (h k)
set_option maxRecDepth 100000 in
set_option maxHeartbeats 4000000 in
theorem blow_any (D : DevOk Real) (S : Nat → Addr) (d g u n nx q : Nat) (s : DSt) (a : ASt) (F : Nat → Prop) (A : Option Addr) (m c : Nat) (l : List Int) (below : Int) (w0 w : World) (h : Bd Real AReal S w0 w d g s n a q F (ARw g u)) (ha : ARat w g u d n a nx) (hm : m ≤ 256) (hl : Sl w w.heap.size A m c l) (hA : ∀ ad, A = some ad → 0 < m → ¬ F ad.block ∧ ¬ ARw g u ad.block) (hy : Byt l) :
    Calls Tryd.prog 15 #[.pointer (some ⟨g, 0, none⟩), .slice A m c, .int .i64 below] w fun e w' => (∃ k, IsLow n a k ∧ (k : Int) < below ∧ e = .returned (.tuple #[.agg #[.int .i64 (k : Int), .int .u32 (crcOf (nats (padB l)) : Int)], .bool true, .nilIface]) ∧ BwOut Real w d g u n nx (s.put k (padB l)) (a.took k) F w') ∨
      ((∀ k, IsLow n a k → below ≤ (k : Int)) ∧ e = .returned (.tuple #[.agg #[.int .i64 0, .int .u32 0], .bool false, .nilIface]) ∧ BwOut Real w d g u n nx s a F w') := by
  have hb0 : Below w.heap.size w (w.alloc (Obj.cells #[.int .i64 0, .int .u32 0] 36)) := (Below.refl _ _).alloc (Nat.le_refl _) _
  have HH := hid (bd_on D h hb0)
  have ha1 := ha.on hb0
  have HA := hid ha1
  have HB := hid hb0
  have HL := hid (hl.on hb0)
  have HAf := hid hA
  have HY := hid hy
  have HM := hid hm
  have HF0 := hid (D.lt h.real)
  have HG0 := hid ha.lt
  have HN := hid (show 300 ≤ n ∧ n ≤ 6000 ∧ a.ok n from ⟨h.n0, h.n1, h.ok⟩)
  have HS := hid (show (∀ w', Below w.heap.size w w' → BwOut Real w d g u n nx s a F w') ∧ Sent w S from ⟨fun w' hb => BwOut.start D h.real ha hb, h.sent⟩)
  have hbk := Blk.new w 36 #[.int .i64 0, .int .u32 0]
  have HBk := hid hbk
  have hmi : (m : Int) ≤ 256 := by omega
  have hn6 : (n : Int) ≤ 6000 := by have := h.n1; omega
  have c1 := ha1.cells.2.1
  have b0 := hbk.cell 0
  have b1 := hbk.cell 1
  have f0 := hbk.free 0
  have f1 := hbk.free 1
  simp at b0 b1
  clear h ha hb0 hl hA hy ha1 hbk
  go_enter Tryd.func15, Tryd.ntmps15
  go_wp2_with fail
  refine (index_any (some ⟨u, 0, none⟩) n n (useL n a) 1 _ HA.out.sv HN.out.2.1).mono ?_
  rintro e w1 ⟨rfl, ⟨k, hk, hv, hf, rfl⟩ | ⟨hno, rfl⟩⟩
  · have hkn : k < n := by rwa [useL_len] at hk
    have hlow : IsLow n a k := low_of hkn (by rw [useL_get a hkn] at hv; injection hv) (fun i hi e => hf i hi (by rw [useL_get a (by omega), e]))
    have HLo := hid hlow
    have HKn := hid hkn
    have hki : (k : Int) < n := by omega
    clear hk hv hf hlow
    by_cases hbl : (k : Int) < below
    · have HBl := hid hbl
      have g2 : decide (below ≤ (k : Int)) = false := by simp; omega
      clear hbl b0 b1 f0 f1 c1
      go_wp2_with fail
      refine (bwrite_any D S d g u n nx q k s a F A m c l w0 _ HH.out HA.out HM.out HL.out HAf.out HY.out HLo.out.1 HKn.out).mono ?_
      rintro e w2 ⟨rfl, F2, hr2, ha2, ho2, hf2⟩
      obtain ⟨z, hz⟩ : ∃ z : Nat, crcOf (nats (padB l)) = z := ⟨_, rfl⟩
      rw [hz]
      have HZ := hid hz
      have hsz : w.heap.size + 1 ≤ w2.heap.size := by have := ho2.size; simp at this; omega
      have HSz := hid hsz
      have HO2 := hid (show Only (fun k => F k ∨ ARw g u k) w w2 from (Only.of_below HB.out).trans ho2 (fun k hk => .inl hk))
      have HF2 := hid (show ∀ i, F2 i → F i ∨ w.heap.size + 1 ≤ i from fun i hi => (hf2 i hi).imp id (fun h => by simpa using h))
      have hbk2 : Blk w2 w.heap.size 36 #[.int .i64 0, .int .u32 0] := Blk.same HBk.out (ho2.block _ (by simp) (fun hf => by
        rcases hf with hf | hf | hf
        · have := HF0.out _ hf; omega
        · have := HG0.out; omega
        · have := HG0.out; omega))
      have hbel : Below w2.heap.size w2 (w2.alloc (.cells #[.int .i64 (k : Int), .int .u32 (z : Int)] 36)) := (Below.refl _ _).alloc (Nat.le_refl _) _
      have HB4 := hid (show BwB Real w w.heap.size d g u n nx (s.put k (padB l)) (a.took k) F (w2.alloc (.cells #[.int .i64 (k : Int), .int .u32 (z : Int)] 36)) from
        ⟨F2, D.kept hr2 (Kept.of_below hbel (D.lt hr2)), ha2.on hbel, HO2.out.then_below hbel, fun i hi => (HF2.out i hi).imp id (fun h => by omega)⟩)
      have hbk3 := hbk2.alloc (.cells #[.int .i64 (k : Int), .int .u32 (z : Int)] 36)
      have hc := Blk.new w2 36 #[.int .i64 (k : Int), .int .u32 (z : Int)]
      have d0 := hc.cell 0
      have d1 := hc.cell 1
      have fr := fun i => hbk3.free i
      have b0 := hbk3.cell 0
      have b1 := hbk3.cell 1
      simp at b0 b1 d0 d1
      have HK4 := (hbk3.put 0 (.int .i64 (k : Int))).put 1 (.int .u32 (z : Int))
      have m0 := HK4.cell 0
      have m1 := HK4.cell 1
      simp at m0 m1
      clear HK4 hc hr2 ha2 ho2 hf2 hz hbk2 hbk3 hbel
      go_wp2_with fail
      go_region
      go_wp2
      refine bodyPost_ret (v := .tuple #[.agg #[.int .i64 (k : Int), .int .u32 (z : Int)], .bool true, .nilIface]) (by simp [results, Tryd.results15, go_sem, m0, m1]) rfl (.inl ⟨k, HLo.out, HBl.out, by rw [HZ.out], ?_⟩)
      exact ((HB4.out.setc D 0 HF0.out HG0.out (Nat.le_refl _) _).setc D 1 HF0.out HG0.out (Nat.le_refl _) _).out.on D ((Below.refl _ _).drew)
    · have HX := hid (show ∀ j, IsLow n a j → below ≤ (j : Int) from fun j hj => by rw [hj.eq HLo.out]; omega)
      have g2 : decide (below ≤ (k : Int)) = true := by simp; omega
      go_wp2
      refine bodyPost_ret (v := .tuple #[.agg #[.int .i64 0, .int .u32 0], .bool false, .nilIface]) (by simp [results, Tryd.results15, go_sem, *]) rfl (.inr ⟨HX.out, rfl, HS.out.1 _ ?_⟩)
      repeat (first | exact Below.refl _ _ | refine Below.setCell ?_ (by simp) _ | refine Below.alloc ?_ (by simp) _ | refine Below.drew ?_)
  · have HX := hid (noLow (b := below) hno)
    clear hno
    go_wp2
    refine bodyPost_ret (v := .tuple #[.agg #[.int .i64 0, .int .u32 0], .bool false, .nilIface]) (by simp [results, Tryd.results15, go_sem, *]) rfl (.inr ⟨HX.out, rfl, HS.out.1 _ ?_⟩)
    repeat (first | exact Below.refl _ _ | refine Below.setCell ?_ (by simp) _ | refine Below.alloc ?_ (by simp) _ | refine Below.drew ?_)
end
end Go.Proofs.YtfdabbpfphnbhaaDoor
