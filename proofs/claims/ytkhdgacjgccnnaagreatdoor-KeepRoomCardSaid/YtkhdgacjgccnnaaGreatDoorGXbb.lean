/- Put together out of 3 texts. Package page: Open. -/
import Derived.Test.YtkhdgacjgccnnaaGreatDoorGXba
import Derived.Carry
namespace Go.Proofs.YtkhdgacjgccnnaaGreatDoor
open Go.RowKit Go.Maps

theorem chd_made {w : World} {t : TypeId} (m : Nat) (h : w.heap[m]? = some (.map #[] t)) : Chd w m noChg (.map []) (fun _ => False) :=
  chd_none ⟨#[], t, h, ⟨by simp, MapKept.stamped_empty t, by simp⟩, Nat.le_refl _, rfl⟩
/-- a store that has just been opened -/
def OpenR (Real : World → Nat → DSt → (Nat → Prop) → Prop) (PR : World → Nat → Nat → Nat → Nat → (Nat → Prop) → Prop) (S : Nat → Addr) (w0 w : World) (d : Nat) (s' : DSt) (n q : Nat) (P : PS) (F : Nat → Prop) (e : Ending) (w' : World) : Prop :=
  ∃ g p mm m F' G', e = .returned (.tuple #[.pointer (some ⟨g, 0, none⟩), .nilIface]) ∧ Pd Real PR S w0 w' d p s' n m q F' G' ∧ m ≤ 7 ∧ Sto w' g d p mm P noChg (.map []) (fun _ => False) ∧ ¬ (F' g ∨ G' g) ∧ ¬ (F' mm ∨ G' mm) ∧ w.heap.size ≤ g ∧ w.heap.size ≤ mm ∧ Only F w w' ∧ (∀ k, F' k → F k ∨ w.heap.size ≤ k) ∧ ∀ k, G' k → F k ∨ w.heap.size ≤ k
section
variable {Real : World → Nat → DSt → (Nat → Prop) → Prop} {PR : World → Nat → Nat → Nat → Nat → (Nat → Prop) → Prop}
set_option maxRecDepth 100000 in
set_option maxHeartbeats 8000000 in
theorem openOld_any (DD : DevOk Real) (O : PairOk Real PR) (S : Nat → Addr) (w0 w : World) (d n q : Nat) (F : Nat → Prop) (P : PS) (cont : Cont) (s : DSt) (hS : Sent6 w0 S) (hb0 : Below w0.heap.size w0 w) (hr : Real w d s F) (hFn : ∀ k, F k → w0.heap.size ≤ k) (hu : Up s n q) (hq : q + 10 ≤ 700000) (n0 : 300 ≤ n) (n1 : n ≤ 6000) (hF : Fine (halN n) P cont) (hd : Held s (halN n) P cont) (hro : Roots s (halN n) (rootSt P)) (he : 1 ≤ P.epoch ∧ P.epoch ≤ 1099511627776) :
    Calls Tryz.prog 21 #[.pointer (some ⟨d, 0, none⟩)] w (OpenR Real PR S w0 w d (opDev s (halN n) P) n (q + 10) P F) := by
  have hmm := @run_makeMap Tryz.prog
  have hok := hu.ok (by omega)
  have HOp := hid (O.open_ S d s F w ((Sent6.five hS).on hb0) hr hok (by rw [hu.len]; exact n0))
  have HLd := hid (fun (w' : World) (hb : Below w.heap.size w w') => load_any DD S d n s F w' (hS.on (hb0.trans (hb.mono hb0.size))) (DD.kept hr (Kept.of_below hb (DD.lt hr))) ⟨hu.down, hu.len, hok⟩ n0)
  have hnw := hro.newest he.1
  have HNw := hid hnw
  have HFn := hid hF
  have HHd := hid hd
  have HRo := hid hro
  have HE := hid he
  have HSn := hid hS
  have HB0 := hid hb0
  have HR := hid hr
  have HFw := hid hFn
  have HU := hid hu
  have HD := hid DD
  have HO := hid O
  clear hS hb0 hr hFn hu hF hd hro he DD O hok hnw
  go_enter Tryz.func21, Tryz.ntmps21
  go_wp2_with fail
  refine HOp.out.mono ?_
  rintro e w1 ⟨p, G, rfl, hp, hb1, hG⟩
  rw [HU.out.len] at hp
  have HP1 := hid hp
  have HB1 := hid hb1
  have HGw := hid hG
  clear hp hb1 hG
  go_wp2_with fail
  refine (HLd.out _ HB1.out).mono ?_
  rw [HNw.out]
  rintro e w2 ⟨o, rfl, ho, hb2, hoA⟩
  obtain ⟨oe, oA, on, oc⟩ := o
  obtain ⟨h1, h2⟩ := ho
  simp only at h1 h2
  obtain rfl : oe = P.epoch := h1
  obtain rfl : 7 = on := by rw [← h2.len]; exact HFn.out.len.i.symm
  have HB2 := hid (HB1.out.trans (hb2.mono HB1.out.size))
  have HB12 := hid hb2
  have HRf := hid h2
  have HoA := hid hoA
  have hdec : decide (0 < (rootSt P).epoch) = true := by have := HE.out.1; show decide (0 < P.epoch) = true; simp; omega
  rw [hdec]
  clear h2 hb2 hoA hdec
  dsimp only [RV.v]
  go_upto_region 7 with fail
  obtain ⟨W3, hW3⟩ : ∃ W3, w2.alloc (.cells #[.int .i64 P.epoch, .slice oA 7 oc] 85) = W3 := ⟨_, rfl⟩
  have z1 : Below w2.heap.size w2 W3 := by rw [← hW3]; exact (Below.refl _ _).alloc (Nat.le_refl _) _
  have z2 : Blk W3 w2.heap.size 85 #[.int .i64 P.epoch, .slice oA 7 oc] := by rw [← hW3]; exact Blk.new w2 _ _
  have HZ1 := hid z1
  have HZ2 := hid z2
  rw [hW3]
  clear hW3 z1 z2
  go_upto_region 9 with (refine wpList_built3 rfl 97 0 1 3 (.tmp 26) (.tmp 27) (.tmp 28) rfl (.pointer (some ⟨d, 0, none⟩)) (.pointer (some ⟨p, 0, none⟩)) (.map (some W3.heap.size)) rfl rfl rfl _ (Tryz.built_store d p W3.heap.size) ?_)
  obtain ⟨W5, hW5⟩ : ∃ W5, (W3.alloc (.map #[] 0)).alloc (.cells (Value.pointer (some ⟨d, 0, none⟩) :: Value.pointer (some ⟨p, 0, none⟩) :: (stL (noPS 0) ++ [Value.map (some W3.heap.size)])).toArray 97) = W5 := ⟨_, rfl⟩
  have y1 : (W3.alloc (.map #[] 0)).heap.size = W3.heap.size + 1 := by simp
  have y2 : Below W3.heap.size W3 W5 := by rw [← hW5]; exact ((Below.refl _ _).alloc (Nat.le_refl _) _).alloc (by rw [y1]; omega) _
  have y3 : W5.heap[W3.heap.size]? = some (.map #[] 0) := by rw [← hW5]; exact heap_alloc2_old W3 _ _
  have y4 : HoldsP W5 (W3.heap.size + 1) 97 [.pointer (some ⟨d, 0, none⟩), .pointer (some ⟨p, 0, none⟩)] (noPS 0) [.map (some W3.heap.size)] := by
    rw [← hW5]; exact heap_alloc2_new W3 _ _
  have HY1 := hid y2
  have hb5 : Below w.heap.size w W5 := HB2.out.trans ((HZ1.out.trans (y2.mono HZ1.out.size)).mono HB2.out.size)
  have HB5 := hid hb5
  obtain ⟨mm, hmm2⟩ : ∃ mm, W3.heap.size = mm := ⟨_, rfl⟩
  rw [hW5]
  rw [hmm2] at y3 y4
  rw [hmm2]
  have HMm := hid hmm2
  have hzm : w.heap.size ≤ mm := by have := HB2.out.size; have := HZ1.out.size; omega
  have hsto : Sto W5 (mm + 1) d p mm (noPS 0) noChg (.map []) (fun _ => False) := ⟨y4, chd_made mm y3, noPS_len 0, by omega, id⟩
  have hb25 := HZ1.out.trans (y2.mono HZ1.out.size)
  have hb15 : Below w1.heap.size w1 W5 := HB12.out.trans (hb25.mono HB12.out.size)
  have hpd : Pd Real PR S w0 W5 d p s n 0 q F G := ⟨HD.out.kept HR.out (Kept.of_below hb5 (HD.out.lt HR.out)), HO.out.kept HP1.out (Kept.of_below hb15 (HO.out.lt HP1.out)), HB0.out.trans (hb5.mono HB0.out.size), HSn.out.five, HFw.out, fun k hk => by have := HGw.out k hk; have := HB0.out.size; omega, fun k hk hg => by have := HD.out.lt HR.out k hk; have := HGw.out k hg; omega, HU.out, by omega, n0, n1⟩
  have hGl : ∀ k, G k → k < w1.heap.size := HO.out.lt HP1.out
  have hz1 : w1.heap.size ≤ mm := by have := HB12.out.size; have := HZ1.out.size; have := HMm.out; omega
  have hoff : ∀ k, mm ≤ k → ¬ (F k ∨ G k) := fun k hk h => by
    rcases h with h | h
    · have := HD.out.lt HR.out k h; omega
    · have := hGl k h; omega
  have hx5 := HZ2.out.below y2 HZ2.out.lt
  have c0 : W5.cell? ⟨w2.heap.size, 0, none⟩ = some (.int .i64 P.epoch) := Blk.cell hx5 0
  have c1 : W5.cell? ⟨w2.heap.size, 1, none⟩ = some (.slice oA 7 oc) := Blk.cell hx5 1
  have HTk := hid (takeUp_any HD.out HO.out S w0 W5 (mm + 1) d p mm n 0 q oc (.map []) (fun _ => False) F G oA P cont s hsto hpd HSn.out (by have := HB0.out.size; omega) (hoff _ (by omega)) (hoff _ (Nat.le_refl _)) (fun _ h => h.elim) (by omega) hq HFn.out HHd.out HRo.out HE.out (HRf.out.on hb25) (fun ad ha h => by
    have h1 := HoA.out ad ha
    rcases h with h | h
    · have := HD.out.lt HR.out _ h; have := HB1.out.size; omega
    · have := hGl _ h; omega))
  have HRd := hid (rd_keeps HFn.out HHd.out HU.out halN_two 7 (Nat.le_refl _)).2.2.1
  have HFn2 := hid (And.intro hzm (And.intro HGw.out (And.intro HB5.out (And.intro hoff y4.lt))))
  clear y1 y2 y3 y4 hW5 hb5 hb25 hb15 hpd hGl hz1 hoff hx5 hsto hmm2 hzm
  go_wp2_with fail
  refine HTk.out.mono ?_
  rintro e w6 ⟨rfl, F6, G6, k1, k2, k3, k4, k5⟩
  have HF := hid (show OpenR Real PR S w0 w d (opDev s (halN n) P) n (q + 10) P F (.returned (.tuple #[.pointer (some ⟨mm + 1, 0, none⟩), .nilIface])) w6 from by
    obtain ⟨hzm, hgw, hb5, hoff, hlt⟩ := HFn2.out
    have hof : ∀ k, mm ≤ k → k < W5.heap.size → ¬ (F6 k ∨ G6 k) := fun k h1 h2 h => by
      rcases h with h | h
      · rcases k4 k h with h' | h' | h'
        · exact hoff k h1 (.inl h')
        · exact hoff k h1 (.inr h')
        · omega
      · rcases k5 k h with h' | h' | h'
        · exact hoff k h1 (.inl h')
        · exact hoff k h1 (.inr h')
        · omega
    have hz5 := hb5.size
    refine ⟨mm + 1, p, mm, _, F6, G6, rfl, k1, by have := HRd.out; omega, k2, ?_, ?_, by omega, hzm, ((Only.of_below hb5).trans k3 (fun i hi => ?_)), fun k hk => ?_, fun k hk => ?_⟩
    · exact hof _ (by omega) hlt
    · exact hof _ (Nat.le_refl _) (by omega)
    · rcases hi with hi | hi | hi
      · exact .inl hi
      · exact .inr (hgw i hi)
      · exact .inr (by omega)
    · rcases k4 k hk with h | h | h
      · exact .inl h
      · exact .inr (hgw k h)
      · exact .inr (by omega)
    · rcases k5 k hk with h | h | h
      · exact .inl h
      · exact .inr (hgw k h)
      · exact .inr (by omega))
  clear k1 k2 k3 k4 k5 c0 c1
  go_wp2
  go_ret2
  exact HF.out
set_option maxRecDepth 100000 in
set_option maxHeartbeats 8000000 in
theorem openNew_any (DD : DevOk Real) (O : PairOk Real PR) (S : Nat → Addr) (w0 w : World) (d n q : Nat) (F : Nat → Prop) (s : DSt) (hS : Sent6 w0 S) (hb0 : Below w0.heap.size w0 w) (hr : Real w d s F) (hFn : ∀ k, F k → w0.heap.size ≤ k) (hu : Up s n q) (hq : q ≤ 700000) (n0 : 300 ≤ n) (n1 : n ≤ 6000) (hro : Roots s (halN n) (rootSt (noPS 0))) :
    Calls Tryz.prog 21 #[.pointer (some ⟨d, 0, none⟩)] w (OpenR Real PR S w0 w d s n q (noPS 0) F) := by
  have hmm := @run_makeMap Tryz.prog
  have hok := hu.ok (by omega)
  have HOp := hid (O.open_ S d s F w ((Sent6.five hS).on hb0) hr hok (by rw [hu.len]; exact n0))
  have HLd := hid (fun (w' : World) (hb : Below w.heap.size w w') => load_any DD S d n s F w' (hS.on (hb0.trans (hb.mono hb0.size))) (DD.kept hr (Kept.of_below hb (DD.lt hr))) ⟨hu.down, hu.len, hok⟩ n0)
  have hnw := hro.newest0 rfl
  have HZr := hid (hro.zero rfl)
  obtain ⟨R, hR⟩ : ∃ R, s.newest (halN n) = R := ⟨_, rfl⟩
  rw [hR] at HLd hnw
  have HNw := hid hnw
  have HSn := hid hS
  have HB0 := hid hb0
  have HR := hid hr
  have HFw := hid hFn
  have HU := hid hu
  have HD := hid DD
  have HO := hid O
  clear hS hb0 hr hFn hu hro DD O hnw hR
  go_enter Tryz.func21, Tryz.ntmps21
  go_wp2_with fail
  refine HOp.out.mono ?_
  rintro e w1 ⟨p, G, rfl, hp, hb1, hG⟩
  rw [HU.out.len] at hp
  have HP1 := hid hp
  have HB1 := hid hb1
  have HGw := hid hG
  clear hp hb1 hG
  go_wp2_with fail
  refine (HLd.out _ HB1.out).mono ?_
  rintro e w2 ⟨o, rfl, ho, hb2, hoA⟩
  obtain ⟨oe, oA, on, oc⟩ := o
  obtain ⟨h1, h2⟩ := ho
  simp only at h1 h2
  have h3 : oe = 0 := h1.trans HNw.out
  subst h3
  have HB2 := hid (HB1.out.trans (hb2.mono HB1.out.size))
  have HB12 := hid hb2
  have hdec : decide (0 < R.epoch) = false := by rw [HNw.out]; decide
  rw [hdec]
  clear h1 h2 hb2 hoA hdec
  dsimp only [RV.v]
  go_upto_region 7 with fail
  obtain ⟨W3, hW3⟩ : ∃ W3, w2.alloc (.cells #[.int .i64 0, .slice oA on oc] 85) = W3 := ⟨_, rfl⟩
  have z1 : Below w2.heap.size w2 W3 := by rw [← hW3]; exact (Below.refl _ _).alloc (Nat.le_refl _) _
  have z2 : Blk W3 w2.heap.size 85 #[.int .i64 0, .slice oA on oc] := by rw [← hW3]; exact Blk.new w2 _ _
  have HZ1 := hid z1
  have HZ2 := hid z2
  rw [hW3]
  clear hW3 z1 z2
  go_upto_region 10 with (refine wpList_built3 rfl 97 0 1 3 (.tmp 26) (.tmp 27) (.tmp 28) rfl (.pointer (some ⟨d, 0, none⟩)) (.pointer (some ⟨p, 0, none⟩)) (.map (some W3.heap.size)) rfl rfl rfl _ (Tryz.built_store d p W3.heap.size) ?_)
  obtain ⟨W5, hW5⟩ : ∃ W5, (W3.alloc (.map #[] 0)).alloc (.cells (Value.pointer (some ⟨d, 0, none⟩) :: Value.pointer (some ⟨p, 0, none⟩) :: (stL (noPS 0) ++ [Value.map (some W3.heap.size)])).toArray 97) = W5 := ⟨_, rfl⟩
  have y1 : (W3.alloc (.map #[] 0)).heap.size = W3.heap.size + 1 := by simp
  have y2 : Below W3.heap.size W3 W5 := by rw [← hW5]; exact ((Below.refl _ _).alloc (Nat.le_refl _) _).alloc (by rw [y1]; omega) _
  have y3 : W5.heap[W3.heap.size]? = some (.map #[] 0) := by rw [← hW5]; exact heap_alloc2_old W3 _ _
  have y4 : HoldsP W5 (W3.heap.size + 1) 97 [.pointer (some ⟨d, 0, none⟩), .pointer (some ⟨p, 0, none⟩)] (noPS 0) [.map (some W3.heap.size)] := by
    rw [← hW5]; exact heap_alloc2_new W3 _ _
  have HY1 := hid y2
  have hb5 : Below w.heap.size w W5 := HB2.out.trans ((HZ1.out.trans (y2.mono HZ1.out.size)).mono HB2.out.size)
  have HB5 := hid hb5
  obtain ⟨mm, hmm2⟩ : ∃ mm, W3.heap.size = mm := ⟨_, rfl⟩
  rw [hW5]
  rw [hmm2] at y3 y4
  rw [hmm2]
  have HMm := hid hmm2
  have hzm : w.heap.size ≤ mm := by have := HB2.out.size; have := HZ1.out.size; omega
  have hsto : Sto W5 (mm + 1) d p mm (noPS 0) noChg (.map []) (fun _ => False) := ⟨y4, chd_made mm y3, noPS_len 0, by omega, id⟩
  have hb25 := HZ1.out.trans (y2.mono HZ1.out.size)
  have hb15 : Below w1.heap.size w1 W5 := HB12.out.trans (hb25.mono HB12.out.size)
  have hpd : Pd Real PR S w0 W5 d p s n 0 q F G := ⟨HD.out.kept HR.out (Kept.of_below hb5 (HD.out.lt HR.out)), HO.out.kept HP1.out (Kept.of_below hb15 (HO.out.lt HP1.out)), HB0.out.trans (hb5.mono HB0.out.size), HSn.out.five, HFw.out, fun k hk => by have := HGw.out k hk; have := HB0.out.size; omega, fun k hk hg => by have := HD.out.lt HR.out k hk; have := HGw.out k hg; omega, HU.out, by omega, n0, n1⟩
  have hGl : ∀ k, G k → k < w1.heap.size := HO.out.lt HP1.out
  have hz1 : w1.heap.size ≤ mm := by have := HB12.out.size; have := HZ1.out.size; have := HMm.out; omega
  have hoff : ∀ k, mm ≤ k → ¬ (F k ∨ G k) := fun k hk h => by
    rcases h with h | h
    · have := HD.out.lt HR.out k h; omega
    · have := hGl k h; omega
  have HTk := hid (checkNew_any HD.out HO.out S (mm + 1) d p mm n 0 s F G (.map []) (fun _ => False) W5 hsto hpd.pr hpd.real hok hpd.sent HZr.out (halN_gm n0 n1))
  have HFn2 := hid (And.intro hzm (And.intro HGw.out (And.intro HB5.out (And.intro hoff y4.lt))))
  have HPd5 := hid hpd
  have HSt5 := hid hsto
  clear y1 y2 y3 y4 hW5 hb5 hb25 hb15 hpd hGl hz1 hoff hsto hmm2 hzm hok
  go_wp2_with fail
  refine HTk.out.mono ?_
  rintro e w6 ⟨rfl, hb6⟩
  have HF := hid (show OpenR Real PR S w0 w d s n q (noPS 0) F (.returned (.tuple #[.pointer (some ⟨mm + 1, 0, none⟩), .nilIface])) w6 from by
    obtain ⟨hzm, hgw, hb5, hoff, hlt⟩ := HFn2.out
    exact ⟨mm + 1, p, mm, 0, F, G, rfl, HPd5.out.on HD.out HO.out hb6, by omega, HSt5.out.below hb6, hoff _ (by omega), hoff _ (Nat.le_refl _), by omega, hzm, (Only.of_below hb5).then_below hb6, fun k hk => .inl hk, fun k hk => .inr (hgw k hk)⟩)
  clear hb6
  go_wp2
  go_ret2
  exact HF.out
end
end Go.Proofs.YtkhdgacjgccnnaaGreatDoor
namespace Go.Proofs.YtkhdgacjgccnnaaGreatDoor
open Go.RowKit Go.Maps

/-- behind w0: the store at g over the device at d; all of it lies in the blocks T, new since w0 -/
def Shop (Real : World → Nat → DSt → (Nat → Prop) → Prop) (PR : World → Nat → Nat → Nat → Nat → (Nat → Prop) → Prop) (S : Nat → Addr) (w0 w : World) (d g n q mk : Nat) (T : Nat → Prop) (s : DSt) (P : PS) (ch : Chg) : Prop :=
  ∃ p mm m F G D C, Pd Real PR S w0 w d p s n m q F G ∧ m ≤ mk ∧ Sto w g d p mm P ch D C ∧ ¬ (F g ∨ G g) ∧ ¬ (F mm ∨ G mm) ∧ (∀ k, C k → ¬ (F k ∨ G k)) ∧ (w0.heap.size ≤ g ∧ w0.heap.size ≤ mm ∧ ∀ k, C k → w0.heap.size ≤ k) ∧ ∀ k, T k ↔ (F k ∨ G k ∨ k = g ∨ k = mm ∨ C k)
/-- what a call of it leaves -/
def ShopUpd (Real : World → Nat → DSt → (Nat → Prop) → Prop) (PR : World → Nat → Nat → Nat → Nat → (Nat → Prop) → Prop) (S : Nat → Addr) (w0 w : World) (d g n q mk : Nat) (T : Nat → Prop) (s : DSt) (P : PS) (ch : Chg) (w' : World) : Prop :=
  ∃ T', Shop Real PR S w0 w' d g n q mk T' s P ch ∧ Only T w w' ∧ ∀ k, T' k → T k ∨ w.heap.size ≤ k
section
variable {Real : World → Nat → DSt → (Nat → Prop) → Prop} {PR : World → Nat → Nat → Nat → Nat → (Nat → Prop) → Prop} {S : Nat → Addr} {w0 w w' : World} {d g n q mk : Nat} {T : Nat → Prop} {s : DSt} {P : PS} {ch : Chg}
theorem Shop.on (D : DevOk Real) (O : PairOk Real PR) (h : Shop Real PR S w0 w d g n q mk T s P ch) (hb : Below w.heap.size w w') : Shop Real PR S w0 w' d g n q mk T s P ch := by
  obtain ⟨p, mm, m, F, G, Dm, C, h1, h2, h3, h4⟩ := h
  exact ⟨p, mm, m, F, G, Dm, C, h1.on D O hb, h2, h3.below hb, h4⟩
theorem Shop.lt (D : DevOk Real) (O : PairOk Real PR) (h : Shop Real PR S w0 w d g n q mk T s P ch) : ∀ k, T k → k < w.heap.size := fun k hk => by
  obtain ⟨p, mm, m, F, G, Dm, C, h1, h2, h3, h4, h5, h6, h7, h8⟩ := h
  rcases (h8 k).1 hk with h | h | h | h | h
  · exact D.lt h1.real k h
  · exact O.lt h1.pr k h
  · rw [h]; exact h3.box.lt
  · rw [h]; exact h3.chd.map.lt
  · exact (h3.chd.lt k h).1
theorem Shop.new (h : Shop Real PR S w0 w d g n q mk T s P ch) : ∀ k, T k → w0.heap.size ≤ k := fun k hk => by
  obtain ⟨p, mm, m, F, G, Dm, C, h1, h2, h3, h4, h5, h6, h7, h8⟩ := h
  rcases (h8 k).1 hk with h | h | h | h | h
  · exact h1.fn k h
  · exact h1.gn k h
  · rw [h]; exact h7.1
  · rw [h]; exact h7.2.1
  · exact h7.2.2 k h
theorem Shop.below (h : Shop Real PR S w0 w d g n q mk T s P ch) : Below w0.heap.size w0 w := by
  obtain ⟨p, mm, m, F, G, Dm, C, h1, _⟩ := h
  exact h1.below
theorem Shop.pd (h : Shop Real PR S w0 w d g n q mk T s P ch) : Up s n q ∧ q ≤ 900000 ∧ 300 ≤ n ∧ n ≤ 6000 := by
  obtain ⟨p, mm, m, F, G, Dm, C, h1, _⟩ := h
  exact ⟨h1.up, h1.small, h1.n0, h1.n1⟩
theorem Shop.chg (h : Shop Real PR S w0 w d g n q mk T s P ch) : (∀ p l, ch p = some l → Byt l ∧ l.length ≤ 248) ∧ ∀ p, 256 ≤ p → ch p = none := by
  obtain ⟨p, mm, m, F, G, Dm, C, h1, h2, h3, _⟩ := h
  exact ⟨h3.chd.good, h3.chd.off⟩
theorem Shop.len (h : Shop Real PR S w0 w d g n q mk T s P ch) : P.Len := by
  obtain ⟨p, mm, m, F, G, Dm, C, h1, h2, h3, _⟩ := h
  exact h3.len
/-- what lies beside it has turned -/
theorem Shop.beside (D : DevOk Real) (O : PairOk Real PR) {K : Nat → Prop} (h : Shop Real PR S w0 w d g n q mk T s P ch) (ho : Only K w w') (hK : ∀ k, T k → ¬ K k) (hB : ∀ k, K k → w0.heap.size ≤ k) : Shop Real PR S w0 w' d g n q mk T s P ch := by
  obtain ⟨p, mm, m, F, G, Dm, C, h1, h2, h3, h4, h5, h6, h7, h8⟩ := h
  exact ⟨p, mm, m, F, G, Dm, C, h1.beside D O ho (fun k hk => hK k ((h8 k).2 (.inl hk))) (fun k hk => hK k ((h8 k).2 (.inr (.inl hk)))) hB, h2, h3.only ho (hK g ((h8 g).2 (.inr (.inr (.inl rfl))))) (hK mm ((h8 mm).2 (.inr (.inr (.inr (.inl rfl)))))) (fun k hk => hK k ((h8 k).2 (.inr (.inr (.inr (.inr hk)))))), h4, h5, h6, h7, h8⟩
theorem Shop.more (h : Shop Real PR S w0 w d g n q mk T s P ch) {q' mk' : Nat} (hq : q ≤ q') (hq' : q' ≤ 900000) (hm : mk ≤ mk') : Shop Real PR S w0 w d g n q' mk' T s P ch := by
  obtain ⟨p, mm, m, F, G, Dm, C, h1, h2, h3⟩ := h
  exact ⟨p, mm, m, F, G, Dm, C, ⟨h1.real, h1.pr, h1.below, h1.sent0, h1.fn, h1.gn, h1.ap, h1.up.more hq, hq', h1.n0, h1.n1⟩, by omega, h3⟩
theorem ShopUpd.same (h : Shop Real PR S w0 w d g n q mk T s P ch) (D : DevOk Real) (O : PairOk Real PR) (hb : Below w.heap.size w w') : ShopUpd Real PR S w0 w d g n q mk T s P ch w' := ⟨T, h.on D O hb, Only.of_below hb, fun _ hk => .inl hk⟩
theorem ShopUpd.then_ {wa wb : World} (D : DevOk Real) (O : PairOk Real PR) (h : ShopUpd Real PR S w0 w d g n q mk T s P ch w') (ha : Below wa.heap.size wa w) (hb : Below w'.heap.size w' wb) : ShopUpd Real PR S w0 wa d g n q mk T s P ch wb := by
  obtain ⟨T', h1, h2, h3⟩ := h
  have := ha.size
  exact ⟨T', h1.on D O hb, ((Only.of_below ha).trans h2 (fun i hi => .inl hi)).then_below hb, fun k hk => (h3 k hk).imp id (fun h => by omega)⟩
/-! each call -/
theorem sh_pages (h : Shop Real PR S w0 w d g n q mk T s P ch) : Calls Tryz.prog 67 #[.pointer (some ⟨g, 0, none⟩)] w fun e w' => ∃ v, e = .returned v ∧ OwnN w' w.heap.size v (natsI (pagesTo P ch 256)) ∧ Below w.heap.size w w' := by
  obtain ⟨p, mm, m, F, G, Dm, C, h1, h2, h3, _⟩ := h
  exact pages_any g d p mm Dm C w h3
theorem sh_abort (D : DevOk Real) (O : PairOk Real PR) (h : Shop Real PR S w0 w d g n q mk T s P ch) : Calls Tryz.prog 30 #[.pointer (some ⟨g, 0, none⟩)] w fun e w' => e = .returned (.tuple #[]) ∧ ShopUpd Real PR S w0 w d g n q mk T s P noChg w' := by
  obtain ⟨p, mm, m, F, G, Dm, C, h1, h2, h3, h4, h5, h6, h7, h8⟩ := h
  refine (abort_any g d p mm Dm C w h3).mono ?_
  rintro e w' ⟨rfl, hs, hg⟩
  have ho : Only (fun k => k = mm) w w' := ⟨hg.os, hg.tape, hg.output, hg.size, fun k hk hn => hg.block k hk (fun e => hn (by injection e))⟩
  refine ⟨rfl, fun k => F k ∨ G k ∨ k = g ∨ k = mm ∨ False, ⟨p, mm, m, F, G, .map [], fun _ => False, h1.beside D O ho (fun k hk e => h5 (.inl (e ▸ hk))) (fun k hk e => h5 (.inr (e ▸ hk))) (fun k e => by rw [e]; exact h7.2.1), h2, hs, h4, h5, fun _ h => h.elim, ⟨h7.1, h7.2.1, fun _ h => h.elim⟩, fun _ => Iff.rfl⟩, ho.mono (fun i hi => .inl ((h8 i).2 (.inr (.inr (.inr (.inl hi)))))), fun k hk => .inl ((h8 k).2 ?_)⟩
  rcases hk with hk | hk | hk | hk | hk
  · exact .inl hk
  · exact .inr (.inl hk)
  · exact .inr (.inr (.inl hk))
  · exact .inr (.inr (.inr (.inl hk)))
  · exact hk.elim
theorem sh_write (D : DevOk Real) (O : PairOk Real PR) (h : Shop Real PR S w0 w d g n q mk T s P ch) {i : Nat} (hi : i < 256) {A : Option Addr} {m c : Nat} {l : List Int} (hl : Sl w w.heap.size A m c l) (h1 : 1 ≤ m) (h2 : m ≤ 248) (hy : Byt l) :
    Calls Tryz.prog 44 #[.pointer (some ⟨g, 0, none⟩), .int .i64 (i : Int), .slice A m c] w fun e w' => e = .returned .nilIface ∧ ShopUpd Real PR S w0 w d g n q mk T s P (putC ch i l) w' := by
  obtain ⟨p, mm, m1, F, G, Dm, C, k1, k2, k3, k4, k5, k6, k7, k8⟩ := h
  refine (writeS_any g d p mm i Dm C A m c l w k3 hi hl h1 h2 hy).mono ?_
  rintro e w' ⟨rfl, b, c', hb, hs, hg⟩
  have ho : Only (fun k => k = mm) w w' := ⟨hg.os, hg.tape, hg.output, hg.size, fun k hk hn => hg.block k hk (fun e => hn (by injection e))⟩
  have hsz := k1.below.size
  refine ⟨rfl, fun k => F k ∨ G k ∨ k = g ∨ k = mm ∨ (C k ∨ ∃ a, (some ⟨b, 0, none⟩ : Option Addr) = some a ∧ a.block = k), ⟨p, mm, m1, F, G, _, _, k1.beside D O ho (fun k hk e => k5 (.inl (e ▸ hk))) (fun k hk e => k5 (.inr (e ▸ hk))) (fun k e => by rw [e]; exact k7.2.1), k2, hs, k4, k5, fun k hk h => ?_, ⟨k7.1, k7.2.1, fun k hk => ?_⟩, fun _ => Iff.rfl⟩, ho.mono (fun i hi => .inl ((k8 i).2 (.inr (.inr (.inr (.inl hi)))))), fun k hk => ?_⟩
  · rcases hk with hk | ⟨a, ha, rfl⟩
    · exact k6 k hk h
    · cases ha
      rcases h with h | h
      · have := D.lt k1.real _ h; simp only at this; omega
      · have := O.lt k1.pr _ h; simp only at this; omega
  · rcases hk with hk | ⟨a, ha, rfl⟩
    · exact k7.2.2 k hk
    · cases ha; show w0.heap.size ≤ b; omega
  · rcases hk with hk | hk | hk | hk | hk | ⟨a, ha, rfl⟩
    · exact .inl ((k8 k).2 (.inl hk))
    · exact .inl ((k8 k).2 (.inr (.inl hk)))
    · exact .inl ((k8 k).2 (.inr (.inr (.inl hk))))
    · exact .inl ((k8 k).2 (.inr (.inr (.inr (.inl hk)))))
    · exact .inl ((k8 k).2 (.inr (.inr (.inr (.inr hk)))))
    · cases ha; exact .inr hb
/-- what Drop leaves -/
def dropC (P : PS) (ch : Chg) (i : Nat) : Chg := if thereB P ch i = true then putC ch i [] else ch
theorem sh_drop (D : DevOk Real) (O : PairOk Real PR) (h : Shop Real PR S w0 w d g n q mk T s P ch) {i : Nat} (hi : i < 256) :
    Calls Tryz.prog 43 #[.pointer (some ⟨g, 0, none⟩), .int .i64 (i : Int)] w fun e w' => e = .returned .nilIface ∧ ShopUpd Real PR S w0 w d g n q mk T s P (dropC P ch i) w' := by
  have hh := h
  obtain ⟨p, mm, m1, F, G, Dm, C, k1, k2, k3, k4, k5, k6, k7, k8⟩ := h
  unfold dropC
  rcases ht : thereB P ch i with _ | _
  · rw [if_neg (by decide)]
    refine (dropNo_any g d p mm i Dm C w k3 hi ht).mono ?_
    rintro e w' ⟨rfl, hb⟩
    exact ⟨rfl, ShopUpd.same hh D O hb⟩
  · rw [if_pos rfl]
    refine (dropYes_any g d p mm i Dm C w k3 hi ht).mono ?_
    rintro e w' ⟨rfl, hs, w1, hb, hg⟩
    have ho : Only (fun k => k = mm) w1 w' := ⟨hg.os, hg.tape, hg.output, hg.size, fun k hk hn => hg.block k hk (fun e => hn (by injection e))⟩
    refine ⟨rfl, T, ⟨p, mm, m1, F, G, _, C, (k1.on D O hb).beside D O ho (fun k hk e => k5 (.inl (e ▸ hk))) (fun k hk e => k5 (.inr (e ▸ hk))) (fun k e => by rw [e]; exact k7.2.1), k2, hs, k4, k5, k6, k7, k8⟩, (Only.of_below hb).trans ho (fun i hi => .inl ((k8 i).2 (.inr (.inr (.inr (.inl hi)))))), fun k hk => .inl hk⟩
end
end Go.Proofs.YtkhdgacjgccnnaaGreatDoor
namespace Go.Proofs.YtkhdgacjgccnnaaGreatDoor
open Go.RowKit Go.Maps

/-- what a store's last commit left on a device without faults -/
structure Keeps (s : DSt) (n q : Nat) (P : PS) (cont : Cont) : Prop where
  fine : Fine (halN n) P cont
  held : Held s (halN n) P cont
  roots : Roots s (halN n) (rootSt P)
  both : Both s (halN n) (rootSt P)
  clean : Clean s
  ep0 : 0 ≤ P.epoch
  ep1 : P.epoch ≤ (q : Int)
  new : P.epoch = 0 → P = noPS 0
theorem Keeps.more {s : DSt} {n q q' : Nat} {P : PS} {cont : Cont} (h : Keeps s n q P cont) (hq : q ≤ q') : Keeps s n q' P cont := ⟨h.fine, h.held, h.roots, h.both, h.clean, h.ep0, by have := h.ep1; omega, h.new⟩
theorem halN_four {n : Nat} (h : 300 ≤ n) : 4 ≤ halN n := by unfold halN; omega
theorem keeps_new {n : Nat} (h0 : 300 ≤ n) (h1 : n ≤ 6000) : Keeps (DSt.new n) n 0 (noPS 0) (fun _ => none) := by
  have u := up_new h1
  have rd : ∀ i, i < n → (DSt.new n).read (i : Int) = (0, List.replicate 256 0) := fun i hi => by rw [u.read hi (new_at hi)]; rfl
  have hH := halN_two (n := n)
  have hz : ∀ i, i = 0 ∨ i = halN n ∨ i = 1 ∨ i = 1 + halN n → (DSt.new n).root i = none := fun i hi => by
    unfold DSt.root
    rw [rd i (by have : halN n ≤ n / 4 := by unfold halN; omega
                 omega)]
    exact readR_zeros
  refine ⟨fine_new (halN_four h0) 0, fun x l hi => ?_, ⟨fun i hi => by rw [hz i hi]; exact under_none _, fun h => absurd h (by decide), fun _ => rd 1 (by omega)⟩, fun h => absurd h (by decide), clean_new n, by decide, by decide, fun _ => rfl⟩
  obtain ⟨q, hq, hp, _⟩ := hi.at_ (noPS_len 0)
  have : x ∈ (noPS 0).all := List.mem_of_getElem? hq
  rcases List.mem_append.1 this with h | h
  · rw [List.eq_of_mem_replicate h] at hp; cases hp
  · rw [List.eq_of_mem_replicate h] at hp; cases hp
theorem contC_nil {cont : Cont} {ch : Chg} (h : ∀ p, ch p = none) : contC cont ch = cont := by
  funext i; exact contC_none (h i)
/-- those that package page answers -/
abbrev Sent7 : World → (Nat → Addr) → Prop := SentL [1, 2, 3, 4, 5, 6, 8]
theorem Sent.seven {w : World} {S : Nat → Addr} (h : Sent w S) : Sent7 w S := h.some (by decide)
theorem Sent7.six' {w : World} {S : Nat → Addr} (h : Sent7 w S) : Sent6 w S := fun i hi => h i (by revert hi; revert i; decide)
section
variable {Real : World → Nat → DSt → (Nat → Prop) → Prop} {PR : World → Nat → Nat → Nat → Nat → (Nat → Prop) → Prop} {S : Nat → Addr} {w0 w w' : World} {d g n q mk : Nat} {T : Nat → Prop} {s : DSt} {P : PS} {ch : Chg} {cont : Cont}
/-- is it there: what it has -/
theorem there_cont (hk : Fine (halN n) P cont) {i : Nat} (hi : i < 256) : thereB P ch i = (contC cont ch i).isSome := by
  rcases hc : ch i with _ | l
  · obtain ⟨x, hx⟩ := hk.len.page hi
    rw [thereB_none hc hx, contC_none hc]
    rcases hk.page i x hx with ⟨h1, _, h2⟩ | ⟨h1, ⟨l, h2, _⟩, _⟩
    · rw [h1, h2]; rfl
    · rw [h1, h2]; rfl
  · rw [thereB_some hc]
    rcases Nat.eq_zero_or_pos l.length with h0 | h0
    · rw [contC_drop hc h0]; simp [h0]
    · rw [contC_some hc h0]; simp [h0]
theorem rising_len {m : Nat} : ∀ (l : List Nat) (b : Nat), l.Pairwise (· < ·) → (∀ x, x ∈ l → b ≤ x ∧ x < m) → l.length ≤ m - b
  | [], _, _, _ => Nat.zero_le _
  | a :: l, b, hp, h => by
    obtain ⟨h1, h2⟩ := List.pairwise_cons.1 hp
    have h3 := h a (List.mem_cons_self ..)
    have h4 := rising_len l (a + 1) h2 (fun x hx => ⟨h1 x hx, (h x (List.mem_cons_of_mem _ hx)).2⟩)
    rw [List.length_cons]; omega
theorem indexes_rising (P : PS) (ch : Chg) : (indexesOf P ch).Pairwise (· < ·) := by
  unfold indexesOf
  have h : ((keysOf ch).map (· / 42)).Pairwise (· ≤ ·) := List.pairwise_map.2 ((keysOf_sorted ch).imp (fun h => Nat.div_le_div_right (Nat.le_of_lt h)))
  exact (once_rising h).filter _
theorem indexesOf_seven (P : PS) (ch : Chg) : (indexesOf P ch).length ≤ 7 :=
  rising_len _ 0 (indexes_rising P ch) (fun _ hx => ⟨Nat.zero_le _, indexesOf_is hx⟩)
theorem keeps_commit (hk : Keeps s n q P cont) (u : Up s n q) (hq : q ≤ 800000) (hc : ∀ k l, ch k = some l → Byt l ∧ l.length ≤ 248) (hoff : ∀ k, 256 ≤ k → ch k = none) (hf : fitsB P ch (halN n) = true) :
    saveR (fl (commitTo P ch s (halN n)).1) (halN n) (rootSt (commitTo P ch s (halN n)).2) = (0, comDev P ch s (halN n)) ∧ Up (comDev P ch s (halN n)) n (q + 1000) ∧ Keeps (comDev P ch s (halN n)) n (q + 1000) (commitTo P ch s (halN n)).2 (contC cont ch) := by
  have he := hk.ep1
  have he0 := hk.ep0
  have h6 := indexesOf_seven P ch
  have h7 := pagesOf_le P ch
  have h8 := commitTo_epoch P ch s (halN n)
  obtain ⟨k1, k2, k3, k4, k5, k6, k7, _⟩ := com_done hk.fine hk.held hk.roots u halN_two (by unfold halN; omega) hc hoff hf hk.ep0 (by omega)
  exact ⟨k1, k2.more (by omega), k3, k4, k5, k6, k7 hk.clean, by omega, by omega, fun h => by omega⟩
theorem sh_commit (D : DevOk Real) (O : PairOk Real PR) (hS : Sent7 w0 S) (h : Shop Real PR S w0 w d g n q mk T s P ch) (hk : Keeps s n q P cont) (h0 : 0 < (keysOf ch).length) (hf : fitsB P ch (halN n) = true) (hq : q ≤ 600000) :
    Calls Tryz.prog 32 #[.pointer (some ⟨g, 0, none⟩)] w fun e w' => e = .returned .nilIface ∧ ShopUpd Real PR S w0 w d g n (q + 1000) mk T (comDev P ch s (halN n)) (commitTo P ch s (halN n)).2 noChg w' := by
  obtain ⟨hg1, hg2⟩ := h.chg
  obtain ⟨p, mm, m1, F, G, Dm, C, k1, k2, k3, k4, k5, k6, k7, k8⟩ := h
  have he := hk.ep1
  have he0 := hk.ep0
  have h6 := indexesOf_seven P ch
  have h7 := pagesOf_le P ch
  obtain ⟨j1, j2, _⟩ := keeps_commit hk k1.up (by omega) hg1 hg2 hf
  have hfr : 0 < (freeOf P (halN n)).length := by
    have h9 := free_len hk.fine.apart
    have h10 := hk.fine.room
    have h11 := hk.fine.apart.two
    omega
  refine (commit_any D O S w0 w g d p mm n m1 q (q + 1000) Dm C F G s (comDev P ch s (halN n)) k3 k1 (Sent7.six' hS) ⟨k7.1, k7.2.1⟩ k4 k5 k6 h0 hk.ep0 (by omega) hk.fine.small hf hfr (by omega) j1 j2 (by omega)).mono ?_
  rintro e w' ⟨rfl, F', G', i1, i2, i3, i4, i5⟩
  have hgl := k3.box.lt
  have hml := k3.chd.map.lt
  have out : ∀ k, k < w.heap.size → ¬ (F k ∨ G k) → ¬ (F' k ∨ G' k) := fun k hk hn h => by
    rcases h with h | h
    · rcases i4 k h with h | h | h
      · exact hn (.inl h)
      · exact hn (.inr h)
      · omega
    · rcases i5 k h with h | h | h
      · exact hn (.inl h)
      · exact hn (.inr h)
      · omega
  refine ⟨rfl, fun k => F' k ∨ G' k ∨ k = g ∨ k = mm ∨ False, ⟨p, mm, m1, F', G', _, _, i1, k2, i2, out g hgl k4, out mm hml k5, fun _ h => h.elim, ⟨k7.1, k7.2.1, fun _ h => h.elim⟩, fun _ => Iff.rfl⟩, i3.mono (fun i hi => .inl ((k8 i).2 ?_)), fun k hk => ?_⟩
  · rcases hi with hi | hi | hi | hi
    · exact .inl hi
    · exact .inr (.inl hi)
    · exact .inr (.inr (.inl hi))
    · exact .inr (.inr (.inr (.inl hi)))
  · rcases hk with hk | hk | hk | hk | hk
    · rcases i4 k hk with h | h | h
      · exact .inl ((k8 k).2 (.inl h))
      · exact .inl ((k8 k).2 (.inr (.inl h)))
      · exact .inr h
    · rcases i5 k hk with h | h | h
      · exact .inl ((k8 k).2 (.inl h))
      · exact .inl ((k8 k).2 (.inr (.inl h)))
      · exact .inr h
    · exact .inl ((k8 k).2 (.inr (.inr (.inl hk))))
    · exact .inl ((k8 k).2 (.inr (.inr (.inr (.inl hk)))))
    · exact hk.elim
theorem opDev_clean (hk : Keeps s n q P cont) (u : Up s n q) (h0 : 0 < P.epoch) : opDev s (halN n) P = s := by
  obtain ⟨_, _, _, k4, _⟩ := rd_keeps hk.fine hk.held u halN_two 7 (Nat.le_refl _)
  have e := k4 hk.clean
  unfold opDev
  rw [e, if_neg]
  rw [hk.roots.copies2 h0 hk.both]; omega
/-- a device of such a state is opened -/
theorem sh_opened (D : DevOk Real) (O : PairOk Real PR) (hS : Sent7 w0 S) {F : Nat → Prop} (hb0 : Below w0.heap.size w0 w) (hr : Real w d s F) (hF : ∀ k, F k → w0.heap.size ≤ k) (u : Up s n q) (hq : q ≤ 690000) (n0 : 300 ≤ n) (n1 : n ≤ 6000) (hk : Keeps s n q P cont) :
    Calls Tryz.prog 21 #[.pointer (some ⟨d, 0, none⟩)] w fun e w' => ∃ g' T', e = .returned (.tuple #[.pointer (some ⟨g', 0, none⟩), .nilIface]) ∧ Shop Real PR S w0 w' d g' n q 7 T' s P noChg ∧ Only F w w' ∧ ∀ k, T' k → F k ∨ w.heap.size ≤ k := by
  have fin : ∀ e w' q', q' ≤ 900000 → OpenR Real PR S w0 w d s n q' P F e w' → ∃ g' T', e = .returned (.tuple #[.pointer (some ⟨g', 0, none⟩), .nilIface]) ∧ Shop Real PR S w0 w' d g' n q 7 T' s P noChg ∧ Only F w w' ∧ ∀ k, T' k → F k ∨ w.heap.size ≤ k := by
    rintro e w' q' _ ⟨g', p, mm, m, F', G', rfl, k1, k2, k3, k4, k5, k6, k7, k8, k9, k10⟩
    have hz := hb0.size
    refine ⟨g', fun k => F' k ∨ G' k ∨ k = g' ∨ k = mm ∨ False, rfl, ⟨p, mm, m, F', G', _, _, ⟨k1.real, k1.pr, k1.below, k1.sent0, k1.fn, k1.gn, k1.ap, u, by omega, n0, n1⟩, k2, k3, k4, k5, fun _ h => h.elim, ⟨by omega, by omega, fun _ h => h.elim⟩, fun _ => Iff.rfl⟩, k8, fun k hk => ?_⟩
    rcases hk with hk | hk | hk | hk | hk
    · exact k9 k hk
    · exact k10 k hk
    · exact .inr (by omega)
    · exact .inr (by omega)
    · exact hk.elim
  by_cases h0 : P.epoch = 0
  · have e := hk.new h0
    have hro := hk.roots
    rw [e] at hro
    refine (openNew_any D O S w0 w d n q F s (Sent7.six' hS) hb0 hr hF u (by omega) n0 n1 hro).mono ?_
    intro e' w' h
    rw [← e] at h
    exact fin e' w' q (by omega) h
  · have h1 : 1 ≤ P.epoch := by have := hk.ep0; omega
    have h2 := hk.ep1
    refine (openOld_any D O S w0 w d n q F P cont s (Sent7.six' hS) hb0 hr hF u (by omega) n0 n1 hk.fine hk.held hk.roots ⟨h1, by omega⟩).mono ?_
    intro e' w' h
    rw [opDev_clean hk u (by omega)] at h
    exact fin e' w' (q + 10) (by omega) h
/-- .. that of a store that is given up -/
theorem sh_open (D : DevOk Real) (O : PairOk Real PR) (hS : Sent7 w0 S) (h : Shop Real PR S w0 w d g n q mk T s P ch) (hq : q ≤ 690000) (hk : Keeps s n q P cont) :
    Calls Tryz.prog 21 #[.pointer (some ⟨d, 0, none⟩)] w fun e w' => ∃ g' T', e = .returned (.tuple #[.pointer (some ⟨g', 0, none⟩), .nilIface]) ∧ Shop Real PR S w0 w' d g' n q 7 T' s P noChg ∧ Only T w w' ∧ ∀ k, T' k → T k ∨ w.heap.size ≤ k := by
  obtain ⟨p, mm, m1, F, G, Dm, C, k1, k2, k3, k4, k5, k6, k7, k8⟩ := h
  refine (sh_opened D O hS k1.below k1.real k1.fn k1.up hq k1.n0 k1.n1 hk).mono ?_
  rintro e w' ⟨g', T', rfl, j1, j2, j3⟩
  exact ⟨g', T', rfl, j1, j2.mono (fun i hi => .inl ((k8 i).2 (.inl hi))), fun k hk => (j3 k hk).imp (fun h => (k8 k).2 (.inl h)) id⟩
end
end Go.Proofs.YtkhdgacjgccnnaaGreatDoor
