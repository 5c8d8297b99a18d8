/- Package blob's own area: a block written; Put and Low. -/
import Derived.Test.YtfdabbpfphnbhaaDoorGBmB
namespace Go.Proofs.YtfdabbpfphnbhaaDoor
open Go.RowKit

theorem useV_took {n k : Nat} (a : ASt) (h : datN n ≤ k) : useV n (a.took k) k = 2 := by
  unfold useV
  rw [if_neg (by omega), if_pos (show (a.took k).use k = true from setN_same _ _ _)]
theorem useV_took_other {n k i : Nat} (a : ASt) (h : i ≠ k) : useV n (a.took k) i = useV n a i := by
  unfold useV
  rw [show (a.took k).use i = a.use i from setN_other _ _ h]
  rfl
theorem bd_on {Real : World → Nat → DSt → (Nat → Prop) → Prop} {S : Nat → Addr} {w0 w w' : World} {d g n q : Nat} {s : DSt} {a : ASt} {F G : Nat → Prop} (D : DevOk Real) (h : Bd Real AReal S w0 w d g s n a q F G) (hb : Below w.heap.size w w') : Bd Real AReal S w0 w' d g s n a q F G :=
  ⟨D.kept h.real (Kept.of_below hb (D.lt h.real)), h.ar.kept (Kept.of_below hb h.ar.lt), h.below.trans (hb.mono h.below.size), h.sent0, h.fn, h.gn, h.ap, h.up, h.small, h.n0, h.n1, h.ok⟩
theorem Tryd.sizeU8b : (Tryd.prog.info? 5).map (·.size) = some 1 := by kernel_rfl
theorem ARat.took {w : World} {g u d n nx k : Nat} {a : ASt} (h : ARat w g u d n a nx) (hk0 : datN n ≤ k) : ARat (w.setCell ⟨u, k, none⟩ (.int .i8 2)) g u d n (a.took k) nx where
  blk := h.blk.far (fun e => h.ne e.symm) _
  row := by
    have := h.row.put (by rw [U8_len, useL_len]) k (.int .i8 2)
    rwa [U8_set, useL_turn (b := a.took k) (useV_took a hk0) (fun i hi => useV_took_other a hi)] at this
  ne := h.ne
  nx := h.nx
/-- the device and the area behind a call -/
def BwOut (Real : World → Nat → DSt → (Nat → Prop) → Prop) (w : World) (d g u n nx : Nat) (s' : DSt) (a' : ASt) (F : Nat → Prop) (w' : World) : Prop :=
  ∃ F', Real w' d s' F' ∧ ARat w' g u d n a' nx ∧ Only (fun k => F k ∨ ARw g u k) w w' ∧ ∀ k, F' k → F k ∨ w.heap.size ≤ k
theorem BwOut.upd {Real : World → Nat → DSt → (Nat → Prop) → Prop} {w w' : World} {d g u n nx : Nat} {s' : DSt} {a' : ASt} {F : Nat → Prop} (h : BwOut Real w d g u n nx s' a' F w') (hap : ∀ k, F k → ¬ ARw g u k) (hlt : ∀ k, ARw g u k → k < w.heap.size) : ArUpd Real AReal w d g s' n a' F (ARw g u) w' := by
  obtain ⟨F', h1, h2, h3, h4⟩ := h
  refine ⟨F', ARw g u, h1, ⟨u, nx, h2, rfl⟩, h3, fun k hk => ?_, fun k hk => .inr (.inl hk), fun k hk hg => ?_⟩
  · rcases h4 k hk with h | h
    · exact .inl h
    · exact .inr (.inr h)
  · rcases h4 k hk with h | h
    · exact hap k h hg
    · have := hlt k hg; omega
theorem BwOut.start {Real : World → Nat → DSt → (Nat → Prop) → Prop} (D : DevOk Real) {w w' : World} {d g u n nx : Nat} {s : DSt} {a : ASt} {F : Nat → Prop} (hr : Real w d s F) (ha : ARat w g u d n a nx) (hb : Below w.heap.size w w') : BwOut Real w d g u n nx s a F w' :=
  ⟨F, D.kept hr (Kept.of_below hb (D.lt hr)), ha.on hb, Only.of_below hb, fun _ hk => .inl hk⟩
theorem BwOut.after {Real : World → Nat → DSt → (Nat → Prop) → Prop} {w w1 w' : World} {d g u n nx : Nat} {s : DSt} {a : ASt} {F : Nat → Prop} (hb : Below w.heap.size w w1) (h : BwOut Real w1 d g u n nx s a F w') : BwOut Real w d g u n nx s a F w' := by
  obtain ⟨F', h1, h2, h3, h4⟩ := h
  have hsz := hb.size
  exact ⟨F', h1, h2, (Only.of_below hb).trans h3 (fun k hk => .inl hk), fun k hk => (h4 k hk).elim .inl (fun h => .inr (by omega))⟩
/-- the same, and that a block of the call's own is none of theirs -/
def BwB (Real : World → Nat → DSt → (Nat → Prop) → Prop) (w : World) (b d g u n nx : Nat) (s' : DSt) (a' : ASt) (F : Nat → Prop) (w' : World) : Prop :=
  ∃ F', Real w' d s' F' ∧ ARat w' g u d n a' nx ∧ Only (fun k => F k ∨ ARw g u k) w w' ∧ ∀ k, F' k → F k ∨ (w.heap.size ≤ k ∧ k ≠ b)
theorem BwB.out {Real : World → Nat → DSt → (Nat → Prop) → Prop} {w w1 : World} {b d g u n nx : Nat} {s : DSt} {a : ASt} {F : Nat → Prop} (h : BwB Real w b d g u n nx s a F w1) : BwOut Real w d g u n nx s a F w1 := by
  obtain ⟨F', h1, h2, h3, h4⟩ := h
  exact ⟨F', h1, h2, h3, fun k hk => (h4 k hk).elim .inl (fun h => .inr h.1)⟩
theorem BwB.setc {Real : World → Nat → DSt → (Nat → Prop) → Prop} (D : DevOk Real) {w w1 : World} {d g u n nx b : Nat} (i : Nat) {s : DSt} {a : ASt} {F : Nat → Prop} (h : BwB Real w b d g u n nx s a F w1) (hF : ∀ k, F k → k < w.heap.size) (hg : g < w.heap.size ∧ u < w.heap.size) (hb : w.heap.size ≤ b) (v : Value) : BwB Real w b d g u n nx s a F (w1.setCell ⟨b, i, none⟩ v) := by
  obtain ⟨F', h1, h2, h3, h4⟩ := h
  have hk : ∀ k, k ≠ b → (w1.setCell ⟨b, i, none⟩ v).heap[k]? = w1.heap[k]? := fun k hk => Below.heap_setCell w1 ⟨b, i, none⟩ v k hk
  have hsz : (w1.setCell ⟨b, i, none⟩ v).heap.size = w1.heap.size := by simp [World.setCell]
  refine ⟨F', D.kept h1 ⟨fun k hf => hk k (fun e => ?_), by rw [hsz]; exact Nat.le_refl _⟩, h2.kept ⟨fun k hw => hk k (fun e => ?_), by rw [hsz]; exact Nat.le_refl _⟩, ?_, h4⟩
  · rcases h4 k hf with h | h
    · have := hF k h; omega
    · exact h.2 e
  · subst e; rcases hw with rfl | rfl <;> omega
  · exact h3.trans ((Only.refl (fun k => k = b) w1).put (p := ⟨b, i, none⟩) rfl v) (fun k hk => .inr (by rw [hk]; exact hb))
set_option maxRecDepth 100000 in
set_option maxHeartbeats 4000000 in
theorem bwrite_any {Real : World → Nat → DSt → (Nat → Prop) → Prop} (D : DevOk Real) (S : Nat → Addr) (d g u n nx q k : Nat) (s : DSt) (a : ASt) (F : Nat → Prop) (A : Option Addr) (m c : Nat) (l : List Int) (w0 w : World) (h : Bd Real AReal S w0 w d g s n a q F (ARw g u)) (ha : ARat w g u d n a nx) (hm : m ≤ 256) (hl : Sl w w.heap.size A m c l) (hA : ∀ ad, A = some ad → 0 < m → ¬ F ad.block ∧ ¬ ARw g u ad.block) (hy : Byt l) (hk0 : datN n ≤ k) (hk : k < n) :
    Calls Tryd.prog 30 #[.pointer (some ⟨g, 0, none⟩), .int .i64 (k : Int), .slice A m c] w fun e w' => e = .returned (.tuple #[.agg #[.int .i64 (k : Int), .int .u32 (crcOf (nats (padB l)) : Int)], .nilIface]) ∧ BwOut Real w d g u n nx (s.put k (padB l)) (a.took k) F w' := by
  obtain ⟨i0, hi, hz0, hz1, hz2⟩ := info_parts Tryd.info5
  have hN := h.n1
  have HH := hid h
  have HA := hid ha
  have HL := hid hl
  have HAf := hid hA
  have HY := hid (padB_byt hy)
  have HM := hid hm
  have hpl : (padB l).length = 256 := padB_len (by rw [hl.len]; exact hm)
  have HPl := hid hpl
  have HW := hid (h.up.write (i := k) hk hpl (padB_byt hy))
  have HLl := hid hl.len
  have HF0 := hid (D.lt h.real)
  have HG0 := hid ha.lt
  have HK := hid hk
  have HK0 := hid hk0
  obtain ⟨L, hL⟩ : ∃ L, padB l = L := ⟨_, rfl⟩
  have HEq := hid hL
  have hll : l.length = m := hl.len
  have hnb : (n : Int) ≤ 6000 := by omega
  have hkb : (k : Int) < n := by omega
  rw [hL]
  clear h ha hl hA hm hk0 hpl hL hll
  go_enter Tryd.func30, Tryd.ntmps30
  go_wp2_with (at_make; refine wpList_make_full _ rfl _ _ 31 rfl (w.heap.size + 1) 5 i0 (.int .u8 0) 1 Tryd.underlying31 hi hz0 hz1 _ _ _ _ 256 rfl rfl rfl rfl ?b2 ?b3 ?b4 ?_)
  case b2 => rw [hz2]; omega
  case b3 => unfold maxLen; omega
  case b4 => simp
  intro w1 hown hgrow
  obtain ⟨cur, hg1, hcs, htk⟩ : ∃ cur, w1.heap[w.heap.size + 1]? = some (.cells cur 5 (0, 0)) ∧ cur.size = 256 ∧ cur.toList = I (List.replicate 256 0) := by
    rcases hown.2 with ⟨hv, _⟩ | ⟨g', cap', cur, hv, _, hg1, _, _, hcs, ht⟩
    · cases hv
    · simp at hv
      obtain ⟨rfl, rfl⟩ := hv
      refine ⟨cur, hg1, by omega, ?_⟩
      rw [zeros, List.take_of_length_le (by rw [Array.length_toList]; omega)] at ht
      exact ht
  have hb0 : Below w.heap.size w w1 := ((Below.refl _ _).alloc (Nat.le_refl _) _).grown hgrow (by simp) (fun _ h => by cases h)
  have HB1 := hid hb0
  have HBk := hid ((Blk.new w 36 #[.int .i64 0, .int .u32 0]).grown hgrow (by simp))
  have HSz1 := hid (show w.heap.size + 1 < w1.heap.size from (Array.getElem?_eq_some_iff.1 hg1).1)
  have HG1 := hid (show w1.heap[w.heap.size + 1]? = some (.cells (I (List.replicate 256 0)).toArray 5 (0, 0)) from by rw [← htk, Array.toArray_toList]; exact hg1)
  clear hown hgrow hg1 hcs htk hb0
  obtain ⟨Z, hZ⟩ : ∃ Z, I (List.replicate 256 0) = Z := ⟨_, rfl⟩
  have HZl := hid (show Z.length = 256 from by rw [← hZ, I_len, List.length_replicate])
  obtain ⟨K, hK⟩ : ∃ K, I l = K := ⟨_, rfl⟩
  have HKl := hid (show K.length = m from by rw [← hK, I_len]; exact HLl.out)
  have HK1 := hid (show ∀ v ∈ K, v.oneCell' = true from by rw [← hK]; exact I_one)
  have HSp := hid (show splice Z 0 K = I L from by
    rw [← hZ, ← hK, ← HEq.out]
    unfold splice padB
    rw [List.take_zero, List.nil_append, I_append, I_len, Nat.zero_add]
    congr 1
    unfold I
    rw [← List.map_drop, List.drop_replicate])
  have HLn := hid (HL.out.on HB1.out)
  rw [hZ] at HG1
  have HSrc := hid (show 0 < K.length → (some ⟨w.heap.size + 1, 0, none⟩ : Option Addr) = some ⟨w.heap.size + 1, 0, none⟩ ∧ ∃ ad, A = some ad ∧ ∀ j v, K[j]? = some v → w1.cell? (ad.add j) = some v from fun h0 => by
    refine ⟨rfl, ?_⟩
    rcases A with _ | ad
    · have := HLn.out.nil rfl; have := HLn.out.cap; have := HKl.out; omega
    · refine ⟨ad, rfl, fun j v hj => ?_⟩
      rw [← hK] at hj
      obtain ⟨x, hx, rfl⟩ := I_get' hj
      exact (HLn.out.at_ ad rfl (by have := HKl.out; omega)).2 j x hx)
  clear hZ hK
  go_wp2_with (refine wpList_copy_splice rfl _ _ _ _ rfl 5 Tryd.underlying31 Tryd.sizeU8b _ _ _ _ _ _ rfl rfl (w.heap.size + 1) 0 Z 5 HG1.out K ?e1 HSrc.out ?e2 HK1.out (w.heap.size + 1) w1 (Below.refl _ _) (Nat.le_refl _) ?_)
  case e1 => have := HKl.out; have := HM.out; simp only [Nat.min_def]; split <;> omega
  case e2 => have := HKl.out; have := HM.out; have := HZl.out; omega
  intro w2 hg2 hb2
  have HB2 := hid (show Below w.heap.size w w2 from HB1.out.trans (hb2.mono (by omega)))
  have HBk2 := hid (HBk.out.below hb2 (by omega))
  have HG2 := hid (show Blk w2 (w.heap.size + 1) 5 (I L).toArray from by rw [← HSp.out]; exact hg2.out)
  have HA2 := hid (HA.out.on HB2.out)
  have HD2 := hid (bd_on D HH.out HB2.out)
  have HS2 := hid (show Sl w2 w2.heap.size (some ⟨w.heap.size + 1, 0, none⟩) 256 256 L from ⟨HEq.out ▸ HPl.out, Nat.le_refl _, by unfold maxLen; omega, fun e => (by cases e), fun ad he _ => by
    cases he
    refine ⟨HG2.out.lt, fun j x hx => ?_⟩
    have e : (⟨w.heap.size + 1, 0, none⟩ : Addr).add j = ⟨w.heap.size + 1, j, none⟩ := by unfold Addr.add; split <;> simp_all
    rw [e, HG2.out.cell]
    have := I_get hx
    simpa using this⟩)
  clear hg2 hb2
  have c0 := HA2.out.cells.1
  go_wp2_with fail
  refine (D.write S d s F (k : Int) (some ⟨w.heap.size + 1, 0, none⟩) 256 256 L w2 HD2.out.sent.five HD2.out.real HD2.out.dok HS2.out (fun ad he _ hf => by
    cases he
    have := HF0.out _ hf
    simp at this
    omega) (HEq.out ▸ HY.out) (by omega)).mono ?_
  rw [← HEq.out, HW.out.1, HEq.out]
  rintro e w3 ⟨⟨v, hv, rfl⟩, F3, hr3, ho3, hf3⟩
  obtain rfl := hv.nil
  have HA3 := hid (show ARat w3 g u d n a nx from HA2.out.kept (ho3.kept (fun k hk => hk.elim (fun e => e ▸ HA2.out.lt.1) (fun e => e ▸ HA2.out.lt.2)) (fun k hk hf => HH.out.ap k hf hk)))
  have HR3 := hid hr3
  have HO3 := hid ho3
  have HF3 := hid hf3
  have HB2s := hid (show w.heap.size + 1 < w2.heap.size from HG2.out.lt)
  have HBk3 := hid (show Blk w3 w.heap.size 36 #[.int .i64 0, .int .u32 0] from HBk2.out.same (ho3.block _ (by have := HG2.out.lt; omega) (fun hf => by have := HF0.out _ hf; omega)))
  have HS3 := hid (show Sl w3 w3.heap.size (some ⟨w.heap.size + 1, 0, none⟩) 256 256 L from HS2.out.only ho3 (fun ad he _ hf => by
    cases he
    have := HF0.out _ hf
    simp at this
    omega))
  clear hv hr3 ho3 hf3 c0
  obtain ⟨_, c1, _⟩ := HA3.out.cells
  have c3 := HA3.out.use HK.out
  have fr := HA3.out.row.free k
  have HA4 := hid (HA3.out.took HK0.out)
  have HB4 := hid (show BwB Real w w.heap.size d g u n nx (s.put k L) (a.took k) F (w3.setCell ⟨u, k, none⟩ (.int .i8 2)) from
    ⟨F3, D.kept HR3.out ⟨fun i hi => Below.heap_setCell w3 ⟨u, k, none⟩ _ i (fun e => by
      subst e
      rcases HF3.out i hi with hf | hf
      · exact HH.out.ap i hf (.inr rfl)
      · have := HA2.out.lt.2; omega), by simp [World.setCell]⟩, HA4.out, ((Only.of_below HB2.out).trans (HO3.out.mono (G := fun i => F i ∨ ARw g u i) (fun i hi => .inl (.inl hi))) (fun i hi => .inl hi)).put (.inr (.inr rfl)) _, fun i hi => (HF3.out i hi).elim .inl (fun h => .inr (by have := HB2s.out; omega))⟩)
  have HS4 := hid (show Sl (w3.setCell ⟨u, k, none⟩ (.int .i8 2)) w3.heap.size (some ⟨w.heap.size + 1, 0, none⟩) 256 256 L from HS3.out.same (fun ad he => by
    cases he
    exact Below.heap_setCell w3 ⟨u, k, none⟩ _ _ (fun e => by have := HG0.out.2; simp at e; omega)))
  have HBk4 := hid (show Blk (w3.setCell ⟨u, k, none⟩ (.int .i8 2)) w.heap.size 36 #[.int .i64 0, .int .u32 0] from HBk3.out.far (fun e => by have := HG0.out.2; simp at e; omega) _)
  go_wp2_with fail
  generalize hw4 : w3.setCell ⟨u, k, none⟩ (.int .i8 2) = w4 at HB4 HS4 HBk4 ⊢
  clear c1 c3 fr hw4
  refine (sum_any _ 256 256 _ L w4 HS4.out (HEq.out ▸ HY.out)).mono ?_
  rintro e w5 ⟨rfl, rfl⟩
  have fr := fun i => HBk4.out.free i
  have b0 := HBk4.out.cell 0
  have b1 := HBk4.out.cell 1
  simp at b0 b1
  have HK4 := (HBk4.out.put 0 (.int .i64 (k : Int))).put 1 (.int .u32 ((crcOf (nats L) : Nat) : Int))
  have m0 := HK4.cell 0
  have m1 := HK4.cell 1
  simp at m0 m1
  clear HK4
  go_wp2
  refine bodyPost_ret (v := .tuple #[.agg #[.int .i64 (k : Int), .int .u32 (crcOf (nats L) : Int)], .nilIface]) (by simp [results, Tryd.results30, go_sem, m0, m1]) rfl ⟨rfl, ((HB4.out.setc D 0 HF0.out HG0.out (Nat.le_refl _) _).setc D 1 HF0.out HG0.out (Nat.le_refl _) _).out⟩
end Go.Proofs.YtfdabbpfphnbhaaDoor
