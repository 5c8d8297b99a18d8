/- The walk of DevShapes, for whatever keeps the device's calls. -/
import Derived.Test.YtjhdddccdffndaaDoorGDevIf
import Derived.Test.YtjhdddccdffndaaDoorGNumber
namespace Go.Proofs.YtjhdddccdffndaaDoor
open Go.RowKit

theorem zeros_byt (n : Nat) : Byt (List.replicate n 0) := fun x hx => by rw [List.eq_of_mem_replicate hx]; omega
theorem own_zeros {w : World} {B n : Nat} {v : Value} (h : w.ownsRow B 5 1 v n (madeCells #[Value.int .u8 0] n).toList) : Own w B v (List.replicate n 0) := by
  unfold Own
  rw [List.length_replicate, ← zeros]
  exact h
/-- what the shapes law asks of the plain device -/
structure Shp (i : Int) (q : Nat) (inb : Bool) (c : Int) (s1 : DSt) (gb : Bool) (s2 : DSt) (rc : Int) (rl : List Int) : Prop where
  hin : inb = (decide (0 ≤ i) && decide (i < 5))
  hw : (DSt.new 5).write i (List.replicate q 0) = (c, s1)
  hr : s1.raw i (List.replicate q 0) = (gb, s2)
  hg : gb = (inb && ((q : Int) == 256))
  hrd : s2.read i = (rc, rl)
  hrc : (rc = 0 ∧ inb = true) ∨ (rc = 105 ∧ inb = false)
  hc : c = if inb = true then (if q = 256 then 0 else 102) else 105
  hp : s2.pending = 0
  hcl : ((s2.calls : Int) == 1) = (c == 0)
  hf : s2.faulted i = false
theorem new_len (n : Nat) : (DSt.new n).blks.length = n := by unfold DSt.new; exact List.length_replicate
theorem new_in {n : Nat} {i : Int} : (DSt.new n).inB i = (decide (0 ≤ i) && decide (i < n)) := by unfold DSt.inB; rw [new_len]
theorem new_read {n : Nat} {i : Nat} (h : i < n) : (DSt.new n).read (i : Int) = (0, full 0) := by
  unfold DSt.read
  rw [if_neg (by show ¬ false = true; decide), if_neg (by rw [new_in]; simp [h]), Int.toNat_natCast, new_get h]
  rfl
theorem new_pending (n : Nat) : (DSt.new n).pending = 0 := by
  unfold DSt.pending
  rw [List.countP_eq_zero]
  intro b hb
  unfold DSt.new at hb
  rw [List.eq_of_mem_replicate hb]
  decide
theorem new_faulted {n : Nat} {i : Nat} (h : i < n) : (DSt.new n).faulted (i : Int) = false := by
  unfold DSt.faulted
  rw [Int.toNat_natCast, new_get h]
  show (_ && false) = false
  rw [Bool.and_false]
theorem read_of {s : DSt} {j : Nat} {b : BSt} (hd : s.down = false) (hb : s.blks[j]? = some b) : s.read (j : Int) = b.read := by
  have hj : j < s.blks.length := (List.getElem?_eq_some_iff.1 hb).1
  unfold DSt.read
  rw [if_neg (by rw [hd]; decide), if_neg (by rw [DSt.in_iff.2 ⟨by omega, by omega⟩]; decide), Int.toNat_natCast, hb]
  rfl
theorem faulted_of {s : DSt} {j : Nat} {b : BSt} (hb : s.blks[j]? = some b) : s.faulted (j : Int) = b.fault := by
  have hj : j < s.blks.length := (List.getElem?_eq_some_iff.1 hb).1
  unfold DSt.faulted
  rw [DSt.in_iff.2 ⟨by omega, by omega⟩, Int.toNat_natCast, hb]
  rfl
theorem pending_none {s : DSt} (h : ∀ b, b ∈ s.blks → b.pend = false) : s.pending = 0 := by
  unfold DSt.pending
  rw [List.countP_eq_zero]
  intro b hb
  rw [h b hb]; decide
theorem new_blank {n : Nat} {b : BSt} (h : b ∈ (DSt.new n).blks) : b = blank := by
  unfold DSt.new at h
  exact List.eq_of_mem_replicate h
theorem mem_turn {s : DSt} {j : Nat} {f : BSt → BSt} {b : BSt} (h : b ∈ (s.turn (j : Int) f).blks) : ∃ y, y ∈ s.blks ∧ (b = f y ∨ b = y) := by
  obtain ⟨i, hi⟩ := List.getElem?_of_mem h
  obtain ⟨y, hy, rfl⟩ := turn_get hi
  refine ⟨y, List.mem_of_getElem? hy, ?_⟩
  split
  · exact .inl rfl
  · exact .inr rfl
theorem shp_any (i : Int) (q : Nat) : ∃ inb c s1 gb s2 rc rl, Shp i q inb c s1 gb s2 rc rl := by
  have hpw : (DSt.new 5).power = (0, DSt.new 5) := rfl
  have hlq : (List.replicate q (0 : Int)).length = q := List.length_replicate
  by_cases hi : 0 ≤ i ∧ i < 5
  · obtain ⟨h0, h5⟩ := hi
    have hd : (decide (0 ≤ i) && decide (i < 5)) = true := by simp [h0, h5]
    have hinb : (DSt.new 5).inB i = true := by rw [new_in]; exact hd
    obtain ⟨j, rfl⟩ : ∃ j : Nat, i = (j : Int) := ⟨i.toNat, by omega⟩
    have hj : j < 5 := by omega
    by_cases hq : q = 256
    · subst hq
      obtain ⟨z, hz⟩ : ∃ z, List.replicate 256 (0 : Int) = z := ⟨_, rfl⟩
      rw [hz] at hlq
      have hw := new_write (n := 5) h0 h5 hlq
      obtain ⟨s1, hs1⟩ : ∃ s1 : DSt, s1 = { (DSt.new 5).turn (j : Int) (BSt.write z) with calls := 1 } := ⟨_, rfl⟩
      rw [← hs1] at hw
      have h1 : s1.blks[j]? = some (BSt.write z blank) := by rw [hs1]; exact turn_at (new_get hj)
      have h1l : s1.blks.length = 5 := by rw [hs1]; show ((DSt.new 5).turn (j : Int) (BSt.write z)).blks.length = 5; rw [DSt.turn_len, new_len]
      have hr : s1.raw (j : Int) z = (true, s1.turn (j : Int) (BSt.raw z)) := by
        unfold DSt.raw
        rw [if_pos ⟨DSt.in_iff.2 ⟨by omega, by rw [h1l]; omega⟩, hlq⟩]
      have h2 : (s1.turn (j : Int) (BSt.raw z)).blks[j]? = some (BSt.raw z (BSt.write z blank)) := turn_at h1
      refine ⟨true, 0, s1, true, s1.turn (j : Int) (BSt.raw z), 0, z, ⟨hd.symm, by rw [hz]; exact hw, by rw [hz]; exact hr, by decide, ?_, .inl ⟨rfl, rfl⟩, by simp, ?_, ?_, ?_⟩⟩
      · rw [read_of (by rw [hs1]; rfl) h2]; rfl
      · refine pending_none fun b hb => ?_
        have he : (s1.turn (j : Int) (BSt.raw z)).blks = ((DSt.new 5).turn (j : Int) (fun x => BSt.raw z (BSt.write z x))).blks := by
          rw [hs1]
          show (((DSt.new 5).turn (j : Int) (BSt.write z)).turn (j : Int) (BSt.raw z)).blks = _
          exact congrArg DSt.blks (turn_turn (DSt.new 5) j (BSt.write z) (BSt.raw z))
        rw [he] at hb
        obtain ⟨y, hy, rfl | rfl⟩ := mem_turn hb
        · rfl
        · rw [new_blank hy]; rfl
      · rw [hs1]; rfl
      · rw [faulted_of h2]; rfl
    · refine ⟨true, 102, DSt.new 5, false, DSt.new 5, 0, full 0, ⟨hd.symm, ?_, DSt.raw_not (.inr (by rw [hlq]; exact hq)), ?_, new_read hj, .inl ⟨rfl, rfl⟩, by simp [hq], new_pending 5, by decide, new_faulted hj⟩⟩
      · unfold DSt.write
        rw [hpw, if_pos rfl]
        unfold DSt.write1
        rw [if_neg (by rw [hinb]; decide), if_pos (by rw [hlq]; exact hq)]
      · have : ((q : Int) == 256) = false := by rw [beq_eq_false_iff_ne]; omega
        rw [this]; rfl
  · have hd : (decide (0 ≤ i) && decide (i < 5)) = false := by
      rcases Int.lt_or_le i 0 with h | h
      · have : ¬ 0 ≤ i := by omega
        simp [this]
      · have : ¬ i < 5 := fun h5 => hi ⟨h, h5⟩
        simp [this]
    have hinb : (DSt.new 5).inB i = false := by rw [new_in]; exact hd
    refine ⟨false, 105, DSt.new 5, false, DSt.new 5, 105, [], ⟨hd.symm, ?_, DSt.raw_not (.inl hinb), rfl, ?_, .inr ⟨rfl, rfl⟩, by simp, new_pending 5, by decide, ?_⟩⟩
    · unfold DSt.write
      rw [hpw, if_pos rfl]
      unfold DSt.write1
      rw [if_pos hinb]
    · unfold DSt.read
      rw [if_neg (by show ¬ false = true; decide), if_pos hinb]
    · unfold DSt.faulted; rw [hinb]; rfl

set_option maxRecDepth 100000 in
set_option maxHeartbeats 2000000 in
theorem devShapes_any {Real : World → Nat → DSt → (Nat → Prop) → Prop} (D : DevOk Real) (S : Nat → Addr) (i n : Int) (w : World) (hS : Sent w S) :
    Calls Tryd.prog 8 #[.int .i64 i, .int .i64 n] w (Yes w) := by
  obtain ⟨i0, hi, hz0, hz1, hz2⟩ := info_parts Tryd.info5
  have HS := hid hS
  have HD := hid D
  clear hS D
  go_enter Tryd.func8, Tryd.ntmps8
  go_wp2_with fail
  refine (first_any HD.out S _ HS.out.five).mono ?_
  rintro e w1 ⟨rfl, hb⟩
  have HB1 := hid hb
  have HS1 := hid (HS.out.on hb)
  clear hb
  go_wp2_with fail
  refine (number_any n 520 _ (by omega) (by omega)).mono ?_
  rintro e w' ⟨rfl, rfl⟩
  obtain ⟨q, hq⟩ : ∃ q : Nat, n % 520 = (q : Int) := ⟨(n % 520).toNat, by omega⟩
  have hql : (q : Int) < 520 := by omega
  rw [hq]
  clear hq
  obtain ⟨inb, c, s1, gb, s2, rc, rl, hshp⟩ := shp_any i q
  have HP := hid hshp
  have hcase : (0 ≤ i ∧ i < 5 ∧ inb = true) ∨ (i < 0 ∧ inb = false) ∨ (0 ≤ i ∧ 5 ≤ i ∧ inb = false) := by
    have h := hshp.hin
    rcases Int.lt_or_le i 0 with h0 | h0
    · exact .inr (.inl ⟨h0, by rw [h]; have : ¬ 0 ≤ i := by omega
                               simp [this]⟩)
    · rcases Int.lt_or_le i 5 with h5 | h5
      · exact .inl ⟨h0, h5, by rw [h]; simp [h0, h5]⟩
      · exact .inr (.inr ⟨h0, h5, by rw [h]; have : ¬ i < 5 := by omega
                                     simp [this]⟩)
  have hq256 : ((q : Int) != 256) = false ∧ ((q : Int) == 256) = true ∧ q = 256 ∨ ((q : Int) != 256) = true ∧ ((q : Int) == 256) = false ∧ q ≠ 256 := by
    by_cases h : q = 256
    · exact .inl ⟨by subst h; decide, by subst h; decide, h⟩
    · exact .inr ⟨by rw [bne_iff_ne]; omega, by rw [beq_eq_false_iff_ne]; omega, h⟩
  have hbools : (decide (0 ≤ i) = true ∧ decide (i < 5) = true ∧ inb = true) ∨ (decide (0 ≤ i) = false ∧ inb = false) ∨ (decide (0 ≤ i) = true ∧ decide (i < 5) = false ∧ inb = false) := by
    rcases hcase with ⟨h0, h5, h⟩ | ⟨h0, h⟩ | ⟨h0, h5, h⟩
    · exact .inl ⟨by simpa using h0, by simpa using h5, h⟩
    · exact .inr (.inl ⟨by simpa using h0, h⟩)
    · exact .inr (.inr ⟨by simpa using h0, by simpa using h5, h⟩)
  clear hshp hcase
  rcases hbools with ⟨hd0, hd5, rfl⟩ | ⟨hd0, rfl⟩ | ⟨hd0, hd5, rfl⟩ <;> rcases hq256 with ⟨hq1, hq2, hq3⟩ | ⟨hq1, hq2, hq3⟩
  all_goals
    have hc := HP.out.hc
    simp [hq3] at hc
    subst hc
    clear hq3
    go_wp2_with fail
    refine (HD.out.new 5 _ (by omega) (by omega)).mono ?_
    rintro e w2 ⟨p, F, rfl, hr, hb, hF⟩
    have HR2 := hid hr
    have HB2 := hid (HB1.out.trans (hb.mono HB1.out.size))
    have HF2 := hid (show ∀ k, F k → w.heap.size ≤ k from fun k hk => by have := hF k hk; have := HB1.out.size; omega)
    have HS2 := hid (HS.out.on HB2.out)
    clear hr hb hF
    go_wp2_with (at_make; refine wpList_make_full _ rfl _ _ 33 rfl w2.heap.size 5 i0 (.int .u8 0) 1 Tryd.underlying33 hi hz0 hz1 _ _ _ _ q rfl rfl rfl rfl (by rw [hz2]; omega) (by unfold maxLen; omega) (Nat.le_refl _) ?_)
    intro w3 hown hgrow
    have hz := own_zeros hown
    have hb3 : Below w2.heap.size w2 w3 := (Below.refl _ _).grown hgrow (Nat.le_refl _) (fun _ h => by cases h)
    have HL3 := hid (own_sl hz).1
    have HR3 := hid (HD.out.kept HR2.out (Kept.of_below hb3 (HD.out.lt HR2.out)))
    have HB3 := hid (HB2.out.trans (hb3.mono HB2.out.size))
    have HS3 := hid (HS.out.on HB3.out)
    have HA3 := hid (show ∀ ad, some (⟨w2.heap.size, 0, none⟩ : Addr) = some ad → 0 < q → ¬ F ad.block from fun ad ha _ h => by
      cases ha
      have := HD.out.lt HR2.out _ h
      exact Nat.lt_irrefl _ this)
    clear hown hgrow hz hb3
    go_wp2_with fail
    refine (HD.out.write S p (DSt.new 5) F i _ q q _ _ HS3.out.five HR3.out ((okN_new (m := 0) (by omega)).ok (by omega)) HL3.out HA3.out (zeros_byt q) (by omega)).mono ?_
    rw [HP.out.hw]
    rintro e w4 ⟨⟨v, hv, rfl⟩, F4, hr, ho, hf⟩
    have HV := hid hv
    have HR4 := hid hr
    have HF4 := hid (show ∀ k, F4 k → w.heap.size ≤ k from fun k hk => by
      rcases hf k hk with h | h
      · exact HF2.out k h
      · have := HB3.out.size; omega)
    have HB4 := hid (HB3.out.trans (ho.below HB3.out.size HF2.out))
    have HOk4 := hid (show s1.okN 1 from by
      have h := okN_write (i := i) (okN_new (n := 5) (m := 0) (by omega)) (zeros_byt q)
      rwa [HP.out.hw] at h)
    clear hv hr ho hf
    go_wp2_with (at_make; refine wpList_make_full _ rfl _ _ 33 rfl w4.heap.size 5 i0 (.int .u8 0) 1 Tryd.underlying33 hi hz0 hz1 _ _ _ _ q rfl rfl rfl rfl (by rw [hz2]; omega) (by unfold maxLen; omega) (Nat.le_refl _) ?_)
    intro w5 hown hgrow
    have hz := own_zeros hown
    have hb5 : Below w4.heap.size w4 w5 := (Below.refl _ _).grown hgrow (Nat.le_refl _) (fun _ h => by cases h)
    have HL5 := hid (own_sl hz).1
    have HR5 := hid (HD.out.kept HR4.out (Kept.of_below hb5 (HD.out.lt HR4.out)))
    have HB5 := hid (HB4.out.trans (hb5.mono HB4.out.size))
    have HA5 := hid (show ∀ ad, some (⟨w4.heap.size, 0, none⟩ : Addr) = some ad → 0 < q → ¬ F4 ad.block from fun ad ha _ h => by
      cases ha
      have := HD.out.lt HR4.out _ h
      exact Nat.lt_irrefl _ this)
    clear hown hgrow hz hb5
    go_wp2_with fail
    refine (HD.out.raw p s1 F4 i _ q q _ _ HR5.out (HOk4.out.ok (by omega)) HL5.out HA5.out (zeros_byt q) (by omega)).mono ?_
    rw [HP.out.hr]
    rintro e w6 ⟨rfl, F6, hr, ho, hf⟩
    have HR6 := hid hr
    have HF6 := hid (show ∀ k, F6 k → w.heap.size ≤ k from fun k hk => by
      rcases hf k hk with h | h
      · exact HF4.out k h
      · have := HB5.out.size; omega)
    have HB6 := hid (HB5.out.trans (ho.below HB5.out.size HF4.out))
    have HS6 := hid (HS.out.on HB6.out)
    have HOk6 := hid (show s2.okN 1 from by
      have h := okN_raw (i := i) HOk4.out (zeros_byt q)
      rwa [HP.out.hr] at h)
    clear hr ho hf
    have hg := HP.out.hg
    simp [hq2] at hg
    subst hg
    go_wp2_with fail
    refine (HD.out.read S p s2 F6 i _ HS6.out.five HR6.out (HOk6.out.ok (by omega))).mono ?_
    rw [HP.out.hrd]
    rintro e w7 ⟨A7, n7, c7, v7, rfl, hv7, hs7, hb7, _⟩
    have HB7 := hid (HB6.out.trans (hb7.mono HB6.out.size))
    have HR7 := hid (HD.out.kept HR6.out (Kept.of_below hb7 (HD.out.lt HR6.out)))
    have HS7 := hid (HS.out.on HB7.out)
    have hrc : rc = 0 ∧ _ = true ∨ rc = 105 ∧ _ = false := HP.out.hrc
    have HV7 := hid (show EV S rc v7 from hv7)
    clear hs7 hb7 hv7
    simp at hrc
    subst hrc
    have hpd := HP.out.hp
    have hfl := HP.out.hf
    have HPd := hid hpd
    have HFl := hid hfl
    clear hpd hfl
    have HOk := hid (HOk6.out.ok (by omega))
    have HR7d := hid (show Real w7.drew p s2 F6 from HD.out.kept HR7.out ⟨fun _ _ => rfl, Nat.le_refl _⟩)
    have HS7d := hid (show Sent w7.drew S from HS7.out.drew)
    have HCL := hid HP.out.hcl
    first
      | (have h7 := HV7.out.nil; subst h7)
      | (obtain ⟨j7, h7⟩ := HV7.out.is (by decide); subst h7)
    first
      | (have hcl : ((s2.calls : Int) == 1) = true := HCL.out.trans rfl)
      | (have hcl : ((s2.calls : Int) == 1) = false := HCL.out.trans rfl)
    have HVc := hid HV.out
    first
      | (have h1 := HV.out.nil; subst h1)
      | (obtain ⟨jv, h1⟩ := HV.out.is (by decide); subst h1)
    clear HV HV7 HCL
    go_wp2_with fail
    first
      | (have hck : decide (i < 5) = true := hd5
         go_region_held3 (fun _ => True) (exact trivial)
        ((first
        | (go_at_call 11; refine (is_any S _ _ _ _ HS7d.out HVc.out).mono ?_; rintro e w8 ⟨rfl, hb8⟩; have HR8 := hid (HD.out.kept HR7d.out (Kept.of_below hb8 (HD.out.lt HR7d.out))); have HB8 := hid (HB7.out.trans ((show Below w7.heap.size w7 w8 from ⟨hb8.os, hb8.tape, hb8.output, hb8.size, hb8.block⟩).mono HB7.out.size)); clear hb8)
        | (go_at_call 34; refine (HD.out.pending p s2 F6 _ (by exact HD.out.kept HR8.out ⟨fun _ _ => rfl, Nat.le_refl _⟩) HOk.out).mono ?_; rw [HPd.out]; rintro e w9 ⟨rfl, k9, rfl⟩)
        | (go_at_call 36; refine (HD.out.calls p s2 F6 _ (by exact HD.out.kept HR8.out ⟨fun _ _ => rfl, Nat.le_refl _⟩) HOk.out).mono ?_; rintro e w10 ⟨rfl, k10, rfl⟩)
        | (go_at_call 32; refine (HD.out.faulted p s2 F6 i _ (by exact HD.out.kept HR8.out ⟨fun _ _ => rfl, Nat.le_refl _⟩) HOk.out).mono ?_; rw [HFl.out]; rintro e w11 ⟨rfl, k11, rfl⟩))))
      | (
            refine wp_region_held_drew (S := fun _ => True) (by kernel_rfl) trivial (fun hH => ?_)
            refine wpAnyH_take (i := 0) (oi := _) (v := ?_) (by simp only [List.getElem?_toArray, List.getElem?_cons_zero]; rfl) (by kernel_rfl) (by kernel_rfl) (by kernel_rfl) (by exact fun _ _ _ h => h) (Or.inl ⟨by rfl, ?_⟩) hH ?_
            rotate_left
            · intro w hSw; go_simp; try with_reducible rfl
            try simp only [Act.put, List.setIfInBounds_toArray, List.set_cons_zero, List.set_cons_succ]
            refine wpAnyH_take (i := 1) (oi := _) (v := ?_) (by simp only [List.getElem?_toArray, List.getElem?_cons_succ, List.getElem?_cons_zero]; rfl) (by kernel_rfl) (by kernel_rfl) (by kernel_rfl) (by exact fun _ _ _ h => h) (Or.inl ⟨by rfl, ?_⟩) hH ?_
            rotate_left
            · intro w hSw; go_simp; try with_reducible rfl
            try simp only [Act.put, List.setIfInBounds_toArray, List.set_cons_zero, List.set_cons_succ]
            refine wpAnyH_ready (rs := [2]) (by kernel_rfl) (by simp) (AllReadyH.cons rfl (fun K hK => ?_) AllReadyH.nil)
            go_simp
            go_at_call 11; refine (is_any S _ _ _ _ HS7d.out HVc.out).mono ?_; rintro e w8 ⟨rfl, hb8⟩; have HR8 := hid (HD.out.kept HR7d.out (Kept.of_below hb8 (HD.out.lt HR7d.out))); have HB8 := hid (HB7.out.trans ((show Below w7.heap.size w7 w8 from ⟨hb8.os, hb8.tape, hb8.output, hb8.size, hb8.block⟩).mono HB7.out.size)); clear hb8
            try go_wp2_with fail
            refine hK.out _ _ trivial (fun hH => ?_)
            clear hK K
            try simp only [Act.put, List.setIfInBounds_toArray, List.set_cons_zero, List.set_cons_succ]
            refine wpAnyH_take (i := 3) (oi := _) (v := ?_) (by simp only [List.getElem?_toArray, List.getElem?_cons_succ, List.getElem?_cons_zero]; rfl) (by kernel_rfl) (by kernel_rfl) (by kernel_rfl) (by exact fun _ _ _ h => h) (Or.inl ⟨by rfl, ?_⟩) hH ?_
            rotate_left
            · intro w hSw; go_simp; try with_reducible rfl
            try simp only [Act.put, List.setIfInBounds_toArray, List.set_cons_zero, List.set_cons_succ]
            refine wpAnyH_take (i := 4) (oi := _) (v := ?_) (by simp only [List.getElem?_toArray, List.getElem?_cons_succ, List.getElem?_cons_zero]; rfl) (by kernel_rfl) (by kernel_rfl) (by kernel_rfl) (by exact fun _ _ _ h => h) (Or.inl ⟨by rfl, ?_⟩) hH ?_
            rotate_left
            · intro w hSw; go_simp; try with_reducible rfl
            try simp only [Act.put, List.setIfInBounds_toArray, List.set_cons_zero, List.set_cons_succ]
            refine wpAnyH_take (i := 5) (oi := _) (v := ?_) (by simp only [List.getElem?_toArray, List.getElem?_cons_succ, List.getElem?_cons_zero]; rfl) (by kernel_rfl) (by kernel_rfl) (by kernel_rfl) (by exact fun _ _ _ h => h) (Or.inl ⟨by rfl, ?_⟩) hH ?_
            rotate_left
            · intro w hSw; go_simp; try with_reducible rfl
            try simp only [Act.put, List.setIfInBounds_toArray, List.set_cons_zero, List.set_cons_succ]
            refine wpAnyH_take (i := 6) (oi := _) (v := ?_) (by simp only [List.getElem?_toArray, List.getElem?_cons_succ, List.getElem?_cons_zero]; rfl) (by kernel_rfl) (by kernel_rfl) (by kernel_rfl) (by exact fun _ _ _ h => h) (Or.inl ⟨by rfl, ?_⟩) hH ?_
            rotate_left
            · intro w hSw; go_simp; try with_reducible rfl
            try simp only [Act.put, List.setIfInBounds_toArray, List.set_cons_zero, List.set_cons_succ]
            refine wpAnyH_take (i := 7) (oi := _) (v := undef) (by simp only [List.getElem?_toArray, List.getElem?_cons_succ, List.getElem?_cons_zero]; rfl) (by kernel_rfl) (by kernel_rfl) (by kernel_rfl) (by exact fun _ _ _ h => h) (Or.inr ⟨by rfl, rfl⟩) hH ?_
            try simp only [Act.put, List.setIfInBounds_toArray, List.set_cons_zero, List.set_cons_succ]
            refine wpAnyH_take (i := 8) (oi := _) (v := undef) (by simp only [List.getElem?_toArray, List.getElem?_cons_succ, List.getElem?_cons_zero]; rfl) (by kernel_rfl) (by kernel_rfl) (by kernel_rfl) (by exact fun _ _ _ h => h) (Or.inr ⟨by rfl, rfl⟩) hH ?_
            try simp only [Act.put, List.setIfInBounds_toArray, List.set_cons_zero, List.set_cons_succ]
            refine wpAnyH_take (i := 9) (oi := _) (v := ?_) (by simp only [List.getElem?_toArray, List.getElem?_cons_succ, List.getElem?_cons_zero]; rfl) (by kernel_rfl) (by kernel_rfl) (by kernel_rfl) (by exact fun _ _ _ h => h) (Or.inl ⟨by rfl, ?_⟩) hH ?_
            rotate_left
            · intro w hSw; go_simp; try with_reducible rfl
            try simp only [Act.put, List.setIfInBounds_toArray, List.set_cons_zero, List.set_cons_succ]
            refine wpAnyH_take (i := 10) (oi := _) (v := ?_) (by simp only [List.getElem?_toArray, List.getElem?_cons_succ, List.getElem?_cons_zero]; rfl) (by kernel_rfl) (by kernel_rfl) (by kernel_rfl) (by exact fun _ _ _ h => h) (Or.inl ⟨by rfl, ?_⟩) hH ?_
            rotate_left
            · intro w hSw; go_simp; try with_reducible rfl
            try simp only [Act.put, List.setIfInBounds_toArray, List.set_cons_zero, List.set_cons_succ]
            refine wpAnyH_take (i := 11) (oi := _) (v := ?_) (by simp only [List.getElem?_toArray, List.getElem?_cons_succ, List.getElem?_cons_zero]; rfl) (by kernel_rfl) (by kernel_rfl) (by kernel_rfl) (by exact fun _ _ _ h => h) (Or.inl ⟨by rfl, ?_⟩) hH ?_
            rotate_left
            · intro w hSw; go_simp; try with_reducible rfl
            try simp only [Act.put, List.setIfInBounds_toArray, List.set_cons_zero, List.set_cons_succ]
            refine wpAnyH_take (i := 12) (oi := _) (v := ?_) (by simp only [List.getElem?_toArray, List.getElem?_cons_succ, List.getElem?_cons_zero]; rfl) (by kernel_rfl) (by kernel_rfl) (by kernel_rfl) (by exact fun _ _ _ h => h) (Or.inl ⟨by rfl, ?_⟩) hH ?_
            rotate_left
            · intro w hSw; go_simp; try with_reducible rfl
            try simp only [Act.put, List.setIfInBounds_toArray, List.set_cons_zero, List.set_cons_succ]
            refine wpAnyH_take (i := 13) (oi := _) (v := ?_) (by simp only [List.getElem?_toArray, List.getElem?_cons_succ, List.getElem?_cons_zero]; rfl) (by kernel_rfl) (by kernel_rfl) (by kernel_rfl) (by exact fun _ _ _ h => h) (Or.inl ⟨by rfl, ?_⟩) hH ?_
            rotate_left
            · intro w hSw; go_simp; try with_reducible rfl
            try simp only [Act.put, List.setIfInBounds_toArray, List.set_cons_zero, List.set_cons_succ]
            refine wpAnyH_ready (rs := [14]) (by kernel_rfl) (by simp) (AllReadyH.cons rfl (fun K hK => ?_) AllReadyH.nil)
            go_simp
            go_at_call 34; refine (HD.out.pending p s2 F6 _ (by exact HD.out.kept HR8.out ⟨fun _ _ => rfl, Nat.le_refl _⟩) HOk.out).mono ?_; rw [HPd.out]; rintro e w9 ⟨rfl, k9, rfl⟩
            try go_wp2_with fail
            refine hK.out _ _ trivial (fun hH => ?_)
            clear hK K
            try simp only [Act.put, List.setIfInBounds_toArray, List.set_cons_zero, List.set_cons_succ]
            refine wpAnyH_take (i := 15) (oi := _) (v := ?_) (by simp only [List.getElem?_toArray, List.getElem?_cons_succ, List.getElem?_cons_zero]; rfl) (by kernel_rfl) (by kernel_rfl) (by kernel_rfl) (by exact fun _ _ _ h => h) (Or.inl ⟨by rfl, ?_⟩) hH ?_
            rotate_left
            · intro w hSw; go_simp; try with_reducible rfl
            try simp only [Act.put, List.setIfInBounds_toArray, List.set_cons_zero, List.set_cons_succ]
            refine wpAnyH_take (i := 16) (oi := _) (v := ?_) (by simp only [List.getElem?_toArray, List.getElem?_cons_succ, List.getElem?_cons_zero]; rfl) (by kernel_rfl) (by kernel_rfl) (by kernel_rfl) (by exact fun _ _ _ h => h) (Or.inl ⟨by rfl, ?_⟩) hH ?_
            rotate_left
            · intro w hSw; go_simp; try with_reducible rfl
            try simp only [Act.put, List.setIfInBounds_toArray, List.set_cons_zero, List.set_cons_succ]
            refine wpAnyH_take (i := 17) (oi := _) (v := ?_) (by simp only [List.getElem?_toArray, List.getElem?_cons_succ, List.getElem?_cons_zero]; rfl) (by kernel_rfl) (by kernel_rfl) (by kernel_rfl) (by exact fun _ _ _ h => h) (Or.inl ⟨by rfl, ?_⟩) hH ?_
            rotate_left
            · intro w hSw; go_simp; try with_reducible rfl
            try simp only [Act.put, List.setIfInBounds_toArray, List.set_cons_zero, List.set_cons_succ]
            refine wpAnyH_take (i := 18) (oi := _) (v := ?_) (by simp only [List.getElem?_toArray, List.getElem?_cons_succ, List.getElem?_cons_zero]; rfl) (by kernel_rfl) (by kernel_rfl) (by kernel_rfl) (by exact fun _ _ _ h => h) (Or.inl ⟨by rfl, ?_⟩) hH ?_
            rotate_left
            · intro w hSw; go_simp; try with_reducible rfl
            try simp only [Act.put, List.setIfInBounds_toArray, List.set_cons_zero, List.set_cons_succ]
            refine wpAnyH_take (i := 19) (oi := _) (v := ?_) (by simp only [List.getElem?_toArray, List.getElem?_cons_succ, List.getElem?_cons_zero]; rfl) (by kernel_rfl) (by kernel_rfl) (by kernel_rfl) (by exact fun _ _ _ h => h) (Or.inl ⟨by rfl, ?_⟩) hH ?_
            rotate_left
            · intro w hSw; go_simp; try with_reducible rfl
            try simp only [Act.put, List.setIfInBounds_toArray, List.set_cons_zero, List.set_cons_succ]
            refine wpAnyH_take (i := 20) (oi := _) (v := ?_) (by simp only [List.getElem?_toArray, List.getElem?_cons_succ, List.getElem?_cons_zero]; rfl) (by kernel_rfl) (by kernel_rfl) (by kernel_rfl) (by exact fun _ _ _ h => h) (Or.inl ⟨by rfl, ?_⟩) hH ?_
            rotate_left
            · intro w hSw; go_simp; try with_reducible rfl
            try simp only [Act.put, List.setIfInBounds_toArray, List.set_cons_zero, List.set_cons_succ]
            refine wpAnyH_take (i := 21) (oi := _) (v := ?_) (by simp only [List.getElem?_toArray, List.getElem?_cons_succ, List.getElem?_cons_zero]; rfl) (by kernel_rfl) (by kernel_rfl) (by kernel_rfl) (by exact fun _ _ _ h => h) (Or.inl ⟨by rfl, ?_⟩) hH ?_
            rotate_left
            · intro w hSw; go_simp; try with_reducible rfl
            try simp only [Act.put, List.setIfInBounds_toArray, List.set_cons_zero, List.set_cons_succ]
            refine wpAnyH_take (i := 22) (oi := _) (v := ?_) (by simp only [List.getElem?_toArray, List.getElem?_cons_succ, List.getElem?_cons_zero]; rfl) (by kernel_rfl) (by kernel_rfl) (by kernel_rfl) (by exact fun _ _ _ h => h) (Or.inl ⟨by rfl, ?_⟩) hH ?_
            rotate_left
            · intro w hSw; go_simp; try with_reducible rfl
            try simp only [Act.put, List.setIfInBounds_toArray, List.set_cons_zero, List.set_cons_succ]
            refine wpAnyH_take (i := 23) (oi := _) (v := ?_) (by simp only [List.getElem?_toArray, List.getElem?_cons_succ, List.getElem?_cons_zero]; rfl) (by kernel_rfl) (by kernel_rfl) (by kernel_rfl) (by exact fun _ _ _ h => h) (Or.inl ⟨by rfl, ?_⟩) hH ?_
            rotate_left
            · intro w hSw; go_simp; try with_reducible rfl
            try simp only [Act.put, List.setIfInBounds_toArray, List.set_cons_zero, List.set_cons_succ]
            refine wpAnyH_take (i := 24) (oi := _) (v := ?_) (by simp only [List.getElem?_toArray, List.getElem?_cons_succ, List.getElem?_cons_zero]; rfl) (by kernel_rfl) (by kernel_rfl) (by kernel_rfl) (by exact fun _ _ _ h => h) (Or.inl ⟨by rfl, ?_⟩) hH ?_
            rotate_left
            · intro w hSw; go_simp; try with_reducible rfl
            try simp only [Act.put, List.setIfInBounds_toArray, List.set_cons_zero, List.set_cons_succ]
            refine wpAnyH_take (i := 27) (oi := _) (v := ?_) (by simp only [List.getElem?_toArray, List.getElem?_cons_succ, List.getElem?_cons_zero]; rfl) (by kernel_rfl) (by kernel_rfl) (by kernel_rfl) (by exact fun _ _ _ h => h) (Or.inl ⟨by rfl, ?_⟩) hH ?_
            rotate_left
            · intro w hSw; go_simp; try with_reducible rfl
            try simp only [Act.put, List.setIfInBounds_toArray, List.set_cons_zero, List.set_cons_succ]
            refine wpAnyH_take (i := 28) (oi := _) (v := ?_) (by simp only [List.getElem?_toArray, List.getElem?_cons_succ, List.getElem?_cons_zero]; rfl) (by kernel_rfl) (by kernel_rfl) (by kernel_rfl) (by exact fun _ _ _ h => h) (Or.inl ⟨by rfl, ?_⟩) hH ?_
            rotate_left
            · intro w hSw; go_simp; try with_reducible rfl
            try simp only [Act.put, List.setIfInBounds_toArray, List.set_cons_zero, List.set_cons_succ]
            refine wpAnyH_ready (rs := [25]) (by kernel_rfl) (by simp) (AllReadyH.cons rfl (fun K hK => ?_) AllReadyH.nil)
            go_simp
            go_at_call 36; refine (HD.out.calls p s2 F6 _ (by exact HD.out.kept HR8.out ⟨fun _ _ => rfl, Nat.le_refl _⟩) HOk.out).mono ?_; rintro e w10 ⟨rfl, k10, rfl⟩
            try go_wp2_with fail
            refine hK.out _ _ trivial (fun hH => ?_)
            clear hK K
            try simp only [Act.put, List.setIfInBounds_toArray, List.set_cons_zero, List.set_cons_succ]
            refine wpAnyH_take (i := 26) (oi := _) (v := ?_) (by simp only [List.getElem?_toArray, List.getElem?_cons_succ, List.getElem?_cons_zero]; rfl) (by kernel_rfl) (by kernel_rfl) (by kernel_rfl) (by exact fun _ _ _ h => h) (Or.inl ⟨by rfl, ?_⟩) hH ?_
            rotate_left
            · intro w hSw; go_simp; try with_reducible rfl
            try simp only [Act.put, List.setIfInBounds_toArray, List.set_cons_zero, List.set_cons_succ]
            refine wpAnyH_take (i := 29) (oi := _) (v := ?_) (by simp only [List.getElem?_toArray, List.getElem?_cons_succ, List.getElem?_cons_zero]; rfl) (by kernel_rfl) (by kernel_rfl) (by kernel_rfl) (by exact fun _ _ _ h => h) (Or.inl ⟨by rfl, ?_⟩) hH ?_
            rotate_left
            · intro w hSw; go_simp; try with_reducible rfl
            try simp only [Act.put, List.setIfInBounds_toArray, List.set_cons_zero, List.set_cons_succ]
            refine wpAnyH_take (i := 30) (oi := _) (v := ?_) (by simp only [List.getElem?_toArray, List.getElem?_cons_succ, List.getElem?_cons_zero]; rfl) (by kernel_rfl) (by kernel_rfl) (by kernel_rfl) (by exact fun _ _ _ h => h) (Or.inl ⟨by rfl, ?_⟩) hH ?_
            rotate_left
            · intro w hSw; go_simp; try with_reducible rfl
            try simp only [Act.put, List.setIfInBounds_toArray, List.set_cons_zero, List.set_cons_succ]
            refine wpAnyH_take (i := 31) (oi := _) (v := ?_) (by simp only [List.getElem?_toArray, List.getElem?_cons_succ, List.getElem?_cons_zero]; rfl) (by kernel_rfl) (by kernel_rfl) (by kernel_rfl) (by exact fun _ _ _ h => h) (Or.inl ⟨by rfl, ?_⟩) hH ?_
            rotate_left
            · intro w hSw; go_simp; try with_reducible rfl
            try simp only [Act.put, List.setIfInBounds_toArray, List.set_cons_zero, List.set_cons_succ]
            refine wpAnyH_take (i := 32) (oi := _) (v := ?_) (by simp only [List.getElem?_toArray, List.getElem?_cons_succ, List.getElem?_cons_zero]; rfl) (by kernel_rfl) (by kernel_rfl) (by kernel_rfl) (by exact fun _ _ _ h => h) (Or.inl ⟨by rfl, ?_⟩) hH ?_
            rotate_left
            · intro w hSw; go_simp; try with_reducible rfl
            try simp only [Act.put, List.setIfInBounds_toArray, List.set_cons_zero, List.set_cons_succ]
            refine wpAnyH_take (i := 33) (oi := _) (v := ?_) (by simp only [List.getElem?_toArray, List.getElem?_cons_succ, List.getElem?_cons_zero]; rfl) (by kernel_rfl) (by kernel_rfl) (by kernel_rfl) (by exact fun _ _ _ h => h) (Or.inl ⟨by rfl, ?_⟩) hH ?_
            rotate_left
            · intro w hSw; go_simp; try with_reducible rfl
            try simp only [Act.put, List.setIfInBounds_toArray, List.set_cons_zero, List.set_cons_succ]
            refine wpAnyH_ready (rs := [34]) (by kernel_rfl) (by simp) (AllReadyH.cons rfl (fun K hK => ?_) AllReadyH.nil)
            go_simp
            go_at_call 32; refine (HD.out.faulted p s2 F6 i _ (by exact HD.out.kept HR8.out ⟨fun _ _ => rfl, Nat.le_refl _⟩) HOk.out).mono ?_; rw [HFl.out]; rintro e w11 ⟨rfl, k11, rfl⟩
            try go_wp2_with fail
            refine hK.out _ _ trivial (fun hH => ?_)
            clear hK K
            try simp only [Act.put, List.setIfInBounds_toArray, List.set_cons_zero, List.set_cons_succ]
            refine wpAnyH_take (i := 35) (oi := _) (v := ?_) (by simp only [List.getElem?_toArray, List.getElem?_cons_succ, List.getElem?_cons_zero]; rfl) (by kernel_rfl) (by kernel_rfl) (by kernel_rfl) (by exact fun _ _ _ h => h) (Or.inl ⟨by rfl, ?_⟩) hH ?_
            rotate_left
            · intro w hSw; go_simp; try with_reducible rfl
            try simp only [Act.put, List.setIfInBounds_toArray, List.set_cons_zero, List.set_cons_succ]
            refine wpAnyH_take (i := 36) (oi := _) (v := ?_) (by simp only [List.getElem?_toArray, List.getElem?_cons_succ, List.getElem?_cons_zero]; rfl) (by kernel_rfl) (by kernel_rfl) (by kernel_rfl) (by exact fun _ _ _ h => h) (Or.inl ⟨by rfl, ?_⟩) hH ?_
            rotate_left
            · intro w hSw; go_simp; try with_reducible rfl
            try simp only [Act.put, List.setIfInBounds_toArray, List.set_cons_zero, List.set_cons_succ]
            refine wpAnyH_take (i := 37) (oi := _) (v := ?_) (by simp only [List.getElem?_toArray, List.getElem?_cons_succ, List.getElem?_cons_zero]; rfl) (by kernel_rfl) (by kernel_rfl) (by kernel_rfl) (by exact fun _ _ _ h => h) (Or.inl ⟨by rfl, ?_⟩) hH ?_
            rotate_left
            · intro w hSw; go_simp; try with_reducible rfl
            try simp only [Act.put, List.setIfInBounds_toArray, List.set_cons_zero, List.set_cons_succ]
            refine wpAnyH_done (by kernel_rfl) ?_ _)
    go_wp2
    go_ret
    exact ⟨rfl, HB8.out.os, HB8.out.tape, HB8.out.output, HB8.out.size, HB8.out.block⟩
end Go.Proofs.YtjhdddccdffndaaDoor
