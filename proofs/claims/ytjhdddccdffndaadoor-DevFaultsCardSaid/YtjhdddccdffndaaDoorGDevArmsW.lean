/- The walk of DevArms, for whatever keeps the device's calls. -/
import Derived.Test.YtjhdddccdffndaaDoorGDevIf
import Derived.Test.YtjhdddccdffndaaDoorGNumber
namespace Go.Proofs.YtjhdddccdffndaaDoor
open Go.RowKit

/-- t calls behind Arm(q): forty blocks, none made to fail; up till the q-th -/
structure Armed (q t : Nat) (s : DSt) : Prop where
  len : s.blks.length = 40
  ok : ∀ b, b ∈ s.blks → b.fail = false
  off : q = 0 → s.arm = 0 ∧ s.down = false
  up : 0 < q → t < q → s.arm = q - t ∧ s.down = false
  dn : 0 < q → q ≤ t → s.down = true
def fineB (q t : Nat) : Bool := decide (q = 0 ∨ t + 1 < q)
theorem Armed.power {q t : Nat} {s : DSt} (h : Armed q t s) : s.power.1 = (if fineB q t = true then 0 else 106) ∧ Armed q (t + 1) s.power.2 ∧ (fineB q t = true → s.power.2.down = false) := by
  have hb := s.power_blks
  by_cases h0 : q = 0
  · have hf : fineB q t = true := by unfold fineB; simp [h0]
    obtain ⟨ha, hd⟩ := h.off h0
    have e : s.power = (0, s) := by unfold DSt.power; rw [if_neg (by rw [hd]; decide), if_pos ha]
    rw [e, hf]
    exact ⟨rfl, ⟨h.len, h.ok, h.off, fun h1 => by omega, fun h1 => by omega⟩, fun _ => hd⟩
  · rcases Nat.lt_or_ge t q with h1 | h1
    · obtain ⟨ha, hd⟩ := h.up (by omega) h1
      by_cases h2 : t + 1 < q
      · have hf : fineB q t = true := by unfold fineB; simp [h2]
        have e : s.power = (0, { s with arm := s.arm - 1 }) := by unfold DSt.power; rw [if_neg (by rw [hd]; decide), if_neg (by omega), if_neg (by omega)]
        rw [e, hf]
        exact ⟨rfl, ⟨h.len, h.ok, fun h3 => absurd h3 h0, fun _ _ => ⟨by show s.arm - 1 = _; omega, hd⟩, fun _ h3 => by omega⟩, fun _ => hd⟩
      · have hf : fineB q t = false := by unfold fineB; simp [h0, h2]
        have e : s.power = (106, { s with arm := 0, down := true }) := by unfold DSt.power; rw [if_neg (by rw [hd]; decide), if_neg (by omega), if_pos (by omega)]
        rw [e, hf]
        exact ⟨rfl, ⟨h.len, h.ok, fun h3 => absurd h3 h0, fun _ h3 => by omega, fun _ _ => rfl⟩, fun h => by cases h⟩
    · have hd := h.dn (by omega) h1
      have hf : fineB q t = false := by unfold fineB; simp [h0]; omega
      have e : s.power = (106, s) := by unfold DSt.power; rw [if_pos hd]
      rw [e, hf]
      exact ⟨rfl, ⟨h.len, h.ok, fun h3 => absurd h3 h0, fun _ h3 => by omega, fun _ _ => hd⟩, fun h => by cases h⟩
theorem Armed.turned {q t : Nat} {s u : DSt} (h : Armed q t s) (hl : u.blks.length = s.blks.length) (ho : ∀ b, b ∈ u.blks → b.fail = false) (ha : u.arm = s.arm) (hd : u.down = s.down) : Armed q t u :=
  ⟨by rw [hl]; exact h.len, ho, fun h0 => by rw [ha, hd]; exact h.off h0, fun h1 h2 => by rw [ha, hd]; exact h.up h1 h2, fun h1 h2 => by rw [hd]; exact h.dn h1 h2⟩
theorem mem_turn' {s : DSt} {i : Int} {f : BSt → BSt} {b : BSt} (h : b ∈ (s.turn i f).blks) : ∃ y, y ∈ s.blks ∧ (b = f y ∨ b = y) := by
  obtain ⟨k, hk⟩ := List.getElem?_of_mem h
  simp only [DSt.turn, List.getElem?_modify] at hk
  obtain ⟨y, hy, rfl⟩ := Option.map_eq_some_iff.1 hk
  refine ⟨y, List.mem_of_getElem? hy, ?_⟩
  split
  · exact .inl rfl
  · exact .inr rfl
theorem Armed.write {q t i : Nat} {s : DSt} {l : List Int} (h : Armed q t s) (hi : i < 40) (hl : l.length = 256) : (s.write (i : Int) l).1 = (if fineB q t = true then 0 else 106) ∧ Armed q (t + 1) (s.write (i : Int) l).2 ∧ (s.write (i : Int) l).2.down = s.power.2.down := by
  obtain ⟨h1, h2, h3⟩ := h.power
  unfold DSt.write
  rw [h1]
  rcases hf : fineB q t with _ | _
  · rw [if_neg (by decide), if_neg (by decide)]
    rw [hf] at h1
    exact ⟨h1, h2, rfl⟩
  · rw [if_pos rfl, if_pos rfl]
    have hin : s.power.2.inB (i : Int) = true := DSt.in_iff.2 ⟨by omega, by rw [h2.len]; omega⟩
    unfold DSt.write1
    rw [if_neg (by rw [hin]; decide), if_neg (by omega)]
    exact ⟨rfl, h2.turned (DSt.turn_len _ _ _) (fun b hb => by
      obtain ⟨y, hy, rfl | rfl⟩ := mem_turn' hb
      · exact h2.ok y hy
      · exact h2.ok _ hy) rfl rfl, rfl⟩
theorem Armed.flush {q t : Nat} {s : DSt} (h : Armed q t s) : s.flush.1 = (if fineB q t = true then 0 else 106) ∧ Armed q (t + 1) s.flush.2 ∧ s.flush.2.down = s.power.2.down := by
  obtain ⟨h1, h2, h3⟩ := h.power
  unfold DSt.flush
  rw [h1]
  rcases hf : fineB q t with _ | _
  · rw [if_neg (by decide), if_neg (by decide)]
    rw [hf] at h1
    exact ⟨h1, h2, rfl⟩
  · rw [if_pos rfl, if_pos rfl]
    exact ⟨rfl, h2.turned (List.length_map _) (fun b hb => by
      obtain ⟨y, hy, rfl⟩ := List.mem_map.1 hb
      have := h2.ok y hy
      unfold BSt.flush
      split
      · rfl
      · exact this) rfl rfl, rfl⟩
/-- up just if it was fine -/
theorem Armed.down_is {q t : Nat} {s : DSt} (h : Armed q t s) : s.power.2.down = !fineB q t := by
  obtain ⟨h1, h2, h3⟩ := h.power
  rcases hf : fineB q t with _ | _
  · have : ¬ (q = 0 ∨ t + 1 < q) := by unfold fineB at hf; simpa using hf
    rw [h2.dn (by omega) (by omega)]; rfl
  · rw [h3 hf]; rfl
theorem armed_new {q : Nat} : Armed q 0 ((DSt.new 40).setArm (q : Int)) := by
  refine ⟨by unfold DSt.setArm DSt.new; exact List.length_replicate, fun b hb => ?_, fun h => ?_, fun _ _ => ⟨?_, rfl⟩, fun h h' => by omega⟩
  · have hb' : b ∈ (DSt.new 40).blks := hb
    unfold DSt.new at hb'
    rw [List.eq_of_mem_replicate hb']; rfl
  · subst h; exact ⟨rfl, rfl⟩
  · show (q : Int).toNat = q - 0
    omega
theorem Armed.crash {q t : Nat} {s : DSt} (h : Armed q t s) (picks : List Int) : Armed 0 0 (s.crash picks) := by
  refine ⟨by rw [crash_len]; exact h.len, fun b hb => ?_, fun _ => ⟨rfl, rfl⟩, fun h => by omega, fun h => by omega⟩
  obtain ⟨j, hj⟩ := List.getElem?_of_mem hb
  simp only [DSt.crash, List.getElem?_mapIdx] at hj
  obtain ⟨y, hy, rfl⟩ := Option.map_eq_some_iff.1 hj
  have := h.ok y (List.mem_of_getElem? hy)
  unfold crashAt BSt.crash
  split
  · split
    · rfl
    · exact this
  · exact this
theorem Armed.read {t i : Nat} {s : DSt} (h : Armed 0 t s) (hi : i < 40) : (s.read (i : Int)).1 = 0 := by
  obtain ⟨_, hd⟩ := h.off rfl
  obtain ⟨b, hb⟩ : ∃ b, s.blks[i]? = some b := ⟨_, List.getElem?_eq_getElem (by rw [h.len]; exact hi)⟩
  have hf := h.ok b (List.mem_of_getElem? hb)
  unfold DSt.read
  rw [if_neg (by rw [hd]; decide), if_neg (by rw [DSt.in_iff.2 ⟨by omega, by rw [h.len]; omega⟩]; decide), Int.toNat_natCast, hb]
  show b.read.1 = 0
  unfold BSt.read
  split
  · rfl
  · rw [if_neg (by rw [hf]; decide)]
set_option maxRecDepth 100000 in
set_option maxHeartbeats 2000000 in
theorem devArms_any {Real : World → Nat → DSt → (Nat → Prop) → Prop} (D : DevOk Real) (S : Nat → Addr) (n f : Int) (w : World) (hS : Sent w S) :
    Calls Tryd.prog 6 #[.int .i64 n, .int .i64 f] w (Yes w) := by
  have HS := hid hS
  have HD := hid D
  clear hS D
  go_enter Tryd.func6, Tryd.ntmps6
  go_wp2_with fail
  refine (first_any HD.out S _ HS.out.five).mono ?_
  rintro e w1 ⟨rfl, hb⟩
  have HB1 := hid hb
  clear hb
  go_wp2_with fail
  refine (number_any n 20 _ (by omega) (by omega)).mono ?_
  rintro e w' ⟨rfl, rfl⟩
  obtain ⟨q, hq⟩ : ∃ q : Nat, n % 20 = (q : Int) := ⟨(n % 20).toNat, by omega⟩
  have hql : (q : Int) < 20 := by omega
  rw [hq]
  clear hq
  go_wp2_with fail
  refine (number_any f 5 _ (by omega) (by omega)).mono ?_
  rintro e w' ⟨rfl, rfl⟩
  obtain ⟨g, hg⟩ : ∃ g : Nat, f % 5 = (g : Int) := ⟨(f % 5).toNat, by omega⟩
  have hgl : (g : Int) < 5 := by omega
  rw [hg]
  clear hg
  go_wp2_with fail
  refine (HD.out.new 40 _ (by omega) (by omega)).mono ?_
  rintro e w2 ⟨p, F, rfl, hr, hb, hF⟩
  have HR2 := hid hr
  have HB2 := hid (HB1.out.trans (hb.mono HB1.out.size))
  have HF2 := hid (show ∀ k, F k → w.heap.size ≤ k from fun k hk => by have := hF k hk; have := HB1.out.size; omega)
  clear hr hb hF
  go_wp2_with fail
  refine (HD.out.arm p _ F _ _ HR2.out ((okN_new (m := 0) (by omega)).ok (by omega))).mono ?_
  rintro e w3 ⟨rfl, F3, hr, ho, hf⟩
  have HR3 := hid hr
  have HF3 := hid (show ∀ k, F3 k → w.heap.size ≤ k from fun k hk => by
    rcases hf k hk with h | h
    · exact HF2.out k h
    · have := HB2.out.size; omega)
  have HB3 := hid (HB2.out.trans (ho.below HB2.out.size HF2.out))
  have HO3 := hid (show ((DSt.new 40).setArm (q : Int)).okN 0 from okN_arm (okN_new (by omega)) (by omega))
  have HM3 := hid (armed_new (q := q))
  clear hr ho hf
  go_wp2
  go_loopw [8] (fun i wr => ∃ (t : Nat) (s : DSt) (F : Nat → Prop), t ≤ 30 ∧ i = .int .i64 ((t : Int) + 1) ∧ Real wr p s F ∧ Armed q t s ∧ s.okN t ∧ Below w.heap.size w wr ∧ ∀ k, F k → w.heap.size ≤ k) (fun i _ => 32 - (intOf i).toNat)
  case atStart => exact ⟨0, _, F3, by omega, rfl, HR3.out, HM3.out, HO3.out, HB3.out, HF3.out⟩
  case round =>
    obtain ⟨t, s, Fk, ht, rfl, hr, hm, ho, hb, hF⟩ := hrel
    have HR := hid hr
    have HM := hid hm
    have HO := hid ho
    have HB := hid hb
    have HF := hid hF
    have HSr := hid (HS.out.on hb)
    clear hr hm ho hb hF
    by_cases hlt : t < 30
    · have hz : (((t : Int) + 1) % ((g : Int) + 1) == 0) = true ∨ (((t : Int) + 1) % ((g : Int) + 1) == 0) = false := by rcases (((t : Int) + 1) % ((g : Int) + 1) == 0) with _ | _ <;> simp
      have hc : (fineB q t = true ∧ (q : Int) < 1) ∨ (fineB q t = true ∧ 1 ≤ (q : Int) ∧ (t : Int) + 1 < q) ∨ (fineB q t = false ∧ 1 ≤ (q : Int) ∧ (q : Int) ≤ t + 1) := by
        unfold fineB
        by_cases h0 : q = 0
        · exact .inl ⟨by simp [h0], by omega⟩
        · by_cases h1 : t + 1 < q
          · exact .inr (.inl ⟨by simp [h1], by omega, by omega⟩)
          · exact .inr (.inr ⟨by simp [h0, h1], by omega, by omega⟩)
      have hw8 : IntKind.u8.wrap ((t : Int) + 1) = ((t + 1 : Nat) : Int) := by rw [IntKind.wrap_u8]; omega
      have HDn := hid HM.out.down_is
      rcases hz with hz | hz <;> rcases hc with ⟨hfb, hq0⟩ | ⟨hfb, hq0, hq1⟩ | ⟨hfb, hq0, hq1⟩
      all_goals
        have HFB := hid hfb
        clear hfb
        go_wp2_with fail
        first
          | (refine (HD.out.flush S p s Fk _ HSr.out.five HR.out (HO.out.ok (by omega))).mono ?_
             have h1 := HM.out.flush
             have h2 := okN_flush HO.out
             rcases hfl : s.flush with ⟨c5, s5⟩
             rw [hfl] at h1 h2
             have H1 := hid h1
             have H2 := hid h2
             have HBa := hid HB.out
             clear h1 h2 hfl
             rintro e w5 ⟨⟨v, hv, rfl⟩, F5, hr5, ho5, hf5⟩)
          | (refine (whole_any (t + 1) _).mono ?_
             rintro e wa hm
             obtain ⟨Aa, ca, rfl, hsa, hba, hna, _⟩ := hm.get
             have HBa := hid (HB.out.trans (hba.mono HB.out.size))
             have HSa := hid (HS.out.on HBa.out)
             have HRa := hid (HD.out.kept HR.out (Kept.of_below hba (HD.out.lt HR.out)))
             have HAa := hid (show ∀ ad, Aa = some ad → 0 < 256 → ¬ Fk ad.block from fun ad ha _ h => by have := HD.out.lt HR.out _ h; have := hna ad ha; omega)
             have HLa := hid hsa
             clear hm hsa hba hna
             go_wp2_with fail
             refine (HD.out.write S p s Fk ((t + 1 : Nat) : Int) Aa 256 ca _ _ HSa.out.five HRa.out (HO.out.ok (by omega)) HLa.out HAa.out (full_byt (by omega)) (by omega)).mono ?_
             have h1 := HM.out.write (i := t + 1) (by omega) (full_len (t + 1))
             have h2 := okN_write (i := ((t + 1 : Nat) : Int)) HO.out (full_byt (b := t + 1) (by omega))
             rcases hfl : s.write ((t + 1 : Nat) : Int) (full (t + 1)) with ⟨c5, s5⟩
             rw [hfl] at h1 h2
             have H1 := hid h1
             have H2 := hid h2
             clear h1 h2 hfl
             rintro e w5 ⟨⟨v, hv, rfl⟩, F5, hr5, ho5, hf5⟩)
        have HR5 := hid hr5
        have HF5 := hid (show ∀ k, F5 k → w.heap.size ≤ k from fun k hk => by
          rcases hf5 k hk with h | h
          · exact HF.out k h
          · have := HBa.out.size; omega)
        have HB5 := hid (HBa.out.trans (ho5.below HBa.out.size HF.out))
        have HS5 := hid (HS.out.on HB5.out)
        have hd5 : s5.down = !fineB q t := H1.out.2.2.trans HDn.out
        have hc5 : c5 = if fineB q t = true then 0 else 106 := H1.out.1
        rw [HFB.out] at hd5 hc5
        have HD5 := hid hd5
        simp at hc5
        subst hc5
        have hv : EV S _ v := hv
        have HV := hid hv
        clear hr5 ho5 hf5 hd5
        first
          | (have hvv := hv.nil; subst hvv)
          | (obtain ⟨jv, hvv⟩ := EV.is (c := 106) hv (by decide); subst hvv)
        clear hv
        have HOk5 := hid (H2.out.ok (by omega))
        go_wp2_with fail
        first
          | (refine (HD.out.down p s5 F5 _ HR5.out HOk5.out).mono ?_
             rw [HD5.out]
             rintro e w6 ⟨rfl, k6, rfl⟩
             have HR7 := hid (HD.out.kept HR5.out (Kept.drewN F5 w5 k6))
             have HB7 := hid (below_drewN HB5.out k6))
          | (refine (is_any S _ _ _ _ HS5.out HV.out).mono ?_
             rintro e w6 ⟨rfl, hb6⟩
             have HB6 := hid (HB5.out.trans (hb6.mono HB5.out.size))
             have HR6 := hid (HD.out.kept HR5.out (Kept.of_below hb6 (HD.out.lt HR5.out)))
             clear hb6
             go_wp2_with fail
             refine (HD.out.down p s5 F5 _ HR6.out HOk5.out).mono ?_
             rw [HD5.out]
             rintro e w7 ⟨rfl, k7, rfl⟩
             have HR7 := hid (HD.out.kept HR6.out (Kept.drewN F5 w6 k7))
             have HB7 := hid (below_drewN HB6.out k7))
        go_wp2
        go_roundw
        case rel => exact ⟨t + 1, s5, F5, by omega, by go_num, HR7.out, H1.out.2.1, H2.out, HB7.out, HF5.out⟩
        case measure => simp [intOf]; omega
    · go_wp2_with fail
      refine (HD.out.crash p s Fk none 0 0 [] _ HR.out (HO.out.ok (by omega)) ⟨rfl, Nat.le_refl _, by unfold maxLen; omega, fun _ => rfl, fun _ h => by cases h⟩ (fun _ h => by cases h) (by omega)).mono ?_
      rintro e w5 ⟨rfl, F5, hr5, ho5, hf5⟩
      have HR5 := hid hr5
      have HF5 := hid (show ∀ k, F5 k → w.heap.size ≤ k from fun k hk => by
        rcases hf5 k hk with h | h
        · exact HF.out k h
        · have := HB.out.size; omega)
      have HB5 := hid (HB.out.trans (ho5.below HB.out.size HF.out))
      have HS5 := hid (HS.out.on HB5.out)
      have HM5 := hid (HM.out.crash [])
      have HO5 := hid (okN_crash (picks := []) HO.out)
      clear hr5 ho5 hf5
      have hrd := HM5.out.read (i := 3) (by omega)
      rcases hre : (s.crash []).read ((3 : Nat) : Int) with ⟨rc, rl⟩
      rw [hre] at hrd
      have hrd' : rc = 0 := hrd
      subst hrd'
      have HRE := hid hre
      clear hrd hre
      go_wp2_with fail
      refine (HD.out.read S p _ F5 ((3 : Nat) : Int) _ HS5.out.five HR5.out (HO5.out.ok (by omega))).mono ?_
      rw [HRE.out]
      rintro e w6 ⟨A6, n6, c6, v6, rfl, hv6, hs6, hb6, _⟩
      have hv6' : EV S 0 v6 := hv6
      obtain rfl := hv6'.nil
      have HB6 := hid (HB5.out.trans (hb6.mono HB5.out.size))
      have HS6 := hid (HS.out.on HB6.out)
      have HR6 := hid (HD.out.kept HR5.out (Kept.of_below hb6 (HD.out.lt HR5.out)))
      have HD6 := hid (HM5.out.off rfl).2
      clear hv6 hv6' hs6 hb6
      go_wp2_with fail
      refine (HD.out.down p _ F5 _ HR6.out (HO5.out.ok (by omega))).mono ?_
      rw [HD6.out]
      rintro e w7 ⟨rfl, k7, rfl⟩
      have HR7 := hid (HD.out.kept HR6.out (Kept.drewN F5 w6 k7))
      have HB7 := hid (below_drewN HB6.out k7)
      go_wp2_with fail
      refine (whole_any 1 _).mono ?_
      rintro e w8 hm
      obtain ⟨A8, c8, rfl, hs8, hb8, hn8, _⟩ := hm.get
      have HB8 := hid (HB7.out.trans (hb8.mono HB7.out.size))
      have HS8 := hid (HS.out.on HB8.out)
      have HR8 := hid (HD.out.kept HR7.out (Kept.of_below hb8 (HD.out.lt HR7.out)))
      have HA8 := hid (show ∀ ad, A8 = some ad → 0 < 256 → ¬ F5 ad.block from fun ad ha _ h => by have := HD.out.lt HR7.out _ h; have := hn8 ad ha; omega)
      have HL8 := hid hs8
      clear hm hs8 hb8 hn8
      have h1 := HM5.out.write (i := 0) (by omega) (full_len 1)
      have h2 := okN_write (i := ((0 : Nat) : Int)) HO5.out (full_byt (b := 1) (by omega))
      rcases hwr : (s.crash []).write ((0 : Nat) : Int) (full 1) with ⟨c9, s9⟩
      rw [hwr] at h1 h2
      have hc9 : c9 = 0 := h1.1
      subst hc9
      have HWr := hid hwr
      have HM9 := hid h1.2.1
      have HO9 := hid h2
      clear h1 h2 hwr
      go_wp2_with fail
      refine (HD.out.write S p _ F5 ((0 : Nat) : Int) A8 256 c8 _ _ HS8.out.five HR8.out (HO5.out.ok (by omega)) HL8.out HA8.out (full_byt (by omega)) (by omega)).mono ?_
      rw [HWr.out]
      rintro e w9 ⟨⟨v, hv, rfl⟩, F9, hr9, ho9, hf9⟩
      have hv' : EV S 0 v := hv
      obtain rfl := hv'.nil
      have HR9 := hid hr9
      have HF9 := hid (show ∀ k, F9 k → w.heap.size ≤ k from fun k hk => by
        rcases hf9 k hk with h | h
        · exact HF5.out k h
        · have := HB8.out.size; omega)
      have HB9 := hid (HB8.out.trans (ho9.below HB8.out.size HF5.out))
      have HS9 := hid (HS.out.on HB9.out)
      clear hv hv' hr9 ho9 hf9
      have h1 := HM9.out.flush
      rcases hfl : s9.flush with ⟨c10, s10⟩
      rw [hfl] at h1
      have hc10 : c10 = 0 := h1.1
      subst hc10
      have HFl := hid hfl
      clear h1 hfl
      go_wp2_with fail
      refine (HD.out.flush S p s9 F9 _ HS9.out.five HR9.out (HO9.out.ok (by omega))).mono ?_
      rw [HFl.out]
      rintro e w10 ⟨⟨v, hv, rfl⟩, F10, hr10, ho10, hf10⟩
      have hv' : EV S 0 v := hv
      obtain rfl := hv'.nil
      have HB10 := hid (HB9.out.trans (ho10.below HB9.out.size HF9.out))
      clear hv hv' hr10 ho10 hf10
      go_wp2
      go_ret
      exact ⟨rfl, HB10.out⟩
end Go.Proofs.YtjhdddccdffndaaDoor
