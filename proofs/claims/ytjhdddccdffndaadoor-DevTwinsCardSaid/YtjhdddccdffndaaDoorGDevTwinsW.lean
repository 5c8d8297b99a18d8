/- The walk of DevTwins, for whatever keeps the device's calls. -/
import Derived.Test.YtjhdddccdffndaaDoorGDevIf
import Derived.Test.YtjhdddccdffndaaDoorGNumber
namespace Go.Proofs.YtjhdddccdffndaaDoor
open Go.RowKit

structure Tw (m : Nat) (s : DSt) : Prop where
  arm : s.arm = 0
  down : s.down = false
  len : s.blks.length = 8
  ever : (s.blks.map BSt.ever).countP id = 1
  ok : s.okN m
theorem Tw.more {m m' : Nat} {s : DSt} (h : Tw m s) (hm : m ≤ m') : Tw m' s := ⟨h.arm, h.down, h.len, h.ever, h.ok.more hm⟩
theorem Tw.pow {m : Nat} {s : DSt} (h : Tw m s) : s.power = (0, s) := by
  unfold DSt.power; rw [if_neg (by rw [h.down]; decide), if_pos h.arm]
theorem Tw.everN {m : Nat} {s : DSt} (h : Tw m s) : s.everN = 1 := by
  have := h.ever
  rw [List.countP_map] at this
  exact this
theorem Tw.write {m j v : Nat} {s : DSt} (h : Tw m s) (hj : j < 8) (hv : v < 256) : ∃ s', s.write (j : Int) (full v) = (0, s') ∧ Tw (m + 1) s' := by
  have hok := okN_write (i := (j : Int)) h.ok (full_byt hv)
  have e : s.write (j : Int) (full v) = (0, { s.turn (j : Int) (BSt.write (full v)) with calls := s.calls + 1 }) := by
    unfold DSt.write
    rw [h.pow, if_pos rfl]
    unfold DSt.write1
    have hin : s.inB (j : Int) = true := by unfold DSt.inB; rw [h.len]; simp; omega
    rw [if_neg (by rw [hin]; decide), if_neg (by rw [full_len]; omega)]
  rw [e] at hok
  refine ⟨_, e, h.arm, h.down, ?_, ?_, hok⟩
  · show (s.blks.modify j (BSt.write (full v))).length = 8
    rw [List.length_modify, h.len]
  · show ((s.blks.modify j (BSt.write (full v))).map BSt.ever).countP id = 1
    rw [show (s.blks.modify j (BSt.write (full v))).map BSt.ever = s.blks.map BSt.ever from by
      refine List.ext_getElem? fun k => ?_
      rw [List.getElem?_map, List.getElem?_map, List.getElem?_modify]
      rcases s.blks[k]? with _ | y
      · rfl
      · show some (BSt.ever (if j = k then BSt.write (full v) y else y)) = some (BSt.ever y)
        split <;> rfl]
    exact h.ever
theorem Tw.flush {m : Nat} {s : DSt} (h : Tw m s) : ∃ s', s.flush = (0, s') ∧ Tw (m + 1) s' := by
  have hok := okN_flush h.ok
  have e : s.flush = s.flush1 := by unfold DSt.flush; rw [h.pow, if_pos rfl]
  rw [e] at hok
  refine ⟨_, e, h.arm, h.down, ?_, ?_, hok⟩
  · show (s.blks.map BSt.flush).length = 8
    rw [List.length_map, h.len]
  · show ((s.blks.map BSt.flush).map BSt.ever).countP id = 1
    rw [List.map_map, show BSt.ever ∘ BSt.flush = BSt.ever from funext fun y => by show y.flush.ever = y.ever; unfold BSt.flush; split <;> rfl]
    exact h.ever
theorem tw_new {q : Nat} (hq : q < 8) : ∃ s, (DSt.new 8).fail (q : Int) = (true, s) ∧ Tw 0 s := by
  have hok := okN_fail (i := (q : Int)) (okN_new (n := 8) (m := 0) (by omega))
  have e : (DSt.new 8).fail (q : Int) = (true, (DSt.new 8).turn (q : Int) BSt.failed) := by
    unfold DSt.fail
    rw [if_pos]
    match q, hq with
    | 0, _ | 1, _ | 2, _ | 3, _ | 4, _ | 5, _ | 6, _ | 7, _ => rfl
  rw [e] at hok
  refine ⟨_, e, rfl, rfl, ?_, ?_, hok⟩
  · rw [DSt.turn_len]; rfl
  · match q, hq with
    | 0, _ | 1, _ | 2, _ | 3, _ | 4, _ | 5, _ | 6, _ | 7, _ => rfl
/-- what a new device answers -/
theorem new_says {j : Nat} (hj : j < 8) : (DSt.new 8).read (j : Int) = (0, full 0) ∧ (DSt.new 8).faulted (j : Int) = false := by
  match j, hj with
  | 0, _ | 1, _ | 2, _ | 3, _ | 4, _ | 5, _ | 6, _ | 7, _ => exact ⟨rfl, rfl⟩
/-- two devices beside each other -/
def Two (Real : World → Nat → DSt → (Nat → Prop) → Prop) (S : Nat → Addr) (w0 w : World) (p : Nat) (s : DSt) (F : Nat → Prop) (q : Nat) (u : DSt) (G : Nat → Prop) : Prop := Dv Real S w0 w p s F ∧ Dv Real S w0 w q u G ∧ ∀ k, G k → ¬ F k
/-- three devices beside each other: the first and its copy are alike -/
structure Three (Real : World → Nat → DSt → (Nat → Prop) → Prop) (S : Nat → Addr) (w0 w : World) (p q r : Nat) (s t : DSt) (F G R : Nat → Prop) : Prop where
  one : Dv Real S w0 w p s F
  new : Dv Real S w0 w q (DSt.new 8) G
  two : Dv Real S w0 w r t R
  h1 : ∀ k, G k → ¬ F k
  h2 : ∀ k, R k → ¬ F k
  h3 : ∀ k, G k → ¬ R k
theorem Three.on {Real : World → Nat → DSt → (Nat → Prop) → Prop} {S : Nat → Addr} {w0 w w' : World} {p q r : Nat} {s t : DSt} {F G R : Nat → Prop} (D : DevOk Real) (h : Three Real S w0 w p q r s t F G R) (hb : Below w.heap.size w w') : Three Real S w0 w' p q r s t F G R := ⟨h.one.on D hb, h.new.on D hb, h.two.on D hb, h.h1, h.h2, h.h3⟩
set_option maxRecDepth 100000 in
set_option maxHeartbeats 2000000 in
theorem devTwins_any {Real : World → Nat → DSt → (Nat → Prop) → Prop} (D : DevOk Real) (S : Nat → Addr) (A B : Option Addr) (n c n' c' : Nat) (l picks : List Int) (at' : Int) (w : World) (hS : Sent5 w S) (hL : Sn w w.heap.size A n c l) (hP : Sn w w.heap.size B n' c' picks) :
    Calls Tryd.prog 7 #[.slice A n c, .slice B n' c', .int .i64 at'] w (Yes w) := by
  have HS := hid hS
  have HD := hid D
  have HL := hid hL
  have HP := hid hP
  clear hS D hP hL
  go_enter Tryd.func7, Tryd.ntmps7
  go_wp2_with fail
  refine (first_any HD.out S _ HS.out).mono ?_
  rintro e w1 ⟨rfl, hb⟩
  have HB1 := hid hb
  clear hb
  by_cases hn : 20 < n
  · have hd : decide ((20 : Int) < n) = true := by simp; omega
    go_wp2
    go_ret
    exact ⟨rfl, HB1.out⟩
  have hd : decide ((20 : Int) < n) = false := by simp; omega
  have HN := hid hn
  clear hn
  by_cases hn' : 10 < n'
  · have hd' : decide ((10 : Int) < n') = true := by simp; omega
    go_wp2
    go_ret
    exact ⟨rfl, HB1.out⟩
  have hd' : decide ((10 : Int) < n') = false := by simp; omega
  have HN' := hid hn'
  clear hn'
  go_wp2_with fail
  refine (dv_new HD.out 8 HS.out HB1.out (by omega) (by omega)).mono ?_
  rintro e w2 ⟨p, F2, rfl, hd2, _, _⟩
  have HDv2 := hid hd2
  clear hd2
  go_wp2_with fail
  refine (dv_new HD.out 8 HS.out HDv2.out.below (by omega) (by omega)).mono ?_
  rintro e w3 ⟨q, G, rfl, hd3, hb3, hG⟩
  have HTwo3 := hid (show Two Real S w w3 p (DSt.new 8) F2 q (DSt.new 8) G from ⟨HDv2.out.on HD.out hb3, hd3, fun k hk hk' => by have := hG k hk; have := HD.out.lt HDv2.out.real k hk'; omega⟩)
  clear hd3 hb3 hG HDv2
  go_wp2_with fail
  refine (number_any at' 8 _ (by omega) (by omega)).mono ?_
  rintro e w' ⟨rfl, rfl⟩
  obtain ⟨qa, hqa⟩ : ∃ q : Nat, at' % 8 = (q : Int) := ⟨(at' % 8).toNat, by omega⟩
  have hqal : (qa : Int) < 8 := by omega
  rw [hqa]
  clear hqa
  obtain ⟨s0, e0, t0⟩ := tw_new (q := qa) (by omega)
  have HE0 := hid e0
  have HT0 := hid t0
  clear e0 t0
  go_wp2_with fail
  refine (dv_fail3 (m := 0) HD.out (i := (qa : Int)) HTwo3.out.1 HS.out (okN_new (by omega)) (by omega) HE0.out).mono ?_
  rintro e w4 ⟨rfl, F4, hd4, hk4⟩
  have HTwo4 := hid (show Two Real S w w4 p s0 F4 q (DSt.new 8) G from ⟨hd4, hk4 _ _ _ HTwo3.out.2.1 HTwo3.out.2.2⟩)
  clear hd4 hk4
  go_wp2
  go_loopw [12] (fun i wr => ∃ (k : Nat) (s : DSt) (F : Nat → Prop), k ≤ n ∧ i = .int .i64 (k : Int) ∧ Two Real S w wr p s F q (DSt.new 8) G ∧ Tw (2 * k) s) (fun i _ => n - (intOf i).toNat)
  case atStart => exact ⟨0, _, F4, by omega, rfl, HTwo4.out, HT0.out⟩
  case round =>
    obtain ⟨k, s, Fk, hk, rfl, htwo, htw⟩ := hrel
    have HTwo := hid htwo
    have HTw := hid htw
    clear htwo htw
    have HNi := hid (show n ≤ 20 by have := HN.out; omega)
    by_cases hlt : k < n
    · obtain ⟨ad, v, rfl, _, _, hc⟩ := (HL.out.below HTwo.out.1.below).get hlt
      obtain ⟨qk, hqk⟩ : ∃ q : Nat, v % 8 = (q : Int) := ⟨(v % 8).toNat, by omega⟩
      have hqkl : (qk : Int) < 8 := by omega
      have HQk := hid hqk
      clear hqk
      have hk20 : (k : Int) < 20 := by have := HNi.out; omega
      have hw8 : IntKind.u8.wrap ((k : Int) + 1) = ((k + 1 : Nat) : Int) := by rw [IntKind.wrap_u8]; omega
      have hz : ((k : Int) % 4 == 3) = true ∨ ((k : Int) % 4 == 3) = false := by rcases ((k : Int) % 4 == 3) with _ | _ <;> simp
      go_wp2_with fail
      refine (number_any v 8 _ (by omega) (by omega)).mono ?_
      rintro e w' ⟨rfl, rfl⟩
      rw [HQk.out]
      obtain ⟨s5, e5, t5⟩ := HTw.out.write (j := qk) (v := k + 1) (by omega) (by omega)
      have HE5 := hid e5
      have HT5 := hid t5
      clear e5 t5
      obtain ⟨s6, e6, t6⟩ := HT5.out.flush
      have HE6 := hid e6
      have HT6 := hid t6
      clear e6 t6
      rcases hz with hz | hz
      all_goals
        go_wp2_with fail
        refine (dv_whole HD.out (k + 1) HTwo.out.1).mono ?_
        rintro e wa ⟨Aa, ca, rfl, hda, haa, hba⟩
        have HTwoa := hid (show Two Real S w wa p s Fk q (DSt.new 8) G from ⟨hda, HTwo.out.2.1.on HD.out hba, HTwo.out.2.2⟩)
        have HAa := hid haa
        clear hda haa hba
        go_wp2_with fail
        refine (dv_write3 HD.out (i := (qk : Int)) HTwoa.out.1 HS.out HTw.out.ok (by omega) HAa.out (full_byt (by omega)) (by omega) HE5.out).mono ?_
        rintro e wb ⟨rfl, Fb, hdb, hkb⟩
        have HTwob := hid (show Two Real S w wb p s5 Fb q (DSt.new 8) G from ⟨hdb, hkb _ _ _ HTwoa.out.2.1 HTwoa.out.2.2⟩)
        clear hdb hkb
      · go_wp2_with fail
        refine (dv_flush3 HD.out HTwob.out.1 HS.out HT5.out.ok (by omega) HE6.out).mono ?_
        rintro e wc ⟨rfl, Fc, hdc, hkc⟩
        have HTwoc := hid (show Two Real S w wc p s6 Fc q (DSt.new 8) G from ⟨hdc, hkc _ _ _ HTwob.out.2.1 HTwob.out.2.2⟩)
        clear hdc hkc
        go_wp2
        go_roundw
        case rel => exact ⟨k + 1, s6, Fc, by omega, by go_num, HTwoc.out, HT6.out.more (by omega)⟩
        case measure => simp [intOf]; omega
      · go_wp2
        go_roundw
        case rel => exact ⟨k + 1, s5, Fb, by omega, by go_num, HTwob.out, HT5.out.more (by omega)⟩
        case measure => simp [intOf]; omega
    · obtain rfl : k = n := by omega
      go_wp2_with fail
      refine (dv_clone HD.out HTwo.out.1 HTw.out.ok (by have := HNi.out; omega)).mono ?_
      rintro e x1 ⟨r, R, rfl, hdr, hdp, hbr, hR⟩
      have HX1 := hid (show Three Real S w x1 p q r s s Fk G R from ⟨hdp, HTwo.out.2.1.on HD.out hbr, hdr, HTwo.out.2.2, fun k hk hk' => by have := hR k hk; have := HD.out.lt HTwo.out.1.real k hk'; omega, fun k hk hk' => by have := hR k hk'; have := HD.out.lt HTwo.out.2.1.real k hk; omega⟩)
      clear hdr hdp hbr hR HTwo
      go_wp2_with fail
      refine (dv_pending HD.out (q := s.pending) HX1.out.two HTw.out.ok (by have := HNi.out; omega) rfl).mono ?_
      rintro e x2 ⟨rfl, _, hb⟩
      have HX2 := hid (HX1.out.on HD.out hb)
      clear hb HX1
      go_wp2_with fail
      refine (dv_pending HD.out (q := s.pending) HX2.out.one HTw.out.ok (by have := HNi.out; omega) rfl).mono ?_
      rintro e x3 ⟨rfl, _, hb⟩
      have HX3 := hid (HX2.out.on HD.out hb)
      clear hb HX2
      go_wp2_with fail
      refine (dv_calls HD.out (q := s.calls) HX3.out.two HTw.out.ok (by have := HNi.out; omega) rfl).mono ?_
      rintro e x4 ⟨rfl, _, hb⟩
      have HX4 := hid (HX3.out.on HD.out hb)
      clear hb HX3
      go_wp2_with fail
      refine (dv_calls HD.out (q := s.calls) HX4.out.one HTw.out.ok (by have := HNi.out; omega) rfl).mono ?_
      rintro e x5 ⟨rfl, _, hb⟩
      have HX5 := hid (HX4.out.on HD.out hb)
      clear hb HX4
      go_wp2_with fail
      refine (dv_faulted HD.out (i := (qa : Int)) (b := s.faulted (qa : Int)) HX5.out.two HTw.out.ok (by have := HNi.out; omega) rfl).mono ?_
      rintro e x6 ⟨rfl, _, hb⟩
      have HX6 := hid (HX5.out.on HD.out hb)
      clear hb HX5
      go_wp2_with fail
      refine (dv_faulted HD.out (i := (qa : Int)) (b := s.faulted (qa : Int)) HX6.out.one HTw.out.ok (by have := HNi.out; omega) rfl).mono ?_
      rintro e x7 ⟨rfl, _, hb⟩
      have HX7 := hid (HX6.out.on HD.out hb)
      clear hb HX6
      go_wp2_with fail
      refine (dv_ever HD.out (q := 1) HX7.out.two HTw.out.ok (by have := HNi.out; omega) HTw.out.everN).mono ?_
      rintro e x8 ⟨rfl, _, hb⟩
      have HX8 := hid (HX7.out.on HD.out hb)
      clear hb HX7
      have HPn := hid (show n' ≤ 1000 by have := HN'.out; omega)
      go_wp2_with fail
      refine (dv_crash3 HD.out HX8.out.one HS.out HTw.out.ok (by have := HNi.out; omega) HP.out HPn.out).mono ?_
      rintro e x9 ⟨rfl, F9, hd9, hk9⟩
      have HX9 := hid (show Three Real S w x9 p q r (s.crash picks) s F9 G R from ⟨hd9, (hk9 _ _ _ HX8.out.new HX8.out.h1).1, (hk9 _ _ _ HX8.out.two HX8.out.h2).1, (hk9 _ _ _ HX8.out.new HX8.out.h1).2, (hk9 _ _ _ HX8.out.two HX8.out.h2).2, HX8.out.h3⟩)
      clear hd9 hk9 HX8
      go_wp2_with fail
      refine (dv_crash3 HD.out HX9.out.two HS.out HTw.out.ok (by have := HNi.out; omega) HP.out HPn.out).mono ?_
      rintro e x10 ⟨rfl, R10, hd10, hk10⟩
      have HX10 := hid (show Three Real S w x10 p q r (s.crash picks) (s.crash picks) F9 G R10 from ⟨(hk10 _ _ _ HX9.out.one (fun k hk hk' => HX9.out.h2 k hk' hk)).1, (hk10 _ _ _ HX9.out.new HX9.out.h3).1, hd10, HX9.out.h1, fun k hk hk' => (hk10 _ _ _ HX9.out.one (fun k hk hk' => HX9.out.h2 k hk' hk)).2 k hk' hk, (hk10 _ _ _ HX9.out.new HX9.out.h3).2⟩)
      have HO10 := hid (show (s.crash picks).okN (2 * 20) from (okN_crash HTw.out.ok).more (by have := HNi.out; omega))
      clear hd10 hk10 HX9
      go_wp2
      go_loopw [14] (fun i wr => ∃ j : Nat, j ≤ 8 ∧ i = .int .i64 (j : Int) ∧ Three Real S w wr p q r (s.crash picks) (s.crash picks) F9 G R10) (fun i _ => 8 - (intOf i).toNat)
      case atStart => exact ⟨0, by omega, rfl, HX10.out⟩
      case round =>
        obtain ⟨j, hj, rfl, hx⟩ := hrel
        have HX := hid hx
        clear hx
        by_cases hlt8 : j < 8
        · rcases hre : (s.crash picks).read (j : Int) with ⟨code, lj⟩
          have HRe := hid hre
          have HNe := hid (new_says hlt8)
          clear hre
          go_wp2_with fail
          refine (dv_read2 HD.out (i := (j : Int)) HX.out.one HO10.out (by omega) HRe.out).mono ?_
          rintro e y1 ⟨A1, n1, c1, v1, rfl, hv1, hs1, _, hb1⟩
          have HY1 := hid (HX.out.on HD.out hb1)
          have HL1 := hid hs1.1
          have HV1 := hid hv1
          clear hv1 hs1 hb1
          go_wp2_with fail
          refine (dv_read2 HD.out (i := (j : Int)) HY1.out.two HO10.out (by omega) HRe.out).mono ?_
          rintro e y2 ⟨A2, n2, c2, v2, rfl, hv2, hs2, _, hb2⟩
          have HY2 := hid (HY1.out.on HD.out hb2)
          have HL1b := hid (HL1.out.on hb2)
          have HL2 := hid hs2.1
          have HV2 := hid hv2
          clear hv2 hs2 hb2 HL1 HY1
          go_wp2_with fail
          refine (dv_read2 HD.out (i := (j : Int)) HY2.out.new (okN_new (m := 0) (by omega)) (by omega) HNe.out.1).mono ?_
          rintro e y3 ⟨A3, n3, c3, v3, rfl, hv3, hs3, _, hb3⟩
          have HY3 := hid (HY2.out.on HD.out hb3)
          have HL1c := hid (HL1b.out.on hb3)
          have HL2c := hid (HL2.out.on hb3)
          have HL3 := hid hs3.1
          obtain rfl := hv3.nil
          clear hv3 hs3 hb3 HL1b HL2 HY2
          have hvv : (v1 = .nilIface ∧ v2 = .nilIface) ∨ (∃ j1, v1 = .iface 131 (.pointer (some (S j1)))) ∧ ∃ j2, v2 = .iface 131 (.pointer (some (S j2))) := by
            by_cases hc0 : code = 0
            · subst hc0; exact .inl ⟨HV1.out.nil, HV2.out.nil⟩
            · exact .inr ⟨HV1.out.is hc0, HV2.out.is hc0⟩
          have hsame : sameB lj lj = true := same_self _
          have HSm := hid hsame
          clear hsame
          clear HV1 HV2
          have HL1d := hid (show Sl y3.drew y3.drew.heap.size A1 n1 c1 lj from HL1c.out.on ⟨rfl, rfl, rfl, Nat.le_refl _, fun _ _ => rfl⟩)
          have HL2d := hid (show Sl y3.drew y3.drew.heap.size A2 n2 c2 lj from HL2c.out.on ⟨rfl, rfl, rfl, Nat.le_refl _, fun _ _ => rfl⟩)
          rcases hvv with ⟨rfl, rfl⟩ | ⟨⟨j1, rfl⟩, ⟨j2, rfl⟩⟩
          all_goals
            go_wp2_with fail
            go_region_held3 (fun _ => True) (exact trivial)
              ((first
              | (go_at_call 31; have hl5 := HL5.out; clear hl5; refine (same_any _ _ _ _ _ _ (full 0) (full 0) _ _ _ (by exact HL5.out.on ⟨rfl, rfl, rfl, Nat.le_refl _, fun _ _ => rfl⟩) (by exact HA5.out.on ⟨rfl, rfl, rfl, Nat.le_refl _, fun _ _ => rfl⟩)).mono ?_; rintro e y6 ⟨rfl, k6, hy6⟩; rw [show sameB (full 0) (full 0) = true from same_self _]; have HY6 := hid (show Three Real S w y6 p q r (s.crash picks) (s.crash picks) F9 G R10 from by subst hy6; exact HY5.out.on HD.out ⟨rfl, rfl, rfl, Nat.le_refl _, fun _ _ => rfl⟩); clear hy6)
              | (go_at_call 16; refine (dv_whole HD.out 0 (s := DSt.new 8) (F := G) (p := q) (by exact (HY4.out.on HD.out ⟨rfl, rfl, rfl, Nat.le_refl _, fun _ _ => rfl⟩).new)).mono ?_; rintro e y5 ⟨A5, c5, rfl, _, ha5, hb5⟩; have hb5' : Below y4.heap.size y4 y5 := ⟨hb5.os, hb5.tape, hb5.output, hb5.size, hb5.block⟩; have HY5 := hid (HY4.out.on HD.out hb5'); have HL5 := hid (HL4.out.on hb5'); have HA5 := hid ha5.1; clear ha5 hb5 hb5')
              | (go_at_call 31; refine (same_any _ _ _ _ _ _ lj lj _ _ _ HL1d.out HL2d.out).mono ?_; rintro e y4 ⟨rfl, k4, hy4⟩; rw [HSm.out]; have HY4 := hid (show Three Real S w y4 p q r (s.crash picks) (s.crash picks) F9 G R10 from by subst hy4; exact HY3.out.on HD.out ⟨rfl, rfl, rfl, Nat.le_refl _, fun _ _ => rfl⟩); have HL4 := hid (show Sl y4 y4.heap.size A3 n3 c3 (full 0) from by subst hy4; exact HL3.out.on ⟨rfl, rfl, rfl, Nat.le_refl _, fun _ _ => rfl⟩); clear hy4)
              | (go_at_call 32; refine (dv_faulted HD.out (i := (j : Int)) (b := false) (s := DSt.new 8) (F := G) (by exact (HY6.out.on HD.out ⟨rfl, rfl, rfl, Nat.le_refl _, fun _ _ => rfl⟩).new) (okN_new (m := 0) (by omega)) (by omega) HNe.out.2).mono ?_; rintro e y7 ⟨rfl, _, hb7⟩; have HY7 := hid (HY6.out.on HD.out (show Below y6.heap.size y6 y7 from ⟨hb7.os, hb7.tape, hb7.output, hb7.size, hb7.block⟩)); clear hb7)))
            go_wp2
            go_roundw
            case rel => exact ⟨j + 1, by omega, by go_num, HY7.out⟩
            case measure => simp [intOf]; omega
        · go_wp2_with fail
          refine (dv_calls HD.out (q := 0) HX.out.new (okN_new (m := 0) (by omega)) (by omega) rfl).mono ?_
          rintro e y1 ⟨rfl, hd1, _⟩
          have HZ := hid hd1
          clear hd1
          go_wp2_with fail
          refine (dv_ever HD.out (q := 0) HZ.out (okN_new (m := 0) (by omega)) (by omega) rfl).mono ?_
          rintro e y2 ⟨rfl, hd2, _⟩
          have HF := hid hd2.below
          clear hd2
          go_wp2
          go_ret
          exact ⟨rfl, HF.out⟩
end Go.Proofs.YtjhdddccdffndaaDoor
