/- The walk of DevKeeps, for whatever keeps the device's calls. -/
import Derived.Test.YtjhdddccdffndaaDoorGDevIf
import Derived.Test.YtjhdddccdffndaaDoorGNumber
namespace Go.Proofs.YtjhdddccdffndaaDoor
open Go.RowKit

/-- block j ahead of the writes: the first one flushed, the fourth failed -/
def kb (a j : Nat) : BSt := if j = 0 then (blank.write (full a)).flush else if j = 3 then blank.failed else blank
/-- block j when the first k have been written -/
def kw (a b k j : Nat) : BSt := if j < k then (kb a j).write (full b) else kb a j
structure Keep (a b k : Nat) (s : DSt) : Prop where
  blks : s.blks = (List.range 8).map (kw a b k)
  arm : s.arm = 0
  down : s.down = false
  ok : s.okN (2 + k)
theorem Keep.pow {a b k : Nat} {s : DSt} (h : Keep a b k s) : s.power = (0, s) := by
  unfold DSt.power; rw [if_neg (by rw [h.down]; decide), if_pos h.arm]
theorem Keep.len {a b k : Nat} {s : DSt} (h : Keep a b k s) : s.blks.length = 8 := by rw [h.blks, List.length_map, List.length_range]
theorem Keep.write {a b k : Nat} {s : DSt} (h : Keep a b k s) (hk : k < 8) (hb : b < 256) : ∃ s', s.write (k : Int) (full b) = (0, s') ∧ Keep a b (k + 1) s' := by
  have hok := okN_write (i := (k : Int)) h.ok (full_byt hb)
  have e : s.write (k : Int) (full b) = (0, { s.turn (k : Int) (BSt.write (full b)) with calls := s.calls + 1 }) := by
    unfold DSt.write
    rw [h.pow, if_pos rfl]
    unfold DSt.write1
    have hin : s.inB (k : Int) = true := by unfold DSt.inB; rw [h.len]; simp; omega
    rw [if_neg (by rw [hin]; decide), if_neg (by rw [full_len]; omega)]
  rw [e] at hok
  refine ⟨_, e, ?_, h.arm, h.down, hok⟩
  show s.blks.modify k (BSt.write (full b)) = _
  rw [h.blks]
  refine List.ext_getElem? fun j => ?_
  rw [List.getElem?_modify, List.getElem?_map, List.getElem?_map]
  rcases Nat.lt_or_ge j 8 with hj | hj
  · rw [List.getElem?_range hj]
    show some (if k = j then BSt.write (full b) (kw a b k j) else kw a b k j) = some (kw a b (k + 1) j)
    by_cases hkj : k = j
    · subst hkj
      simp [kw]
    · rw [if_neg hkj]
      unfold kw
      by_cases h1 : j < k
      · rw [if_pos h1, if_pos (by omega)]
      · rw [if_neg h1, if_neg (by omega)]
  · rw [List.getElem?_eq_none (by simpa using hj)]; rfl
/-- the device behind the fall -/
structure Fell (a b : Nat) (picks : List Int) (s : DSt) : Prop where
  rd : ∀ j : Nat, j < 8 → (keepP picks j = true ∨ j ≠ 3) → s.read (j : Int) = (0, full (if keepP picks j = true then b else if j = 0 then a else 0)) ∧ s.faulted (j : Int) = false
  lost : keepP picks 3 = false → s.read ((3 : Nat) : Int) = (107, []) ∧ s.faulted ((3 : Nat) : Int) = true
  pend : s.pending = 0
  ok : s.okN 10
theorem kw_pend (a b j : Nat) (hj : j < 8) : (kw a b 8 j).pend = true := by unfold kw; rw [if_pos hj]; rfl
theorem Keep.count {a b : Nat} {s : DSt} (h : Keep a b 8 s) (j : Nat) (hj : j ≤ 8) : (s.blks.take j).countP BSt.pend = j := by
  rw [h.blks, ← List.map_take, List.countP_map, List.countP_eq_length.2 (fun x hx => by
    have := List.mem_range.1 (List.mem_of_mem_take hx)
    exact kw_pend a b x this), List.length_take, List.length_range]
  omega
theorem Keep.after {a b : Nat} {s : DSt} (h : Keep a b 8 s) (picks : List Int) (j : Nat) (hj : j < 8) : (s.crash picks).blks[j]? = some (((kb a j).write (full b)).crash (keepP picks j)) := by
  show (s.blks.mapIdx (crashAt s.blks picks))[j]? = _
  rw [List.getElem?_mapIdx, h.blks, List.getElem?_map, List.getElem?_range hj]
  show some (crashAt _ picks j (kw a b 8 j)) = _
  unfold crashAt
  rw [← h.blks, h.count j (by omega)]
  unfold kw
  rw [if_pos hj]
theorem crash_pend (x : BSt) (k : Bool) : (x.crash k).pend = false := by
  unfold BSt.crash
  rcases hp : x.pend with _ | _ <;> simp [hp]
theorem Keep.fell {a b : Nat} {s : DSt} (h : Keep a b 8 s) (picks : List Int) : Fell a b picks (s.crash picks) := by
  have hl : (s.crash picks).blks.length = 8 := by rw [crash_len, h.len]
  have hin : ∀ j : Nat, j < 8 → (s.crash picks).inB (j : Int) = true := fun j hj => by unfold DSt.inB; rw [hl]; simp; omega
  have hr : ∀ j : Nat, j < 8 → (s.crash picks).read (j : Int) = (((kb a j).write (full b)).crash (keepP picks j)).read := fun j hj => by
    unfold DSt.read
    rw [if_neg (by show ¬ (false = true); decide), if_neg (by rw [hin j hj]; decide), Int.toNat_natCast, h.after picks j hj]
    rfl
  have hf : ∀ j : Nat, j < 8 → (s.crash picks).faulted (j : Int) = (((kb a j).write (full b)).crash (keepP picks j)).fault := fun j hj => by
    unfold DSt.faulted
    rw [hin j hj, Int.toNat_natCast, h.after picks j hj]
    rfl
  refine ⟨fun j hj hc => ?_, fun hc => ?_, ?_, okN_crash h.ok⟩
  · rw [hr j hj, hf j hj]
    rcases hk : keepP picks j with _ | _
    · rw [hk] at hc
      have h3 : j ≠ 3 := by rcases hc with hc | hc; · exact absurd hc (by decide)
                            · exact hc
      unfold kb
      by_cases h0 : j = 0
      · simp only [h0, if_true]; exact ⟨rfl, rfl⟩
      · simp only [h0, h3, if_false]; exact ⟨rfl, rfl⟩
    · exact ⟨rfl, rfl⟩
  · rw [hr 3 (by omega), hf 3 (by omega), hc]
    exact ⟨rfl, rfl⟩
  · unfold DSt.pending
    rw [List.countP_eq_zero]
    intro x hx
    obtain ⟨j, hj⟩ := List.getElem?_of_mem hx
    rcases Nat.lt_or_ge j 8 with hj8 | hj8
    · rw [h.after picks j hj8] at hj
      obtain rfl := Option.some.inj hj
      rw [crash_pend]; decide
    · rw [List.getElem?_eq_none (by rw [hl]; exact hj8)] at hj
      cases hj
theorem Fell.lost' {a b : Nat} {picks : List Int} {s : DSt} (h : Fell a b picks s) {j : Nat} (hj : j = 3) (hk : keepP picks j = false) : s.read (j : Int) = (107, []) ∧ s.faulted ((3 : Nat) : Int) = true := by subst hj; exact h.lost hk
theorem keep_new {a : Nat} (ha : a < 256) : ∃ s1 s2 s3, (DSt.new 8).write ((0 : Nat) : Int) (full a) = (0, s1) ∧ s1.flush = (0, s2) ∧ s2.fail ((3 : Nat) : Int) = (true, s3) ∧ s1.okN 1 ∧ s2.okN 2 ∧ ∀ b, Keep a b 0 s3 := by
  have h0 : (DSt.new 8).okN 0 := okN_new (by omega)
  have h1 := okN_write (i := ((0 : Nat) : Int)) h0 (full_byt ha)
  have e1 := new_write (n := 8) (i := ((0 : Nat) : Int)) (l := full a) (by omega) (by omega) (full_len a)
  rw [e1] at h1
  have h2 := okN_flush h1
  have h3 := okN_fail (i := ((3 : Nat) : Int)) h2
  refine ⟨_, _, _, e1, ?_, ?_, h1, h2, fun b => ⟨?_, ?_, ?_, h3⟩⟩
  · generalize full a = l; rfl
  · generalize full a = l; rfl
  · rfl
  · generalize full a = l; rfl
  · generalize full a = l; rfl
theorem pick_cases {w : World} {B n c : Nat} {A : Option Addr} {picks : List Int} (h : Sn w B A n c picks) (k : Nat) : (decide (k < n) = false ∧ keepP picks k = false) ∨ ∃ ad v, A = some ad ∧ k < n ∧ w.cell? (ad.add k) = some (.int .i64 v) ∧ (v.tmod 2 != 0) = keepP picks k := by
  rcases Nat.lt_or_ge k n with hk | hk
  · obtain ⟨ad, x, ha, _, hx, hc⟩ := h.get hk
    refine .inr ⟨ad, x, ha, hk, hc, ?_⟩
    unfold keepP
    rw [hx]
    simp [bne, decide_not]
    rfl
  · refine .inl ⟨by simpa using hk, ?_⟩
    unfold keepP
    rw [List.getElem?_eq_none (by rw [h.len]; exact hk)]
    rfl
set_option maxRecDepth 100000 in
set_option maxHeartbeats 2000000 in
theorem devKeeps_any {Real : World → Nat → DSt → (Nat → Prop) → Prop} (D : DevOk Real) (S : Nat → Addr) (a b : Nat) (A : Option Addr) (n c : Nat) (picks : List Int) (w : World) (hS : Sent5 w S) (ha8 : a < 256) (hb8 : b < 256) (hP : Sn w w.heap.size A n c picks) :
    Calls Tryd.prog 5 #[.int .u8 (a : Int), .int .u8 (b : Int), .slice A n c] w (Yes w) := by
  have HS := hid hS
  have HD := hid D
  have HP := hid hP
  have HA8 := hid ha8
  have HB8 := hid hb8
  have hai : (a : Int) < 256 := by omega
  have hbi : (b : Int) < 256 := by omega
  clear hS D hP ha8 hb8
  go_enter Tryd.func5, Tryd.ntmps5
  go_wp2_with fail
  refine (first_any HD.out S _ HS.out).mono ?_
  rintro e w1 ⟨rfl, hb⟩
  have HB1 := hid hb
  clear hb
  by_cases hn : 16 < n
  · have hd : decide ((16 : Int) < n) = true := by simp; omega
    go_wp2
    go_ret
    exact ⟨rfl, HB1.out⟩
  have hd : decide ((16 : Int) < n) = false := by simp; omega
  have HN := hid hn
  clear hn
  go_wp2_with fail
  refine (dv_new HD.out 8 HS.out HB1.out (by omega) (by omega)).mono ?_
  rintro e w2 ⟨p, F2, rfl, hd2, _, _⟩
  have HDv2 := hid hd2
  clear hd2
  obtain ⟨s1, s2, s3, e1, e2, e3, o1, o2, hk0⟩ := keep_new HA8.out
  have HE1 := hid e1
  have HE2 := hid e2
  have HE3 := hid e3
  have HO1 := hid o1
  have HO2 := hid o2
  have HK0 := hid (hk0 b)
  clear e1 e2 e3 o1 o2 hk0
  go_wp2_with fail
  refine (dv_whole HD.out a HDv2.out).mono ?_
  rintro e w3 ⟨A3, c3, rfl, hd3, ha3, _⟩
  have HDv3 := hid hd3
  have HA3 := hid ha3
  clear hd3 ha3
  go_wp2_with fail
  refine (dv_write0 (m := 0) HD.out (i := ((0 : Nat) : Int)) HDv3.out HS.out (okN_new (by omega)) (by omega) HA3.out (full_byt HA8.out) (by omega) HE1.out).mono ?_
  rintro e w4 ⟨rfl, F4, hd4⟩
  have HDv4 := hid hd4
  clear hd4
  go_wp2_with fail
  refine (dv_flush0 HD.out HDv4.out HS.out HO1.out (by omega) HE2.out).mono ?_
  rintro e w5 ⟨rfl, F5, hd5⟩
  have HDv5 := hid hd5
  clear hd5
  go_wp2_with fail
  refine (dv_fail HD.out (i := ((3 : Nat) : Int)) HDv5.out HS.out HO2.out (by omega) HE3.out).mono ?_
  rintro e w6 ⟨rfl, F6, hd6⟩
  have HDv6 := hid hd6
  clear hd6
  go_wp2
  go_loopw [10] (fun i wr => ∃ (k : Nat) (s : DSt) (F : Nat → Prop), k ≤ 8 ∧ i = .int .i64 (k : Int) ∧ Dv Real S w wr p s F ∧ Keep a b k s) (fun i _ => 8 - (intOf i).toNat)
  case atStart => exact ⟨0, _, F6, by omega, rfl, HDv6.out, HK0.out⟩
  case round =>
    obtain ⟨k, s, Fk, hk, rfl, hdv, hke⟩ := hrel
    have HDv := hid hdv
    have HKe := hid hke
    clear hdv hke
    by_cases hlt : k < 8
    · go_wp2_with fail
      refine (dv_whole HD.out b HDv.out).mono ?_
      rintro e wa ⟨Aa, ca, rfl, hda, haa, _⟩
      have HDva := hid hda
      have HAa := hid haa
      clear hda haa
      obtain ⟨sn, he, hkn⟩ := HKe.out.write hlt HB8.out
      have HE := hid he
      have HKn := hid hkn
      clear he hkn
      go_wp2_with fail
      refine (dv_write0 HD.out (i := (k : Int)) HDva.out HS.out HKe.out.ok (by omega) HAa.out (full_byt HB8.out) (by omega) HE.out).mono ?_
      rintro e wb ⟨rfl, Fb, hdb⟩
      have HDvb := hid hdb
      clear hdb
      go_wp2
      go_roundw
      case rel => exact ⟨k + 1, sn, Fb, by omega, by go_num, HDvb.out, HKn.out⟩
      case measure => simp [intOf]; omega
    · obtain rfl : k = 8 := by omega
      have HFe := hid (HKe.out.fell picks)
      go_wp2_with fail
      refine (dv_crash HD.out HDv.out HS.out HKe.out.ok (by omega) ((HP.out.below HDv.out.below).more HDv.out.below.size) (fun ad ha h0 hF => by have := HDv.out.new _ hF; have := (HP.out.at_ ad ha h0).1; omega) (by have := HN.out; omega)).mono ?_
      rintro e w7 ⟨rfl, F7, hd7⟩
      have HDv7 := hid hd7
      clear hd7
      go_wp2
      clear HDv HKe
      go_loopw [11] (fun i wr => ∃ k : Nat, k ≤ 8 ∧ i = .int .i64 (k : Int) ∧ Dv Real S w wr p (s.crash picks) F7) (fun i _ => 8 - (intOf i).toNat)
      case atStart => exact ⟨0, by omega, rfl, HDv7.out⟩
      case round =>
        obtain ⟨k, hk, rfl, hdv⟩ := hrel
        have HDv := hid hdv
        clear hdv
        by_cases hlt : k < 8
        · have hzz : (((k : Int) == 0) = true ∧ ((k : Int) == 3) = false ∧ k = 0) ∨ (((k : Int) == 0) = false ∧ ((k : Int) == 3) = true ∧ k = 3) ∨ (((k : Int) == 0) = false ∧ ((k : Int) == 3) = false ∧ k ≠ 0 ∧ k ≠ 3) := by
            by_cases h0 : k = 0
            · subst h0; exact .inl ⟨rfl, rfl, rfl⟩
            · by_cases h3 : k = 3
              · subst h3; exact .inr (.inl ⟨rfl, rfl, rfl⟩)
              · exact .inr (.inr ⟨by simp; omega, by simp; omega, h0, h3⟩)
          rcases pick_cases (HP.out.below HDv.out.below) k with ⟨hnk, hkp⟩ | ⟨ad, v, rfl, hnk, hc, ht⟩
          · skip
            rcases hzz with ⟨hz0, hz1, hz2⟩ | ⟨hz0, hz1, hz3⟩ | ⟨hz0, hz1, hz2, hz3⟩
            · have hrd := HFe.out.rd k hlt (.inr (by omega))
              rw [if_neg (by rw [hkp]; decide), if_pos hz2] at hrd
              clear hz2 hkp
              have HRd := hid hrd
              clear hrd
              go_wp2_with fail
              refine (dv_read2 HD.out (i := (k : Int)) (code := 0) (l := full a) HDv.out HFe.out.ok (by omega) HRd.out.1).mono ?_
              rintro e w8 ⟨A8, n8, c8, v8, rfl, hv8, hs8, hd8, _⟩
              have HDv8 := hid hd8
              have HL8 := hid hs8
              obtain rfl := hv8.nil
              clear hd8 hs8 hv8
              go_wp2_with fail
              refine (dv_whole HD.out a HDv8.out).mono ?_
              rintro e w9 ⟨A9, c9, rfl, hd9, ha9, hb9⟩
              have HDv9 := hid hd9
              have HA9 := hid ha9
              have HL9 := hid (HL8.out.on hb9)
              clear hd9 ha9 hb9
              go_wp2_with fail
              refine (same_any _ _ _ _ _ _ _ _ _ _ _ HL9.out.1 HA9.out.1).mono ?_
              rintro e w10 ⟨rfl, k10, rfl⟩
              have hsame : sameB (full a) (full a) = true := same_self _
              rw [hsame]
              clear hsame
              have HDv10 := hid (HDv9.out.drewN HD.out k10)
              go_wp2_with fail
              refine (dv_faulted HD.out (i := (k : Int)) (b := false) HDv10.out HFe.out.ok (by omega) HRd.out.2).mono ?_
              rintro e w11 ⟨rfl, hd11, _⟩
              have HDv11 := hid hd11
              clear hd11
              go_wp2
              go_roundw
              case rel => exact ⟨k + 1, by omega, by go_num, HDv11.out⟩
              case measure => simp [intOf]; omega
            · have HRd := hid (HFe.out.lost' hz3 hkp)
              clear hkp hz3
              go_wp2_with fail
              refine (dv_read2 HD.out (i := (k : Int)) (code := 107) (l := []) HDv.out HFe.out.ok (by omega) HRd.out.1).mono ?_
              rintro e w8 ⟨A8, n8, c8, v8, rfl, hv8, hs8, hd8, _⟩
              have HDv8 := hid hd8
              obtain ⟨j8, h8⟩ := hv8.is (by decide)
              subst h8
              clear hd8 hs8 hv8
              go_wp2_with fail
              refine (dv_faulted HD.out (i := ((3 : Nat) : Int)) (b := true) HDv8.out HFe.out.ok (by omega) HRd.out.2).mono ?_
              rintro e w9 ⟨rfl, hd9, _⟩
              have HDv9 := hid hd9
              clear hd9
              go_wp2
              go_roundw
              case rel => exact ⟨k + 1, by omega, by go_num, HDv9.out⟩
              case measure => simp [intOf]; omega
            · have hrd := HFe.out.rd k hlt (.inr hz3)
              rw [if_neg (by rw [hkp]; decide), if_neg hz2] at hrd
              clear hz2 hz3 hkp
              have HRd := hid hrd
              clear hrd
              go_wp2_with fail
              refine (dv_read2 HD.out (i := (k : Int)) (code := 0) (l := full 0) HDv.out HFe.out.ok (by omega) HRd.out.1).mono ?_
              rintro e w8 ⟨A8, n8, c8, v8, rfl, hv8, hs8, hd8, _⟩
              have HDv8 := hid hd8
              have HL8 := hid hs8
              obtain rfl := hv8.nil
              clear hd8 hs8 hv8
              go_wp2_with fail
              refine (dv_whole HD.out 0 HDv8.out).mono ?_
              rintro e w9 ⟨A9, c9, rfl, hd9, ha9, hb9⟩
              have HDv9 := hid hd9
              have HA9 := hid ha9
              have HL9 := hid (HL8.out.on hb9)
              clear hd9 ha9 hb9
              go_wp2_with fail
              refine (same_any _ _ _ _ _ _ _ _ _ _ _ HL9.out.1 HA9.out.1).mono ?_
              rintro e w10 ⟨rfl, k10, rfl⟩
              have hsame : sameB (full 0) (full 0) = true := same_self _
              rw [hsame]
              clear hsame
              have HDv10 := hid (HDv9.out.drewN HD.out k10)
              go_wp2_with fail
              refine (dv_faulted HD.out (i := (k : Int)) (b := false) HDv10.out HFe.out.ok (by omega) HRd.out.2).mono ?_
              rintro e w11 ⟨rfl, hd11, _⟩
              have HDv11 := hid hd11
              clear hd11
              go_wp2
              go_roundw
              case rel => exact ⟨k + 1, by omega, by go_num, HDv11.out⟩
              case measure => simp [intOf]; omega
          · rcases hkp : keepP picks k with _ | _
            · rw [hkp] at ht
              rcases hzz with ⟨hz0, hz1, hz2⟩ | ⟨hz0, hz1, hz3⟩ | ⟨hz0, hz1, hz2, hz3⟩
              · have hrd := HFe.out.rd k hlt (.inr (by omega))
                rw [if_neg (by rw [hkp]; decide), if_pos hz2] at hrd
                clear hz2 hkp
                have HRd := hid hrd
                clear hrd
                go_wp2_with fail
                refine (dv_read2 HD.out (i := (k : Int)) (code := 0) (l := full a) HDv.out HFe.out.ok (by omega) HRd.out.1).mono ?_
                rintro e w8 ⟨A8, n8, c8, v8, rfl, hv8, hs8, hd8, _⟩
                have HDv8 := hid hd8
                have HL8 := hid hs8
                obtain rfl := hv8.nil
                clear hd8 hs8 hv8
                go_wp2_with fail
                refine (dv_whole HD.out a HDv8.out).mono ?_
                rintro e w9 ⟨A9, c9, rfl, hd9, ha9, hb9⟩
                have HDv9 := hid hd9
                have HA9 := hid ha9
                have HL9 := hid (HL8.out.on hb9)
                clear hd9 ha9 hb9
                go_wp2_with fail
                refine (same_any _ _ _ _ _ _ _ _ _ _ _ HL9.out.1 HA9.out.1).mono ?_
                rintro e w10 ⟨rfl, k10, rfl⟩
                have hsame : sameB (full a) (full a) = true := same_self _
                rw [hsame]
                clear hsame
                have HDv10 := hid (HDv9.out.drewN HD.out k10)
                go_wp2_with fail
                refine (dv_faulted HD.out (i := (k : Int)) (b := false) HDv10.out HFe.out.ok (by omega) HRd.out.2).mono ?_
                rintro e w11 ⟨rfl, hd11, _⟩
                have HDv11 := hid hd11
                clear hd11
                go_wp2
                go_roundw
                case rel => exact ⟨k + 1, by omega, by go_num, HDv11.out⟩
                case measure => simp [intOf]; omega
              · have HRd := hid (HFe.out.lost' hz3 hkp)
                clear hkp hz3
                go_wp2_with fail
                refine (dv_read2 HD.out (i := (k : Int)) (code := 107) (l := []) HDv.out HFe.out.ok (by omega) HRd.out.1).mono ?_
                rintro e w8 ⟨A8, n8, c8, v8, rfl, hv8, hs8, hd8, _⟩
                have HDv8 := hid hd8
                obtain ⟨j8, h8⟩ := hv8.is (by decide)
                subst h8
                clear hd8 hs8 hv8
                go_wp2_with fail
                refine (dv_faulted HD.out (i := ((3 : Nat) : Int)) (b := true) HDv8.out HFe.out.ok (by omega) HRd.out.2).mono ?_
                rintro e w9 ⟨rfl, hd9, _⟩
                have HDv9 := hid hd9
                clear hd9
                go_wp2
                go_roundw
                case rel => exact ⟨k + 1, by omega, by go_num, HDv9.out⟩
                case measure => simp [intOf]; omega
              · have hrd := HFe.out.rd k hlt (.inr hz3)
                rw [if_neg (by rw [hkp]; decide), if_neg hz2] at hrd
                clear hz2 hz3 hkp
                have HRd := hid hrd
                clear hrd
                go_wp2_with fail
                refine (dv_read2 HD.out (i := (k : Int)) (code := 0) (l := full 0) HDv.out HFe.out.ok (by omega) HRd.out.1).mono ?_
                rintro e w8 ⟨A8, n8, c8, v8, rfl, hv8, hs8, hd8, _⟩
                have HDv8 := hid hd8
                have HL8 := hid hs8
                obtain rfl := hv8.nil
                clear hd8 hs8 hv8
                go_wp2_with fail
                refine (dv_whole HD.out 0 HDv8.out).mono ?_
                rintro e w9 ⟨A9, c9, rfl, hd9, ha9, hb9⟩
                have HDv9 := hid hd9
                have HA9 := hid ha9
                have HL9 := hid (HL8.out.on hb9)
                clear hd9 ha9 hb9
                go_wp2_with fail
                refine (same_any _ _ _ _ _ _ _ _ _ _ _ HL9.out.1 HA9.out.1).mono ?_
                rintro e w10 ⟨rfl, k10, rfl⟩
                have hsame : sameB (full 0) (full 0) = true := same_self _
                rw [hsame]
                clear hsame
                have HDv10 := hid (HDv9.out.drewN HD.out k10)
                go_wp2_with fail
                refine (dv_faulted HD.out (i := (k : Int)) (b := false) HDv10.out HFe.out.ok (by omega) HRd.out.2).mono ?_
                rintro e w11 ⟨rfl, hd11, _⟩
                have HDv11 := hid hd11
                clear hd11
                go_wp2
                go_roundw
                case rel => exact ⟨k + 1, by omega, by go_num, HDv11.out⟩
                case measure => simp [intOf]; omega
            · rw [hkp] at ht
              rcases hzz with ⟨hz0, hz1, hz2⟩ | ⟨hz0, hz1, hz3⟩ | ⟨hz0, hz1, hz2, hz3⟩
              · have hrd := HFe.out.rd k hlt (.inl hkp)
                rw [if_pos hkp] at hrd
                clear hz2 hkp
                have HRd := hid hrd
                clear hrd
                go_wp2_with fail
                refine (dv_read2 HD.out (i := (k : Int)) (code := 0) (l := full b) HDv.out HFe.out.ok (by omega) HRd.out.1).mono ?_
                rintro e w8 ⟨A8, n8, c8, v8, rfl, hv8, hs8, hd8, _⟩
                have HDv8 := hid hd8
                have HL8 := hid hs8
                obtain rfl := hv8.nil
                clear hd8 hs8 hv8
                go_wp2_with fail
                refine (dv_whole HD.out b HDv8.out).mono ?_
                rintro e w9 ⟨A9, c9, rfl, hd9, ha9, hb9⟩
                have HDv9 := hid hd9
                have HA9 := hid ha9
                have HL9 := hid (HL8.out.on hb9)
                clear hd9 ha9 hb9
                go_wp2_with fail
                refine (same_any _ _ _ _ _ _ _ _ _ _ _ HL9.out.1 HA9.out.1).mono ?_
                rintro e w10 ⟨rfl, k10, rfl⟩
                have hsame : sameB (full b) (full b) = true := same_self _
                rw [hsame]
                clear hsame
                have HDv10 := hid (HDv9.out.drewN HD.out k10)
                go_wp2_with fail
                refine (dv_faulted HD.out (i := (k : Int)) (b := false) HDv10.out HFe.out.ok (by omega) HRd.out.2).mono ?_
                rintro e w11 ⟨rfl, hd11, _⟩
                have HDv11 := hid hd11
                clear hd11
                go_wp2
                go_roundw
                case rel => exact ⟨k + 1, by omega, by go_num, HDv11.out⟩
                case measure => simp [intOf]; omega
              · have hrd := HFe.out.rd k hlt (.inl hkp)
                rw [if_pos hkp] at hrd
                clear hz3 hkp
                have HRd := hid hrd
                clear hrd
                go_wp2_with fail
                refine (dv_read2 HD.out (i := (k : Int)) (code := 0) (l := full b) HDv.out HFe.out.ok (by omega) HRd.out.1).mono ?_
                rintro e w8 ⟨A8, n8, c8, v8, rfl, hv8, hs8, hd8, _⟩
                have HDv8 := hid hd8
                have HL8 := hid hs8
                obtain rfl := hv8.nil
                clear hd8 hs8 hv8
                go_wp2_with fail
                refine (dv_whole HD.out b HDv8.out).mono ?_
                rintro e w9 ⟨A9, c9, rfl, hd9, ha9, hb9⟩
                have HDv9 := hid hd9
                have HA9 := hid ha9
                have HL9 := hid (HL8.out.on hb9)
                clear hd9 ha9 hb9
                go_wp2_with fail
                refine (same_any _ _ _ _ _ _ _ _ _ _ _ HL9.out.1 HA9.out.1).mono ?_
                rintro e w10 ⟨rfl, k10, rfl⟩
                have hsame : sameB (full b) (full b) = true := same_self _
                rw [hsame]
                clear hsame
                have HDv10 := hid (HDv9.out.drewN HD.out k10)
                go_wp2_with fail
                refine (dv_faulted HD.out (i := (k : Int)) (b := false) HDv10.out HFe.out.ok (by omega) HRd.out.2).mono ?_
                rintro e w11 ⟨rfl, hd11, _⟩
                have HDv11 := hid hd11
                clear hd11
                go_wp2
                go_roundw
                case rel => exact ⟨k + 1, by omega, by go_num, HDv11.out⟩
                case measure => simp [intOf]; omega
              · have hrd := HFe.out.rd k hlt (.inl hkp)
                rw [if_pos hkp] at hrd
                clear hz2 hz3 hkp
                have HRd := hid hrd
                clear hrd
                go_wp2_with fail
                refine (dv_read2 HD.out (i := (k : Int)) (code := 0) (l := full b) HDv.out HFe.out.ok (by omega) HRd.out.1).mono ?_
                rintro e w8 ⟨A8, n8, c8, v8, rfl, hv8, hs8, hd8, _⟩
                have HDv8 := hid hd8
                have HL8 := hid hs8
                obtain rfl := hv8.nil
                clear hd8 hs8 hv8
                go_wp2_with fail
                refine (dv_whole HD.out b HDv8.out).mono ?_
                rintro e w9 ⟨A9, c9, rfl, hd9, ha9, hb9⟩
                have HDv9 := hid hd9
                have HA9 := hid ha9
                have HL9 := hid (HL8.out.on hb9)
                clear hd9 ha9 hb9
                go_wp2_with fail
                refine (same_any _ _ _ _ _ _ _ _ _ _ _ HL9.out.1 HA9.out.1).mono ?_
                rintro e w10 ⟨rfl, k10, rfl⟩
                have hsame : sameB (full b) (full b) = true := same_self _
                rw [hsame]
                clear hsame
                have HDv10 := hid (HDv9.out.drewN HD.out k10)
                go_wp2_with fail
                refine (dv_faulted HD.out (i := (k : Int)) (b := false) HDv10.out HFe.out.ok (by omega) HRd.out.2).mono ?_
                rintro e w11 ⟨rfl, hd11, _⟩
                have HDv11 := hid hd11
                clear hd11
                go_wp2
                go_roundw
                case rel => exact ⟨k + 1, by omega, by go_num, HDv11.out⟩
                case measure => simp [intOf]; omega
        · go_wp2_with fail
          refine (dv_pending HD.out (q := 0) HDv.out HFe.out.ok (by omega) HFe.out.pend).mono ?_
          rintro e w8 ⟨rfl, hd8, _⟩
          have HF := hid hd8.below
          clear hd8
          go_wp2
          go_ret
          exact ⟨rfl, HF.out⟩
end Go.Proofs.YtjhdddccdffndaaDoor
