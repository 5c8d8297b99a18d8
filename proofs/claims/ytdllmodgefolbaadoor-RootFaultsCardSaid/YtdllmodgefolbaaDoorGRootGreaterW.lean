/- The walk of RootGreater. -/
import Derived.Test.YtdllmodgefolbaaDoorGRootN
namespace Go.Proofs.YtdllmodgefolbaaDoor
open Go.RowKit

theorem bytesO_any (S : Nat → Addr) {o : RV} {r : RSt} (w : World) (hS : Sent6 w S) (ho : o.Is r w) (hs : Sums r.refs) (h0 : -9223372036854775808 ≤ r.epoch) (h1 : r.epoch ≤ 9223372036854775807) :
    Calls Tryd.prog 10 #[o.v] w (BytesOut S w r) := by
  have he : o.v = rtV r.epoch o.A o.n o.c := by show rtV o.e o.A o.n o.c = _; rw [ho.1]
  rw [he]
  exact rootBytes_any S r o.A o.n o.c w hS ho.2 hs h0 h1
theorem Up.raw {s : DSt} {n m : Nat} (h : Up s n m) (i : Int) {l : List Int} (hl : Byt l) : Up (s.raw i l).2 n m := by
  refine ⟨?_, ?_, by rw [raw_len]; exact h.len, okN_raw h.okN hl⟩
  · unfold DSt.raw; split <;> exact h.arm
  · unfold DSt.raw; split <;> exact h.down
theorem raw_else {s : DSt} {i j : Nat} {l : List Int} (hij : i ≠ j) : (s.raw (i : Int) l).2.blks[j]? = s.blks[j]? := by
  unfold DSt.raw
  split
  · exact turn_else hij
  · rfl
theorem Four.raw {s : DSt} {H p i : Nat} {a b c d : BSt} (h : Four s H p a b c d) (l : List Int) (h1 : i ≠ p) (h2 : i ≠ p + H) (h3 : i ≠ 1 - p) (h4 : i ≠ 1 - p + H) : Four (s.raw (i : Int) l).2 H p a b c d :=
  ⟨⟨(raw_else h1).trans h.here.a, (raw_else h2).trans h.here.c⟩, ⟨(raw_else h3).trans h.there.a, (raw_else h4).trans h.there.c⟩⟩
section
variable {Real : World → Nat → DSt → (Nat → Prop) → Prop} {S : Nat → Addr} {w0 w w' : World} {d n q : Nat} {s : DSt} {F : Nat → Prop}
/-- a block laid past all; the bytes stay -/
theorem dk_raw (D : DevOk Real) (h : Dk Real w0 w d n q s F) (hq : q ≤ 900) (i : Int) {A : Option Addr} {m c : Nat} {l : List Int} (hl : Sl w w.heap.size A m c l) (hA : ∀ ad, A = some ad → ¬ F ad.block) (hy : Byt l) (hm : m ≤ 1000) :
    Calls Tryd.prog 28 #[.pointer (some ⟨d, 0, none⟩), .int .i64 i, .slice A m c] w fun e w' => e = .returned (.bool (s.raw i l).1) ∧ ∃ F', Dk Real w0 w' d n q (s.raw i l).2 F' ∧ Sl w' w'.heap.size A m c l ∧ ∀ ad, A = some ad → 0 < m → ¬ F' ad.block := by
  refine (D.raw d s F i A m c l w h.real (h.okN.ok (by omega)) hl (fun ad ha _ => hA ad ha) hy hm).mono ?_
  rintro e w' ⟨he, hu⟩
  obtain ⟨F', h1, h2, h3⟩ := h.upd hu (okN_raw h.okN hy) (by rw [raw_len]; exact h.len)
  exact ⟨he, F', h1, hl.only h2 (fun ad ha _ => hA ad ha), fun ad ha h0 hf => (h3 _ hf).elim (hA ad ha) (fun h4 => by have := (hl.at_ ad ha h0).1; omega)⟩
set_option maxRecDepth 100000 in
set_option maxHeartbeats 8000000 in
theorem rootGreater_any (D : DevOk Real) (S : Nat → Addr) (a b : Int) (A B : Option Addr) (la ca lb cb : Nat) (l m : List Int) (w : World) (hS : Sent6 w S) (hl : Sn w w.heap.size A la ca l) (hm : Sn w w.heap.size B lb cb m) (hla : la ≤ 2000000) (hlb : lb ≤ 2000000) (a0 : -9223372036854775808 ≤ a) (a1 : a ≤ 9223372036854775807) (b0 : -9223372036854775808 ≤ b) (b1 : b ≤ 9223372036854775807) :
    Calls Tryd.prog 7 #[.int .i64 a, .int .i64 b, .slice A la ca, .slice B lb cb] w (Yes w) := by
  have HS := hid hS
  have HD := hid D
  have HL := hid hl
  have HM := hid hm
  have HLa := hid hla
  have HLb := hid hlb
  have HAb := hid (show (-9223372036854775808 ≤ a ∧ a ≤ 9223372036854775807) ∧ (-9223372036854775808 ≤ b ∧ b ≤ 9223372036854775807) from ⟨⟨a0, a1⟩, ⟨b0, b1⟩⟩)
  obtain ⟨rx, hrx⟩ : ∃ r, mkRoot a l = r := ⟨_, rfl⟩
  obtain ⟨ry, hry⟩ : ∃ r, mkRoot b m = r := ⟨_, rfl⟩
  have HRx := hid (show rx.epoch = a ∧ Sums rx.refs from by rw [← hrx]; exact ⟨rfl, mkR_sums _⟩)
  have HRy := hid (show ry.epoch = b ∧ Sums ry.refs from by rw [← hry]; exact ⟨rfl, mkR_sums _⟩)
  have HRx' := hid hrx
  have HRy' := hid hry
  have hh : halN 300 = 75 := by decide
  clear hS D hl hm hla hlb a0 a1 b0 b1 hrx hry
  go_enter Tryd.func7, Tryd.ntmps7
  go_wp2_with fail
  refine (first6_any HD.out S _ HS.out).mono ?_
  rintro e w1 ⟨rfl, hb1⟩
  have HB1 := hid hb1
  have HL1 := hid (hl_on HL.out hb1)
  have HM1 := hid (hl_on HM.out hb1)
  clear hb1
  go_wp2_with fail
  refine (made_any a A la ca l _ HL1.out HLa.out).mono ?_
  rw [HRx'.out]
  rintro e w2 ⟨o, rfl, ho, hb, _⟩
  have HBo := hid (show Below w2.heap.size w2 (w2.alloc (.cells #[.int .i64 o.e, o.s] 31)) from (Below.refl _ _).alloc (Nat.le_refl _) _)
  have HKx := hid (Blk.new w2 31 #[.int .i64 o.e, o.s])
  have HO := hid (ho.on HBo.out)
  have HB2 := hid (HB1.out.trans ((hb.trans (HBo.out.mono hb.size)).mono HB1.out.size))
  have HM2 := hid (hl_on HM1.out (hb.trans (HBo.out.mono hb.size)))
  clear ho hb
  go_wp2_with fail
  refine (made_any b B lb cb m _ HM2.out HLb.out).mono ?_
  rw [HRy'.out]
  rintro e w3 ⟨p, rfl, hp, hb, _⟩
  have HBp := hid (show Below w3.heap.size w3 (w3.alloc (.cells #[.int .i64 p.e, p.s] 31)) from (Below.refl _ _).alloc (Nat.le_refl _) _)
  have HKy := hid (Blk.new w3 31 #[.int .i64 p.e, p.s])
  have HP := hid (hp.on HBp.out)
  have hb23 := hb.trans (HBp.out.mono hb.size)
  have HKx3 := hid (HKx.out.below hb23 HKx.out.lt)
  have HO3 := hid (RV.Is.on HO.out hb23)
  have HB3 := hid (HB2.out.trans (hb23.mono HB2.out.size))
  clear hp hb hb23
  have HKx4 := hid HKx3.out
  have HO4 := hid HO3.out
  have HB4 := hid HB3.out
  have c0 := HKx4.out.cell 0
  have c1 := HKx4.out.cell 1
  simp at c0 c1
  go_wp2_with fail
  refine (bytesO_any S _ (HS.out.on HB4.out) HO4.out HRx.out.2 (by rw [HRx.out.1]; exact HAb.out.1.1) (by rw [HRx.out.1]; exact HAb.out.1.2)).mono ?_
  rintro e w5 ⟨hx, hb⟩
  have HBx := hid hb
  have HB5 := hid (HB4.out.trans (hb.mono HB4.out.size))
  have HKx5 := hid (HKx4.out.below hb HKx4.out.lt)
  have HKy5 := hid (HKy.out.below hb HKy.out.lt)
  have HO5 := hid (RV.Is.on HO4.out hb)
  have HP5 := hid (RV.Is.on HP.out hb)
  have HX := hid hx
  clear hb c0 c1
  obtain ⟨v5, A5, n5, c5, he5, hx0, hx1⟩ : ∃ (v5 : Value) (A5 : Option Addr) (n5 c5 : Nat), e = .returned (.tuple #[.slice A5 n5 c5, v5]) ∧ EV S rx.code v5 ∧ True := by
    rcases hx with ⟨h0, A', c', he, _⟩ | ⟨_, v, he, hv⟩
    · exact ⟨.nilIface, A', 256, c', he, by rw [h0]; exact .fine, trivial⟩
    · exact ⟨v, none, 0, 0, he, hv, trivial⟩
  subst he5
  have HV5 := hid hx0
  clear hx hx0 hx1 HX
  have d0 := HKy5.out.cell 0
  have d1 := HKy5.out.cell 1
  simp at d0 d1
  go_wp2_with fail
  refine (bytesO_any S _ (HS.out.on HB5.out) HP5.out HRy.out.2 (by rw [HRy.out.1]; exact HAb.out.2.1) (by rw [HRy.out.1]; exact HAb.out.2.2)).mono ?_
  rintro e w6 ⟨hx, hb⟩
  have HB6 := hid (HB5.out.trans (hb.mono HB5.out.size))
  have HKx6 := hid (HKx5.out.below hb HKx5.out.lt)
  have HKy6 := hid (HKy5.out.below hb HKy5.out.lt)
  have HO6 := hid (RV.Is.on HO5.out hb)
  have HP6 := hid (RV.Is.on HP5.out hb)
  obtain ⟨v6, A6, n6, c6, he6, hx0⟩ : ∃ (v5 : Value) (A5 : Option Addr) (n5 c5 : Nat), e = .returned (.tuple #[.slice A5 n5 c5, v5]) ∧ EV S ry.code v5 := by
    rcases hx with ⟨h0, A', c', he, _⟩ | ⟨_, v, he, hv⟩
    · exact ⟨.nilIface, A', 256, c', he, by rw [h0]; exact .fine⟩
    · exact ⟨v, none, 0, 0, he, hv⟩
  subst he6
  have HV6 := hid hx0
  clear hx hx0 hb d0 d1
  by_cases hcx : rx.code = 0
  rotate_left
  · obtain ⟨j, rfl⟩ := HV5.out.is hcx
    clear hcx
    go_wp2
    go_ret
    exact ⟨rfl, HB6.out⟩
  by_cases hcy : ry.code = 0
  rotate_left
  · obtain ⟨j, rfl⟩ := HV6.out.is hcy
    have hv : v5 = .nilIface := by have := HV5.out; rw [hcx] at this; exact this.nil
    subst hv
    clear hcx hcy
    go_wp2
    go_ret
    exact ⟨rfl, HB6.out⟩
  have hv5 : v5 = .nilIface := by have := HV5.out; rw [hcx] at this; exact this.nil
  have hv6 : v6 = .nilIface := by have := HV6.out; rw [hcy] at this; exact this.nil
  subst hv5 hv6
  have hfx := RSt.fine hcx
  have hfy := RSt.fine hcy
  rw [HRx.out.1] at hfx
  rw [HRy.out.1] at hfy
  have HCx := hid hcx
  have HCy := hid hcy
  have ta : a.tmod 2 = a % 2 := (emod_pos a 2 (by omega) (Int.tmod_nonneg 2 (by omega))).symm
  have tb : b.tmod 2 = b % 2 := (emod_pos b 2 (by omega) (Int.tmod_nonneg 2 (by omega))).symm
  have HFx := hid hfx
  have HFy := hid hfy
  by_cases hpar : a % 2 = b % 2
  · have g1 : (a.tmod 2 == b.tmod 2) = true := by rw [ta, tb, beq_iff_eq]; exact hpar
    clear hcx hcy hfx hfy ta tb hpar
    go_wp2
    go_ret
    exact ⟨rfl, HB6.out⟩
  have g1 : (a.tmod 2 == b.tmod 2) = false := by rw [ta, tb, beq_eq_false_iff_ne]; exact hpar
  obtain ⟨pp, hpp, hp1, hpb⟩ : ∃ pp : Nat, a % 2 = (pp : Int) ∧ pp ≤ 1 ∧ b % 2 = ((1 - pp : Nat) : Int) := ⟨(a % 2).toNat, by omega, by omega, by omega⟩
  -- the device, step by step
  have f0 := four_new (n := 300) (H := 75) (p := pp) (by omega) hp1
  obtain ⟨s1, hs1, u1, k1, f1⟩ := f0.save (up_new (n := 300) (by omega)) (by omega) (by omega) hp1 (calm_new 300) hcx (by rw [HRx.out.1]; exact hpp)
  obtain ⟨s2, hs2, u2, k2, f2⟩ := (f1.swap hp1).save u1 (by omega) (by omega) (by omega) k1 hcy (by rw [HRy.out.1]; exact hpb)
  have HS1 := hid hs1
  have HS2 := hid hs2
  have HU2 := hid u2
  have HF2 := hid f2
  have HPp := hid (show a % 2 = (pp : Int) ∧ pp ≤ 1 ∧ b % 2 = ((1 - pp : Nat) : Int) from ⟨hpp, hp1, hpb⟩)
  have HNe := hid (show a ≠ b from fun e => hpar (by rw [e]))
  clear hcx hcy hfx hfy ta tb hpar hpp hp1 hpb f0 hs1 u1 k1 f1 hs2 u2 k2 f2
  go_wp2_with fail
  refine (dk_new HD.out 300 _ (by omega) (by omega)).mono ?_
  rintro e w7 ⟨d, F, rfl, hk⟩
  have HK7 := hid hk
  clear hk
  have HS6 := hid (HS.out.on HB6.out)
  have kx := HKx6.out.below HK7.out.below HKx6.out.lt
  have c0 := kx.cell 0
  have c1 := kx.cell 1
  simp at c0 c1
  clear kx
  go_wp2_with fail
  refine (dk_save HD.out HK7.out HS6.out (by omega) (by omega) (RV.Is.on HO6.out HK7.out.below) HRx.out.2 (by rw [HRx.out.1]; exact HAb.out.1.1) (by rw [HRx.out.1]; exact HAb.out.1.2)).mono ?_
  rw [hh, HS1.out]
  rintro e w8 ⟨⟨v, rfl, hv⟩, F8, hk⟩
  obtain rfl := hv.nil
  have HK8 := hid hk
  clear hv hk c0 c1
  have ky := HKy6.out.below HK8.out.below HKy6.out.lt
  have d0 := ky.cell 0
  have d1 := ky.cell 1
  simp at d0 d1
  clear ky
  go_wp2_with fail
  refine (dk_save HD.out HK8.out HS6.out (by omega) (by omega) (RV.Is.on HP6.out HK8.out.below) HRy.out.2 (by rw [HRy.out.1]; exact HAb.out.2.1) (by rw [HRy.out.1]; exact HAb.out.2.2)).mono ?_
  rw [hh, HS2.out]
  rintro e w9 ⟨⟨v, rfl, hv⟩, F9, hk⟩
  obtain rfl := hv.nil
  have HK9 := hid hk
  clear hv hk d0 d1
  go_wp2_with fail
  refine (dk_made HD.out HK9.out 1099511627776 (l := []) (A := none) (m := 0) (c := 0) ⟨rfl, Nat.le_refl _, by unfold maxLen; omega, fun _ => rfl, fun _ h => by cases h⟩ (by omega)).mono ?_
  rintro e w10 ⟨oz, rfl, hz, _, hk⟩
  have HKa := hid hk
  have HZ := hid hz
  have HCz := hid (mkRoot_code (e := 1099511627776) (l := []) (by omega) (by omega) (fun _ h => by cases h) (by simp))
  clear hz hk
  go_wp2_with fail
  refine (bytesO_any S _ (HS6.out.on HKa.out.below) HZ.out (mkR_sums _) (by show (-9223372036854775808 : Int) ≤ 1099511627776; omega) (by show (1099511627776 : Int) ≤ 9223372036854775807; omega)).mono ?_
  rintro e w11 ⟨hx, hb⟩
  rcases hx with ⟨_, Az, cz, rfl, hsl, hfz⟩ | ⟨hne, _⟩
  rotate_left
  · exact absurd HCz.out hne
  have HKb := hid (HKa.out.on HD.out hb)
  have HSl := hid hsl
  have HAz := hid (show ∀ ad, Az = some ad → ¬ F9 ad.block from fun ad ha hf => by have := HD.out.lt HKa.out.real _ hf; have := hfz ad ha; omega)
  clear hb hsl hfz
  go_wp2_with fail
  refine (dk_raw HD.out HKb.out (by omega) 3 HSl.out HAz.out (bytesOf_byt _) (by omega)).mono ?_
  rintro e w12 ⟨rfl, F12, hk, hsl, hfz⟩
  have HKc := hid hk
  have HSl2 := hid hsl
  have HAz2 := hid (show ∀ ad, Az = some ad → ¬ F12 ad.block from fun ad ha => hfz ad ha (by omega))
  clear hk hsl hfz
  go_wp2_with fail
  refine (dk_raw HD.out HKc.out (by omega) 77 HSl2.out HAz2.out (bytesOf_byt _) (by omega)).mono ?_
  rintro e w13 ⟨rfl, F13, hk, _, _⟩
  have HKd := hid hk
  clear hk
  have hy := bytesOf_byt (mkRoot 1099511627776 [])
  have hp1 := HPp.out.2.1
  have u4 := (HU2.out.raw 3 hy).raw 77 hy
  have f4 := (HF2.out.raw (i := 3) (bytesOf (mkRoot 1099511627776 [])) (by omega) (by omega) (by omega) (by omega)).raw (i := 77) (bytesOf (mkRoot 1099511627776 [])) (by omega) (by omega) (by omega) (by omega)
  obtain ⟨s4, hs4⟩ : ∃ s4, ((s2.raw ((3 : Nat) : Int) (bytesOf (mkRoot 1099511627776 []))).2.raw ((77 : Nat) : Int) (bytesOf (mkRoot 1099511627776 []))).2 = s4 := ⟨_, rfl⟩
  have u4' : Up s4 300 _ := hs4 ▸ u4
  rw [hs4] at f4
  have HKe := hid (show Dk Real w6 w13 d 300 _ s4 F13 from hs4 ▸ HKd.out)
  have rdx : readR (bytesOf rx) = some rx := readR_bytes HCx.out HRx.out.2
  have rdy : readR (bytesOf ry) = some ry := readR_bytes HCy.out HRy.out.2
  have HRes := hid (show ∃ r : RSt, s4.newest 75 = r ∧ s4.copies 75 = 2 ∧ 0 < r.epoch ∧ ((a < b ∧ r = ry) ∨ (¬ a < b ∧ r = rx)) from by
    by_cases hab : a < b
    · have hn := loads (r := ry) u4' f4 (by omega) (by omega) (by rw [HRy.out.1]; have := HFy.out.1; omega) (by show Under ry (readR (bytesOf ry)); rw [rdy]; exact under_self _) (by show Under ry (readR (bytesOf ry)); rw [rdy]; exact under_self _) (by show Under ry (readR (bytesOf rx)); rw [rdx]; exact under_less (by rw [HRx.out.1, HRy.out.1]; exact hab)) (by show Under ry (readR (bytesOf rx)); rw [rdx]; exact under_less (by rw [HRx.out.1, HRy.out.1]; exact hab)) (.inl rdy)
      have hcp := copied u4' f4 (by omega) (by omega) (by rw [HRy.out.1]; have := HFy.out.1; omega) (by rw [HRy.out.1]; exact HPp.out.2.2) hn
      refine ⟨ry, hn, ?_, by rw [HRy.out.1]; have := HFy.out.1; omega, .inl ⟨hab, rfl⟩⟩
      rw [hcp]
      show has ry (readR (bytesOf ry)) + has ry (readR (bytesOf ry)) = 2
      rw [rdy, has_self]
    · have f5 := f4.swap (by omega)
      rw [show 1 - (1 - pp) = pp by omega] at f5
      have hba : b < a := by have := HNe.out; omega
      have hn := loads (r := rx) u4' f5 (by omega) (by omega) (by rw [HRx.out.1]; have := HFx.out.1; omega) (by show Under rx (readR (bytesOf rx)); rw [rdx]; exact under_self _) (by show Under rx (readR (bytesOf rx)); rw [rdx]; exact under_self _) (by show Under rx (readR (bytesOf ry)); rw [rdy]; exact under_less (by rw [HRx.out.1, HRy.out.1]; exact hba)) (by show Under rx (readR (bytesOf ry)); rw [rdy]; exact under_less (by rw [HRx.out.1, HRy.out.1]; exact hba)) (.inl rdx)
      have hcp := copied u4' f5 (by omega) (by omega) (by rw [HRx.out.1]; have := HFx.out.1; omega) (by rw [HRx.out.1]; exact HPp.out.1) hn
      refine ⟨rx, hn, ?_, by rw [HRx.out.1]; have := HFx.out.1; omega, .inr ⟨hab, rfl⟩⟩
      rw [hcp]
      show has rx (readR (bytesOf rx)) + has rx (readR (bytesOf rx)) = 2
      rw [rdx, has_self])
  obtain ⟨r, hnw, hcp, hr0, hrr⟩ := HRes.out
  have HNw := hid hnw
  have HCp := hid hcp
  have HR0 := hid hr0
  have HDn := hid (show s4.down = false from u4'.down)
  clear hy hp1 u4 f4 u4' hs4 rdx rdy HRes hnw hcp hr0
  go_wp2_with fail
  refine (dk_load HD.out HKe.out HS6.out (by omega) (by omega) HDn.out).mono ?_
  rw [hh, HNw.out, show decide (0 < r.epoch) = true from by simpa using HR0.out]
  rintro e w14 ⟨o4, rfl, ho4, _, hk⟩
  have HK14 := hid hk
  have HO14 := hid ho4
  clear ho4 hk
  -- the boxes
  have hb1 : Below w14.heap.size w14 (w14.alloc (.cells #[.int .i64 o4.e, o4.s] 31)) := (Below.refl _ _).alloc (Nat.le_refl _) _
  have hb2 : Below w14.heap.size w14 ((w14.alloc (.cells #[.int .i64 o4.e, o4.s] 31)).alloc (.cells #[.int .i64 o.e, o.s] 31)) := hb1.alloc (by simp) _
  have k20 : Blk ((w14.alloc (.cells #[.int .i64 o4.e, o4.s] 31)).alloc (.cells #[.int .i64 o.e, o.s] 31)) w14.heap.size 31 #[.int .i64 o4.e, o4.s] := (Blk.new w14 _ _).alloc _
  have k23 : Blk ((w14.alloc (.cells #[.int .i64 o4.e, o4.s] 31)).alloc (.cells #[.int .i64 o.e, o.s] 31)) (w14.heap.size + 1) 31 #[.int .i64 o.e, o.s] := by
    have := Blk.new (w14.alloc (.cells #[.int .i64 o4.e, o4.s] 31)) 31 #[.int .i64 o.e, o.s]
    simpa using this
  have kx := (HKx6.out.below HK14.out.below HKx6.out.lt).alloc (.cells #[.int .i64 o4.e, o4.s] 31)
  have ky := ((HKy6.out.below HK14.out.below HKy6.out.lt).alloc (.cells #[.int .i64 o4.e, o4.s] 31)).alloc (.cells #[.int .i64 o.e, o.s] 31)
  have c0 := kx.cell 0
  have c1 := kx.cell 1
  have d0 := ky.cell 0
  have d1 := ky.cell 1
  have g0 := k23.cell 0
  have g3 := k23.cell 1
  have fr := fun i => k23.free i
  simp at c0 c1 d0 d1 g0 g3
  rcases hrr with ⟨hab, rfl⟩ | ⟨hab, rfl⟩
  · have g2 : decide (a < b) = true := by simpa using hab
    have HK23 := hid (show Blk ((w14.alloc (.cells #[.int .i64 o4.e, o4.s] 31)).alloc (.cells #[.int .i64 p.e, p.s] 31)) (w14.heap.size + 1) 31 #[.int .i64 p.e, p.s] from by
      have := Blk.new (w14.alloc (.cells #[.int .i64 o4.e, o4.s] 31)) 31 #[.int .i64 p.e, p.s]
      simpa using this)
    have HK20 := hid (show Blk ((w14.alloc (.cells #[.int .i64 o4.e, o4.s] 31)).alloc (.cells #[.int .i64 p.e, p.s] 31)) w14.heap.size 31 #[.int .i64 o4.e, o4.s] from (Blk.new w14 _ _).alloc _)
    have hbf : Below w14.heap.size w14 ((w14.alloc (.cells #[.int .i64 o4.e, o4.s] 31)).alloc (.cells #[.int .i64 p.e, p.s] 31)) := hb1.alloc (by simp) _
    clear hab hb1 hb2 k20 k23 kx ky
    have HBf := hid hbf
    have HBd := hid (HK14.out.on HD.out hbf)
    have HOf := hid (RV.Is.on HO14.out hbf)
    clear hbf
    go_wp2_with fail
    refine (dk_copies HD.out HBd.out HS6.out (by omega) (by omega) HDn.out).mono ?_
    rw [hh, HCp.out]
    rintro e w15 ⟨rfl, hb, hk⟩
    have k20' := HK20.out.below hb HK20.out.lt
    have k23' := HK23.out.below hb HK23.out.lt
    have HO15 := hid (RV.Is.on HOf.out hb)
    have HQ15 := hid (RV.Is.on HP6.out hk.below)
    have HB15 := hid (HB6.out.trans (hk.below.mono HB6.out.size))
    clear hb hk c0 c1 d0 d1
    have e0 := k20'.cell 0
    have e1 := k20'.cell 1
    have f0 := k23'.cell 0
    have f1 := k23'.cell 1
    simp at e0 e1 f0 f1
    clear k20' k23'
    go_wp2_with fail
    refine (sameRoot_any o4 p _ _ _ HO15.out HQ15.out).mono ?_
    rw [show decide (r = r) = true from by simp]
    rintro e w16 ⟨rfl, hb⟩
    have HB16 := hid (HB15.out.trans (hb.mono HB15.out.size))
    clear hb e0 e1 f0 f1
    go_wp2
    go_ret
    exact ⟨rfl, HB16.out⟩
  · have g2 : decide (a < b) = false := by simpa using hab
    have HK23 := hid k23
    have HK20 := hid k20
    have hbf := hb2
    clear hab hb1 hb2 k20 k23 kx ky
    have HBf := hid hbf
    have HBd := hid (HK14.out.on HD.out hbf)
    have HOf := hid (RV.Is.on HO14.out hbf)
    clear hbf
    go_wp2_with fail
    refine (dk_copies HD.out HBd.out HS6.out (by omega) (by omega) HDn.out).mono ?_
    rw [hh, HCp.out]
    rintro e w15 ⟨rfl, hb, hk⟩
    have k20' := HK20.out.below hb HK20.out.lt
    have k23' := HK23.out.below hb HK23.out.lt
    have HO15 := hid (RV.Is.on HOf.out hb)
    have HQ15 := hid (RV.Is.on HO6.out hk.below)
    have HB15 := hid (HB6.out.trans (hk.below.mono HB6.out.size))
    clear hb hk c0 c1 d0 d1
    have e0 := k20'.cell 0
    have e1 := k20'.cell 1
    have f0 := k23'.cell 0
    have f1 := k23'.cell 1
    simp at e0 e1 f0 f1
    clear k20' k23'
    go_wp2_with fail
    refine (sameRoot_any o4 o _ _ _ HO15.out HQ15.out).mono ?_
    rw [show decide (r = r) = true from by simp]
    rintro e w16 ⟨rfl, hb⟩
    have HB16 := hid (HB15.out.trans (hb.mono HB15.out.size))
    clear hb e0 e1 f0 f1
    go_wp2
    go_ret
    exact ⟨rfl, HB16.out⟩
end
end Go.Proofs.YtdllmodgefolbaaDoor
