/- The walk of RootHalf. -/
import Derived.Test.YtdllmodgefolbaaDoorGRootGreaterW
namespace Go.Proofs.YtdllmodgefolbaaDoor
open Go.RowKit

theorem calm_crash (s : DSt) (picks : List Int) : Calm (s.crash picks) := by
  intro b hb
  obtain ⟨j, hj⟩ := List.getElem?_of_mem hb
  simp only [DSt.crash, List.getElem?_mapIdx] at hj
  obtain ⟨y, _, rfl⟩ := Option.map_eq_some_iff.1 hj
  unfold crashAt BSt.crash
  split
  · rfl
  · rename_i h; simpa using h
section
variable {Real : World → Nat → DSt → (Nat → Prop) → Prop} {S : Nat → Addr} {w0 w w' : World} {d n q : Nat} {s : DSt} {F : Nat → Prop}
theorem dk_arm (D : DevOk Real) (h : Dk Real w0 w d n q s F) (hq : q ≤ 900) (k : Int) (hk : k ≤ 1000) : Calls Tryd.prog 22 #[.pointer (some ⟨d, 0, none⟩), .int .i64 k] w fun e w' => e = .returned (.tuple #[]) ∧ ∃ F', Dk Real w0 w' d n q (s.setArm k) F' := by
  refine (D.arm d s F k w h.real (h.okN.ok (by omega))).mono ?_
  rintro e w' ⟨he, hu⟩
  obtain ⟨F', h1, _, _⟩ := h.upd hu (okN_arm h.okN (by omega)) h.len
  exact ⟨he, F', h1⟩
theorem dk_crash (D : DevOk Real) (h : Dk Real w0 w d n q s F) (hq : q ≤ 900) (l : List Int) (hl : l.length ≤ 1000) :
    Calls Tryd.prog 23 #[.pointer (some ⟨d, 0, none⟩), .slice (some ⟨w.heap.size, 0, none⟩) l.length l.length] (w.alloc (.cells (l.map (Value.int .i64)).toArray 3)) fun e w' => e = .returned (.tuple #[]) ∧ ∃ F', Dk Real w0 w' d n q (s.crash l) F' := by
  have hb : Below w.heap.size w (w.alloc (.cells (l.map (Value.int .i64)).toArray 3)) := (Below.refl _ _).alloc (Nat.le_refl _) _
  have h2 := h.on D hb
  refine (D.crash d s F _ _ _ l _ h2.real (h2.okN.ok (by omega)) (Sn.lits w l hl) (fun ad ha _ hf => by cases ha; exact Nat.lt_irrefl _ (D.lt h.real _ hf)) hl).mono ?_
  rintro e w' ⟨he, hu⟩
  obtain ⟨F', h1, _, _⟩ := h2.upd hu (okN_crash h2.okN) (by rw [crash_len]; exact h2.len)
  exact ⟨he, F', h1⟩
/-- made of a list just written -/
theorem dk_madeLit (D : DevOk Real) (h : Dk Real w0 w d n q s F) (e : Int) (l : List Int) (hl : l.length ≤ 1000) :
    Calls Tryd.prog 11 #[.int .i64 e, .slice (some ⟨w.heap.size, 0, none⟩) l.length l.length] (w.alloc (.cells (l.map (Value.int .i64)).toArray 3)) fun x w' => ∃ o : RV, x = .returned o.v ∧ o.Is (mkRoot e l) w' ∧ Dk Real w0 w' d n q s F := by
  have hb : Below w.heap.size w (w.alloc (.cells (l.map (Value.int .i64)).toArray 3)) := (Below.refl _ _).alloc (Nat.le_refl _) _
  refine (dk_made D (h.on D hb) e (Sn.lits w l hl) (by omega)).mono ?_
  rintro x w' ⟨o, he, ho, _, hk⟩
  exact ⟨o, he, ho, hk⟩
/-- the state ahead of the last save: its blocks are blank, the others tell nothing, or a root of a lesser Epoch -/
structure Ahead (s : DSt) (n q p : Nat) (e : Int) (c : BSt) : Prop where
  up : Up s n q
  calm : Calm s
  four : Four s 75 p blank blank c c
  less : ∀ x, readR c.read.2 = some x → x.epoch < e
/-- saved with one copy kept alone -/
theorem half_falls {s : DSt} {q p : Nat} {r : RSt} {c : BSt} (h : Ahead s 300 q p r.epoch c) (hp : p ≤ 1) (hc : r.code = 0) (hs : Sums r.refs) (he : r.epoch % 2 = (p : Int)) (picks : List Int) (hk : picks = [0, 1] ∨ picks = [1, 0]) :
    (saveR (s.setArm 3) 75 r).1 = 106 ∧ ∃ s3, (saveR (s.setArm 3) 75 r).2.crash picks = s3 ∧ s3.down = false ∧ s3.newest 75 = r ∧ s3.copies 75 = 1 ∧ ∃ s4, saveR s3 75 r = (0, s4) ∧ s4.down = false ∧ s4.newest 75 = r ∧ s4.copies 75 = 2 := by
  obtain ⟨f1, f4⟩ := (h.four.falls h.up (by omega) (by omega) hp h.calm hc he picks).2.2.1
  have u3 := up_saveCrash (H := 75) (r := r) h.up 3 (by omega) picks
  obtain ⟨s3, hs3⟩ : ∃ s3, (saveR (s.setArm 3) 75 r).2.crash picks = s3 := ⟨_, rfl⟩
  have k3 : Calm s3 := hs3 ▸ calm_crash _ _
  rw [hs3] at f4 u3
  have h0 : 0 < r.epoch := by have := (RSt.fine hc).1; omega
  have rd : readR (bytesOf r) = some r := readR_bytes hc hs
  have un : Under r (readR c.read.2) := fun x hx => .inr (h.less x hx)
  have uz : readR blank.read.2 = none := readR_zeros
  have ha : readR ((blank.write (bytesOf r)).crash true).read.2 = some r := rd
  have hb : readR ((blank.write (bytesOf r)).crash false).read.2 = none := readR_zeros
  refine ⟨f1, s3, hs3, u3.down, ?_⟩
  obtain ⟨s4, e4, u4, _, g4⟩ := f4.save u3 (by omega) (by omega) hp k3 hc he
  have n4 : s4.newest 75 = r := loads u4 g4 (by omega) hp h0 (by show Under r (readR (bytesOf r)); rw [rd]; exact under_self _) (by show Under r (readR (bytesOf r)); rw [rd]; exact under_self _) un un (.inl rd)
  have c4 : s4.copies 75 = 2 := by
    rw [copied u4 g4 (by omega) hp h0 he n4]
    show has r (readR (bytesOf r)) + has r (readR (bytesOf r)) = 2
    rw [rd, has_self]
  rcases hk with rfl | rfl
  · rw [show keepP [0, 1] 0 = false from rfl, show keepP [0, 1] 1 = true from rfl] at f4
    have n3 : s3.newest 75 = r := loads u3 f4 (by omega) hp h0 (by rw [hb]; exact under_none _) (by rw [ha]; exact under_self _) un un (.inr (.inl ha))
    refine ⟨n3, ?_, s4, e4, u4.down, n4, c4⟩
    rw [copied u3 f4 (by omega) hp h0 he n3, ha, hb, has_self, has_none]
  · rw [show keepP [1, 0] 0 = true from rfl, show keepP [1, 0] 1 = false from rfl] at f4
    have n3 : s3.newest 75 = r := loads u3 f4 (by omega) hp h0 (by rw [ha]; exact under_self _) (by rw [hb]; exact under_none _) un un (.inl ha)
    refine ⟨n3, ?_, s4, e4, u4.down, n4, c4⟩
    rw [copied u3 f4 (by omega) hp h0 he n3, ha, hb, has_self, has_none]
theorem ahead_new {p : Nat} (e : Int) (hp : p ≤ 1) : Ahead (DSt.new 300) 300 0 p e blank :=
  ⟨up_new (by omega), calm_new _, four_new (by omega) hp, fun x hx => by rw [show readR blank.read.2 = none from readR_zeros] at hx; cases hx⟩
theorem ahead_one {p : Nat} {r : RSt} {e : Int} (hp : p ≤ 1) (hc : r.code = 0) (hs : Sums r.refs) (he : r.epoch % 2 = ((1 - p : Nat) : Int)) (hl : r.epoch < e) : ∃ s1 c, saveR (DSt.new 300) 75 r = (0, s1) ∧ Ahead s1 300 3 p e c := by
  obtain ⟨s1, e1, u1, k1, f1⟩ := (four_new (n := 300) (H := 75) (p := 1 - p) (by omega) (by omega)).save (up_new (by omega)) (by omega) (by omega) (by omega) (calm_new 300) hc he
  have f2 := f1.swap (by omega)
  rw [show 1 - (1 - p) = p by omega] at f2
  refine ⟨s1, _, e1, ⟨u1, k1, f2, fun x hx => ?_⟩⟩
  have hx' : readR (bytesOf r) = some x := hx
  rw [readR_bytes hc hs] at hx'
  injection hx' with hx'
  rw [← hx']; exact hl
set_option maxRecDepth 100000 in
set_option maxHeartbeats 8000000 in
theorem rootHalf_any (D : DevOk Real) (S : Nat → Addr) (n0 : Int) (second : Bool) (A : Option Addr) (la ca : Nat) (l : List Int) (w : World) (hS : Sent6 w S) (hl : Sn w w.heap.size A la ca l) (hla : la ≤ 2000000) :
    Calls Tryd.prog 8 #[.int .i64 n0, .bool second, .slice A la ca] w (Yes w) := by
  have HS := hid hS
  have HD := hid D
  have HL := hid hl
  have HLa := hid hla
  have hi0 : 0 ≤ n0 % 20 := Int.emod_nonneg _ (by omega)
  have hi1 : n0 % 20 < 20 := Int.emod_lt_of_pos _ (by omega)
  obtain ⟨m, hm⟩ : ∃ m : Nat, n0 % 20 = (m : Int) := ⟨(n0 % 20).toNat, by omega⟩
  have HM := hid hm
  have hm19 : (m : Int) ≤ 19 := by omega
  obtain ⟨N, hN⟩ : ∃ N : Nat, N = m + 1 := ⟨_, rfl⟩
  have HN := hid (show 1 ≤ N ∧ N ≤ 20 from by omega)
  have hNI : (m : Int) + 1 = (N : Int) := by omega
  obtain ⟨r, hr⟩ : ∃ r, mkRoot (N : Int) l = r := ⟨_, rfl⟩
  have HR := hid (show r.epoch = (N : Int) ∧ Sums r.refs from by rw [← hr]; exact ⟨rfl, mkR_sums _⟩)
  have HR' := hid hr
  have hh : halN 300 = 75 := by decide
  have HNm := hid hNI
  clear hS D hl hla hr hi0 hi1 hm hN hNI
  go_enter Tryd.func8, Tryd.ntmps8
  go_wp2_with fail
  refine (first6_any HD.out S _ HS.out).mono ?_
  rintro e w1 ⟨rfl, hb1⟩
  have HB1 := hid hb1
  have HL1 := hid (hl_on HL.out hb1)
  clear hb1
  go_wp2_with fail
  refine (number_any n0 20 _ (by omega) (by omega)).mono ?_
  rw [HM.out]
  rintro e w2 ⟨rfl, rfl⟩
  go_wp2_with fail
  rw [HNm.out]
  refine (made_any (N : Int) A la ca l _ HL1.out HLa.out).mono ?_
  rw [HR'.out]
  rintro e w2 ⟨o, rfl, ho, hb, _⟩
  have hal : Below w2.heap.size w2 (w2.alloc (.cells #[.int .i64 o.e, o.s] 31)) := (Below.refl _ _).alloc (Nat.le_refl _) _
  have HKx := hid (Blk.new w2 31 #[.int .i64 o.e, o.s])
  have HO := hid (ho.on hal)
  have HB2 := hid (HB1.out.trans ((hb.trans (hal.mono hb.size)).mono HB1.out.size))
  clear ho hb hal
  have c0 := HKx.out.cell 0
  have c1 := HKx.out.cell 1
  simp at c0 c1
  go_wp2_with fail
  refine (bytesO_any S _ (HS.out.on HB2.out) HO.out HR.out.2 (by rw [HR.out.1]; have := HN.out; omega) (by rw [HR.out.1]; have := HN.out; omega)).mono ?_
  rintro e w3 ⟨hx, hb⟩
  have HB3 := hid (HB2.out.trans (hb.mono HB2.out.size))
  have HKx3 := hid (HKx.out.below hb HKx.out.lt)
  have HO3 := hid (RV.Is.on HO.out hb)
  clear hb c0 c1
  rcases hx with ⟨hc, A3, c3, rfl, _, _⟩ | ⟨hc, v, rfl, hv⟩
  rotate_left
  · obtain ⟨j, rfl⟩ := hv.is hc
    clear hc hv
    go_wp2
    go_ret
    exact ⟨rfl, HB3.out⟩
  have HC := hid hc
  obtain ⟨pp, hpp, hp1⟩ : ∃ pp : Nat, r.epoch % 2 = (pp : Int) ∧ pp ≤ 1 := ⟨(r.epoch % 2).toNat, by omega, by omega⟩
  have HPp := hid hpp
  have HP1 := hid hp1
  have HS3 := hid (HS.out.on HB3.out)
  have HKx4 := hid (fun w' (hb : Below w3.heap.size w3 w') => HKx3.out.below hb HKx3.out.lt)
  have HO4 := hid (fun w' (hb : Below w3.heap.size w3 w') => RV.Is.on HO3.out hb)
  -- is there one ahead?
  have hgt : (decide ((1 : Int) < (N : Int)) = false ∧ True) ∨ (decide ((1 : Int) < (N : Int)) = true ∧ 1 < N) := by
    by_cases h : 1 < N
    · exact .inr ⟨by simp; omega, h⟩
    · exact .inl ⟨by simp; omega, trivial⟩
  clear hc hpp hp1
  go_wp2_with fail
  refine (dk_new HD.out 300 _ (by omega) (by omega)).mono ?_
  rintro e w4 ⟨d, F, rfl, hk⟩
  have HK4 := hid hk
  clear hk
  have hN20 : (N : Int) ≤ 20 := by have := HN.out; omega
  have hN1 : (1 : Int) ≤ N := by have := HN.out; omega
  rcases hgt with ⟨g1, hN⟩ | ⟨g1, hN⟩
  all_goals
    have HN1 := hid hN
    clear hN
    first
      | (have hx := HN1.out
         have hx2 : True := hx
         have HAh := hid (show ∃ s1 q c, Ahead s1 300 q pp r.epoch c ∧ q ≤ 3 ∧ s1 = DSt.new 300 from ⟨_, 0, _, ahead_new _ HP1.out, by omega, rfl⟩)
         obtain ⟨s1, q1, c1, hah, hq1, rfl⟩ := HAh.out
         have HA1 := hid hah
         have HQ1 := hid hq1
         have HK5 := hid (show ∃ F', Dk Real w3 w4 d 300 q1 (DSt.new 300) F' from ⟨F, HK4.out.real, HK4.out.below, HK4.out.fn, HK4.out.okN.more (Nat.zero_le _), HK4.out.len⟩)
         clear hx hx2 hah hq1 HAh
         go_wp2_with fail)
      | (have hcode : (mkRoot ((N : Int) - 1) [9]).code = 0 := mkRoot_code (by have := HN1.out; omega) (by omega) (fun x hx => by simp at hx; omega) (by simp)
         obtain ⟨s1, cc, hsv, hah⟩ := ahead_one (p := pp) (e := r.epoch) HP1.out hcode (mkR_sums _) (by have := HPp.out; rw [HR.out.1] at this; have := HP1.out; show ((N : Int) - 1) % 2 = _; omega) (by rw [HR.out.1]; show ((N : Int) - 1) < N; omega)
         have HSv := hid hsv
         have HA1 := hid hah
         have HQ1 := hid (show (3 : Nat) ≤ 3 from Nat.le_refl _)
         clear hcode hsv hah
         go_wp2_with fail
         refine (dk_madeLit HD.out HK4.out ((N : Int) - 1) [9] (by simp)).mono ?_
         rintro e w5 ⟨o5, rfl, ho5, hk⟩
         have HO5 := hid ho5
         have HKm := hid hk
         clear ho5 hk
         go_wp2_with fail
         refine (dk_save HD.out HKm.out HS3.out (by omega) (by omega) HO5.out (mkR_sums _) (by show (-9223372036854775808 : Int) ≤ (N : Int) - 1; omega) (by show (N : Int) - 1 ≤ 9223372036854775807; omega)).mono ?_
         rw [hh, HSv.out]
         rintro e w6 ⟨⟨v, rfl, hv⟩, F6, hk⟩
         obtain rfl := hv.nil
         have HK5 := hid (show ∃ F', Dk Real w3 w6 d 300 3 s1 F' from ⟨F6, hk⟩)
         clear hv hk
         go_wp2_with fail)
    obtain ⟨F5, hk5⟩ := HK5.out
    have HK6 := hid hk5
    clear hk5
    refine (dk_arm HD.out HK6.out (by have := HQ1.out; omega) 3 (by omega)).mono ?_
    rintro e w7 ⟨rfl, F7, hk⟩
    have HK7 := hid hk
    have kx := HKx4.out _ hk.below
    have c0 := kx.cell 0
    have c1 := kx.cell 1
    simp at c0 c1
    clear hk kx
    go_wp2_with fail
    refine (dk_save HD.out HK7.out HS3.out (by have := HQ1.out; omega) (by omega) (HO4.out _ HK7.out.below) HR.out.2 (by rw [HR.out.1]; omega) (by rw [HR.out.1]; omega)).mono ?_
    rw [hh]
    rintro e w8 ⟨⟨v, rfl, _⟩, F8, hk⟩
    have HK8 := hid hk
    clear hk c0 c1
    rcases second with _ | _
    all_goals as_aux_lemma =>
      go_wp2_with fail
      first
        | (refine (dk_crash HD.out HK8.out (by have := HQ1.out; omega) [1, 0] (by simp)).mono ?_
           have HFa := hid (half_falls HA1.out HP1.out HC.out HR.out.2 HPp.out [1, 0] (.inr rfl)))
        | (refine (dk_crash HD.out HK8.out (by have := HQ1.out; omega) [0, 1] (by simp)).mono ?_
           have HFa := hid (half_falls HA1.out HP1.out HC.out HR.out.2 HPp.out [0, 1] (.inl rfl)))
      obtain ⟨_, s3, hs3, hd3, hn3, hc3, s4, hs4, hd4, hn4, hc4⟩ := HFa.out
      rw [hs3]
      rintro e w9 ⟨rfl, F9, hk⟩
      have HK9 := hid hk
      have HD3 := hid hd3
      have HN3 := hid hn3
      have HC3 := hid hc3
      have HS4 := hid hs4
      have HD4 := hid hd4
      have HN4 := hid hn4
      have HC4 := hid hc4
      have HR0 := hid (show decide (0 < r.epoch) = true from by simp; have := (RSt.fine HC.out).1; omega)
      clear hk hs3 hd3 hn3 hc3 hs4 hd4 hn4 hc4 HFa
      go_wp2_with fail
      refine (dk_load HD.out HK9.out HS3.out (by have := HQ1.out; omega) (by omega) HD3.out).mono ?_
      rw [hh, HN3.out, HR0.out]
      rintro e w10 ⟨o4, rfl, ho4, _, hk⟩
      have HK10 := hid hk
      have HO10 := hid ho4
      clear ho4 hk
      have hal : Below w10.heap.size w10 (w10.alloc (.cells #[.int .i64 o4.e, o4.s] 31)) := (Below.refl _ _).alloc (Nat.le_refl _) _
      have HKo := hid (Blk.new w10 31 #[.int .i64 o4.e, o4.s])
      have HO11 := hid (RV.Is.on HO10.out hal)
      have HK11 := hid (HK10.out.on HD.out hal)
      clear hal
      go_wp2_with fail
      refine (dk_copies HD.out HK11.out HS3.out (by have := HQ1.out; omega) (by omega) HD3.out).mono ?_
      rw [hh, HC3.out]
      rintro e w12 ⟨rfl, hb, hk⟩
      have HK12 := hid hk
      have HKo12 := hid (HKo.out.below hb HKo.out.lt)
      have HO12 := hid (RV.Is.on HO11.out hb)
      have kx := HKx4.out _ hk.below
      have c0 := kx.cell 0
      have c1 := kx.cell 1
      have d0 := HKo12.out.cell 0
      have d1 := HKo12.out.cell 1
      simp at c0 c1 d0 d1
      clear hb hk kx
      go_wp2_with fail
      refine (sameRoot_any o4 o r r _ HO12.out (HO4.out _ HK12.out.below)).mono ?_
      rw [show decide (r = r) = true from by simp]
      rintro e w13 ⟨rfl, hb⟩
      have HK13 := hid (HK12.out.on HD.out hb)
      have HKo13 := hid (HKo12.out.below hb HKo12.out.lt)
      have HO13 := hid (RV.Is.on HO12.out hb)
      clear hb c0 c1 d0 d1
      have d0 := HKo13.out.cell 0
      have d1 := HKo13.out.cell 1
      simp at d0 d1
      go_wp2_with fail
      refine (dk_save HD.out HK13.out HS3.out (by have := HQ1.out; omega) (by omega) HO13.out HR.out.2 (by rw [HR.out.1]; omega) (by rw [HR.out.1]; omega)).mono ?_
      rw [hh, HS4.out]
      rintro e w14 ⟨⟨v, rfl, hv⟩, F14, hk⟩
      obtain rfl := hv.nil
      have HK14 := hid hk
      clear hv hk d0 d1
      go_wp2_with fail
      refine (dk_copies HD.out HK14.out HS3.out (by have := HQ1.out; omega) (by omega) HD4.out).mono ?_
      rw [hh, HC4.out]
      rintro e w15 ⟨rfl, hb, hk⟩
      have HK15 := hid hk
      clear hb hk
      go_wp2_with fail
      refine (dk_load HD.out HK15.out HS3.out (by have := HQ1.out; omega) (by omega) HD4.out).mono ?_
      rw [hh, HN4.out, HR0.out]
      rintro e w16 ⟨o6, rfl, ho6, _, hk⟩
      have hal : Below w16.heap.size w16 (w16.alloc (.cells #[.int .i64 o6.e, o6.s] 31)) := (Below.refl _ _).alloc (Nat.le_refl _) _
      have HK16 := hid (hk.on HD.out hal)
      have HO16 := hid (RV.Is.on ho6 hal)
      have HKy := hid (Blk.new w16 31 #[.int .i64 o6.e, o6.s])
      have kx := HKx4.out _ HK16.out.below
      have c0 := kx.cell 0
      have c1 := kx.cell 1
      have d0 := HKy.out.cell 0
      have d1 := HKy.out.cell 1
      simp at c0 c1 d0 d1
      clear ho6 hk hal kx
      go_wp2_with fail
      refine (sameRoot_any o6 o r r _ HO16.out (HO4.out _ HK16.out.below)).mono ?_
      rw [show decide (r = r) = true from by simp]
      rintro e w17 ⟨rfl, hb⟩
      have HB17 := hid (HB3.out.trans ((HK16.out.below.trans (hb.mono HK16.out.below.size)).mono HB3.out.size))
      clear hb c0 c1 d0 d1
      go_wp2
      go_ret
      exact ⟨rfl, HB17.out⟩
end
end Go.Proofs.YtdllmodgefolbaaDoor
