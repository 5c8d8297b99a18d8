/- The walk of RootFaults. -/
import Derived.Test.YtdllmodgefolbaaDoorGRootFaultsP
namespace Go.Proofs.YtdllmodgefolbaaDoor
open Go.RowKit

/-- the i-th root that the law saves -/
def rootI (i : Nat) : RSt := mkRoot (i : Int) [(i : Int), 5]
theorem rootI_code {i : Nat} (h0 : 1 ≤ i) (h1 : i ≤ 100) : (rootI i).code = 0 :=
  mkRoot_code (by omega) (by omega) (fun x hx => by
    simp only [List.mem_cons, List.not_mem_nil, or_false] at hx
    omega) (by simp)
theorem rootI_succ (k : Nat) : mkRoot ((k : Int) + 1) [(k : Int) + 1, 5] = rootI (k + 1) := by
  unfold rootI
  rw [show ((k + 1 : Nat) : Int) = (k : Int) + 1 from by omega]
theorem or4_u32 (a : Nat) (ha : a < 4294967296) : bits .or .u32 (a : Int) 4 = ((a ||| 4 : Nat) : Int) := by
  show IntKind.u32.wrap ((BitVec.ofInt 32 (a : Int) ||| BitVec.ofInt 32 4).toNat : Int) = _
  have h1 : (BitVec.ofInt 32 (4 : Int)).toNat = 4 := of_u32 4 (by omega)
  have := Nat.or_lt_two_pow (n := 32) (show a < 2 ^ 32 by omega) (show 4 < 2 ^ 32 by decide)
  rw [BitVec.toNat_or, of_u32 a ha, h1, IntKind.wrap_u32]
  omega
theorem or4_ne (a : Nat) : a ||| 4 ≠ 0 := by
  intro h
  have := Nat.right_le_or (n := a) (m := 4)
  omega
theorem or4_lt {a : Nat} (ha : a < 4294967296) : a ||| 4 < 4294967296 := Nat.or_lt_two_pow (n := 32) (show a < 2 ^ 32 by omega) (show 4 < 2 ^ 32 by decide)
theorem Saved.struck {s : DSt} {q N : Nat} {at' : Int} {bits : Nat} (h : Saved rootI s 400 100 q N) (h2 : 2 ≤ N) (h3 : N ≤ 100) (a0 : 0 ≤ at') (a1 : at' ≤ 252) (hz : bits ≠ 0) (hz2 : bits < 4294967296) {p : Nat} (hp : N % 2 = p) : Struck s q p (rootI N) (rootI (N - 1)) at' bits := by
  obtain ⟨a, b, c, d, hf, hw1, hw2, hw3, hw4⟩ := h.four
  have f2 := hf.swap (by omega)
  rw [show 1 - (N + 1) % 2 = p by omega] at f2
  rcases hw1 with ⟨h0, _⟩ | ⟨_, e3, rfl⟩
  · omega
  rcases hw2 with ⟨h0, _⟩ | ⟨_, e4, rfl⟩
  · omega
  rcases hw3 with ⟨h0, _⟩ | ⟨_, e1, rfl⟩
  · omega
  rcases hw4 with ⟨h0, _⟩ | ⟨_, e2, rfl⟩
  · omega
  exact ⟨h.up, by omega, ⟨_, _, _, _, f2⟩, rootI_code (by omega) h3, rootI_code (by omega) (by omega), mkR_sums _, mkR_sums _, by show (N : Int) % 2 = _; omega, by show ((N - 1 : Nat) : Int) % 2 = _; omega, by show ((N - 1 : Nat) : Int) < (N : Int); omega, a0, a1, hz, hz2⟩
/-- made of a list just written, and how little it writes -/
theorem madeLit_any (e : Int) (l : List Int) (w : World) (hl : l.length ≤ 1000) :
    Calls Tryd.prog 11 #[.int .i64 e, .slice (some ⟨w.heap.size, 0, none⟩) l.length l.length] (w.alloc (.cells (l.map (Value.int .i64)).toArray 3)) fun x w' => ∃ o : RV, x = .returned o.v ∧ o.Is (mkRoot e l) w' ∧ Below w.heap.size w w' := by
  have hb : Below w.heap.size w (w.alloc (.cells (l.map (Value.int .i64)).toArray 3)) := (Below.refl _ _).alloc (Nat.le_refl _) _
  refine (made_any e _ _ _ l _ (Sn.lits w l hl) (by omega)).mono ?_
  rintro x w' ⟨o, he, ho, hb', _⟩
  exact ⟨o, he, ho, hb.trans (hb'.mono hb.size)⟩
section
variable {Real : World → Nat → DSt → (Nat → Prop) → Prop}
set_option maxRecDepth 100000 in
set_option maxHeartbeats 8000000 in
theorem rootFaults_any (D : DevOk Real) (S : Nat → Addr) (n0 at0 : Int) (bt : Nat) (which : Int) (w : World) (hS : Sent6 w S) (hbt : bt < 4294967296) :
    Calls Tryd.prog 6 #[.int .i64 n0, .int .i64 at0, .int .u32 (bt : Int), .int .i64 which] w (Yes w) := by
  have HS := hid hS
  have HD := hid D
  obtain ⟨m, hm⟩ : ∃ m : Nat, n0 % 10 = (m : Int) := ⟨(n0 % 10).toNat, by omega⟩
  have HM := hid hm
  have hm9 : (m : Int) ≤ 9 := by omega
  obtain ⟨N, hN⟩ : ∃ N : Nat, N = m + 2 := ⟨_, rfl⟩
  have HN := hid (show 2 ≤ N ∧ N ≤ 11 from by omega)
  have HNm := hid (show (m : Int) + 2 = (N : Int) from by omega)
  have hN2 : (2 : Int) ≤ (N : Int) := by omega
  have hN11 : (N : Int) ≤ 11 := by omega
  obtain ⟨pa, hpa⟩ : ∃ pa : Int, at0 % 253 = pa := ⟨_, rfl⟩
  have HPa := hid hpa
  have hpa0 : 0 ≤ pa := by omega
  have hpa1 : pa ≤ 252 := by omega
  have o1 := or4_u32 bt hbt
  obtain ⟨y, hy⟩ : ∃ y, bt ||| 4 = y := ⟨_, rfl⟩
  rw [hy] at o1
  have HY := hid (show y ≠ 0 ∧ y < 4294967296 from hy ▸ ⟨or4_ne bt, or4_lt hbt⟩)
  obtain ⟨p, hp⟩ : ∃ p : Nat, N % 2 = p := ⟨_, rfl⟩
  have HP := hid hp
  have hp1 : (p : Int) ≤ 1 := by omega
  have HTm := hid (show (N : Int) % 2 = (p : Int) from by omega)
  have hh : halN 400 = 100 := by decide
  have HT := hid (show which % 5 = 0 ∨ which % 5 = 1 ∨ which % 5 = 2 ∨ which % 5 = 3 ∨ which % 5 = 4 from by omega)
  clear hS D hm hN hpa hy hp hbt
  go_enter Tryd.func6, Tryd.ntmps6
  go_wp2_with fail
  refine (first6_any HD.out S _ HS.out).mono ?_
  rintro e w1 ⟨rfl, hb1⟩
  have HB1 := hid hb1
  have HS1 := hid (HS.out.on hb1)
  clear hb1
  go_wp2_with fail
  refine (number_any n0 10 _ (by omega) (by omega)).mono ?_
  rw [HM.out]
  rintro e w2 ⟨rfl, rfl⟩
  go_wp2_with fail
  rw [HNm.out]
  refine (number_any at0 253 _ (by omega) (by omega)).mono ?_
  rw [HPa.out]
  rintro e w2 ⟨rfl, rfl⟩
  go_wp2_with fail
  refine (dk_new HD.out 400 _ (by omega) (by omega)).mono ?_
  rintro e w4 ⟨d, F, rfl, hk⟩
  have HK4 := hid hk
  clear hk
  go_wp2
  go_loopw [12] (fun i wr => ∃ (k : Nat) (s : DSt) (F : Nat → Prop), k ≤ N ∧ i = .int .i64 ((k : Int) + 1) ∧ Dk Real w1 wr d 400 (3 * k) s F ∧ Saved rootI s 400 100 (3 * k) k) (fun i _ => 13 - (intOf i).toNat)
  case atStart => exact ⟨0, _, F, by omega, rfl, HK4.out, saved_new rootI (by omega) (by omega)⟩
  case round =>
    obtain ⟨k, s, Fk, hkN, rfl, hdk, hsv⟩ := hrel
    have HDk := hid hdk
    have HSv := hid hsv
    have hk11 : (k : Int) ≤ 11 := by omega
    clear hdk hsv
    by_cases hlt : k < N
    · obtain ⟨s1, hs1, hsv1⟩ := HSv.out.save (by omega) (by omega) (rootI_code (i := k + 1) (by omega) (by omega)) rfl
      have HE1 := hid hs1
      have HSv1 := hid hsv1
      clear hs1 hsv1
      go_wp2_with fail
      refine (dk_madeLit HD.out HDk.out ((k : Int) + 1) [(k : Int) + 1, 5] (by simp)).mono ?_
      rw [rootI_succ]
      rintro e w5 ⟨o5, rfl, ho5, hk⟩
      have HO5 := hid ho5
      have HK5 := hid hk
      clear ho5 hk
      go_wp2_with fail
      refine (dk_save HD.out HK5.out HS1.out (by omega) (by omega) HO5.out (mkR_sums _) (by show (-9223372036854775808 : Int) ≤ ((k + 1 : Nat) : Int); omega) (by show ((k + 1 : Nat) : Int) ≤ 9223372036854775807; omega)).mono ?_
      rw [hh, HE1.out]
      rintro e w6 ⟨⟨v, rfl, hv⟩, F6, hk⟩
      obtain rfl := hv.nil
      have HK6 := hid hk
      clear hv hk
      go_wp2
      go_roundw
      case rel => exact ⟨k + 1, s1, F6, by omega, by go_num, HK6.out, HSv1.out⟩
      case measure => simp [intOf]; omega
    · obtain rfl : N = k := by omega
      have HSt := hid (HSv.out.struck (at' := pa) (bits := y) HN.out.1 (by have := HN.out; omega) hpa0 hpa1 HY.out.1 HY.out.2 HP.out)
      clear hlt hkN hk11
      go_wp2_with fail
      rw [HTm.out]
      refine (number_any which 5 _ (by omega) (by omega)).mono ?_
      have HMd := hid (fun (M : Nat) (wx : World) => madeLit_any (M : Int) [(M : Int), 5] wx (by simp))
      rcases HT.out with ht | ht | ht | ht | ht
      all_goals
        rw [ht]
        rintro e w7 ⟨rfl, rfl⟩
        clear ht
        go_wp2_with fail
      · refine (dk_spoil HD.out HDk.out (by omega) (p : Int) pa y HY.out.2).mono ?_
        rintro e w8 ⟨⟨b8, rfl⟩, F8, hk⟩
        obtain ⟨M, hMN⟩ : ∃ M : Nat, M = N := ⟨_, rfl⟩
        have HZ := hid (show ∃ sz F, Dk Real w1 w8 d 400 (3 * N) sz F ∧ Aft sz 400 (3 * N) (rootI M) 1 from ⟨_, F8, hk, hMN ▸ HSt.out.fault0⟩)
        have hMI : (N : Int) = (M : Int) := by omega
        have HM1 := hid (show 1 ≤ M ∧ M ≤ 11 from by omega)
        clear hk hMN
        go_wp2_with fail
        clear hMI
        obtain ⟨sz, Fz, hkz, hz⟩ := HZ.out
        have HKz := hid hkz
        have HA := hid hz
        have hr0 : decide (0 < (rootI M).epoch) = true := by simp; show (0 : Int) < (M : Int); have := HM1.out; omega
        have HR0 := hid hr0
        obtain ⟨r, hr⟩ : ∃ r, rootI M = r := ⟨_, rfl⟩
        have HMx := hid (HMd.out M)
        rw [show mkRoot (M : Int) [(M : Int), 5] = r from hr] at HMx
        rw [hr] at HR0 HA
        clear hkz hz hr0 hr HZ HMd
        refine (dk_load HD.out HKz.out HS1.out (by omega) (by omega) HA.out.up.down).mono ?_
        rw [hh, HA.out.new, HR0.out]
        rintro e w10 ⟨o4, rfl, ho4, _, hk⟩
        have HK10 := hid hk
        have HO10 := hid ho4
        clear ho4 hk
        have hal : Below w10.heap.size w10 (w10.alloc (.cells #[.int .i64 o4.e, o4.s] 31)) := (Below.refl _ _).alloc (Nat.le_refl _) _
        have HKo := hid (Blk.new w10 31 #[.int .i64 o4.e, o4.s])
        have HO11 := hid (RV.Is.on HO10.out hal)
        have HK11 := hid (HK10.out.on HD.out hal)
        clear hal
        go_wp2_with fail
        refine (dk_copies HD.out HK11.out HS1.out (by omega) (by omega) HA.out.up.down).mono ?_
        rw [hh, HA.out.copies]
        rintro e w12 ⟨rfl, hb, hk⟩
        have HB12 := hid (HB1.out.trans (hk.below.mono HB1.out.size))
        have HKo12 := hid (HKo.out.below hb HKo.out.lt)
        have HO12 := hid (RV.Is.on HO11.out hb)
        clear hb hk
        have k0 := HKo12.out.cell 0
        have k1 := HKo12.out.cell 1
        simp at k0 k1
        have HMw := hid (HMx.out w12.drew)
        have HKp := hid (fun w7 (hb : Below w12.drew.heap.size w12.drew w7) => (show (w7.cell? ⟨w10.heap.size, 0, none⟩ = some (.int .i64 o4.e) ∧ w7.cell? ⟨w10.heap.size, 1, none⟩ = some o4.s) ∧ o4.Is r w7 ∧ Below w.heap.size w w7 from by
          have hk := HKo12.out.drew.below hb HKo12.out.lt
          exact ⟨⟨hk.cell 0, hk.cell 1⟩, RV.Is.on HO12.out (show Below w12.heap.size w12 w7 from ⟨hb.os, hb.tape, hb.output, hb.size, hb.block⟩), HB12.out.drew.trans (hb.mono HB12.out.size)⟩))
        have kA := (HKp.out _ ((Below.refl w12.drew.heap.size w12.drew).alloc (Nat.le_refl _) (.cells #[.int .i64 (M : Int), .int .i64 5] 3))).1
        clear HMx
        go_wp2_with fail
        go_region_held3 (fun w' => w'.cell? ⟨w10.heap.size, 0, none⟩ = some (.int .i64 o4.e) ∧ w'.cell? ⟨w10.heap.size, 1, none⟩ = some o4.s) (first | exact ⟨k0, k1⟩ | exact kA | exact hk7 | exact hk8 | go_keep)
          ((first | (go_at_call 11; refine HMw.out.mono ?_; rintro e w7 ⟨o7, rfl, ho7, hb7⟩; obtain ⟨hk7, hx7, hbw7⟩ := HKp.out w7 hb7; have HX7 := hid hx7; have HO7 := hid ho7; have HB7 := hid hbw7; have HK7 := hid (fun w8 (hb : Below w7.heap.size w7 w8) => HKp.out w8 (hb7.trans (hb.mono hb7.size))); clear ho7 hb7 hx7 hbw7) | (go_at_call 16; refine (sameRoot_any o4 o7 r r _ HX7.out HO7.out).mono ?_; rintro e w8 ⟨rfl, hb8⟩; obtain ⟨hk8, _, hbw8⟩ := HK7.out w8 hb8; have HB8 := hid hbw8; clear hb8 hbw8)))
        go_wp2
        go_ret
        exact ⟨by simp, HB8.out⟩
      · refine (dk_fail HD.out HDk.out (by omega) ((p : Int) + 100)).mono ?_
        rintro e w8 ⟨⟨b8, rfl⟩, F8, hk⟩
        obtain ⟨M, hMN⟩ : ∃ M : Nat, M = N := ⟨_, rfl⟩
        have HZ := hid (show ∃ sz F, Dk Real w1 w8 d 400 (3 * N) sz F ∧ Aft sz 400 (3 * N) (rootI M) 1 from ⟨_, F8, hk, by have := HSt.out.fault1; rw [show ((p + 100 : Nat) : Int) = (p : Int) + 100 from by omega] at this; exact hMN ▸ this⟩)
        have hMI : (N : Int) = (M : Int) := by omega
        have HM1 := hid (show 1 ≤ M ∧ M ≤ 11 from by omega)
        clear hk hMN
        go_wp2_with fail
        clear hMI
        obtain ⟨sz, Fz, hkz, hz⟩ := HZ.out
        have HKz := hid hkz
        have HA := hid hz
        have hr0 : decide (0 < (rootI M).epoch) = true := by simp; show (0 : Int) < (M : Int); have := HM1.out; omega
        have HR0 := hid hr0
        obtain ⟨r, hr⟩ : ∃ r, rootI M = r := ⟨_, rfl⟩
        have HMx := hid (HMd.out M)
        rw [show mkRoot (M : Int) [(M : Int), 5] = r from hr] at HMx
        rw [hr] at HR0 HA
        clear hkz hz hr0 hr HZ HMd
        refine (dk_load HD.out HKz.out HS1.out (by omega) (by omega) HA.out.up.down).mono ?_
        rw [hh, HA.out.new, HR0.out]
        rintro e w10 ⟨o4, rfl, ho4, _, hk⟩
        have HK10 := hid hk
        have HO10 := hid ho4
        clear ho4 hk
        have hal : Below w10.heap.size w10 (w10.alloc (.cells #[.int .i64 o4.e, o4.s] 31)) := (Below.refl _ _).alloc (Nat.le_refl _) _
        have HKo := hid (Blk.new w10 31 #[.int .i64 o4.e, o4.s])
        have HO11 := hid (RV.Is.on HO10.out hal)
        have HK11 := hid (HK10.out.on HD.out hal)
        clear hal
        go_wp2_with fail
        refine (dk_copies HD.out HK11.out HS1.out (by omega) (by omega) HA.out.up.down).mono ?_
        rw [hh, HA.out.copies]
        rintro e w12 ⟨rfl, hb, hk⟩
        have HB12 := hid (HB1.out.trans (hk.below.mono HB1.out.size))
        have HKo12 := hid (HKo.out.below hb HKo.out.lt)
        have HO12 := hid (RV.Is.on HO11.out hb)
        clear hb hk
        have k0 := HKo12.out.cell 0
        have k1 := HKo12.out.cell 1
        simp at k0 k1
        have HMw := hid (HMx.out w12.drew)
        have HKp := hid (fun w7 (hb : Below w12.drew.heap.size w12.drew w7) => (show (w7.cell? ⟨w10.heap.size, 0, none⟩ = some (.int .i64 o4.e) ∧ w7.cell? ⟨w10.heap.size, 1, none⟩ = some o4.s) ∧ o4.Is r w7 ∧ Below w.heap.size w w7 from by
          have hk := HKo12.out.drew.below hb HKo12.out.lt
          exact ⟨⟨hk.cell 0, hk.cell 1⟩, RV.Is.on HO12.out (show Below w12.heap.size w12 w7 from ⟨hb.os, hb.tape, hb.output, hb.size, hb.block⟩), HB12.out.drew.trans (hb.mono HB12.out.size)⟩))
        have kA := (HKp.out _ ((Below.refl w12.drew.heap.size w12.drew).alloc (Nat.le_refl _) (.cells #[.int .i64 (M : Int), .int .i64 5] 3))).1
        clear HMx
        go_wp2_with fail
        go_region_held3 (fun w' => w'.cell? ⟨w10.heap.size, 0, none⟩ = some (.int .i64 o4.e) ∧ w'.cell? ⟨w10.heap.size, 1, none⟩ = some o4.s) (first | exact ⟨k0, k1⟩ | exact kA | exact hk7 | exact hk8 | go_keep)
          ((first | (go_at_call 11; refine HMw.out.mono ?_; rintro e w7 ⟨o7, rfl, ho7, hb7⟩; obtain ⟨hk7, hx7, hbw7⟩ := HKp.out w7 hb7; have HX7 := hid hx7; have HO7 := hid ho7; have HB7 := hid hbw7; have HK7 := hid (fun w8 (hb : Below w7.heap.size w7 w8) => HKp.out w8 (hb7.trans (hb.mono hb7.size))); clear ho7 hb7 hx7 hbw7) | (go_at_call 16; refine (sameRoot_any o4 o7 r r _ HX7.out HO7.out).mono ?_; rintro e w8 ⟨rfl, hb8⟩; obtain ⟨hk8, _, hbw8⟩ := HK7.out w8 hb8; have HB8 := hid hbw8; clear hb8 hbw8)))
        go_wp2
        go_ret
        exact ⟨by simp, HB8.out⟩
      · refine (dk_spoil HD.out HDk.out (by omega) (p : Int) pa y HY.out.2).mono ?_
        rintro e w7 ⟨⟨b7, rfl⟩, F7, hk⟩
        have HK7 := hid hk
        clear hk
        go_wp2_with fail
        refine (dk_fail HD.out HK7.out (by omega) (1 - (p : Int))).mono ?_
        rintro e w8 ⟨⟨b8, rfl⟩, F8, hk⟩
        obtain ⟨M, hMN⟩ : ∃ M : Nat, M = N := ⟨_, rfl⟩
        have HZ := hid (show ∃ sz F, Dk Real w1 w8 d 400 (3 * N) sz F ∧ Aft sz 400 (3 * N) (rootI M) 1 from ⟨_, F8, hk, by have := HSt.out.fault2; rw [show ((1 - p : Nat) : Int) = 1 - (p : Int) from by omega] at this; exact hMN ▸ this⟩)
        have hMI : (N : Int) = (M : Int) := by omega
        have HM1 := hid (show 1 ≤ M ∧ M ≤ 11 from by omega)
        clear hk hMN
        go_wp2_with fail
        clear hMI
        obtain ⟨sz, Fz, hkz, hz⟩ := HZ.out
        have HKz := hid hkz
        have HA := hid hz
        have hr0 : decide (0 < (rootI M).epoch) = true := by simp; show (0 : Int) < (M : Int); have := HM1.out; omega
        have HR0 := hid hr0
        obtain ⟨r, hr⟩ : ∃ r, rootI M = r := ⟨_, rfl⟩
        have HMx := hid (HMd.out M)
        rw [show mkRoot (M : Int) [(M : Int), 5] = r from hr] at HMx
        rw [hr] at HR0 HA
        clear hkz hz hr0 hr HZ HMd
        refine (dk_load HD.out HKz.out HS1.out (by omega) (by omega) HA.out.up.down).mono ?_
        rw [hh, HA.out.new, HR0.out]
        rintro e w10 ⟨o4, rfl, ho4, _, hk⟩
        have HK10 := hid hk
        have HO10 := hid ho4
        clear ho4 hk
        have hal : Below w10.heap.size w10 (w10.alloc (.cells #[.int .i64 o4.e, o4.s] 31)) := (Below.refl _ _).alloc (Nat.le_refl _) _
        have HKo := hid (Blk.new w10 31 #[.int .i64 o4.e, o4.s])
        have HO11 := hid (RV.Is.on HO10.out hal)
        have HK11 := hid (HK10.out.on HD.out hal)
        clear hal
        go_wp2_with fail
        refine (dk_copies HD.out HK11.out HS1.out (by omega) (by omega) HA.out.up.down).mono ?_
        rw [hh, HA.out.copies]
        rintro e w12 ⟨rfl, hb, hk⟩
        have HB12 := hid (HB1.out.trans (hk.below.mono HB1.out.size))
        have HKo12 := hid (HKo.out.below hb HKo.out.lt)
        have HO12 := hid (RV.Is.on HO11.out hb)
        clear hb hk
        have k0 := HKo12.out.cell 0
        have k1 := HKo12.out.cell 1
        simp at k0 k1
        have HMw := hid (HMx.out w12.drew)
        have HKp := hid (fun w7 (hb : Below w12.drew.heap.size w12.drew w7) => (show (w7.cell? ⟨w10.heap.size, 0, none⟩ = some (.int .i64 o4.e) ∧ w7.cell? ⟨w10.heap.size, 1, none⟩ = some o4.s) ∧ o4.Is r w7 ∧ Below w.heap.size w w7 from by
          have hk := HKo12.out.drew.below hb HKo12.out.lt
          exact ⟨⟨hk.cell 0, hk.cell 1⟩, RV.Is.on HO12.out (show Below w12.heap.size w12 w7 from ⟨hb.os, hb.tape, hb.output, hb.size, hb.block⟩), HB12.out.drew.trans (hb.mono HB12.out.size)⟩))
        have kA := (HKp.out _ ((Below.refl w12.drew.heap.size w12.drew).alloc (Nat.le_refl _) (.cells #[.int .i64 (M : Int), .int .i64 5] 3))).1
        clear HMx
        go_wp2_with fail
        go_region_held3 (fun w' => w'.cell? ⟨w10.heap.size, 0, none⟩ = some (.int .i64 o4.e) ∧ w'.cell? ⟨w10.heap.size, 1, none⟩ = some o4.s) (first | exact ⟨k0, k1⟩ | exact kA | exact hk7 | exact hk8 | go_keep)
          ((first | (go_at_call 11; refine HMw.out.mono ?_; rintro e w7 ⟨o7, rfl, ho7, hb7⟩; obtain ⟨hk7, hx7, hbw7⟩ := HKp.out w7 hb7; have HX7 := hid hx7; have HO7 := hid ho7; have HB7 := hid hbw7; have HK7 := hid (fun w8 (hb : Below w7.heap.size w7 w8) => HKp.out w8 (hb7.trans (hb.mono hb7.size))); clear ho7 hb7 hx7 hbw7) | (go_at_call 16; refine (sameRoot_any o4 o7 r r _ HX7.out HO7.out).mono ?_; rintro e w8 ⟨rfl, hb8⟩; obtain ⟨hk8, _, hbw8⟩ := HK7.out w8 hb8; have HB8 := hid hbw8; clear hb8 hbw8)))
        go_wp2
        go_ret
        exact ⟨by simp, HB8.out⟩
      · refine (dk_fail HD.out HDk.out (by omega) (1 - (p : Int))).mono ?_
        rintro e w7 ⟨⟨b7, rfl⟩, F7, hk⟩
        have HK7 := hid hk
        clear hk
        go_wp2_with fail
        refine (dk_spoil HD.out HK7.out (by omega) (101 - (p : Int)) pa y HY.out.2).mono ?_
        rintro e w8 ⟨⟨b8, rfl⟩, F8, hk⟩
        obtain ⟨M, hMN⟩ : ∃ M : Nat, M = N := ⟨_, rfl⟩
        have HZ := hid (show ∃ sz F, Dk Real w1 w8 d 400 (3 * N) sz F ∧ Aft sz 400 (3 * N) (rootI M) 2 from ⟨_, F8, hk, by have := HSt.out.fault3; rw [show ((1 - p + 100 : Nat) : Int) = 101 - (p : Int) from by omega, show ((1 - p : Nat) : Int) = 1 - (p : Int) from by omega] at this; exact hMN ▸ this⟩)
        have hMI : (N : Int) = (M : Int) := by omega
        have HM1 := hid (show 1 ≤ M ∧ M ≤ 11 from by omega)
        clear hk hMN
        go_wp2_with fail
        clear hMI
        obtain ⟨sz, Fz, hkz, hz⟩ := HZ.out
        have HKz := hid hkz
        have HA := hid hz
        have hr0 : decide (0 < (rootI M).epoch) = true := by simp; show (0 : Int) < (M : Int); have := HM1.out; omega
        have HR0 := hid hr0
        obtain ⟨r, hr⟩ : ∃ r, rootI M = r := ⟨_, rfl⟩
        have HMx := hid (HMd.out M)
        rw [show mkRoot (M : Int) [(M : Int), 5] = r from hr] at HMx
        rw [hr] at HR0 HA
        clear hkz hz hr0 hr HZ HMd
        refine (dk_load HD.out HKz.out HS1.out (by omega) (by omega) HA.out.up.down).mono ?_
        rw [hh, HA.out.new, HR0.out]
        rintro e w10 ⟨o4, rfl, ho4, _, hk⟩
        have HK10 := hid hk
        have HO10 := hid ho4
        clear ho4 hk
        have hal : Below w10.heap.size w10 (w10.alloc (.cells #[.int .i64 o4.e, o4.s] 31)) := (Below.refl _ _).alloc (Nat.le_refl _) _
        have HKo := hid (Blk.new w10 31 #[.int .i64 o4.e, o4.s])
        have HO11 := hid (RV.Is.on HO10.out hal)
        have HK11 := hid (HK10.out.on HD.out hal)
        clear hal
        go_wp2_with fail
        refine (dk_copies HD.out HK11.out HS1.out (by omega) (by omega) HA.out.up.down).mono ?_
        rw [hh, HA.out.copies]
        rintro e w12 ⟨rfl, hb, hk⟩
        have HB12 := hid (HB1.out.trans (hk.below.mono HB1.out.size))
        have HKo12 := hid (HKo.out.below hb HKo.out.lt)
        have HO12 := hid (RV.Is.on HO11.out hb)
        clear hb hk
        have k0 := HKo12.out.cell 0
        have k1 := HKo12.out.cell 1
        simp at k0 k1
        have HMw := hid (HMx.out w12.drew)
        have HKp := hid (fun w7 (hb : Below w12.drew.heap.size w12.drew w7) => (show (w7.cell? ⟨w10.heap.size, 0, none⟩ = some (.int .i64 o4.e) ∧ w7.cell? ⟨w10.heap.size, 1, none⟩ = some o4.s) ∧ o4.Is r w7 ∧ Below w.heap.size w w7 from by
          have hk := HKo12.out.drew.below hb HKo12.out.lt
          exact ⟨⟨hk.cell 0, hk.cell 1⟩, RV.Is.on HO12.out (show Below w12.heap.size w12 w7 from ⟨hb.os, hb.tape, hb.output, hb.size, hb.block⟩), HB12.out.drew.trans (hb.mono HB12.out.size)⟩))
        have kA := (HKp.out _ ((Below.refl w12.drew.heap.size w12.drew).alloc (Nat.le_refl _) (.cells #[.int .i64 (M : Int), .int .i64 5] 3))).1
        clear HMx
        go_wp2_with fail
        go_region_held3 (fun w' => w'.cell? ⟨w10.heap.size, 0, none⟩ = some (.int .i64 o4.e) ∧ w'.cell? ⟨w10.heap.size, 1, none⟩ = some o4.s) (first | exact ⟨k0, k1⟩ | exact kA | exact hk7 | exact hk8 | go_keep)
          ((first | (go_at_call 11; refine HMw.out.mono ?_; rintro e w7 ⟨o7, rfl, ho7, hb7⟩; obtain ⟨hk7, hx7, hbw7⟩ := HKp.out w7 hb7; have HX7 := hid hx7; have HO7 := hid ho7; have HB7 := hid hbw7; have HK7 := hid (fun w8 (hb : Below w7.heap.size w7 w8) => HKp.out w8 (hb7.trans (hb.mono hb7.size))); clear ho7 hb7 hx7 hbw7) | (go_at_call 16; refine (sameRoot_any o4 o7 r r _ HX7.out HO7.out).mono ?_; rintro e w8 ⟨rfl, hb8⟩; obtain ⟨hk8, _, hbw8⟩ := HK7.out w8 hb8; have HB8 := hid hbw8; clear hb8 hbw8)))
        go_wp2
        go_ret
        exact ⟨by simp, HB8.out⟩
      · refine (dk_spoil HD.out HDk.out (by omega) (p : Int) pa y HY.out.2).mono ?_
        rintro e w7 ⟨⟨b7, rfl⟩, F7, hk⟩
        have HK7 := hid hk
        clear hk
        go_wp2_with fail
        refine (dk_spoil HD.out HK7.out (by omega) ((p : Int) + 100) (252 - pa) y HY.out.2).mono ?_
        rintro e w8 ⟨⟨b8, rfl⟩, F8, hk⟩
        obtain ⟨M, hMN⟩ : ∃ M : Nat, M = N - 1 := ⟨_, rfl⟩
        have HZ := hid (show ∃ sz F, Dk Real w1 w8 d 400 (3 * N) sz F ∧ Aft sz 400 (3 * N) (rootI M) 2 from ⟨_, F8, hk, by have := HSt.out.fault4; rw [show ((p + 100 : Nat) : Int) = (p : Int) + 100 from by omega] at this; exact hMN ▸ this⟩)
        have hMI : (N : Int) - 1 = (M : Int) := by omega
        have HM1 := hid (show 1 ≤ M ∧ M ≤ 11 from by omega)
        clear hk hMN
        go_wp2_with fail
        clear hMI
        obtain ⟨sz, Fz, hkz, hz⟩ := HZ.out
        have HKz := hid hkz
        have HA := hid hz
        have hr0 : decide (0 < (rootI M).epoch) = true := by simp; show (0 : Int) < (M : Int); have := HM1.out; omega
        have HR0 := hid hr0
        obtain ⟨r, hr⟩ : ∃ r, rootI M = r := ⟨_, rfl⟩
        have HMx := hid (HMd.out M)
        rw [show mkRoot (M : Int) [(M : Int), 5] = r from hr] at HMx
        rw [hr] at HR0 HA
        clear hkz hz hr0 hr HZ HMd
        refine (dk_load HD.out HKz.out HS1.out (by omega) (by omega) HA.out.up.down).mono ?_
        rw [hh, HA.out.new, HR0.out]
        rintro e w10 ⟨o4, rfl, ho4, _, hk⟩
        have HK10 := hid hk
        have HO10 := hid ho4
        clear ho4 hk
        have hal : Below w10.heap.size w10 (w10.alloc (.cells #[.int .i64 o4.e, o4.s] 31)) := (Below.refl _ _).alloc (Nat.le_refl _) _
        have HKo := hid (Blk.new w10 31 #[.int .i64 o4.e, o4.s])
        have HO11 := hid (RV.Is.on HO10.out hal)
        have HK11 := hid (HK10.out.on HD.out hal)
        clear hal
        go_wp2_with fail
        refine (dk_copies HD.out HK11.out HS1.out (by omega) (by omega) HA.out.up.down).mono ?_
        rw [hh, HA.out.copies]
        rintro e w12 ⟨rfl, hb, hk⟩
        have HB12 := hid (HB1.out.trans (hk.below.mono HB1.out.size))
        have HKo12 := hid (HKo.out.below hb HKo.out.lt)
        have HO12 := hid (RV.Is.on HO11.out hb)
        clear hb hk
        have k0 := HKo12.out.cell 0
        have k1 := HKo12.out.cell 1
        simp at k0 k1
        have HMw := hid (HMx.out w12.drew)
        have HKp := hid (fun w7 (hb : Below w12.drew.heap.size w12.drew w7) => (show (w7.cell? ⟨w10.heap.size, 0, none⟩ = some (.int .i64 o4.e) ∧ w7.cell? ⟨w10.heap.size, 1, none⟩ = some o4.s) ∧ o4.Is r w7 ∧ Below w.heap.size w w7 from by
          have hk := HKo12.out.drew.below hb HKo12.out.lt
          exact ⟨⟨hk.cell 0, hk.cell 1⟩, RV.Is.on HO12.out (show Below w12.heap.size w12 w7 from ⟨hb.os, hb.tape, hb.output, hb.size, hb.block⟩), HB12.out.drew.trans (hb.mono HB12.out.size)⟩))
        have kA := (HKp.out _ ((Below.refl w12.drew.heap.size w12.drew).alloc (Nat.le_refl _) (.cells #[.int .i64 (M : Int), .int .i64 5] 3))).1
        clear HMx
        go_wp2_with fail
        go_region_held3 (fun w' => w'.cell? ⟨w10.heap.size, 0, none⟩ = some (.int .i64 o4.e) ∧ w'.cell? ⟨w10.heap.size, 1, none⟩ = some o4.s) (first | exact ⟨k0, k1⟩ | exact kA | exact hk7 | exact hk8 | go_keep)
          ((first | (go_at_call 11; refine HMw.out.mono ?_; rintro e w7 ⟨o7, rfl, ho7, hb7⟩; obtain ⟨hk7, hx7, hbw7⟩ := HKp.out w7 hb7; have HX7 := hid hx7; have HO7 := hid ho7; have HB7 := hid hbw7; have HK7 := hid (fun w8 (hb : Below w7.heap.size w7 w8) => HKp.out w8 (hb7.trans (hb.mono hb7.size))); clear ho7 hb7 hx7 hbw7) | (go_at_call 16; refine (sameRoot_any o4 o7 r r _ HX7.out HO7.out).mono ?_; rintro e w8 ⟨rfl, hb8⟩; obtain ⟨hk8, _, hbw8⟩ := HK7.out w8 hb8; have HB8 := hid hbw8; clear hb8 hbw8)))
        go_wp2
        go_ret
        exact ⟨by simp, HB8.out⟩
end
end Go.Proofs.YtdllmodgefolbaaDoor
