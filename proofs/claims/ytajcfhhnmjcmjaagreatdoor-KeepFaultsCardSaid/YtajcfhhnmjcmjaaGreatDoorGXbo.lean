/- Put together out of 3 texts. KeepFaults: faults laid, told by the device; what the walk carries. -/
import Derived.Test.YtajcfhhnmjcmjaaGreatDoorGXbn
import Derived.BigQuiet
import Derived.Test.YtajcfhhnmjcmjaaGreatDoorGXbf
import Derived.Test.YtajcfhhnmjcmjaaGreatDoorGXak
import Derived.Test.YtajcfhhnmjcmjaaGreatDoorGXal
import Derived.Test.YtajcfhhnmjcmjaaGreatDoorGXbc
namespace Go.Proofs.YtajcfhhnmjcmjaaGreatDoor
open Go.RowKit

theorem and1K (t : Int) : ∃ b : Nat, b ≤ 1 ∧ bits .and .i64 t 1 = (b : Int) := by
  refine ⟨(BitVec.ofInt 64 t).toNat % 2, by omega, ?_⟩
  show IntKind.i64.wrap ((BitVec.ofInt 64 t &&& BitVec.ofInt 64 1).toNat : Int) = _
  have h1 : (BitVec.ofInt 64 (1 : Int)).toNat = 1 := by decide
  rw [BitVec.toNat_and, h1, Nat.and_one_is_mod, IntKind.wrap_i64]
  omega
theorem or1K (a : Nat) : ∃ m : Nat, m < 4294967296 ∧ bits .or .u32 (a : Int) 1 = (m : Int) := by
  refine ⟨((BitVec.ofInt 32 (a : Int) ||| BitVec.ofInt 32 1).toNat), (BitVec.ofInt 32 (a : Int) ||| BitVec.ofInt 32 1).isLt, ?_⟩
  have h := (BitVec.ofInt 32 (a : Int) ||| BitVec.ofInt 32 1).isLt
  show IntKind.u32.wrap ((BitVec.ofInt 32 (a : Int) ||| BitVec.ofInt 32 1).toNat : Int) = _
  rw [IntKind.wrap_u32]
  omega
theorem half400 : halN 400 = 100 := by decide
/-- two bytes in a block of their own -/
theorem sl_pair {w : World} {b : Nat} {x y : Int} (h : Blk w b 5 #[.int .u8 x, .int .u8 y]) : Sl w w.heap.size (some ⟨b, 0, none⟩) 2 2 [x, y] := by
  refine ⟨rfl, by omega, by unfold maxLen; omega, (fun h => by cases h), fun ad ha _ => ?_⟩
  cases ha
  refine ⟨h.lt, fun q z hz => ?_⟩
  rw [add0, Blk.cell h]
  rcases q with _ | _ | q
  · simp at hz; subst hz; rfl
  · simp at hz; subst hz; rfl
  · simp at hz
section
variable {Real : World → Nat → DSt → (Nat → Prop) → Prop} {PR : World → Nat → Nat → Nat → Nat → (Nat → Prop) → Prop} {S : Nat → Addr} {w0 w w' : World} {d g n q kb i m : Nat} {T : Nat → Prop} {s : DSt} {P : PS} {cont : Cont} {Z : DSt → Prop}
/-- a store over a device of which Z is told -/
def FL (Real : World → Nat → DSt → (Nat → Prop) → Prop) (PR : World → Nat → Nat → Nat → Nat → (Nat → Prop) → Prop) (S : Nat → Addr) (w0 : World) (d g n q : Nat) (P : PS) (Z : DSt → Prop) (w : World) : Prop := ∃ T s, Shop Real PR S w0 w d g n q 7 T s P noChg ∧ Z s
theorem kw_more {Qb Qc : Nat} (h : KW Real PR S w0 d g n Qb kb i m w) (hQ : Qb ≤ Qc) : KW Real PR S w0 d g n Qc kb i m w := by
  obtain ⟨q, T, s, P, cont, F, Fo, lv, Ao, no, co, h1, h2⟩ := h
  exact ⟨q, T, s, P, cont, F, Fo, lv, Ao, no, co, by omega, h2⟩
theorem kw_commit (D : DevOk Real) (O : PairOk Real PR) (hS : Sent7 w0 S) {Qb : Nat} (h : KW Real PR S w0 d g n Qb kb i m w) (hi : i ≤ 40) (him : m ≤ i) (hQ : Qb ≤ 600000) (h42 : 42 ≤ halN n) :
    Calls Tryz.prog 9 #[.pointer (some ⟨kb, 0, none⟩)] w fun e w' => e = .returned .nilIface ∧ KW Real PR S w0 d g n (Qb + 1000) kb i i w' := by
  by_cases e : m = i
  · subst e
    refine (kw_same D O h).mono ?_
    rintro e w' ⟨he, hk⟩
    exact ⟨he, kw_more hk (by omega)⟩
  · exact kw_new D O hS h hi (by omega) hQ h42
/-- what is known of a keep that was committed, whatever is faulted on one side -/
theorem kw_flt (D : DevOk Real) (O : PairOk Real PR) (hS : Sent7 w0 S) {aR aE aS : Addr} (hE : Errs w0 aR aE aS) {Qb : Nat} (h : KW Real PR S w0 d g n Qb kb i i w) (hi : i ≤ 39) (hQ : Qb ≤ 600000) :
    ∃ (q : Nat) (P : PS) (Z : DSt → Prop), FltZ n q Z ∧ q ≤ 600000 ∧ FL Real PR S w0 d g n q P Z w ∧ ∀ w', FL Real PR S w0 d g n q P Z w' → Calls Tryz.prog 10 #[.pointer (some ⟨d, 0, none⟩)] w' (ReO w0 (recsN i)) := by
  obtain ⟨q, T, s, P, cont, F, Fo, lv, Ao, no, co, h1, h2, h3, h4, h5, h6, h7, h8, h9, h10, h11⟩ := h
  have n0 := h2.pd.2.2.1
  have hu := h2.pd.1
  by_cases e : i = 0
  · subst e
    obtain ⟨rfl, rfl, rfl⟩ := h6 rfl
    have n1 : n ≤ 6000 := by
      obtain ⟨p, mm, m1, F, G, Dm, C, k1, _⟩ := h2
      exact k1.n1
    refine ⟨0, noPS 0, _, fltZ_new n0, by omega, ⟨T, _, h2, _, NF.start n0 n1⟩, ?_⟩
    rintro w' ⟨T', s', hsh, done, hnf⟩
    exact reopened_nfa D O hS hsh hnf
  · obtain ⟨hc0, hep⟩ := h5 (by omega)
    obtain ⟨c, hfa⟩ := Fau.start h3 hu n0 (by omega) hep h7
    refine ⟨q, P, _, fltZ_old n0 P cont, by omega, ⟨T, s, h2, c, _, hfa⟩, ?_⟩
    rintro w' ⟨T', s', hsh, c', done, hfa'⟩
    exact reopened_old D O hS hsh hfa' (by omega) (half_facts n0).2.1 (recsN i) hc0 (pages_one h3.fine hc0 h4) aR aE aS hE (fun x hx => by
      obtain ⟨j, hj, rfl⟩ := recsN_mem hx
      have := recN_size (i := j) (by omega)
      omega) h8.ris (by rw [recsN_laid i (by omega)]; omega) (by rw [recsN_len]; omega) (recsN_ne (by omega))
theorem fl_faulted (D : DevOk Real) (h : Shop Real PR S w0 w d g n q 7 T s P noChg) (b : Int) :
    Calls Tryz.prog 12 #[.pointer (some ⟨d, 0, none⟩), .int .i64 b] w (Quiet w (.bool (s.faulted b))) := by
  obtain ⟨p, mm, m1, F, G, Dm, C, k1, _⟩ := h
  exact D.faulted d s F b w k1.real k1.ok
theorem fl_fail (D : DevOk Real) (O : PairOk Real PR) (hZ : FltZ n q Z) (h : Shop Real PR S w0 w d g n q 7 T s P noChg) (hz : Z s) {f a : Nat} (hf : f < halN n) (ha : a = f ∨ a = f + halN n) (h1 : s.faulted (f : Int) = false) (h2 : s.faulted ((f + halN n : Nat) : Int) = false) :
    Calls Tryz.prog 13 #[.pointer (some ⟨d, 0, none⟩), .int .i64 (a : Int)] w fun e w' => (∃ b, e = .returned (.bool b)) ∧ FL Real PR S w0 d g n q P Z w' := by
  have hz2 := hZ.fail s f a hz hf ha h1 h2
  refine (sh_dev O h (hZ.up _ hz2) h.pd.2.1 (Pe := fun e => ∃ b, e = .returned (.bool b)) (fun F hr hok _ => (D.fail d s F a w hr hok).mono fun e w' hx => ⟨⟨_, hx.1⟩, hx.2⟩)).mono ?_
  rintro e w' ⟨he, T', k1, _⟩
  exact ⟨he, T', _, k1, hz2⟩
theorem fl_spoil (D : DevOk Real) (O : PairOk Real PR) (hZ : FltZ n q Z) (h : Shop Real PR S w0 w d g n q 7 T s P noChg) (hz : Z s) {f a : Nat} (hf : f < halN n) (ha : a = f ∨ a = f + halN n) (h1 : s.faulted (f : Int) = false) (h2 : s.faulted ((f + halN n : Nat) : Int) = false) (at' : Int) {bits : Nat} (hb : bits < 4294967296) :
    Calls Tryz.prog 14 #[.pointer (some ⟨d, 0, none⟩), .int .i64 (a : Int), .int .i64 at', .int .u32 (bits : Int)] w fun e w' => (∃ b, e = .returned (.bool b)) ∧ FL Real PR S w0 d g n q P Z w' := by
  have hz2 := hZ.spoil s f a at' bits hz hf ha h1 h2 hb
  refine (sh_dev O h (hZ.up _ hz2) h.pd.2.1 (Pe := fun e => ∃ b, e = .returned (.bool b)) (fun F hr hok _ => (D.spoil d s F a at' bits w hr hok hb).mono fun e w' hx => ⟨⟨_, hx.1⟩, hx.2⟩)).mono ?_
  rintro e w' ⟨he, T', k1, _⟩
  exact ⟨he, T', _, k1, hz2⟩
end
end Go.Proofs.YtajcfhhnmjcmjaaGreatDoor
namespace Go.Proofs.YtajcfhhnmjcmjaaGreatDoor
open Go.RowKit

section
variable {Real : World → Nat → DSt → (Nat → Prop) → Prop} {PR : World → Nat → Nat → Nat → Nat → (Nat → Prop) → Prop}
set_option maxRecDepth 100000 in
set_option maxHeartbeats 16000000 in
theorem keepFaults_any (D : DevOk Real) (O : PairOk Real PR) (S : Nat → Addr) (n0 : Int) (A2 : Option Addr) (len2 cap2 : Nat) (fl2 : List Int) (b : Nat) (w : World) (hS : SentL [0, 1, 2, 3, 4, 5, 6, 8] w S) (hf : Sn w w.heap.size A2 len2 cap2 fl2) :
    Calls Tryz.prog 4 #[.int .i64 n0, .slice A2 len2 cap2, .int .u32 (b : Int)] w (Yes w) := by
  have hS7 : Sent7 w S := fun i hi => hS i (by
    simp only [List.mem_cons, List.not_mem_nil, or_false] at hi ⊢
    omega)
  have HF := hid (first8_any D O w hS7)
  have HOp := hid (fun (w' : World) (hb : Below w.heap.size w w') => opened8X_any D O 400 w' (hS7.on hb) (by omega) (by omega))
  have HD := hid D
  have HO := hid O
  have HS := hid hS7
  have HE := hid (show Errs w (S 2) (S 0) (S 1) from ⟨hS 2 (by decide), hS 0 (by decide), hS 1 (by decide)⟩)
  have HFl := hid hf
  have HK0 := hid (keeps_new (n := 400) (by omega) (by omega))
  have HR0 := hid (rtAll_new (n := 400) (by omega))
  obtain ⟨N, hN, hN40⟩ : ∃ N : Nat, n0 % 40 = (N : Int) ∧ N < 40 := ⟨(n0 % 40).toNat, by omega, by omega⟩
  have HN := hid hN
  clear D O hS hS7 hf hN
  go_enter Tryz.func4, Tryz.ntmps4
  go_wp2_with fail
  refine HF.out.mono ?_
  rintro e w1 ⟨rfl, hb1⟩
  have HB1 := hid hb1
  have HS1 := hid (HS.out.on hb1)
  have HE1 := hid (HE.out.below hb1)
  clear hb1
  by_cases h0 : 20 < len2
  · have k3 : decide ((20 : Int) < len2) = true := by simp; omega
    go_wp2
    go_ret
    exact ⟨rfl, HB1.out⟩
  have k3 : decide ((20 : Int) < len2) = false := by simp; omega
  have HLe := hid h0
  clear h0
  go_wp2_with fail
  refine (number_any n0 40 _ (by omega) (by omega)).mono ?_
  rw [HN.out]
  rintro e w2 ⟨rfl, rfl⟩
  go_wp2_with fail
  refine (HOp.out _ HB1.out).mono ?_
  rintro e w3 ⟨kb, g, d, T3, rfl, hkx, hsh, hnT⟩
  have h3 : KW Real PR S w1 d g 400 (1000 * 0) kb 0 (7 * (0 / 7)) w3 :=
    ⟨0, T3, _, noPS 0, fun _ => none, fun k => k = kb, fun _ => False, .slice none 0 0, none, 0, 0, Nat.zero_le _, hsh, HK0.out, fun _ _ => rfl, fun h => absurd h (by decide), fun _ => ⟨rfl, rfl, rfl⟩, HR0.out, hkx, .inl ⟨rfl, rfl, rfl, rfl, rfl⟩, fun k hk => ⟨fun ht => hnT (hk ▸ ht), fun h => h⟩, fun k hk => hk.elim⟩
  have H3 := hid h3
  clear hkx hsh hnT h3 k3
  go_wp2
  go_loopw [10] (fun iv wr => ∃ i : Nat, i ≤ N ∧ iv = .int .i64 (i : Int) ∧ KW Real PR S w1 d g 400 (1000 * i) kb i (7 * (i / 7)) wr) (fun iv _ => N - (intOf iv).toNat)
  case atStart => exact ⟨0, Nat.zero_le _, rfl, H3.out⟩
  case round =>
    rename World => wx
    obtain ⟨i, hi, rfl, hkw⟩ := hrel
    have HKw := hid hkw
    clear hkw
    by_cases hlt : i < N
    · have hil : (i : Int) < N := by omega
      have hi40 : (i : Int) < 40 := by omega
      have HI := hid (show i < 39 from by omega)
      obtain ⟨W4, hW4⟩ : ∃ W, (wx.alloc (.cells #[.int .u8 9, .int .u8 (i : Int)] 5)).alloc (.cells #[.int .u8 (i : Int), .int .u8 5] 5) = W := ⟨_, rfl⟩
      have hb4 : Below wx.heap.size wx W4 := by rw [← hW4]; exact ((Below.refl _ _).alloc (Nat.le_refl _) _).alloc (by simp) _
      have hk4 : Sl W4 W4.heap.size (some ⟨wx.heap.size, 0, none⟩) 2 2 (keyN i) := by
        rw [← hW4]
        exact sl_pair ((Blk.new wx _ _).alloc _)
      have hv4 : Sl W4 W4.heap.size (some ⟨wx.heap.size + 1, 0, none⟩) 2 2 (valN i) := by
        rw [← hW4]
        have h1 := Blk.new (wx.alloc (.cells #[.int .u8 9, .int .u8 (i : Int)] 5)) 5 #[.int .u8 (i : Int), .int .u8 5]
        rw [World.size_alloc] at h1
        exact sl_pair h1
      have HPut := hid (kw_put HD.out HO.out (kw_on HD.out HO.out HKw.out hb4) (by have := HI.out; omega) hk4 hv4)
      clear hb4 hk4 hv4
      go_wp2_with fail
      refine HPut.out.mono ?_
      rintro e w5 ⟨rfl, hk5⟩
      have HK5 := hid hk5
      clear hk5 HPut hW4
      have Htm := hid (show (i : Int).tmod 7 = ((i % 7 : Nat) : Int) from by rw [Int.tmod_eq_emod_of_nonneg (by omega)]; omega)
      by_cases h6 : i % 7 = 6
      · have g1 : (i : Int).tmod 7 = 6 := by rw [Htm.out]; omega
        have HC := hid (kw_commit HD.out HO.out HS1.out HK5.out (by have := HI.out; omega) (by omega) (by have := HI.out; omega) (by rw [half400]; omega))
        have H6 := hid h6
        clear h6
        go_wp2_with fail
        refine HC.out.mono ?_
        rintro e w6 ⟨rfl, hk6⟩
        have h6 := H6.out
        have HN6 := hid (show KW Real PR S w1 d g 400 (1000 * (i + 1)) kb (i + 1) (7 * ((i + 1) / 7)) w6 from by
          rw [show 7 * ((i + 1) / 7) = i + 1 by omega]
          exact kw_more hk6 (by omega))
        clear hk6 HC g1 h6
        go_wp2
        go_roundw
        case rel => exact ⟨i + 1, by omega, by go_num, HN6.out⟩
        case measure => simp [intOf]; omega
      · have g1 : ((i : Int).tmod 7 == 6) = false := by rw [beq_eq_false_iff_ne, Htm.out]; omega
        have g2 : ¬ (i : Int).tmod 7 = 6 := by rw [Htm.out]; omega
        have HN6 := hid (show KW Real PR S w1 d g 400 (1000 * (i + 1)) kb (i + 1) (7 * ((i + 1) / 7)) w5 from by
          rw [show 7 * ((i + 1) / 7) = 7 * (i / 7) by omega]
          exact kw_more HK5.out (by omega))
        clear h6
        go_wp2
        go_roundw
        case rel => exact ⟨i + 1, by omega, by go_num, HN6.out⟩
        case measure => simp [intOf]; omega
    · obtain rfl : i = N := by omega
      have hnlt : decide (i < i) = false := by simp
      have hN39 : i ≤ 39 := by omega
      have HC := hid (kw_commit HD.out HO.out HS1.out HKw.out (by omega) (by omega) (by omega) (by rw [half400]; omega))
      go_wp2_with fail
      refine HC.out.mono ?_
      rintro e w5 ⟨rfl, hk5⟩
      obtain ⟨q, P, Z, hZ, hq, hfl, hre⟩ := kw_flt HD.out HO.out HS1.out HE1.out hk5 hN39 (by omega)
      have HZ := hid hZ
      have HFL := hid hfl
      have HRe := hid hre
      clear hk5 hZ hfl hre hq HC HKw hlt hnlt
      go_wp2
      go_loopw [11, 12] (fun iv _ wr => ∃ j : Nat, j ≤ len2 ∧ iv = .int .i64 (j : Int) ∧ FL Real PR S w1 d g 400 q P Z wr) (fun iv _ _ => len2 - (intOf iv).toNat)
      case atStart => exact ⟨0, Nat.zero_le _, rfl, HFL.out⟩
      case round =>
        rename World => wy
        obtain ⟨j, hj, rfl, hfl⟩ := hrel
        by_cases hlt2 : j < len2
        · obtain ⟨T, s, hsh, hz⟩ := hfl
          have HSh := hid hsh
          have HZs := hid hz
          have hbw := hsh.below
          have hjl : (j : Int) < len2 := by omega
          obtain ⟨ad2, x, rfl, _, hx, hc⟩ := (HFl.out.below (HB1.out.trans (hbw.mono HB1.out.size))).get hlt2
          have HCx := hid (fun (W : World) (h : Below w1.heap.size w1 W) => (show W.cell? (ad2.add j) = some (.int .i64 x) from by
            obtain ⟨ad', x', e1, _, hx', hc'⟩ := (HFl.out.below (HB1.out.trans (h.mono HB1.out.size))).get hlt2
            cases e1
            rw [hx] at hx'; cases hx'; exact hc'))
          have HJ := hid (show j < 20 from by have := HLe.out; omega)
          have hj20 : (j : Int) < 20 := by have := HJ.out; omega
          clear hx hsh hz hbw
          obtain ⟨k, hk, hk1⟩ : ∃ k : Nat, x % 100 = (k : Int) ∧ k < 100 := ⟨(x % 100).toNat, by omega, by omega⟩
          have hk100 : (k : Int) < 100 := by omega
          go_wp2_with fail
          refine (number_any x 100 _ (by omega) (by omega)).mono ?_
          rw [hk]
          rintro e w9 ⟨rfl, rfl⟩
          have HK := hid hk1
          clear hk hk1
          go_wp2_with fail
          refine (fl_faulted HD.out HSh.out (k : Int)).mono ?_
          rintro e w9 ⟨rfl, q1, rfl⟩
          have HSh1 := hid (HSh.out.on HD.out HO.out (below_drewN (Below.refl _ _) q1))
          rcases hf1 : s.faulted (k : Int) with _ | _
          · have HF1 := hid hf1
            clear hf1
            go_wp2_with fail
            refine (fl_faulted HD.out HSh1.out ((k : Int) + 100)).mono ?_
            rintro e w9 ⟨rfl, q2, rfl⟩
            have HSh2 := hid (HSh1.out.on HD.out HO.out (below_drewN (Below.refl _ _) q2))
            rcases hf2 : s.faulted ((k : Int) + 100) with _ | _
            · have HF2 := hid (show s.faulted ((k + halN 400 : Nat) : Int) = false from by
                have e : ((k + halN 400 : Nat) : Int) = (k : Int) + 100 := by rw [half400]; omega
                rw [e]
                exact hf2)
              clear hf2 hc
              generalize (wy.drewN q1).drewN q2 = W at HSh2 ⊢
              have hc := HCx.out W HSh2.out.below
              obtain ⟨b1, hb1, hb1e⟩ := and1K (wrap64 (x.tdiv 100))
              have hb1f : bits .and .i64 (IntKind.i64.wrap (x.tdiv 100)) 1 = (b1 : Int) := (congrArg (fun z => bits .and .i64 z 1) (IntWalk.i64_left _)).trans hb1e
              have hb1i : (b1 : Int) ≤ 1 := by omega
              have hw1 : IntKind.i64.wrap (100 * (b1 : Int)) = 100 * (b1 : Int) := by rw [IntKind.wrap_i64]; omega
              have hw2 : IntKind.i64.wrap ((k : Int) + 100 * (b1 : Int)) = (k : Int) + 100 * (b1 : Int) := by rw [IntKind.wrap_i64]; omega
              have HAb := hid (show (k + 100 * b1 = k ∨ k + 100 * b1 = k + halN 400) ∧ k < halN 400 ∧ ((k + 100 * b1 : Nat) : Int) = (k : Int) + 100 * (b1 : Int) from by
                have := HK.out
                rw [half400]
                omega)
              rcases hm : (x.tmod 3 == 0) with _ | _
              · obtain ⟨b2, hb2, hb2e⟩ := or1K b
                have HSp := hid (fun (z : Int) => fl_spoil HD.out HO.out HZ.out HSh2.out HZs.out HAb.out.2.1 HAb.out.1 HF1.out HF2.out z hb2)
                rw [HAb.out.2.2] at HSp
                go_wp2_with fail
                refine (number_any (wrap64 (x.tdiv 7)) 253 _ (by omega) (by omega)).mono ?_
                rintro e w9 ⟨rfl, rfl⟩
                go_wp2_with fail
                refine (HSp.out _).mono ?_
                rintro e w9 ⟨⟨b9, rfl⟩, hfl9⟩
                have HN := hid hfl9
                clear hfl9 hc
                go_wp2
                go_roundw
                case rel => exact ⟨j + 1, by omega, by go_num, HN.out⟩
                case measure => simp [intOf]; omega
              · have HFa := hid (fl_fail HD.out HO.out HZ.out HSh2.out HZs.out HAb.out.2.1 HAb.out.1 HF1.out HF2.out)
                rw [HAb.out.2.2] at HFa
                go_wp2_with fail
                refine HFa.out.mono ?_
                rintro e w9 ⟨⟨b9, rfl⟩, hfl9⟩
                have HN := hid hfl9
                clear hfl9 hc
                go_wp2
                go_roundw
                case rel => exact ⟨j + 1, by omega, by go_num, HN.out⟩
                case measure => simp [intOf]; omega
            · have HN := hid (show FL Real PR S w1 d g 400 q P Z (wy.drewN (q1 + q2)) from ⟨T, s, HSh.out.on HD.out HO.out (below_drewN (Below.refl _ _) (q1 + q2)), HZs.out⟩)
              clear hf2 hc
              go_wp2
              go_roundw
              case rel => exact ⟨j + 1, by omega, by go_num, HN.out⟩
              case measure => simp [intOf]; omega
          · have HN := hid (show FL Real PR S w1 d g 400 q P Z (wy.drewN q1) from ⟨T, s, HSh1.out, HZs.out⟩)
            clear hf1 hc
            go_wp2
            go_roundw
            case rel => exact ⟨j + 1, by omega, by go_num, HN.out⟩
            case measure => simp [intOf]; omega
        · have hnlt2 : decide (j < len2) = false := by simpa using hlt2
          have HRe2 := hid (HRe.out wy hfl)
          have HN39 := hid hN39
          clear hfl
          go_wp2_with fail
          refine HRe2.out.mono ?_
          rintro e w6 ⟨kb2, s2, lv2, F2, b2, rfl, hkx, hb6⟩
          have HKx := hid hkx
          have HB6 := hid (HB1.out.trans (hb6.mono HB1.out.size))
          clear hkx hb6 HRe2
          go_wp2_with fail
          refine (kpLenX_any b2 kb2 s2 lv2 F2 (recsN i) w6 HKx.out).mono ?_
          rw [recsN_len]
          rintro e w7 ⟨rfl, hb7⟩
          have HKx7 := hid (HKx.out.on hb7)
          have HB7 := hid (HB6.out.trans (hb7.mono HB6.out.size))
          clear hb7
          go_wp2
          go_loopw [14, 15, 16] (fun iv _ _ wr => ∃ m : Nat, m ≤ i ∧ iv = .int .i64 (m : Int) ∧ KpX wr b2 kb2 s2 lv2 F2 (recsN i) ∧ Below w.heap.size w wr) (fun iv _ _ _ => i - (intOf iv).toNat)
          case atStart => exact ⟨0, Nat.zero_le _, rfl, HKx7.out, HB7.out⟩
          case round =>
            rename World => wz
            obtain ⟨m, hm, rfl, hkz, hbz⟩ := hrel
            have HKz := hid hkz
            have HBz := hid hbz
            clear hkz hbz
            by_cases hlt3 : m < i
            · have hmi : (m : Int) < i := by omega
              have hm40 : (m : Int) < 40 := by have := HN39.out; omega
              have HM := hid (show m < 40 from by omega)
              obtain ⟨W4, hW4⟩ : ∃ W, wz.alloc (.cells #[.int .u8 9, .int .u8 (m : Int)] 5) = W := ⟨_, rfl⟩
              have hb4 : Below wz.heap.size wz W4 := by rw [← hW4]; exact (Below.refl _ _).alloc (Nat.le_refl _) _
              have hk4 : Sl W4 W4.heap.size (some ⟨wz.heap.size, 0, none⟩) 2 2 (keyN m) := by
                rw [← hW4]
                exact sl_pair (Blk.new wz _ _)
              have HGet := hid (getX_any b2 kb2 s2 lv2 F2 (recsN i) _ 2 2 m (keyN m) (strOfNums (valN m)) W4 (HKz.out.on hb4) hk4 (recsN_at hlt3))
              have HB4 := hid hb4
              clear hb4 hk4
              go_wp2_with fail
              refine HGet.out.mono ?_
              rintro e w8 ⟨A8, k8, c8, rfl, hs8, hb8⟩
              have HS8 := hid hs8
              have HB8 := hid (HB4.out.trans (hb8.mono HB4.out.size))
              clear hs8 hb8 hW4 HGet
              obtain ⟨W9, hW9⟩ : ∃ W, w8.alloc (.cells #[.int .u8 (m : Int), .int .u8 5] 5) = W := ⟨_, rfl⟩
              have hb9 : Below w8.heap.size w8 W9 := by rw [← hW9]; exact (Below.refl _ _).alloc (Nat.le_refl _) _
              have hv9 : Sl W9 W9.heap.size (some ⟨w8.heap.size, 0, none⟩) 2 2 (valN m) := by
                rw [← hW9]
                exact sl_pair (Blk.new w8 _ _)
              have HSm := hid (same_any A8 (some ⟨w8.heap.size, 0, none⟩) k8 c8 2 2 _ _ _ _ W9 (HS8.out.on hb9) hv9)
              have HB9 := hid (HB8.out.trans (hb9.mono HB8.out.size))
              have HEq := hid (show sameB (str (strOfNums (valN m))) (valN m) = true from by rw [str_back (valN_byt HM.out)]; exact same_self _)
              clear hb9 hv9
              go_wp2_with fail
              refine HSm.out.mono ?_
              rw [HEq.out]
              rintro e w9 ⟨rfl, q9, rfl⟩
              have HN := hid (show KpX (W9.drewN q9) b2 kb2 s2 lv2 F2 (recsN i) ∧ Below w.heap.size w (W9.drewN q9) from ⟨HKz.out.on (below_drewN HB9.out q9), below_drewN (HBz.out.trans (HB9.out.mono HBz.out.size)) q9⟩)
              clear hW9
              go_wp2
              go_roundw
              case rel => exact ⟨m + 1, by omega, by go_num, HN.out.1, HN.out.2⟩
              case measure => simp [intOf]; omega
            · have hnlt3 : decide (m < i) = false := by simpa using hlt3
              go_wp2
              go_ret
              exact ⟨rfl, HBz.out⟩
end
end Go.Proofs.YtajcfhhnmjcmjaaGreatDoor
namespace Go.Proofs.YtajcfhhnmjcmjaaGreatDoor
open Go.ChangeShapes Go.WideShapes Go.ChangeAt Go.RowKit

theorem keepFaults_all (n : Int) (B : Option Addr) (len' cap' : Nat) (ys : List Int) (z : Int) (w : World) (_ : (Lit.int .i64 n).wf = true) (hr' : IsRow .i64 w B len' cap' ys) (hz : (Lit.int .u32 z).wf = true) (hL : laidMetH Tryz.prog laid8 w) :
    Calls Tryz.prog 4 #[.int .i64 n, .slice B len' cap', .int .u32 z] w (Yes w) := by
  obtain ⟨S, hS⟩ := sent8_of_laid hL
  have hb := bounds_u32 hz
  obtain ⟨y, rfl⟩ : ∃ y : Nat, z = (y : Int) := ⟨z.toNat, by omega⟩
  exact keepFaults_any dvOk (prOk dvOk) S n B len' cap' _ y w hS (sn_of_row hr').1
end Go.Proofs.YtajcfhhnmjcmjaaGreatDoor
