/- The walk of RootBytes. -/
import Derived.Test.YthgdofcamjkdpaaDoorGRootN
import Derived.Deep.DeepCutAuto
import Derived.Deep.CutBlock
namespace Go.Proofs.YthgdofcamjkdpaaDoor
open Go.RowKit

theorem sl_blk {w : World} {g : Nat} {l : List Int} (h : Blk w g 5 (I l).toArray) (hl : l.length ≤ 1000) : Sl w w.heap.size (some ⟨g, 0, none⟩) l.length l.length l := by
  refine ⟨rfl, Nat.le_refl _, by unfold maxLen; omega, (fun h => by cases h), fun ad ha _ => ?_⟩
  cases ha
  refine ⟨h.lt, fun j x hx => ?_⟩
  have e : (⟨g, 0, none⟩ : Addr).add j = ⟨g, j, none⟩ := by unfold Addr.add; split <;> simp_all
  rw [e, h.cell j]
  simpa using I_get hx
/-- what the law itself reckons -/
theorem code_of {r : RSt} {la : Nat} (hl : r.refs.length = la) : (if r.epoch < 1 ∨ 1099511627776 < r.epoch then 103 else if badAddr r.refs = true then 103 else if 16 < la then 104 else 0) = r.code := by
  subst hl; rfl
theorem bad_mk {l : List Int} {k : Nat} {x : Int} (hx : l[k]? = some x) : badAddr (mkR (l.take (k + 1))) = (badAddr (mkR (l.take k)) || decide (x < 0 ∨ 6000 < x)) := by
  rw [mkR_next hx]
  simp [badAddr, mkRef]
theorem bytesQ_any (S : Nat → Addr) {o : RV} {r : RSt} (w : World) (hS : Sent6 w S) (ho : o.Is r w) (hs : Sums r.refs) (h0 : -9223372036854775808 ≤ r.epoch) (h1 : r.epoch ≤ 9223372036854775807) :
    Calls Tryd.prog 6 #[o.v] w (BytesOut S w r) := by
  have he : o.v = rtV r.epoch o.A o.n o.c := by show rtV o.e o.A o.n o.c = _; rw [ho.1]
  rw [he]
  exact rootBytes_any S r o.A o.n o.c w hS ho.2 hs h0 h1
section
variable {Real : World → Nat → DSt → (Nat → Prop) → Prop}
set_option maxRecDepth 100000 in
set_option maxHeartbeats 4000000 in
theorem rootBytes_long (D : DevOk Real) (S : Nat → Addr) (a : Int) (A : Option Addr) (la ca : Nat) (cut : Int) (w : World) (hS : Sent w S) (hla : 30 < la) :
    Calls Tryd.prog 3 #[.int .i64 a, .slice A la ca, .int .i64 cut] w (Yes w) := by
  have HF := hid (first6_any D S w hS.six)
  have g30 : decide ((30 : Int) < (la : Int)) = true := by simp; omega
  clear hS D hla
  go_enter Tryd.func3, Tryd.ntmps3
  go_wp2_with fail
  refine HF.out.mono ?_
  rintro e w1 ⟨rfl, hb1⟩
  have HB1 := hid hb1
  clear hb1
  go_wp2
  go_ret
  exact ⟨rfl, HB1.out⟩
set_option maxRecDepth 100000 in
set_option maxHeartbeats 8000000 in
theorem rootBytes_few (D : DevOk Real) (S : Nat → Addr) (a : Int) (A : Option Addr) (la ca : Nat) (l : List Int) (cut : Int) (w : World) (hS : Sent w S) (hl : Sn w w.heap.size A la ca l) (hla : la ≤ 30) (a0 : -9223372036854775808 ≤ a) (a1 : a ≤ 9223372036854775807) :
    Calls Tryd.prog 3 #[.int .i64 a, .slice A la ca, .int .i64 cut] w (Yes w) := by
  have HS := hid hS
  have HD := hid D
  have HL := hid hl
  have HLa := hid hla
  have HAb := hid (show -9223372036854775808 ≤ a ∧ a ≤ 9223372036854775807 from ⟨a0, a1⟩)
  obtain ⟨r, hr⟩ : ∃ r, mkRoot a l = r := ⟨_, rfl⟩
  have HR := hid (show r.epoch = a ∧ Sums r.refs ∧ r.refs = mkR l ∧ r.refs.length = la from by rw [← hr]; exact ⟨rfl, mkR_sums _, rfl, by show (mkR l).length = la; rw [mkR_len, hl.len]⟩)
  have HR' := hid hr
  obtain ⟨p, hp⟩ : ∃ p : Nat, cut % 256 = (p : Int) := ⟨(cut % 256).toNat, by omega⟩
  have HP := hid hp
  have HP2 := hid (show (p : Int) ≤ 255 by omega)
  have g30 : decide ((30 : Int) < (la : Int)) = false := by simp; omega
  clear hS D hl hla a0 a1 hr hp
  go_enter Tryd.func3, Tryd.ntmps3
  go_wp2_with fail
  refine (first6_any HD.out S _ HS.out.six).mono ?_
  rintro e w1 ⟨rfl, hb1⟩
  have HB1 := hid hb1
  have HL1 := hid (hl_on HL.out hb1)
  clear hb1
  go_upto_if 33 with fail
  go_cut [8] (fun s8 wx => s8 = .int .i64 (if 16 < la then 104 else 0) ∧ wx = w1)
  case first =>
    by_cases h16 : 16 < la
    · have g : decide ((16 : Int) < (la : Int)) = true := by simp; omega
      go_wp2
      go_meet
      exact ⟨by rw [if_pos h16], rfl⟩
    · have g : decide ((16 : Int) < (la : Int)) = false := by simp; omega
      go_wp2
      go_meet
      exact ⟨by rw [if_neg h16], rfl⟩
  case rest =>
    obtain ⟨rfl, rfl⟩ := hcut
    rename World => w1
    obtain ⟨b0, hb0⟩ : ∃ b0 : Int, (if 16 < la then 104 else 0) = b0 := ⟨_, rfl⟩
    have HB0 := hid hb0
    rw [hb0]
    clear hb0
    have hmx : (la : Int) ≤ 30 := by have := HLa.out; omega
    go_upto_block 0 with fail
    go_cut [8] (fun s8 wx => s8 = .int .i64 (if badAddr r.refs = true then 103 else b0) ∧ Below w1.heap.size w1 wx)
    case first =>
      go_wp2
      go_loopw [9, 8] (fun i s8 wr => ∃ k : Nat, k ≤ la ∧ i = .int .i64 (k : Int) ∧ s8 = .int .i64 (if badAddr (mkR (l.take k)) = true then 103 else b0) ∧ Below w1.heap.size w1 wr) (fun i _ _ => la - (intOf i).toNat)
      case atStart => exact ⟨0, Nat.zero_le _, rfl, by rw [if_neg (by simp [badAddr, mkR])], Below.refl _ _⟩
      case round =>
        obtain ⟨k, hk, rfl, rfl, hb⟩ := hrel
        have HBk := hid hb
        by_cases hlt : k < la
        · obtain ⟨ad, x, rfl, hbl, hx, hc⟩ := (HL1.out.below HBk.out).get hlt
          have HX := hid (bad_mk hx)
          clear hx hbl
          obtain ⟨s, hs⟩ : ∃ s : Int, (if badAddr (mkR (l.take k)) = true then 103 else b0) = s := ⟨_, rfl⟩
          have HSs := hid hs
          rw [hs]
          clear hs
          have hkn : (k : Int) < la := by omega
          by_cases h0 : x < 0
          · have g : decide (x < 0) = true := by simpa using h0
            go_wp2
            go_roundw
            case rel => exact ⟨k + 1, by omega, by go_num, by rw [HX.out, if_pos (by simp [h0])], HBk.out⟩
            case measure => simp [intOf]; omega
          · have g : decide (x < 0) = false := by simpa using h0
            by_cases h6 : 6000 < x
            · have g' : decide (6000 < x) = true := by simpa using h6
              go_wp2
              go_roundw
              case rel => exact ⟨k + 1, by omega, by go_num, by rw [HX.out, if_pos (by simp [h6])], HBk.out⟩
              case measure => simp [intOf]; omega
            · have g' : decide (6000 < x) = false := by simpa using h6
              go_wp2
              go_roundw
              case rel => exact ⟨k + 1, by omega, by go_num, by rw [HX.out, ← HSs.out]; simp [h0, h6], HBk.out⟩
              case measure => simp [intOf]; omega
        · have hkl : mkR (l.take k) = r.refs := by rw [List.take_of_length_le (by rw [HL.out.len]; omega), HR.out.2.2.1]
          rw [hkl]
          clear hkl hb
          obtain ⟨s, hs⟩ : ∃ s : Int, (if badAddr r.refs = true then 103 else b0) = s := ⟨_, rfl⟩
          have HSs := hid hs
          rw [hs]
          clear hs
          have hnlt : decide (k < la) = false := by simpa using hlt
          go_wp2
          go_meet
          exact ⟨by rw [HSs.out], HBk.out⟩
    case rest =>
      obtain ⟨rfl, hb⟩ := hcut
      have HB2 := hid (HB1.out.trans (hb.mono HB1.out.size))
      have HL2 := hid (hl_on HL1.out hb)
      clear hb
      obtain ⟨b1, hb1⟩ : ∃ b1 : Int, (if badAddr r.refs = true then 103 else b0) = b1 := ⟨_, rfl⟩
      have HB1' := hid hb1
      rw [hb1]
      clear hb1
      rename World => w2
      go_upto_region 14 with fail
      go_cut [57] (fun s wx => s = .bool (decide (a < 1 ∨ 1099511627776 < a)) ∧ wx = w2)
      case first =>
        by_cases h1 : a < 1
        · have g : decide (a < 1) = true := by simpa using h1
          go_wp2
          go_meet
          exact ⟨by simp [h1], rfl⟩
        · have HN1 := hid h1
          have g : decide (a < 1) = false := by simpa using h1
          clear h1
          go_wp2
          go_meet
          exact ⟨by have := HN1.out; simp; omega, rfl⟩
      case rest =>
      obtain ⟨rfl, rfl⟩ := hcut
      rename World => w2
      obtain ⟨bd, hbd⟩ : ∃ bd : Bool, decide (a < 1 ∨ 1099511627776 < a) = bd := ⟨_, rfl⟩
      have HBd := hid hbd
      rw [hbd]
      clear hbd
      go_upto_if 57 with fail
      go_cut [8] (fun s8 wx => s8 = .int .i64 r.code ∧ wx = w2)
      case first =>
        have hcode := code_of HR.out.2.2.2
        rw [HB0.out, HB1'.out, HR.out.1] at hcode
        have HC := hid hcode
        clear hcode
        cases bd
        · go_wp2
          go_meet
          exact ⟨by rw [← HC.out, if_neg (by simpa using HBd.out)], rfl⟩
        · go_wp2
          go_meet
          exact ⟨by rw [← HC.out, if_pos (by simpa using HBd.out)], rfl⟩
      case rest =>
        obtain ⟨rfl, rfl⟩ := hcut
        rename World => w2
        go_wp2_with fail
        refine (made_any a A la ca l _ HL2.out (by have := HLa.out; omega)).mono ?_
        rw [HR'.out]
        rintro e w3 ⟨o, rfl, ho, hb, _⟩
        have HO := hid ho
        have HB3 := hid (HB2.out.trans (hb.mono HB2.out.size))
        have HL3 := hid (hl_on HL2.out hb)
        clear ho hb
        go_wp2_with fail
        refine (bytesQ_any S _ (HS.out.six.on HB3.out) HO.out HR.out.2.1 (by rw [HR.out.1]; exact HAb.out.1) (by rw [HR.out.1]; exact HAb.out.2)).mono ?_
        rintro e w4 ⟨hx, hb⟩
        have HB4 := hid (HB3.out.trans (hb.mono HB3.out.size))
        have HL4 := hid (hl_on HL3.out hb)
        clear hb
        rcases hx with ⟨hc, A3, c3, rfl, hsl, _⟩ | ⟨hc, v, rfl, hv⟩
        rotate_left
        · have HC := hid hc
          have HV := hid hv
          obtain ⟨cd, hcd⟩ : ∃ cd, r.code = cd := ⟨_, rfl⟩
          rw [hcd] at HV HC
          rw [hcd]
          clear hc hv hcd
          obtain ⟨j, rfl⟩ := HV.out.is HC.out
          go_wp2_with fail
          refine (is_any S cd cd _ _ (HS.out.on HB4.out) HV.out).mono ?_
          rw [show (cd == cd) = true from by simp]
          rintro e w5 ⟨rfl, hb⟩
          have HB5 := hid (HB4.out.trans (hb.mono HB4.out.size))
          clear hb
          go_wp2
          go_ret
          exact ⟨rfl, HB5.out⟩
        have HC := hid hc
        have HSl := hid hsl
        rw [hc]
        clear hc hsl
        go_wp2_with fail
        refine (is_any S 0 0 _ _ (HS.out.on HB4.out) .fine).mono ?_
        rw [show ((0 : Int) == 0) = true from by simp]
        rintro e w5 ⟨rfl, hb⟩
        have HB5 := hid (HB4.out.trans (hb.mono HB4.out.size))
        have HL5 := hid (hl_on HL4.out hb)
        have HSl5 := hid (HSl.out.on hb)
        clear hb
        go_wp2_with fail
        refine (read_any S A3 256 c3 (bytesOf r) _ (HS.out.six.on HB5.out) HSl5.out (bytesOf_byt r)).mono ?_
        rintro e w6 ⟨A6, n6, c6, rfl, hrf, hb, _⟩
        rw [show (readR (bytesOf r)).isSome = true from by rw [readR_bytes HC.out HR.out.2.1]; rfl]
        have hro : rootOr (bytesOf r) = r := by unfold rootOr; rw [readR_bytes HC.out HR.out.2.1]; rfl
        rw [hro] at hrf
        rw [hro]
        obtain ⟨ep, hep⟩ : ∃ ep, r.epoch = ep := ⟨_, rfl⟩
        rw [hep]
        have hal : Below w6.heap.size w6 (w6.alloc (.cells #[.int .i64 ep, .slice A6 n6 c6] 31)) := (Below.refl _ _).alloc (Nat.le_refl _) _
        have HKb := hid (Blk.new w6 31 #[.int .i64 ep, .slice A6 n6 c6])
        have hb6 := hb.trans (hal.mono hb.size)
        have HB6 := hid (HB5.out.trans (hb6.mono HB5.out.size))
        have HL6 := hid (hl_on HL5.out hb6)
        have HSl6 := hid (HSl5.out.on hb6)
        have HX6 := hid (show (RV.mk ep A6 n6 c6).Is r (w6.alloc (.cells #[.int .i64 ep, .slice A6 n6 c6] 31)) from RV.Is.on ⟨hep.symm, hrf⟩ hal)
        clear hro hep hrf hb hal hb6
        obtain ⟨i0, hi, hz0, hz1, hz2⟩ := info_parts Tryd.info5
        go_upto_region 22 with fail
        obtain ⟨W6, hW6⟩ : ∃ W6, w6.alloc (.cells #[.int .i64 ep, .slice A6 n6 c6] 31) = W6 := ⟨_, rfl⟩
        have hz6 : W6.heap.size = w6.heap.size + 1 := by rw [← hW6]; simp
        have HZ6 := hid hz6
        rw [hW6] at HKb HB6 HL6 HSl6 HX6 ⊢
        clear hW6 hz6
        go_wp2_with (at_make; refine wpList_make_full _ rfl _ _ 24 rfl W6.heap.size 5 i0 (.int .u8 0) 1 Tryd.underlying24 hi hz0 hz1 _ _ _ _ 256 rfl rfl rfl rfl ?b2 ?b3 ?b4 ?_)
        case b2 => rw [hz2]; omega
        case b3 => unfold maxLen; omega
        case b4 => exact Nat.le_refl _
        intro w7 hown hgrow
        have hbm : Below W6.heap.size W6 w7 := (Below.refl _ _).grown hgrow (Nat.le_refl _) (fun _ h => by cases h)
        have HZs := hid (show Sl w7 w7.heap.size (some ⟨W6.heap.size, 0, none⟩) 256 256 (List.replicate 256 0) from by
          have h := Own.form (l := List.replicate 256 0) (show Own w7 W6.heap.size (.slice (some ⟨W6.heap.size, 0, none⟩) 256 256) (List.replicate 256 0) from by rw [zeros] at hown; exact hown)
          obtain ⟨A', c', hv, hs, _⟩ := h
          cases hv
          exact hs)
        have HB7 := hid (HB6.out.trans (hbm.mono HB6.out.size))
        have HL7 := hid (hl_on HL6.out hbm)
        have HSl7 := hid (HSl6.out.on hbm)
        have HKb7 := hid (HKb.out.below hbm HKb.out.lt)
        have HX7 := hid (RV.Is.on HX6.out hbm)
        clear hown hgrow hbm
        have hzn : readR (List.replicate 256 0) = none := readR_zeros
        have HZn := hid hzn
        clear hzn
        go_wp2_with fail
        refine (read_any S _ 256 256 (List.replicate 256 0) _ (HS.out.six.on HB7.out) HZs.out (fun x hx => by rw [List.eq_of_mem_replicate hx]; omega)).mono ?_
        rintro e w8 ⟨A8, n8, c8, rfl, _, hb, _⟩
        rw [show (readR (List.replicate 256 0)).isSome = false from by rw [HZn.out]; rfl]
        obtain ⟨e8, he8⟩ : ∃ e8, (rootOr (List.replicate 256 0)).epoch = e8 := ⟨_, rfl⟩
        rw [he8]
        have hal : Below w8.heap.size w8 (w8.alloc (.cells #[.int .i64 e8, .slice A8 n8 c8] 31)) := (Below.refl _ _).alloc (Nat.le_refl _) _
        have hb8 := hb.trans (hal.mono hb.size)
        have HB8 := hid (HB7.out.trans (hb8.mono HB7.out.size))
        have HL8 := hid (hl_on HL7.out hb8)
        have HSl8 := hid (HSl7.out.on hb8)
        have HKb8 := hid (HKb7.out.below hb8 HKb7.out.lt)
        have HX8 := hid (RV.Is.on HX7.out hb8)
        clear hb hal hb8 he8
        go_upto_region 23 with fail
        generalize w8.alloc (.cells #[.int .i64 e8, .slice A8 n8 c8] 31) = W8 at HB8 HL8 HSl8 HKb8 HX8 ⊢
        go_wp2_with fail
        refine (number_any cut 256 _ (by omega) (by omega)).mono ?_
        rw [HP.out]
        rintro e w9 ⟨rfl, rfl⟩
        have HHd := hid (HSl8.out.head (k := p) (by have := HP2.out; omega))
        have hpc : p ≤ c3 := by have := HP2.out; have := HSl8.out.cap; omega
        have hp2 := HP2.out
        go_wp2_with fail
        have hsh : readR ((bytesOf r).take p) = none := readR_short (by rw [List.length_take]; omega)
        have HSh := hid hsh
        clear hsh
        refine (read_any S A3 p c3 ((bytesOf r).take p) _ (HS.out.six.on HB8.out) HHd.out ((bytesOf_byt r).take p)).mono ?_
        rintro e w10 ⟨A10, n10, c10, rfl, _, hb, _⟩
        rw [show (readR ((bytesOf r).take p)).isSome = false from by rw [HSh.out]; rfl]
        obtain ⟨e10, he10⟩ : ∃ e10, (rootOr ((bytesOf r).take p)).epoch = e10 := ⟨_, rfl⟩
        rw [he10]
        have hal : Below w10.heap.size w10 (w10.alloc (.cells #[.int .i64 e10, .slice A10 n10 c10] 31)) := (Below.refl _ _).alloc (Nat.le_refl _) _
        have hb10 := hb.trans (hal.mono hb.size)
        have HB10 := hid (HB8.out.trans (hb10.mono HB8.out.size))
        have HL10 := hid (hl_on HL8.out hb10)
        have HSl10 := hid (HSl8.out.on hb10)
        have HKb10 := hid (HKb8.out.below hb10 HKb8.out.lt)
        have HX10 := hid (RV.Is.on HX8.out hb10)
        clear hb hal hb10 he10 hpc hp2
        go_upto_region 24 with fail
        generalize w10.alloc (.cells #[.int .i64 e10, .slice A10 n10 c10] 31) = W10 at HB10 HL10 HSl10 HKb10 HX10 ⊢
        go_wp2_with fail
        refine (bytes_any A3 256 c3 (bytesOf r) _ HSl10.out (by omega)).mono ?_
        rintro e w11 ⟨v11, rfl, hown, hb⟩
        have HO11 := hid hown
        have HBq := hid hb
        have HB11 := hid (HB10.out.trans (hb.mono HB10.out.size))
        have HL11 := hid (hl_on HL10.out hb)
        have HKb11 := hid (HKb10.out.below hb HKb10.out.lt)
        have HX11 := hid (RV.Is.on HX10.out hb)
        have HLn := hid (show (bytesOf r).length = 256 from bytesOf_len (RSt.fine HC.out).2.2.2)
        have HGs := hid hb.size
        clear hown hb
        go_wp2_with (at_builtin; refine wpList_append_own _ rfl _ _ 24 rfl W10.heap.size 5 i0 (.int .u8 0) 1 1 Tryd.underlying24 hi hz0 hz1 hz2 rfl (by decide) _ _ _ rfl (World.ownsRow.alloc HO11.out _) ⟨w11.heap.size, 0, none⟩ 1 1 [.int .u8 0] rfl rfl ?c1 ?c2 ?c3 ?c4 ?c5 ?_)
        case c1 => exact cell_one_new _ _ _
        case c2 => intro u hu; simp at hu; subst hu; rfl
        case c3 => rw [HLn.out]; unfold maxLen; omega
        case c4 => rw [HLn.out]; omega
        case c5 => have := HGs.out; simp; omega
        intro v12 w12 hown' hgrow _
        have hown2 : Own w12 W10.heap.size v12 (bytesOf r ++ [0]) := by
          unfold Own
          rw [I_append, List.length_append]
          simpa [I] using hown'
        obtain ⟨A12, c12, rfl, hsl, _⟩ := hown2.form
        have hb12 : Below W10.heap.size W10 w12 := (HBq.out.alloc HGs.out _).grown hgrow (by have := HGs.out; simp; omega) (fun k hk => (HO11.out.lt k hk).1)
        have HL12 := hid (show Sl w12 w12.heap.size A12 257 c12 (bytesOf r ++ [0]) from by rw [List.length_append, HLn.out] at hsl; exact hsl)
        have HN12 := hid (show (bytesOf r ++ [0]).length = 257 from by rw [List.length_append, HLn.out]; rfl)
        rw [HN12.out]
        have HB12 := hid (HB10.out.trans (hb12.mono HB10.out.size))
        have HLl12 := hid (hl_on HL10.out hb12)
        have HKb12 := hid (HKb10.out.below hb12 HKb10.out.lt)
        have HX12 := hid (RV.Is.on HX10.out hb12)
        clear hown' hgrow hown2 hsl hb12
        have hlg : readR (bytesOf r ++ [0]) = none := readR_short (by rw [HN12.out]; omega)
        have HLg := hid hlg
        clear hlg
        obtain ⟨bl, hbl⟩ : ∃ bl, bytesOf r ++ [0] = bl := ⟨_, rfl⟩
        have HBy := hid (show Byt bl from by rw [← hbl]; exact (bytesOf_byt r).append (fun x hx => by rw [List.mem_singleton.1 hx]; omega))
        rw [hbl] at HL12 HLg HN12
        clear hbl
        go_wp2_with fail
        refine (read_any S A12 257 c12 bl _ (HS.out.six.on HB12.out) HL12.out HBy.out).mono ?_
        rintro e w13 ⟨A13, n13, c13, rfl, _, hb, _⟩
        rw [show (readR bl).isSome = false from by rw [HLg.out]; rfl]
        obtain ⟨e13, he13⟩ : ∃ e13, (rootOr bl).epoch = e13 := ⟨_, rfl⟩
        rw [he13]
        have hal : Below w13.heap.size w13 (w13.alloc (.cells #[.int .i64 e13, .slice A13 n13 c13] 31)) := (Below.refl _ _).alloc (Nat.le_refl _) _
        have hb13 := hb.trans (hal.mono hb.size)
        have HB13 := hid (HB12.out.trans (hb13.mono HB12.out.size))
        have HL13 := hid (hl_on HLl12.out hb13)
        have HKb13 := hid (HKb12.out.below hb13 HKb12.out.lt)
        have HX13 := hid (RV.Is.on HX12.out hb13)
        clear hb hal hb13 he13
        go_upto_region 25 with fail
        generalize w13.alloc (.cells #[.int .i64 e13, .slice A13 n13 c13] 31) = W13 at HB13 HL13 HKb13 HX13 ⊢
        have k0 := HKb13.out.cell 0
        have k1 := HKb13.out.cell 1
        simp at k0 k1
        have HMd := hid (made_any a A la ca l W13.drew (hl_on HL13.out (below_drewN (Below.refl _ _) 1)) (by have := HLa.out; omega))
        rw [HR'.out] at HMd
        have HKp := hid (fun w7 (hb : Below W13.drew.heap.size W13.drew w7) => (show (w7.cell? ⟨w6.heap.size, 0, none⟩ = some (.int .i64 ep) ∧ w7.cell? ⟨w6.heap.size, 1, none⟩ = some (.slice A6 n6 c6)) ∧ (RV.mk ep A6 n6 c6).Is r w7 ∧ Below w.heap.size w w7 from by
          have hk := HKb13.out.drew.below hb HKb13.out.lt
          exact ⟨⟨hk.cell 0, hk.cell 1⟩, RV.Is.on HX13.out (show Below W13.heap.size W13 w7 from ⟨hb.os, hb.tape, hb.output, hb.size, hb.block⟩), HB13.out.drew.trans (hb.mono HB13.out.size)⟩))
        go_region_held3 (fun w' => w'.cell? ⟨w6.heap.size, 0, none⟩ = some (.int .i64 ep) ∧ w'.cell? ⟨w6.heap.size, 1, none⟩ = some (.slice A6 n6 c6)) (first | exact ⟨k0, k1⟩ | exact hk7 | exact hk8 | go_keep)
          ((first | (go_at_call 7; refine HMd.out.mono ?_; rintro e w7 ⟨o7, rfl, ho7, hb7, _⟩; obtain ⟨hk7, hx7, hbw7⟩ := HKp.out w7 hb7; have HX7 := hid hx7; have HO7 := hid ho7; have HB7 := hid hbw7; have HK7 := hid (fun w8 (hb : Below w7.heap.size w7 w8) => HKp.out w8 (hb7.trans (hb.mono hb7.size))); clear ho7 hb7 hx7 hbw7) | (go_at_call 12; refine (sameRoot_any (RV.mk ep A6 n6 c6) o7 r r _ HX7.out HO7.out).mono ?_; rintro e w8 ⟨rfl, hb8⟩; obtain ⟨hk8, _, hbw8⟩ := HK7.out w8 hb8; have HB8 := hid hbw8; clear hb8 hbw8)))
        go_wp2
        go_ret
        exact ⟨by simp, HB8.out⟩
end
end Go.Proofs.YthgdofcamjkdpaaDoor
