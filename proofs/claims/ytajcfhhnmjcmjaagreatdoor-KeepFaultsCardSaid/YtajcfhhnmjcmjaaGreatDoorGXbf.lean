/- Put together out of 10 texts. Scan. -/
import Derived.Test.YtajcfhhnmjcmjaaGreatDoorGXbd
import Derived.Test.YtajcfhhnmjcmjaaGreatDoorGXbe
import Derived.Test.YtajcfhhnmjcmjaaGreatDoorGXbc
import Derived.Lib.SlBytesConst
namespace Go.Proofs.YtajcfhhnmjcmjaaGreatDoor
open Go.RowKit

theorem Tryz.infoPr : (Tryz.prog.info? 48).map (fun i => (i.zero, i.size, i.bytes)) = some (some (.agg #[.slice none 0 0, .slice none 0 0]), 2, 48) := by kernel_rfl
/-- the pairs handed out -/
def ScanO (w : World) (l : List Rec) (e : Ending) (w' : World) : Prop := ∃ v, e = .returned v ∧ PrsAt w' v l ∧ Below w.heap.size w w'
theorem prsAt_nil (w : World) : PrsAt w (.slice none 0 0) [] := ⟨0, [], ⟨rfl, .inl ⟨rfl, rfl⟩⟩, prsOf_nil _ _⟩
set_option maxRecDepth 100000 in
set_option maxHeartbeats 4000000 in
theorem scan_any (b0 kb : Nat) (F : Nat → Prop) (l : List Rec) (A A2 : Option Addr) (n c n2 c2 bg en : Nat) (fl tl : List Int) (w : World) (h : Kp w b0 kb F l) (hf : Sl w w.heap.size A n c fl) (ht : Sl w w.heap.size A2 n2 c2 tl) (hbg : Low l (strOfNums fl) bg) (hen : (n2 = 0 ∧ en = l.length) ∨ (0 < n2 ∧ Low l (strOfNums tl) en)) (hle : bg ≤ en) :
    Calls Tryz.prog 17 #[.pointer (some ⟨kb, 0, none⟩), .slice A n c, .slice A2 n2 c2] w (ScanO w ((l.drop bg).take (en - bg))) := by
  have HK := hid h
  have HF := hid hf
  have HT := hid ht
  obtain ⟨s, v, lv, hbox, hrow, hap⟩ := h.box
  obtain ⟨A3, n3, c3, rfl, hln, hnc, hcm, hnil, hat⟩ := hrow.form
  have HRow := hid hrow
  have HBox := hid hbox
  have HNil := hid hnil
  have HL3 := hid (And.intro hln hnc)
  have hlen := h.len
  have hn3 : (n3 : Int) ≤ 10000 := by omega
  have hc3 : (c3 : Int) ≤ 9223372036854775807 := by unfold maxLen at hcm; omega
  have hen3 : en ≤ n3 := by
    rcases hen with ⟨_, h1⟩ | ⟨_, h1⟩
    · omega
    · have := h1.le; omega
  have HLow := hid hbg
  obtain ⟨K, hKe⟩ : ∃ K, strOfNums fl = K := ⟨_, rfl⟩
  have HQ1 := hid (show ∀ W, Below w.heap.size w W → (convert 29 9 (.slice A n c)).run Tryz.prog W = .ok (.string K) W from fun W hb => by rw [← hKe]; exact conv_any (hf.below hb))
  have HLow := hid (show Low l K bg from by rw [← hKe]; exact hbg)
  have HBoxL := hid (show kb < w.heap.size from hbox.lt)
  have k0 : w.drew.cell? ⟨kb, 1, none⟩ = some (.slice A3 n3 c3) ∧ (convert 29 9 (.slice A n c)).run Tryz.prog w.drew = .ok (.string K) w.drew := ⟨by rw [Blk.cell hbox.drew]; rfl, HQ1.out _ (Below.refl _ _).drew⟩
  have HFi := hid (kpFind_any (.slice A3 n3 c3) b0 l K w.drew (hrow.on (Below.refl _ _).drew) h.ris (by omega))
  have HEn := hid hen
  clear h hf ht hbox hrow hap hnil hat hbg hen hlen hln hnc hcm hKe
  go_enter Tryz.func17, Tryz.ntmps17
  go_upto_region 1 with fail
  go_region_held3 (fun w' => w'.cell? ⟨kb, 1, none⟩ = some (.slice A3 n3 c3) ∧ (convert 29 9 (.slice A n c)).run Tryz.prog w' = .ok (.string K) w') (first | exact k0 | exact k2) (first | (go_at_call 19; refine HFi.out.mono ?_; rintro e w2 ⟨i, he, hl2, hb2⟩; obtain rfl := HLow.out.eq hl2; have k2 := And.intro ((Blk.cell (HBox.out.below ((Below.refl w.heap.size w).drew.trans hb2) HBoxL.out) 1).trans (rfl : _ = some (Value.slice A3 n3 c3))) (HQ1.out w2 ((Below.refl w.heap.size w).drew.trans hb2)); generalize hbq : isAt l K bg = b at he; subst he; have HB2 := hid (show Below w.heap.size w w2 from (Below.refl w.heap.size w).drew.trans hb2); clear hl2 hb2 hbq))
  clear HF HFi k0 k2
  have k1 : w2.cell? ⟨kb, 1, none⟩ = some (.slice A3 n3 c3) := (Blk.cell (HBox.out.below HB2.out HBoxL.out) 1).trans rfl
  have hle2 := hid hle
  have hbi : (0 : Int) ≤ (bg : Int) := by omega
  rcases HEn.out with ⟨h0, he0⟩ | ⟨h0, he0⟩
  focus
    have g0 : decide (0 < n2) = false := by simp; omega
    have hen0 : n3 = en := by have := HL3.out.1; omega
    clear h0 he0
    go_upto_region 5 with fail
    rw [hen0]
    have HB3 := hid HB2.out
    rename World => w3
    have k3 : w3.cell? ⟨kb, 1, none⟩ = some (.slice A3 n3 c3) := k1
    clear k1 hen0 g0 hle2
    skip
  rotate_left
  focus
    have g0 : decide (0 < n2) = true := by simp; omega
    obtain ⟨K2, hKe2⟩ : ∃ K, strOfNums tl = K := ⟨_, rfl⟩
    have HQ2 := hid (show ∀ W, Below w.heap.size w W → (convert 29 9 (.slice A2 n2 c2)).run Tryz.prog W = .ok (.string K2) W from fun W hb => by rw [← hKe2]; exact conv_any (HT.out.below hb))
    have HLow2 := hid (show Low l K2 en from by rw [← hKe2]; exact he0)
    have HFi2 := hid (kpFind_any (.slice A3 n3 c3) b0 l K2 w2.drew ((HRow.out.on HB2.out).on (Below.refl _ _).drew) HK.out.ris (by have := HK.out.len; omega))
    have k0 : w2.drew.cell? ⟨kb, 1, none⟩ = some (.slice A3 n3 c3) ∧ (convert 29 9 (.slice A2 n2 c2)).run Tryz.prog w2.drew = .ok (.string K2) w2.drew := ⟨k1, HQ2.out _ HB2.out.drew⟩
    clear h0 he0 hKe2
    go_upto_region 4 with fail
    go_region_held3 (fun w' => w'.cell? ⟨kb, 1, none⟩ = some (.slice A3 n3 c3) ∧ (convert 29 9 (.slice A2 n2 c2)).run Tryz.prog w' = .ok (.string K2) w') (first | exact k0 | exact k3) (first | (go_at_call 19; refine HFi2.out.mono ?_; rintro e w3 ⟨i, he, hl2, hb2⟩; obtain rfl := HLow2.out.eq hl2; have HB3 := hid (show Below w.heap.size w w3 from HB2.out.trans (((Below.refl w2.heap.size w2).drew.trans hb2).mono HB2.out.size)); have k3 := And.intro ((Blk.cell (HBox.out.below HB3.out HBoxL.out) 1).trans (rfl : _ = some (Value.slice A3 n3 c3))) (HQ2.out w3 HB3.out); generalize hbq : isAt l K2 en = b at he; subst he; clear hl2 hb2 hbq))
    replace k3 : w3.cell? ⟨kb, 1, none⟩ = some (.slice A3 n3 c3) := k3.1
    clear k0 g0 k1 hle2
    skip
  all_goals
    have HRow3 := hid (HRow.out.on HB3.out)
    by_cases hbe : bg < en
    · cases A3 with
      | none => exact absurd (HNil.out rfl).1 (by omega)
      | some ad =>
      obtain ⟨g, rfl⟩ := krow_addr HRow3.out
      have hcb : ¬ (c3 = bg) := by have := HL3.out; omega
      have hbe1 : (bg : Int) < (en : Int) := by omega
      have hbe2 : (bg : Int) ≤ (en : Int) := by omega
      have hen4 : (en : Int) ≤ (n3 : Int) := by omega
      have hen5 : (en : Int) ≤ (c3 : Int) := by have := HL3.out; omega
      have HM := hid (show ∃ m, en - bg = m from ⟨_, rfl⟩)
      obtain ⟨m, hm⟩ : ∃ m, en - bg = m := ⟨_, rfl⟩
      have hme : (en : Int) - (bg : Int) = (m : Int) := by omega
      have HMe := hid (show bg + m = en from by omega)
      have hm1 : (m : Int) ≤ 10000 := by omega
      rw [hm]
      go_wp2_with fail
      rw [hm]
      go_loopw [10, 51] (fun ov iv wr => ∃ (k : Nat) (xs : List Value), iv = .int .i64 (k : Int) ∧ k ≤ m ∧ wr.ownsRow w.heap.size 48 2 ov k xs ∧ PrsOf wr xs ((l.drop bg).take k) ∧ Below w.heap.size w wr) (fun _ iv _ => m - (intOf iv).toNat)
      case atStart => exact ⟨0, [], rfl, Nat.zero_le _, ⟨rfl, .inl ⟨rfl, rfl⟩⟩, by simpa using prsOf_nil _ _, HB3.out⟩
      case round =>
        obtain ⟨k, xs, rfl, hkm, hown, hprs, hbw⟩ := hrel
        have HOw := hid hown
        have HPr := hid hprs
        have HBw := hid hbw
        clear hown hprs hbw
        by_cases hlt : k < m
        · obtain ⟨⟨K5, V5⟩, hx⟩ : ∃ x, l[bg + k]? = some x := ⟨_, List.getElem?_eq_getElem (by have := HL3.out.1; have := HMe.out; omega)⟩
          obtain ⟨d0', d1', _, _⟩ := (HRow.out.on HBw.out).cells hx
          rw [show (bg + k) * 2 = bg * 2 + k * 2 by omega] at d0' d1'
          have d0 : wr.cell? ⟨g, bg * 2 + k * 2, none⟩ = some (.string K5) := d0'
          have d1 : wr.cell? ⟨g, bg * 2 + k * 2 + 1, none⟩ = some (.string V5) := d1'
          clear d0' d1'
          have hkm2 : (k : Int) < (m : Int) := by omega
          have HTk := hid (show (l.drop bg).take (k + 1) = (l.drop bg).take k ++ [(K5, V5)] from by rw [List.take_add_one, List.getElem?_drop, hx]; rfl)
          have HSz := hid (HK.out.siz _ (List.mem_of_getElem? hx))
          clear hx
          go_upto_region 9 with fail
          clear d0 d1
          obtain ⟨rb, hrb⟩ : ∃ rb, wr.heap.size = rb := ⟨_, rfl⟩
          obtain ⟨W5, hW5⟩ : ∃ W, wr.alloc (.cells #[.string K5, .string V5] 52) = W := ⟨_, rfl⟩
          have z1 : Below wr.heap.size wr W5 := by rw [← hW5]; exact (Below.refl _ _).alloc (Nat.le_refl _) _
          have z2 : ArgR W5 rb (K5, V5) := by rw [← hW5, ← hrb]; exact Blk.new wr _ _
          rw [hrb, hW5]
          obtain ⟨C1, W6, hq1, hs1, hb1, hz1⟩ := conv_str W5 K5 (by have := HSz.out.1; have h : K5.size ≤ 60 := this; omega)
          obtain ⟨C2, W7, hq2, hs2, hb2, hz2⟩ := conv_str W6 V5 (by have := HSz.out.2; have h : V5.size ≤ 120 := this; omega)
          have e0 : W5.cell? ⟨rb, 0, none⟩ = some (.string K5) := by rw [Blk.cell z2]; rfl
          have e1 : W6.cell? ⟨rb, 1, none⟩ = some (.string V5) := by rw [Blk.cell (z2.below hb1 z2.lt)]; rfl
          obtain ⟨b1, hb1e⟩ : ∃ b, W5.heap.size = b := ⟨_, rfl⟩
          obtain ⟨b2, hb2e⟩ : ∃ b, W6.heap.size = b := ⟨_, rfl⟩
          have z3 : Below wr.heap.size wr W6 := z1.trans (hb1.mono z1.size)
          have z4 : Below wr.heap.size wr W7 := z3.trans (hb2.mono z3.size)
          have z5 : StrAt W7 b1 K5.size C1 K5 := by rw [← hb1e]; exact hs1.on hb2
          have z6 : StrAt W7 b2 V5.size C2 V5 := by rw [← hb2e]; exact hs2
          rw [hb1e] at hq1
          rw [hb2e] at hq2
          obtain ⟨pv, hpv⟩ : ∃ pv : List Value, [Value.slice (some ⟨b1, 0, none⟩) K5.size C1, Value.slice (some ⟨b2, 0, none⟩) V5.size C2] = pv := ⟨_, rfl⟩
          obtain ⟨W8, hW8⟩ : ∃ W, W7.alloc (.cells #[.slice (some ⟨b1, 0, none⟩) K5.size C1, .slice (some ⟨b2, 0, none⟩) V5.size C2] 48) = W := ⟨_, rfl⟩
          have z7 : Below W7.heap.size W7 W8 := by rw [← hW8]; exact (Below.refl _ _).alloc (Nat.le_refl _) _
          have z8 : Below wr.heap.size wr W8 := z4.trans (z7.mono z4.size)
          have z9 : Blk W8 W7.heap.size 48 #[.slice (some ⟨b1, 0, none⟩) K5.size C1, .slice (some ⟨b2, 0, none⟩) V5.size C2] := by rw [← hW8]; exact Blk.new W7 _ _
          have HO8 := hid (show W8.ownsRow w.heap.size 48 2 u10 k xs from World.ownsRow.kept HOw.out (only_below z8 none) (by cases hv : u10.ownBlock <;> simp))
          have HBw8 := hid (show Below w.heap.size w W8 from HBw.out.trans (z8.mono HBw.out.size))
          have HP8 := hid (show PrsOf W8 (xs ++ [.slice (some ⟨b1, 0, none⟩) K5.size C1, .slice (some ⟨b2, 0, none⟩) V5.size C2]) ((l.drop bg).take (k + 1)) from by
            rw [HTk.out]
            refine (HPr.out.on z8).add (x := (K5, V5)) ?_ (z5.on z7) (z6.on z7)
            rw [HOw.out.1, List.length_take, List.length_drop]
            have := HL3.out.1
            have := HMe.out
            omega)
          have HCc := hid (show ∀ j u, ([.slice (some ⟨b1, 0, none⟩) K5.size C1, .slice (some ⟨b2, 0, none⟩) V5.size C2] : List Value)[j]? = some u → W8.cell? ((⟨W7.heap.size, 0, none⟩ : Addr).add j) = some u from fun j u hu => by
            rw [add0, Blk.cell z9]
            simp only [List.getElem?_toArray]
            exact hu)
          have HFr := hid (show ∀ v' w9, w9.ownsRow w.heap.size 48 2 v' (k + 1) (xs ++ [.slice (some ⟨b1, 0, none⟩) K5.size C1, .slice (some ⟨b2, 0, none⟩) V5.size C2]) → W8.grownBy w9 u10.ownBlock → PrsOf w9 (xs ++ [.slice (some ⟨b1, 0, none⟩) K5.size C1, .slice (some ⟨b2, 0, none⟩) V5.size C2]) ((l.drop bg).take (k + 1)) ∧ Below w.heap.size w w9 from fun v' w9 h1 h2 =>
            ⟨HP8.out.kept HO8.out h2, HBw8.out.grown h2 HBw8.out.size (fun q hq => (HO8.out.lt q hq).1)⟩)
          have HBs := hid HBw8.out.size
          have HOne := hid (show ∀ u ∈ [Value.slice (some ⟨b1, 0, none⟩) K5.size C1, Value.slice (some ⟨b2, 0, none⟩) V5.size C2], u.oneCell' = true from fun u hu => by
            simp only [List.mem_cons, List.not_mem_nil, or_false] at hu
            rcases hu with rfl | rfl <;> rfl)
          have HK3 := hid (show k + 1 ≤ maxLen from by unfold maxLen; omega)
          have HK4 := hid (show (k + 1) * 48 ≤ 140737488355328 from by omega)
          clear z1 z2 z3 z4 z5 z6 z7 z8 z9 hs1 hs2 hb1 hb2 hz1 hz2 hb1e hb2e hrb hW5 hpv
          obtain ⟨i0, hi, hz0, hz1, hz2⟩ := info_parts Tryz.infoPr
          go_wp2_with (at_builtin; refine wpList_append_own _ rfl _ _ 45 rfl w.heap.size 48 i0 (.agg #[.slice none 0 0, .slice none 0 0]) 2 48 Tryz.underlying45 hi hz0 hz1 hz2 rfl (by decide) _ k xs rfl HO8.out ⟨W7.heap.size, 0, none⟩ 1 1 [.slice (some ⟨b1, 0, none⟩) K5.size C1, .slice (some ⟨b2, 0, none⟩) V5.size C2] rfl rfl HCc.out HOne.out HK3.out HK4.out HBs.out ?_)
          intro v' w9 h1 h2 _
          have HN := hid (And.intro h1 (HFr.out v' w9 h1 h2))
          clear h1 h2
          go_wp2
          go_roundw
          case rel => exact ⟨k + 1, _, by go_num, by omega, HN.out.1, HN.out.2.1, HN.out.2.2⟩
          case measure => simp [intOf]; omega
        · obtain rfl : k = m := by omega
          have hkk : decide (k < k) = false := by simp
          have HFi3 := hid (show ScanO w ((l.drop bg).take (en - bg)) (.returned u10) wr from (by rw [show en - bg = k by have := HMe.out; omega]; exact ⟨u10, rfl, ⟨w.heap.size, xs, by
            have e : ((l.drop bg).take k).length = k := by
              have := HL3.out.1
              have := HMe.out
              rw [List.length_take, List.length_drop]
              omega
            rw [e]
            exact HOw.out, HPr.out⟩, HBw.out⟩))
          go_wp2
          go_ret
          exact HFi3.out
    · obtain rfl : bg = en := by omega
      have HNo := hid (show ScanO w ((l.drop bg).take (bg - bg)) (.returned (.slice none 0 0)) w3 from ⟨_, rfl, by rw [Nat.sub_self, List.take_zero]; exact prsAt_nil _, HB3.out⟩)
      have hm0 : bg - bg = 0 := Nat.sub_self _
      have hbe2 : (bg : Int) ≤ (n3 : Int) := by omega
      have hbe3 : (bg : Int) ≤ (c3 : Int) := by have := HL3.out; omega
      cases A3 with
      | none =>
        have e1 : bg = 0 := by have := (HNil.out rfl).1; omega
        have e2 : c3 = 0 := (HNil.out rfl).2
        have hcb : c3 = bg := by omega
        go_wp2
        go_loopw [10, 51] (fun ov iv wr => ov = .slice none 0 0 ∧ iv = .int .i64 0 ∧ wr = w3) (fun _ _ _ => 0)
        case atStart => exact ⟨rfl, rfl, rfl⟩
        case round =>
          obtain ⟨rfl, rfl, rfl⟩ := hrel
          go_wp2
          go_ret
          exact HNo.out
      | some ad =>
        obtain ⟨g, rfl⟩ := krow_addr HRow3.out
        by_cases hcb : c3 = bg
        all_goals
          go_wp2
          go_loopw [10, 51] (fun ov iv wr => ov = .slice none 0 0 ∧ iv = .int .i64 0 ∧ wr = w3) (fun _ _ _ => 0)
          case atStart => exact ⟨rfl, rfl, rfl⟩
          case round =>
            obtain ⟨rfl, rfl, rfl⟩ := hrel
            go_wp2
            go_ret
            exact HNo.out
end Go.Proofs.YtajcfhhnmjcmjaaGreatDoor
namespace Go.Proofs.YtajcfhhnmjcmjaaGreatDoor
open Go.RowKit

set_option maxRecDepth 100000 in
set_option maxHeartbeats 1000000 in
theorem len64_0 (w : World) : Calls Tryz.prog 155 #[.int .u64 0] w fun e w' => e = .returned (.int .i64 0) ∧ w' = w := by
  have h8 : Lib.len8 0 = 0 := by decide
  go_enter Tryz.func155, Tryz.ntmps155
  go_wp2
  go_ret
  exact ⟨rfl, rfl⟩
set_option maxRecDepth 100000 in
set_option maxHeartbeats 1000000 in
theorem bitsLen_0 (w : World) : Calls Tryz.prog 120 #[.int .u64 0] w fun e w' => e = .returned (.int .i64 0) ∧ w' = w := by
  go_enter Tryz.func120, Tryz.ntmps120
  go_wp2_with fail
  refine (len64_0 _).mono ?_
  rintro e w1 ⟨rfl, rfl⟩
  go_wp2
  go_ret
  exact ⟨rfl, rfl⟩
set_option maxRecDepth 100000 in
set_option maxHeartbeats 1000000 in
theorem insSort_0 (v : Value) (w : World) : Calls Tryz.prog 146 #[v, .int .i64 0, .int .i64 0, .func (.func 79) #[] #[]] w fun e w' => e = .returned (.tuple #[]) ∧ w' = w := by
  go_enter Tryz.func146, Tryz.ntmps146
  go_wp2
  go_loopw [8] (fun iv wr => iv = .int .i64 1 ∧ wr = w) (fun _ _ => 0)
  case atStart => exact ⟨rfl, rfl⟩
  case round =>
    obtain ⟨rfl, rfl⟩ := hrel
    go_wp2
    go_end0
    exact ⟨rfl, rfl⟩
set_option maxRecDepth 100000 in
set_option maxHeartbeats 1000000 in
theorem pdq_0 (v : Value) (w : World) : Calls Tryz.prog 119 #[v, .int .i64 0, .int .i64 0, .int .i64 0, .func (.func 79) #[] #[]] w fun e w' => e = .returned (.tuple #[]) ∧ w' = w := by
  go_enter Tryz.func119, Tryz.ntmps119
  go_wp2
  go_loopw [1, 2, 3, 10, 11] (fun a b c d e wr => a = .int .i64 0 ∧ b = .int .i64 0 ∧ c = .int .i64 0 ∧ d = .bool true ∧ e = .bool true ∧ wr = w) (fun _ _ _ _ _ _ => 0)
  case atStart => exact ⟨rfl, rfl, rfl, rfl, rfl, rfl⟩
  case round =>
    obtain ⟨rfl, rfl, rfl, rfl, rfl, rfl⟩ := hrel
    go_wp2_with fail
    refine (insSort_0 _ _).mono ?_
    rintro e w1 ⟨rfl, rfl⟩
    go_wp2
    refine bodyPost_ret (results_none rfl _ _ _) rfl ?_
    exact ⟨rfl, rfl⟩
set_option maxRecDepth 100000 in
set_option maxHeartbeats 1000000 in
theorem sortFunc_0 (w : World) : Calls Tryz.prog 78 #[.slice none 0 0, .func (.func 79) #[] #[]] w fun e w' => e = .returned (.tuple #[]) ∧ w' = w := by
  go_enter Tryz.func78, Tryz.ntmps78
  go_wp2_with fail
  refine (bitsLen_0 _).mono ?_
  rintro e w1 ⟨rfl, rfl⟩
  go_wp2_with fail
  refine (pdq_0 _ _).mono ?_
  rintro e w1 ⟨rfl, rfl⟩
  go_wp2
  go_end0
  exact ⟨rfl, rfl⟩
set_option maxRecDepth 100000 in
set_option maxHeartbeats 1000000 in
theorem recordsOf_0 (w : World) : Calls Tryz.prog 22 #[.slice none 0 0] w fun e w' => e = .returned (.slice none 0 0) ∧ w' = w := by
  go_enter Tryz.func22, Tryz.ntmps22
  go_wp2
  go_loopw [3, 8] (fun a b wr => a = .slice none 0 0 ∧ b = .int .i64 0 ∧ wr = w) (fun _ _ _ => 0)
  case atStart => exact ⟨rfl, rfl, rfl⟩
  case round =>
    obtain ⟨rfl, rfl, rfl⟩ := hrel
    go_wp2
    go_ret
    exact ⟨rfl, rfl⟩
set_option maxRecDepth 100000 in
set_option maxHeartbeats 1000000 in
theorem rising_0 (w : World) : Calls Tryz.prog 80 #[.slice none 0 0] w fun e w' => e = .returned (.bool true) ∧ w' = w := by
  go_enter Tryz.func80, Tryz.ntmps80
  go_wp2
  go_loopw [3, 8] (fun a b wr => b = .int .i64 0 ∧ wr = w) (fun _ _ _ => 0)
  case atStart => exact ⟨rfl, rfl⟩
  case round =>
    obtain ⟨rfl, rfl⟩ := hrel
    go_wp2
    go_ret
    exact ⟨rfl, rfl⟩
section
variable {Real : World → Nat → DSt → (Nat → Prop) → Prop} {PR : World → Nat → Nat → Nat → Nat → (Nat → Prop) → Prop} {S : Nat → Addr} {w0 : World} {d g n q mk : Nat} {T : Nat → Prop} {s : DSt}
set_option maxRecDepth 100000 in
set_option maxHeartbeats 4000000 in
theorem leavesOf_new (w : World) (h : Shop Real PR S w0 w d g n q mk T s (noPS 0) noChg) (hk : Keeps s n q (noPS 0) (fun _ => none)) :
    Calls Tryz.prog 46 #[.pointer (some ⟨g, 0, none⟩)] w fun e w' => e = .returned (.tuple #[.slice none 0 0, .nilIface]) ∧ Below w.heap.size w w' := by
  have HPg := hid (sh_pages h)
  have HNo := hid (pages_none hk.fine (ch := noChg) (fun i => by rw [noChg_cont]))
  clear h hk
  go_enter Tryz.func46, Tryz.ntmps46
  go_wp2_with fail
  refine HPg.out.mono ?_
  rw [HNo.out]
  rintro e w1 ⟨v, rfl, hown, hb⟩
  obtain ⟨A, c, rfl, _⟩ := hown.form
  have HB := hid hb
  clear hown hb
  have h0 : (natsI []).length = 0 := rfl
  rw [h0]
  go_wp2
  go_loopw [5, 19] (fun a b wr => a = .slice none 0 0 ∧ b = .int .i64 0 ∧ wr = w1) (fun _ _ _ => 0)
  case atStart => exact ⟨rfl, rfl, rfl⟩
  case round =>
    obtain ⟨rfl, rfl, rfl⟩ := hrel
    go_wp2
    go_loopw [10, 39] (fun a b wx => a = .slice none 0 0 ∧ b = .int .i64 0 ∧ wx = wr) (fun _ _ _ => 0)
    case atStart => exact ⟨rfl, rfl, rfl⟩
    case round =>
      obtain ⟨rfl, rfl, rfl⟩ := hrel
      go_wp2_with fail
      refine (sortFunc_0 _).mono ?_
      rintro e w2 ⟨rfl, rfl⟩
      go_wp2_with fail
      refine (recordsOf_0 _).mono ?_
      rintro e w3 ⟨rfl, rfl⟩
      go_wp2_with fail
      refine (rising_0 _).mono ?_
      rintro e w4 ⟨rfl, rfl⟩
      go_wp2
      go_ret2
      exact ⟨rfl, HB.out⟩
end
end Go.Proofs.YtajcfhhnmjcmjaaGreatDoor
namespace Go.Proofs.YtajcfhhnmjcmjaaGreatDoor
open Go.RowKit

theorem kp_new {w : World} {B kb : Nat} {s lv : Value} (h : Blk w kb 59 #[s, .slice none 0 0, lv]) (hB : B ≤ kb) : Kp w B kb (fun k => k = kb) [] where
  box := ⟨s, .slice none 0 0, lv, h, krow_nil w B, fun k hk => by cases hk⟩
  own := rfl
  lt := fun k hk => by subst hk; exact h.lt
  lo := fun k hk => by subst hk; exact hB
  ris := List.Pairwise.nil
  siz := fun r h => by cases h
  len := Nat.zero_le _
section
variable {Real : World → Nat → DSt → (Nat → Prop) → Prop} {PR : World → Nat → Nat → Nat → Nat → (Nat → Prop) → Prop} {S : Nat → Addr} {w0 : World} {d g n q mk : Nat} {T : Nat → Prop} {s : DSt}
set_option maxRecDepth 100000 in
set_option maxHeartbeats 4000000 in
theorem kpOpen_new (D : DevOk Real) (O : PairOk Real PR) (w : World) (h : Shop Real PR S w0 w d g n q mk T s (noPS 0) noChg) (hk : Keeps s n q (noPS 0) (fun _ => none)) :
    Calls Tryz.prog 28 #[.pointer (some ⟨g, 0, none⟩)] w fun e w' => ∃ kb T', e = .returned (.tuple #[.pointer (some ⟨kb, 0, none⟩), .nilIface]) ∧ Kp w' w.heap.size kb (fun k => k = kb) [] ∧ Shop Real PR S w0 w' d g n q mk T' s (noPS 0) noChg ∧ ¬ T' kb ∧ Only T w w' := by
  have HAb := hid (sh_abort D O h)
  have HD := hid D
  have HO := hid O
  have HK := hid hk
  clear D O h hk
  go_enter Tryz.func28, Tryz.ntmps28
  go_wp2_with fail
  refine HAb.out.mono ?_
  rintro e w1 ⟨rfl, T1, hsh, ho, ht⟩
  have HSh1 := hid hsh
  have HOn1 := hid ho
  clear hsh ho ht
  go_wp2_with fail
  refine (leavesOf_new w1 HSh1.out HK.out).mono ?_
  rintro e w2 ⟨rfl, hb⟩
  have HSh2 := hid (HSh1.out.on HD.out HO.out hb)
  have HOn2 := hid (HOn1.out.then_below hb)
  clear hb
  go_wp2_with fail
  refine (recordsOf_0 _).mono ?_
  rintro e w3 ⟨rfl, rfl⟩
  obtain ⟨W, hW⟩ : ∃ W, w3.alloc (.cells #[.pointer (some ⟨g, 0, none⟩), .slice none 0 0, .slice none 0 0] 59) = W := ⟨_, rfl⟩
  have z1 : Below w3.heap.size w3 W := by rw [← hW]; exact (Below.refl _ _).alloc (Nat.le_refl _) _
  have z2 : Blk W w3.heap.size 59 #[.pointer (some ⟨g, 0, none⟩), .slice none 0 0, .slice none 0 0] := by rw [← hW]; exact Blk.new w3 _ _
  have HF := hid (show Kp W w.heap.size w3.heap.size (fun k => k = w3.heap.size) [] ∧ Shop Real PR S w0 W d g n q mk T1 s (noPS 0) noChg ∧ ¬ T1 w3.heap.size ∧ Only T w W from ⟨kp_new z2 HOn2.out.size, HSh2.out.on HD.out HO.out z1, fun hk => Nat.lt_irrefl _ (HSh2.out.lt HD.out HO.out _ hk), HOn2.out.then_below z1⟩)
  clear z1 z2
  go_wp2
  go_ret2
  first
    | exact ⟨_, _, rfl, HF.out⟩
    | (rw [hW]; exact ⟨_, _, rfl, HF.out⟩)
set_option maxRecDepth 100000 in
set_option maxHeartbeats 4000000 in
theorem reopened_new (D : DevOk Real) (O : PairOk Real PR) (hS : Sent7 w0 S) {F : Nat → Prop} (w : World) (hb0 : Below w0.heap.size w0 w) (hr : Real w d s F) (hF : ∀ k, F k → w0.heap.size ≤ k) (u : Up s n q) (hq : q ≤ 690000) (n0 : 300 ≤ n) (n1 : n ≤ 6000) (hk : Keeps s n q (noPS 0) (fun _ => none)) :
    Calls Tryz.prog 10 #[.pointer (some ⟨d, 0, none⟩)] w fun e w' => ∃ kb g T, e = .returned (.pointer (some ⟨kb, 0, none⟩)) ∧ Kp w' w0.heap.size kb (fun k => k = kb) [] ∧ Shop Real PR S w0 w' d g n q 7 T s (noPS 0) noChg ∧ ¬ T kb := by
  have HOp := hid (sh_opened (w0 := w0) D O hS hb0 hr hF u hq n0 n1 hk)
  have HD := hid D
  have HO := hid O
  have HK := hid hk
  have HB0 := hid hb0
  clear D O hS hb0 hr hF u hk
  go_enter Tryz.func10, Tryz.ntmps10
  go_wp2_with fail
  refine HOp.out.mono ?_
  rintro e w1 ⟨g, T, rfl, hsh, ho, _⟩
  have HSh1 := hid hsh
  have HOn := hid ho
  clear hsh ho
  go_wp2_with fail
  refine (kpOpen_new HD.out HO.out w1 HSh1.out HK.out).mono ?_
  rintro e w2 ⟨kb, T2, rfl, hkp, hsh, hn, _⟩
  have HF := hid (show Kp w2 w0.heap.size kb (fun k => k = kb) [] ∧ Shop Real PR S w0 w2 d g n q 7 T2 s (noPS 0) noChg ∧ ¬ T2 kb from ⟨{ hkp with
    box := by
      obtain ⟨a, v, b, h1, h2, h3⟩ := hkp.box
      refine ⟨a, v, b, h1, ?_, h3⟩
      rcases h2.2 with ⟨rfl, _⟩ | ⟨g', cap, cu, rfl, hg, rest⟩
      · exact krow_nil _ _
      · exact ⟨h2.1, .inr ⟨g', cap, cu, rfl, by have := HB0.out.size; have := HOn.out.size; omega, rest⟩⟩
    lo := fun k hk => by have h1 := hkp.lo k hk; have := HB0.out.size; have := HOn.out.size; omega }, hsh, hn⟩)
  clear hkp hsh hn
  go_wp2
  go_ret
  exact ⟨kb, g, T2, rfl, HF.out⟩
end
section
variable {Real : World → Nat → DSt → (Nat → Prop) → Prop} {PR : World → Nat → Nat → Nat → Nat → (Nat → Prop) → Prop} {S : Nat → Addr}
set_option maxRecDepth 100000 in
set_option maxHeartbeats 4000000 in
theorem opened8_any (D : DevOk Real) (O : PairOk Real PR) (n : Nat) (w : World) (hS : Sent7 w S) (h0 : 300 ≤ n) (h1 : n ≤ 6000) :
    Calls Tryz.prog 7 #[.int .i64 (n : Int)] w fun e w' => ∃ kb g d T, e = .returned (.tuple #[.pointer (some ⟨kb, 0, none⟩), .pointer (some ⟨d, 0, none⟩)]) ∧ Kp w' w.heap.size kb (fun k => k = kb) [] ∧ Shop Real PR S w w' d g n 0 7 T (DSt.new n) (noPS 0) noChg ∧ ¬ T kb := by
  have HN := hid (D.new n w (by omega) h1)
  have HOp := hid (fun (w1 : World) (d : Nat) (F : Nat → Prop) (hr : Real w1 d (DSt.new n) F) (hb : Below w.heap.size w w1) (hF : ∀ k, F k → w.heap.size ≤ k) => reopened_new (w0 := w) D O hS w1 hb hr hF (up_new h1) (by omega) h0 h1 (keeps_new h0 h1))
  clear D O hS
  go_enter Tryz.func7, Tryz.ntmps7
  go_wp2_with fail
  refine HN.out.mono ?_
  rintro e w1 ⟨d, F, rfl, hr, hb, hF⟩
  have HO1 := hid (HOp.out w1 d F hr hb hF)
  clear hr hb hF
  go_wp2_with fail
  refine HO1.out.mono ?_
  rintro e w2 ⟨kb, g, T, rfl, hkp, hsh, hn⟩
  have HF := hid (And.intro hkp (And.intro hsh hn))
  clear hkp hsh hn
  go_wp2
  go_ret2
  exact ⟨kb, g, d, T, rfl, HF.out⟩
end
end Go.Proofs.YtajcfhhnmjcmjaaGreatDoor
namespace Go.Proofs.YtajcfhhnmjcmjaaGreatDoor
open Go.RowKit

end Go.Proofs.YtajcfhhnmjcmjaaGreatDoor
namespace Go.Proofs.YtajcfhhnmjcmjaaGreatDoor
open Go.RowKit

theorem byt1 {x : Int} (h0 : 0 ≤ x) (h1 : x < 256) : Byt [x] := fun y hy => by
  have : y = x := by simpa using hy
  omega
theorem sl_nil (w : World) : Sl w w.heap.size none 0 0 [] := ⟨rfl, Nat.le_refl _, by unfold maxLen; omega, fun _ => rfl, fun ad h => by cases h⟩
theorem kc_at (w : World) (g : Nat) (hg : w.heap.size = g) (x : Int) : (convert 29 29 (.slice (some ⟨g, 0, none⟩) 1 1)).run Tryz.prog (w.alloc (.cells #[.int .u8 x] 5)) = .ok (.slice (some ⟨g, 0, none⟩) 1 1) (w.alloc (.cells #[.int .u8 x] 5 (1, 2))) := by
  subst hg
  exact Lib.run_convert_bytes_const (P := Tryz.prog) w 29 5 #[.int .u8 x] 1 1 Tryz.underlying29 Tryz.underlying5
theorem lit_at (w : World) (g : Nat) (hg : w.heap.size = g) (x : Int) : ∃ W, w.alloc (.cells #[.int .u8 x] 5 (1, 2)) = W ∧ Sl W W.heap.size (some ⟨g, 0, none⟩) 1 1 [x] ∧ Below w.heap.size w W ∧ W.heap.size = g + 1 := by
  subst hg
  have hh : (w.alloc (.cells #[.int .u8 x] 5 (1, 2))).heap[w.heap.size]? = some (.cells #[.int .u8 x] 5 (1, 2)) := heap_alloc_new w _
  refine ⟨_, rfl, ⟨rfl, Nat.le_refl _, by unfold maxLen; omega, (fun h => by cases h), fun ad ha _ => ?_⟩, (Below.refl _ _).alloc (Nat.le_refl _) _, by show (w.heap.push _).size = _; simp⟩
  cases ha
  refine ⟨(Array.getElem?_eq_some_iff.1 hh).1, fun j y hy => ?_⟩
  rw [add0]
  simp only [World.cell?, hh]
  rcases j with _ | j
  · simp at hy; subst hy; rfl
  · simp at hy
theorem low0 {l : List Rec} {k : ByteArray} (h : ∀ r, r ∈ l → 0 ≤ kc r.1 k) : Low l k 0 := ⟨Nat.zero_le _, fun _ _ hj _ => absurd hj (Nat.not_lt_zero _), fun _ r _ he => h r (List.mem_of_getElem? he)⟩
section
variable {Real : World → Nat → DSt → (Nat → Prop) → Prop} {PR : World → Nat → Nat → Nat → Nat → (Nat → Prop) → Prop} {S : Nat → Addr}
set_option maxRecDepth 100000 in
set_option maxHeartbeats 8000000 in
theorem first8_any (D : DevOk Real) (O : PairOk Real PR) (w : World) (hS : Sent7 w S) : Calls Tryz.prog 5 #[] w (Yes w) := by
  have HOp := hid (opened8_any D O 1500 w hS (by omega) (by omega))
  clear D O hS
  go_enter Tryz.func5, Tryz.ntmps5
  go_wp2_with fail
  refine HOp.out.mono ?_
  rintro e w1 ⟨kb, g, d, T, rfl, hkp, hsh, hn⟩
  have HKp1 := hid hkp
  have HB1 := hid hsh.below
  clear hkp hsh hn
  obtain ⟨W2, hW2, hs2, hb2, hz2⟩ := lit_at w1 _ rfl 98
  have q1 := kc_at w1 _ rfl 98
  obtain ⟨W3, hW3, hs3, hb3, hz3⟩ := lit_at W2 _ hz2 49
  have q2 := kc_at W2 _ hz2 49
  rw [hW2] at q1
  rw [hW3] at q2
  have HKp3 := hid ((HKp1.out.on hb2).on hb3)
  have HB3 := hid ((HB1.out.trans (hb2.mono HB1.out.size)).trans (hb3.mono (Nat.le_trans HB1.out.size hb2.size)))
  have HPut1 := hid (put_any w.heap.size kb (fun k => k = kb) [] _ _ 1 1 1 1 [98] [49] W3 HKp3.out (hs2.on hb3) hs3 (byt1 (by omega) (by omega)) (byt1 (by omega) (by omega)) (by omega) (by omega) (by omega) (by simp))
  clear hs2 hs3 hb2 hb3
  go_wp2_with fail
  refine HPut1.out.mono ?_
  rintro e w4 ⟨i, hl, rfl, F4, hkp, ho⟩
  have hi0 : i = 0 := by have := hl.le; simpa using this
  subst hi0
  have HKp4 := hid (show Kp w4 w.heap.size kb F4 [(strOfNums [98], strOfNums [49])] from hkp)
  have HB4 := hid (HB3.out.trans (ho.below HB3.out.size (fun q hq => HKp3.out.lo q hq)))
  clear hl hkp ho q1 q2
  obtain ⟨W5, hW5, hs5, hb5, hz5⟩ := lit_at w4 _ rfl 97
  have q1 := kc_at w4 _ rfl 97
  obtain ⟨W6, hW6, hs6, hb6, hz6⟩ := lit_at W5 _ hz5 50
  have q2 := kc_at W5 _ hz5 50
  rw [hW5] at q1
  rw [hW6] at q2
  have HKp6 := hid ((HKp4.out.on hb5).on hb6)
  have HB6 := hid ((HB4.out.trans (hb5.mono HB4.out.size)).trans (hb6.mono (Nat.le_trans HB4.out.size hb5.size)))
  have HPut2 := hid (put_any w.heap.size kb F4 _ _ _ 1 1 1 1 [97] [50] W6 HKp6.out (hs5.on hb6) hs6 (byt1 (by omega) (by omega)) (byt1 (by omega) (by omega)) (by omega) (by omega) (by omega) (by simp))
  clear hs5 hs6 hb5 hb6
  go_wp2_with fail
  refine HPut2.out.mono ?_
  rintro e w7 ⟨i, hl, rfl, F7, hkp, ho⟩
  have hi0 : i = 0 := hl.eq (low0 fun r hr => by
    have : r = (strOfNums [98], strOfNums [49]) := by simpa using hr
    subst this
    show 0 ≤ kc (strOfNums [98]) (strOfNums [97])
    decide)
  subst hi0
  have HKp7 := hid (show Kp w7 w.heap.size kb F7 [(strOfNums [97], strOfNums [50]), (strOfNums [98], strOfNums [49])] from hkp)
  have HB7 := hid (HB6.out.trans (ho.below HB6.out.size (fun q hq => HKp6.out.lo q hq)))
  clear hl hkp ho q1 q2
  have HSc := hid (scan_any w.heap.size kb F7 _ none none 0 0 0 0 0 2 [] [] w7 HKp7.out (sl_nil w7) (sl_nil w7) (low_nil fun r hr => by
    rcases List.mem_cons.1 hr with rfl | hr
    · decide
    · have : r = (strOfNums [98], strOfNums [49]) := by simpa using hr
      subst this
      decide) (Or.inl ⟨rfl, rfl⟩) (by omega))
  go_wp2_with fail
  refine HSc.out.mono ?_
  rintro e w8 ⟨v, rfl, hp, hb⟩
  obtain ⟨A, n, c, rfl, hln, hnc, hcm, hat⟩ := hp.form
  have hn2 : n = 2 := by rw [← hln]; rfl
  subst hn2
  obtain ⟨g8, a1, k1, a2, k2, rfl, hg8, e0, e1, s1, s2⟩ := hat 0 (strOfNums [97], strOfNums [50]) rfl
  obtain ⟨g9, a3, k3, a4, k4, hge, _, e2, e3, s3, s4⟩ := hat 1 (strOfNums [98], strOfNums [49]) rfl
  obtain rfl : g8 = g9 := by injection hge with hge; injection hge
  have HB8 := hid (HB7.out.trans (hb.mono HB7.out.size))
  have r1 : (convert 29 9 (.slice (some ⟨a1, 0, none⟩) 1 k1)).run Tryz.prog w8 = .ok (.string ⟨#[97]⟩) w8 := by
    have h := conv_any s1.sl
    rw [str_of] at h
    exact h
  have r2 : (convert 29 9 (.slice (some ⟨a4, 0, none⟩) 1 k4)).run Tryz.prog w8 = .ok (.string ⟨#[49]⟩) w8 := by
    have h := conv_any s4.sl
    rw [str_of] at h
    exact h
  have e0' : w8.cell? ⟨g8, 0, none⟩ = some (.slice (some ⟨a1, 0, none⟩) 1 k1) := e0
  have e3' : w8.cell? ⟨g8, 3, none⟩ = some (.slice (some ⟨a4, 0, none⟩) 1 k4) := e3
  clear hp hb hat hge s1 s2 s3 s4 e0 e1 e2 e3 hln
  have hc2 : (2 : Int) ≤ (c : Int) := by omega
  go_wp2
  go_ret
  exact ⟨rfl, HB8.out⟩
end
end Go.Proofs.YtajcfhhnmjcmjaaGreatDoor
namespace Go.Proofs.YtajcfhhnmjcmjaaGreatDoor
open Go.RowKit

/-- what the root's blocks are to have -/
def hasB (P : PS) : List Int := if P.epoch = 0 then zerosL 256 else bytesOf (rootSt P)
/-- may b stand in block i? -/
def rightB (P : PS) (i : Nat) (b : List Int) : Bool := if (i : Int) = P.epoch % 2 then sameB b (hasB P) else (readR b).isSome || zeroB b
section
variable {P : PS} {ch : Chg} {S : Nat → Addr}
/-- a root that may be -/
def RtOk (P : PS) : Prop := 0 ≤ P.epoch ∧ P.epoch ≤ 1099511627776 ∧ (0 < P.epoch → (rootSt P).code = 0) ∧ Sums (rootSt P).refs
theorem hasB_len (h : RtOk P) : (hasB P).length = 256 ∧ Byt (hasB P) := by
  unfold hasB
  split
  · refine ⟨List.length_replicate, fun x hx => ?_⟩
    have : x = 0 := List.eq_of_mem_replicate hx
    omega
  · rename_i h0
    have hc := h.2.2.1 (by have := h.1; omega)
    have hf := (rootSt P).fine hc
    exact ⟨bytesOf_len hf.2.2.2, bytesOf_byt _⟩
end
end Go.Proofs.YtajcfhhnmjcmjaaGreatDoor
namespace Go.Proofs.YtajcfhhnmjcmjaaGreatDoor
open Go.RowKit

section
variable {P : PS} {ch : Chg} {S : Nat → Addr}
end
end Go.Proofs.YtajcfhhnmjcmjaaGreatDoor
namespace Go.Proofs.YtajcfhhnmjcmjaaGreatDoor
open Go.RowKit

/-- is what stands at a place wrong, in block i? -/
def wrongB (s : DSt) (P : PS) (i a : Nat) : Bool := !(decide ((s.read (a : Int)).1 = 0) && rightB P i (s.read (a : Int)).2)
section
variable {Real : World → Nat → DSt → (Nat → Prop) → Prop} {PR : World → Nat → Nat → Nat → Nat → (Nat → Prop) → Prop} {P : PS} {ch : Chg} {S : Nat → Addr}
end
end Go.Proofs.YtajcfhhnmjcmjaaGreatDoor
namespace Go.Proofs.YtajcfhhnmjcmjaaGreatDoor
open Go.RowKit

section
variable {Real : World → Nat → DSt → (Nat → Prop) → Prop} {PR : World → Nat → Nat → Nat → Nat → (Nat → Prop) → Prop} {S : Nat → Addr} {w0 w w' : World} {d g n q mk : Nat} {T : Nat → Prop} {s : DSt} {P : PS} {ch : Chg}
end
end Go.Proofs.YtajcfhhnmjcmjaaGreatDoor
namespace Go.Proofs.YtajcfhhnmjcmjaaGreatDoor

/-- block a was written last with l -/
def Blkd (s : DSt) (a : Nat) (l : List Int) : Prop := ∃ b, s.blks[a]? = some b ∧ St l b
/-- .. and reads so -/
def Rt (s : DSt) (a : Nat) (l : List Int) : Prop := ∃ b, s.blks[a]? = some b ∧ St l b ∧ b.read = (0, l)
section
variable {s s' : DSt} {a i H n q : Nat} {l : List Int}
theorem Rt.blkd (h : Rt s a l) : Blkd s a l := by
  obtain ⟨b, h1, h2, _⟩ := h
  exact ⟨b, h1, h2⟩
theorem Blkd.same (h : Blkd s a l) (e : s'.blks[a]? = s.blks[a]?) : Blkd s' a l := by
  obtain ⟨b, h1, h2⟩ := h
  exact ⟨b, e.trans h1, h2⟩
theorem Rt.same (h : Rt s a l) (e : s'.blks[a]? = s.blks[a]?) : Rt s' a l := by
  obtain ⟨b, h1, h2⟩ := h
  exact ⟨b, e.trans h1, h2⟩
theorem Blkd.put (h : Blkd s a l) (k : List Int) : Rt (s.put a k) a k := by
  obtain ⟨b, h1, h2⟩ := h
  exact ⟨_, put_at h1, st_write b k, read_write b k⟩
theorem Blkd.else_ (h : Blkd s a l) {j : Nat} {k : List Int} (hj : j ≠ a) : Blkd (s.put j k) a l := h.same (put_else hj)
theorem Rt.else_ (h : Rt s a l) {j : Nat} {k : List Int} (hj : j ≠ a) : Rt (s.put j k) a l := h.same (put_else hj)
theorem flb_at {b : BSt} (h : s.blks[a]? = some b) : (fl s).blks[a]? = some b.flush := by
  show (s.blks.map BSt.flush)[a]? = _
  rw [List.getElem?_map, h]; rfl
theorem Blkd.flushed (h : Blkd s a l) : Blkd (fl s) a l := by
  obtain ⟨b, h1, h2⟩ := h
  exact ⟨_, flb_at h1, h2.flush⟩
theorem Rt.flushed (h : Rt s a l) : Rt (fl s) a l := by
  obtain ⟨b, h1, h2, h3⟩ := h
  exact ⟨_, flb_at h1, h2.flush, by rw [read_flush]; exact h3⟩
/-- how a block reads that was written last with l -/
theorem Blkd.reads (h : Blkd s a l) : Rt s a l ∨ ∃ b, s.blks[a]? = some b ∧ b.fault = true ∧ b.pend = false ∧ (b.read = (107, []) ∨ ∃ (at' : Int) (bits : Nat), 0 ≤ at' ∧ at' ≤ 252 ∧ bits ≠ 0 ∧ bits < 4294967296 ∧ b.read = (0, turned l at' bits)) := by
  obtain ⟨b, h1, h2⟩ := h
  have h2' := h2
  rcases h2 with ⟨h, hn⟩ | ⟨h, hf, hl, hh⟩ | ⟨at', z, h, hf, hl, h0, h3, hb, hb2, hh⟩ | ⟨h, hf, hl⟩
  · exact .inl ⟨b, h1, h2', by unfold BSt.read; rw [if_pos h, hn]⟩
  · exact .inl ⟨b, h1, h2', by unfold BSt.read; rw [if_neg (by rw [h]; decide), if_neg (by rw [hl]; decide), hh]⟩
  · exact .inr ⟨b, h1, hf, h, .inr ⟨at', z, h0, h3, hb, hb2, by unfold BSt.read; rw [if_neg (by rw [h]; decide), if_neg (by rw [hl]; decide), hh]⟩⟩
  · exact .inr ⟨b, h1, hf, h, .inl (by unfold BSt.read; rw [if_neg (by rw [h]; decide), if_pos hl])⟩
/-- behind a flush what reads right is not faulted -/
theorem Rt.sound (h : Rt (fl s) a l) (hb : Blkd s a l) (hy : Byt l) (h256 : l.length = 256) (u : Up (fl s) n q) (ha : a < n) : (fl s).faulted (a : Int) = false := by
  obtain ⟨b, h1, h2, h3⟩ := h
  have hp : b.pend = false := by
    obtain ⟨b0, k1, _⟩ := hb
    rw [flb_at k1] at h1
    have e : b0.flush = b := by injection h1
    subst e
    unfold BSt.flush
    split
    · rfl
    · rename_i hn; simpa using hn
  have hf : b.fault = false := by
    rcases h2 with ⟨h, hn⟩ | ⟨h, hf, hl, hh⟩ | ⟨at', z, h, hf, hl, h0, h4, hz, hz2, hh⟩ | ⟨h, hf, hl⟩
    · rw [hp] at h; cases h
    · exact hf
    · exfalso
      unfold BSt.read at h3
      rw [if_neg (by rw [h]; decide), if_neg (by rw [hl]; decide), hh] at h3
      exact (turned_other hy h256 h0 h4 hz hz2).1 (by injection h3)
    · exfalso
      unfold BSt.read at h3
      rw [if_neg (by rw [h]; decide), if_pos hl] at h3
      injection h3 with h3
      cases h3
  unfold DSt.faulted
  rw [u.inB ha, Int.toNat_natCast, h1]
  exact hf
/-! one block faulted -/
theorem turn_at_ {f : BSt → BSt} {b : BSt} (h : s.blks[a]? = some b) : (s.turn (a : Int) f).blks[a]? = some (f b) := turn_at h
theorem free_of {b : BSt} (h : s.blks[a]? = some b) (hf : s.free (a : Int) = true) : b.pend = false ∧ b.fault = false := by
  unfold DSt.free at hf
  rw [Int.toNat_natCast, h] at hf
  simp at hf
  exact hf.2
theorem sound_of {b : BSt} (h : St l b) (hp : b.pend = false) (hf : b.fault = false) : b.fail = false ∧ b.has = l := by
  rcases h with ⟨h, hn⟩ | ⟨h, hf', hl, hh⟩ | ⟨at', z, h, hf', hl, _⟩ | ⟨h, hf', hl⟩
  · rw [hp] at h; cases h
  · exact ⟨hl, hh⟩
  · rw [hf] at hf'; cases hf'
  · rw [hf] at hf'; cases hf'
theorem Blkd.fail (h : Blkd s a l) : Blkd (s.fail (a : Int)).2 a l := by
  obtain ⟨b, h1, h2⟩ := h
  unfold DSt.fail
  split
  · rename_i hf
    obtain ⟨hp, _⟩ := free_of h1 hf
    exact ⟨_, turn_at_ h1, .failed hp rfl rfl⟩
  · exact ⟨b, h1, h2⟩
theorem Blkd.spoil (h : Blkd s a l) {at' : Int} {bits : Nat} (hb2 : bits < 4294967296) : Blkd (s.spoil (a : Int) at' bits).2 a l := by
  obtain ⟨b, h1, h2⟩ := h
  unfold DSt.spoil
  split
  · rename_i hc
    obtain ⟨hf, h3, h4, h5⟩ := hc
    obtain ⟨hp, hfl⟩ := free_of h1 hf
    obtain ⟨hl, hh⟩ := sound_of h2 hp hfl
    exact ⟨_, turn_at_ h1, .spoilt at' bits hp rfl hl h3 h4 h5 hb2 (by show turned b.has at' bits = _; rw [hh])⟩
  · exact ⟨b, h1, h2⟩
theorem fail_else {j : Nat} (hj : j ≠ a) : (s.fail (j : Int)).2.blks[a]? = s.blks[a]? := by
  unfold DSt.fail
  split
  · exact turn_else hj
  · rfl
theorem spoil_else {j : Nat} (hj : j ≠ a) (at' : Int) (bits : Nat) : (s.spoil (j : Int) at' bits).2.blks[a]? = s.blks[a]? := by
  unfold DSt.spoil
  split
  · exact turn_else hj
  · rfl
end
end Go.Proofs.YtajcfhhnmjcmjaaGreatDoor
