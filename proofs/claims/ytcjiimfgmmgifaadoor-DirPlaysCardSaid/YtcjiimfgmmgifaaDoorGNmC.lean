/- What may be a name: package name's Valid and Special, and the document's. -/
import Derived.Test.YtcjiimfgmmgifaaDoorGNmB
namespace Go.Proofs.YtcjiimfgmmgifaaDoor
open Go.RowKit Go.Shelf Go.Lib

theorem indexAny_ok : ∀ l : List UInt8, decide (0 ≤ Lib.indexAny l [47, 0]) = hasNev l
  | [] => rfl
  | b :: l => by
    have ih := indexAny_ok l
    have hg := Lib.indexAny_ge [47, 0] l
    unfold Lib.indexAny
    have e : hasNev (b :: l) = (nev b || hasNev l) := rfl
    rw [e, nev_contains]
    rcases hb : nev b with _ | _
    · rw [← ih]
      by_cases h : Lib.indexAny l [47, 0] = -1
      · simp [h]
      · simp [h]; omega
    · simp
theorem indexByte_ok (x : UInt8) : decide (0 ≤ Lib.indexByte [47, 0] x) = nev x := by rw [← nev_contains, Lib.contains_iff_indexByte]
theorem shouldUse_any (n : Int) (w : World) : Calls Tryd.prog 55 #[.int .i64 n] w fun e w' => e = .returned (.bool (decide (8 < n))) ∧ w' = w :=
  Any.strings_shouldUseASCIISet { Tryd.lays153 with } n w
theorem Tryd.set153 : (Tryd.prog.info? (Tryd.lays153_ren.t 116)).map (fun i => (i.zero, i.size)) = some (some (.agg (Array.replicate 256 (.bool false))), 256) := by kernel_rfl
theorem ascii2 : ∀ (j : Nat) b, two.data.toList[j]? = some b → b.toNat < 128 := fun _ b hb =>
  of_decide_eq_true (List.all_eq_true.1 (show ([47, 0] : List UInt8).all (fun b => decide (b.toNat < 128)) = true by decide) b (List.mem_of_getElem? hb))
/-- strings.IndexAny at a slash and a 0, whatever the text's bytes -/
def Found (s : ByteArray) (w : World) (e : Ending) (w' : World) : Prop := (∃ k : Int, e = .returned (.int .i64 k) ∧ decide (0 ≤ k) = hasNev s.data.toList) ∧ Below w.heap.size w w'
set_option maxHeartbeats 4000000 in
set_option maxRecDepth 100000 in
theorem indexAny_any (s : ByteArray) (w : World) (hs : s.size < 4294967281) : Calls Tryd.prog 48 #[.string s, .string two] w (Found s w) := by
  by_cases h8 : 8 < s.size
  · refine (Any.strings_IndexAny_long Tryd.lays153 (zero_of_info Tryd.set153).1 (zero_of_info Tryd.set153).2 s two w (by decide) h8 hs (by decide) ascii2).mono ?_
    rintro e w' ⟨rfl, rfl⟩
    exact ⟨⟨_, rfl, indexAny_ok _⟩, ((Below.refl _ _).alloc (Nat.le_refl _) _).alloc (by simp) _⟩
  · have h8z : decide ((8 : Int) < (s.size : Int)) = false := decide_eq_false (by omega)
    have hsl : s.data.toList.length = s.size := (Lib.size_eq s).symm
    have HSL := hid hsl
    clear hsl hs h8
    go_enter Tryd.func48, Tryd.ntmps48
    go_wp2_with fail
    refine (shouldUse_any _ _).mono ?_
    rw [h8z]
    rintro e w' ⟨rfl, hw⟩
    rw [hw]
    clear hw h8z
    have HB0 := hid (show Below w.heap.size w (w.iter s 0) from (Below.refl _ _).alloc (Nat.le_refl _) _)
    have HI0 := hid (World.iter_heap w s 0)
    go_wp2
    go_loopg [9, 10] s.size (fun g _ _ wx => ∃ i : Nat, i ≤ s.size ∧ s.size - i ≤ g ∧ Hid (wx.heap[w.heap.size]? = some (.stringIter s i)) ∧ Hid (Below w.heap.size w wx) ∧ Hid (NoNev s.data.toList i))
    case atStart => exact ⟨0, Nat.zero_le _, Nat.le_refl _, HI0, HB0, hid (NoNev.zero _)⟩
    case round =>
      obtain ⟨i, hi, hig, HI, HB, HN⟩ := hrel
      by_cases hlt : i < s.size
      · obtain ⟨x, hx⟩ : ∃ x : UInt8, s[i]'hlt = x := ⟨_, rfl⟩
        have hxl : s.data.toList[i]? = some x := by rw [← hx]; exact Lib.data_getElem? s i hlt
        have HX := hid hxl
        clear hxl
        by_cases hx8 : x.toNat < 128
        · have hnx := fun ty => run_next_ascii_at (P := Tryd.prog) wr w.heap.size s i ty HI.out hlt (by rw [hx]; exact hx8)
          rw [hx] at hnx
          have hok := indexByte_ok x
          have hback : ((x.toNat : Int)).toNat.toUInt8 = x := by simp
          have HI2 := hid (iterAt_heap wr w.heap.size s i (i + 1) HI.out)
          have HB2 := hid (below_iterAt HB.out (Nat.le_refl _) s (i + 1))
          generalize wr.iterAt w.heap.size s (i + 1) = W at hnx HI2 HB2
          rcases hn : nev x with _ | _
          · rw [hn] at hok
            have hlow : ¬ ((0 : Int) ≤ Lib.indexByte [47, 0] x) := of_decide_eq_false hok
            clear hok
            go_wp2_with (go_at_call 54; refine (indexRune_low _ _ (by omega) (by omega)).mono ?_; rintro e w' ⟨rfl, hw⟩; rw [hw, hback])
            go_roundg (s.size - (i + 1))
            case measure => omega
            case rel => exact ⟨i + 1, by omega, Nat.le_refl _, HI2, HB2, hid (HN.out.succ HX.out hn)⟩
          · rw [hn] at hok
            have hge : (0 : Int) ≤ Lib.indexByte [47, 0] x := of_decide_eq_true hok
            clear hok
            go_wp2_with (go_at_call 54; refine (indexRune_low _ _ (by omega) (by omega)).mono ?_; rintro e w' ⟨rfl, hw⟩; rw [hw, hback])
            go_ret
            exact ⟨⟨_, rfl, by rw [hasNev_of HX.out hn]; exact decide_eq_true (by omega)⟩, HB2.out⟩
        · have hnx := fun ty => run_next_any_at (P := Tryd.prog) wr w.heap.size s i ty HI.out hlt
          obtain ⟨o1, o2⟩ := decode_over s i hlt (by rw [hx]; omega)
          obtain ⟨d1, d2⟩ := decode_high s i hlt (by rw [hx]; omega)
          have d3 := decode_top s i
          obtain ⟨c, hc⟩ : ∃ c, (Utf8.decode s i).1 = c := ⟨_, rfl⟩
          obtain ⟨k, hk⟩ : ∃ k, i + (Utf8.decode s i).2 = k := ⟨_, rfl⟩
          have hik : i < k := by omega
          rw [hk] at o1 o2 hnx
          rw [hc] at d1 d3 hnx
          have HN2 := hid (show NoNev s.data.toList k from fun j b hj hb => by
            by_cases e : j < i
            · exact HN.out j b e hb
            · exact o2 j (by omega) hj b hb)
          have HI2 := hid (iterAt_heap wr w.heap.size s i k HI.out)
          have HB2 := hid (below_iterAt HB.out (Nat.le_refl _) s k)
          generalize wr.iterAt w.heap.size s k = W at hnx HI2 HB2
          clear hc hk d2 hx o2
          go_wp2_with fail
          refine (indexRune_high c W d1 d3).mono ?_
          rintro e w' ⟨rfl, hb⟩
          have HI3 := hid (show w'.heap[w.heap.size]? = some (.stringIter s k) from (hb.block _ (Array.getElem?_eq_some_iff.1 HI2.out).1).trans HI2.out)
          have HB3 := hid (HB2.out.trans (hb.mono HB2.out.size))
          clear hb
          go_wp2
          go_roundg (s.size - k)
          case measure => omega
          case rel => exact ⟨k, o1, Nat.le_refl _, HI3, HB3, HN2⟩
      · obtain rfl : i = s.size := by omega
        have hnx := fun ty => run_next_end_at (P := Tryd.prog) wr w.heap.size s s.size ty HI.out hlt
        go_wp2
        go_ret
        exact ⟨⟨_, rfl, by rw [HN.out.all (by rw [HSL.out]; exact Nat.le_refl _)]; rfl⟩, HB.out⟩
theorem containsAny_any (s : ByteArray) (w : World) (hs : s.size < 4294967281) : Calls Tryd.prog 38 #[.string s, .string two] w fun e w' => e = .returned (.bool (hasNev s.data.toList)) ∧ Below w.heap.size w w' := by
  have H := hid hs
  clear hs
  go_enter Tryd.func38, Tryd.ntmps38
  go_wp2_with fail
  refine (indexAny_any s w H.out).mono ?_
  rintro e w' ⟨⟨k, rfl, hk⟩, hb⟩
  have HB := hid hb
  obtain ⟨b, hb'⟩ : ∃ b, hasNev s.data.toList = b := ⟨_, rfl⟩
  have HV := hid hb'
  rw [hb'] at hk
  clear hb hb'
  go_wp2
  go_ret
  exact ⟨by rw [HV.out]; rfl, HB.out⟩
end Go.Proofs.YtcjiimfgmmgifaaDoor
