/- WireLengths answers true, whatever the two numbers. Conditions: the errors lie in their variables, each a pointer of its own. -/
import Derived.Test.YtfggfdmjmebgfaaDoorR
namespace Go.Proofs.YtfggfdmjmebgfaaDoor
open Go.RowKit

def BoolOk (w : World) (g : Nat) (A : Option Addr) (n c : Nat) (l : List Int) (p : Nat) (b : Bool) (e : Ending) (w' : World) : Prop :=
  e = .returned (.bool b) ∧ Rdr w' g A n c l (p : Int) .nilIface ∧ w.grownBy w' (some g)

set_option maxRecDepth 100000 in
set_option maxHeartbeats 1000000 in
theorem bool_zero {A : Option Addr} {n c g p s : Nat} {l : List Int} {aR aE aS : Addr} {w : World} (h : Rdr w g A n c l (p : Int) .nilIface) (hE : Errs w aR aE aS) (hl : Byt l) (hn : n ≤ 100000)
    (hr : scan (l.drop p) 0 0 = (0, 0, s)) (hs : p + s ≤ n) :
    Calls Tryd.prog 24 #[.pointer (some ⟨g, 0, none⟩)] w (BoolOk w g A n c l (p + s) false) := by
  have HH := hid h
  have HR := hid hr
  have HL := hid hl
  have HX := hid hE
  clear h hr hl hE
  go_enter Tryd.func24, Tryd.ntmps24
  go_wp2_with fail
  refine (num_ok 0 1 HH.out HX.out HL.out hn HR.out hs (by decide) (by decide)).mono ?_
  rw [show unzz 0 = 0 from by decide]
  rintro e w1 ⟨rfl, hr, hg⟩
  have HF := hid (show BoolOk w g A n c l (p + s) false (.returned (.bool false)) w1 from ⟨rfl, hr, hg⟩)
  clear hr hg
  go_wp2
  go_ret
  exact HF.out

theorem zeros (n : Nat) : (madeCells #[Value.int .u8 0] n).toList = I (List.replicate n 0) := by
  have h := toList_madeCells_one (Value.int .u8 0) n
  simp only [I, List.map_replicate]
  exact h

set_option maxRecDepth 100000 in
set_option maxHeartbeats 4000000 in
theorem wireLengths_any (x y : Int) (S : Nat → Addr) (w : World) (hE : Sent w S) : Calls Tryd.prog 7 #[.int .i64 x, .int .i64 y] w (Yes w) := by
  obtain ⟨i0, hi, hz0, hz1, hz2⟩ := info_parts Tryd.info5
  have HX := hid hE
  clear hE
  go_enter Tryd.func7, Tryd.ntmps7
  go_wp2_with fail
  refine (first_any w).mono ?_
  rintro e w1 ⟨rfl, hb⟩
  have HB := hid hb
  clear hb
  go_wp2_with fail
  refine (number_any x 300 _ (by decide) (by decide)).mono ?_
  rintro e w2 ⟨rfl, rfl⟩
  obtain ⟨n, hn, hn1⟩ : ∃ n : Nat, x % 300 = (n : Int) ∧ n < 300 := ⟨(x % 300).toNat, by omega, by omega⟩
  rw [hn]
  clear hn
  go_wp2_with fail
  refine (number_any y 300 _ (by decide) (by decide)).mono ?_
  rintro e w2 ⟨rfl, rfl⟩
  obtain ⟨k, hk, hk1⟩ : ∃ k : Nat, y % 300 = (k : Int) ∧ k < 300 := ⟨(y % 300).toNat, by omega, by omega⟩
  rw [hk]
  clear hk
  have HB0 := hid (show Below w.heap.size w (w1.alloc (.cells (I [0]).toArray 5)) from HB.out.alloc HB.out.size _)
  have HL0 := hid (Sl.lit w1 [0] (by decide))
  have hsz : (w1.alloc (.cells (I [0]).toArray 5)).heap.size = w1.heap.size + 1 := by simp
  have HZ := hid hsz
  clear hsz
  go_wp2_with (at_make; refine wpList_make_full _ rfl _ _ 22 rfl (w1.heap.size + 1) 5 i0 (.int .u8 0) 1 Tryd.underlying22 hi hz0 hz1 _ _ _ _ n rfl rfl ?hL ?hC ?b2 ?b3 ?b4 ?_)
  case hL => rfl
  case hC => rfl
  case b2 => rw [hz2]; omega
  case b3 => unfold maxLen; omega
  case b4 => simp
  intro w2 hown hgrow
  rw [zeros] at hown
  have ho : Own w2 (w1.heap.size + 1) (.slice (some ⟨w1.heap.size + 1, 0, none⟩) n n) (List.replicate n 0) := by
    unfold Own
    rw [List.length_replicate]
    exact hown
  obtain ⟨A', c', he, hs, _⟩ := ho.form
  rw [List.length_replicate] at he hs
  injection he with hA _ hc
  subst hA hc
  have hq := conv_any hs
  obtain ⟨s, hs1⟩ : ∃ s, s = strOfNums (List.replicate n 0) := ⟨_, rfl⟩
  have hs2 := hid (show s.size = n by rw [hs1, strOfNums_size, List.length_replicate])
  rw [← hs1] at hq
  have HL2 := hid (HL0.out.grown hgrow (by simp) (fun g hg => by cases hg))
  have HL3 := hid (HL2.out.more (B' := w2.heap.size) (by have := hgrow.size; simp at this; omega))
  have HB2 := hid (show Below w.heap.size w w2 from HB0.out.grown hgrow HB0.out.size (fun g hg => by cases hg))
  clear hown hgrow ho hs hs1
  have hs300 := hid (show s.size ≤ 300 by have := hs2.out; omega)
  have HEl := hid (enc_len (s.size : Int))
  go_wp2_with fail
  refine (putText_any _ 1 1 s [0] _ HL3.out (by omega) (by have := hs300.out; omega)).mono ?_
  rintro e w3 hm
  obtain ⟨A3, m3, c3, rfl, hs3, hb⟩ := hm.get
  have HS3 := hid hs3
  have HM3 := hid (show m3 = 1 + (enc s.size).length + s.size by rw [← hs3.len]; simp [str_len]; omega)
  have HB3 := hid (HB2.out.trans (hb.mono HB2.out.size))
  have HBy := hid (show Byt ([0] ++ enc s.size ++ str s) from ((show Byt [0] from fun x hx => by simp at hx; omega).append (enc_byt (by omega) (by have := hs300.out; omega))).append (str_byt s))
  have HN := hid (show m3 ≤ 100000 by have := HM3.out; have := HEl.out; have := hs300.out; omega)
  clear hm hb hs3 hq
  go_wp2_with fail
  refine (newReader_any A3 m3 c3 _ _ HS3.out HN.out).mono ?_
  rintro e w5 ⟨g, A5, c5, rfl, hg, hr, hb, _⟩
  have HR := hid hr
  have HG := hid (show w.heap.size ≤ g from Nat.le_trans HB3.out.size hg)
  have HB5 := hid (HB3.out.trans (hb.mono HB3.out.size))
  have HX5 := hid (HX.out.on HB5.out)
  have HV1 := hid (show scan (([0] ++ enc s.size ++ str s).drop 0) 0 0 = (0, 0, 1) by simp [scan])
  have HV2 := hid (show scan (([0] ++ enc s.size ++ str s).drop 1) 0 0 = (0, zz s.size, 1 + (enc s.size).length - 1) by
    have := scan_num (n := (s.size : Int)) (by omega) (by have := hs300.out; omega) (str s)
    simpa using this)
  clear hr hg hb
  go_wp2_with fail
  refine (bool_zero (p := 0) (s := 1) HR.out HX5.out.errs HBy.out HN.out HV1.out (by have := HM3.out; omega)).mono ?_
  rintro e w6 ⟨rfl, hr, hg⟩
  have HR6 := hid hr
  have HB6 := hid (HB5.out.trans (below_only hg HG.out HB5.out.size))
  have HX6 := hid (HX.out.on HB6.out)
  clear hr hg
  rcases Nat.lt_or_ge k n with hkn | hkn
  · have e0 : decide ((n : Int) ≤ k) = false := by simp; omega
    go_wp2_with fail
    refine (text_range (p := 1) (k : Int) HR6.out HX6.out.errs HBy.out HN.out (by have := HM3.out; omega) HV2.out (by rw [unzz_zz]; have := hs2.out; omega)).mono ?_
    rintro e w7 ⟨rfl, hb, hh, hk, hr, hg⟩
    have HR7 := hid hr
    have HK7 := hid hk
    have HB7 := hid (HB6.out.trans (below_only hg HG.out HB6.out.size))
    clear hr hg hh hk
    go_wp2_with fail
    refine (err_any HR7.out).mono ?_
    rintro e w8 ⟨rfl, rfl⟩
    go_wp2_with fail
    refine (placed_any 103 1 _ (by decide)).mono ?_
    rintro e w8 ⟨rfl, hb8⟩
    have HB8 := hid (HB7.out.trans (hb8.mono HB7.out.size))
    have HK8 := hid (HK7.out.below hb8 HK7.out.lt)
    clear hb8
    go_wp2_with fail
    refine (see_any S 2 hb 1 103 _ (HX.out.on HB8.out) (by decide) HK8.out (by decide)).mono ?_
    rintro e w9 ⟨rfl, hb9⟩
    have HB9 := hid (HB8.out.trans (hb9.mono HB8.out.size))
    clear hb9
    go_wp2
    go_ret
    exact ⟨rfl, HB9.out⟩
  · have e0 : decide ((n : Int) ≤ k) = true := by simp; omega
    have e1 : ((s.size : Int) == (n : Int)) = true := by rw [beq_iff_eq, hs2.out]
    have HT := hid (show strOfNums (List.take s.size (List.drop (1 + (enc s.size).length) ([0] ++ enc s.size ++ str s))) = s by
      have e : List.drop (1 + (enc s.size).length) ([0] ++ enc s.size ++ str s) = str s := by rw [show 1 + (enc s.size).length = ([0] ++ enc s.size : List Int).length by simp; omega]; exact List.drop_left
      rw [e, List.take_of_length_le (by rw [str_len]; exact Nat.le_refl _), str_of])
    go_wp2_with fail
    refine (text_ok (p := 1) (q := 1 + (enc s.size).length) (m := s.size) (k : Int) HR6.out HX6.out.errs HBy.out HN.out HV2.out (by omega) (unzz_zz _) (by have := hs2.out; omega) (by have := HM3.out; omega)).mono ?_
    rw [HT.out]
    rintro e w7 ⟨rfl, hr, hg⟩
    have HR7 := hid hr
    have HB7 := hid (HB6.out.trans (below_only hg HG.out HB6.out.size))
    clear hr hg
    go_wp2_with fail
    refine (err_any HR7.out).mono ?_
    rintro e w8 ⟨rfl, rfl⟩
    go_wp2_with fail
    refine (left_any HR7.out (by have := HM3.out; omega) HN.out).mono ?_
    rw [show m3 - (1 + (enc s.size).length + s.size) = 0 by have := HM3.out; omega]
    rintro e w8 ⟨rfl, k8, rfl⟩
    go_wp2
    go_ret
    exact ⟨rfl, below_drewN HB7.out _⟩
end Go.Proofs.YtfggfdmjmebgfaaDoor
