/- WireRanges answers true: where there are more bytes behind than it asks, where the number is within its bounds, and where it is not. Conditions: the bytes behind read, as bytes; the errors lie in their variables, each a pointer of its own. -/
import Derived.Test.YtfggfdmjmebgfaaDoorQ
import Derived.Laws.AppendOwnNone
namespace Go.Proofs.YtfggfdmjmebgfaaDoor
open Go.RowKit

theorem wpList_append_sl {w : World} {ops : Array Oper} {rest : List Oper} {o : Oper} {a : Act} {Q : Exit → Act → World → Prop} (hgd : o.guard = none) (s x : Operand)
    (ho : o.op = .call { callee := .builtin .append, args := #[s, x], argTypes := #[22, 22] }) (B B' : Nat) (v : Value) (l m : List Int) (hs : a.eval s = v) (hown : Own w B v l) (A : Option Addr) (n c : Nat) (hx : a.eval x = .slice A n c)
    (hsl : Sl w B' A n c m) (hlen : l.length + n ≤ 1000000) (hB : B ≤ w.heap.size) (h : ∀ v' w', Own w' B v' (l ++ m) → Below B w w' → wpList Tryd.prog ops Q rest (a.put o.dst v') w') : wpList Tryd.prog ops Q (o :: rest) a w := by
  obtain ⟨i0, hi, hz0, hz1, hz2⟩ := info_parts Tryd.info5
  rcases A with _ | ad
  · obtain rfl : c = 0 := hsl.nil rfl
    obtain rfl : n = 0 := by have := hsl.cap; omega
    obtain rfl : m = [] := List.eq_nil_of_length_eq_zero hsl.len
    exact wpList_append_own_none hgd s x 22 ho B 5 i0 1 Tryd.underlying22 hi v _ _ hs hown hx (h v w (by simpa using hown) (Below.refl _ _))
  · refine wpList_append_own w hgd s x 22 ho B 5 i0 (.int .u8 0) 1 1 Tryd.underlying22 hi hz0 hz1 hz2 rfl (by decide) v _ _ hs hown ad n c (I m) hx (by rw [I_len, hsl.len]; omega) ?_ I_one (by unfold maxLen; omega) (by omega) hB ?_
    · intro j u hu
      obtain ⟨y, hy, rfl⟩ := I_get' hu
      have hj : j < m.length := (List.getElem?_eq_some_iff.1 hy).1
      exact (hsl.at_ ad rfl (by have := hsl.len; omega)).2 j y hy
    · intro v' w' h1 h2 _
      refine h v' w' ?_ ((Below.refl _ _).grown h2 hB (fun k hk => (hown.lt k hk).1))
      unfold Own
      rw [I_append, List.length_append, hsl.len]
      exact h1

set_option maxRecDepth 100000 in
set_option maxHeartbeats 2000000 in
theorem wireRanges_far (x low high : Int) (A : Option Addr) (n c : Nat) (w : World) (hn : n ≤ 9223372036854775807) (h : 50 < n) :
    Calls Tryd.prog 5 #[.int .i64 x, .int .i64 low, .int .i64 high, .slice A n c] w (Yes w) := by
  have d0 : decide ((50 : Int) < n) = true := by simp; omega
  go_enter Tryd.func5, Tryd.ntmps5
  go_wp2_with fail
  refine (first_any w).mono ?_
  rintro e w1 ⟨rfl, hb⟩
  have HB := hid hb
  clear hb
  go_wp2
  go_ret
  exact ⟨rfl, HB.out⟩

set_option maxRecDepth 100000 in
set_option maxHeartbeats 4000000 in
theorem wireRanges_near (x low high : Int) (A : Option Addr) (n c : Nat) (l : List Int) (S : Nat → Addr) (w : World) (h : Sl w w.heap.size A n c l) (hl : Byt l) (hE : Sent w S)
    (hn : n ≤ 50) (h0 : -9223372036854775808 ≤ x) (h1 : x ≤ 9223372036854775807) :
    Calls Tryd.prog 5 #[.int .i64 x, .int .i64 low, .int .i64 high, .slice A n c] w (Yes w) := by
  have d0 : decide ((50 : Int) < n) = false := by simp; omega
  have HX := hid hE
  have HS := hid h
  have HY := hid hl
  have HLn := hid (enc_len x)
  clear h hE hl
  go_enter Tryd.func5, Tryd.ntmps5
  go_wp2_with fail
  refine (first_any w).mono ?_
  rintro e w1 ⟨rfl, hb⟩
  have HB := hid hb
  have HS := hid (HS.out.on hb)
  clear hb
  go_wp2_with fail
  refine (put_any none 0 0 x [] _ (Sl.empty _ _) (by omega) h0 h1).mono ?_
  rw [List.nil_append]
  rintro e w2 hm
  obtain ⟨A2, m2, c2, rfl, hs2, hb⟩ := hm.get
  have HS2 := hid hs2
  have hm2 := hid (show m2 = (enc x).length from hs2.len.symm)
  have HS := hid (HS.out.on hb)
  have HB := hid (HB.out.trans (hb.mono HB.out.size))
  have HZ2 := hid HB.out.size
  clear hb hs2 hm
  go_wp2_with fail
  refine (bytes_any A2 m2 c2 (enc x) _ HS2.out (by have := hm2.out; have := HLn.out; omega)).mono ?_
  rintro e w3 ⟨v3, rfl, ho, hb⟩
  have HO := hid ho
  have HS := hid (HS.out.on hb)
  have HB3 := hid hb
  have HB := hid (HB.out.trans (hb.mono HB.out.size))
  clear hb ho
  go_wp2_with (at_builtin; refine wpList_append_sl rfl _ _ rfl w2.heap.size w3.heap.size v3 (enc x) l rfl HO.out A n c rfl HS.out ?hlen ?hB ?_)
  case hlen => have := HLn.out; omega
  case hB => exact HB3.out.size
  intro v4 w4 ho hb
  obtain ⟨A4, c4, rfl, hs4, _⟩ := Own.form ho
  generalize hm4 : (enc x ++ l).length = m4 at hs4
  have HM4 := hid (show m4 = (enc x).length + n by rw [← hm4, List.length_append, HS.out.len])
  have HS4 := hid hs4
  have HB4 := hid (show Below w.heap.size w w4 from HB.out.trans (hb.mono HZ2.out))
  clear hb ho hs4 hm4
  have HBy := hid (show Byt (enc x ++ l) from (enc_byt h0 h1).append HY.out)
  go_wp2_with fail
  refine (newReader_any A4 m4 c4 _ _ HS4.out (by have := HM4.out; have := HLn.out; omega)).mono ?_
  rintro e w5 ⟨g, A5, c5, rfl, hg, hr, hb, _⟩
  have HR := hid hr
  have HG := hid (show w.heap.size ≤ g from Nat.le_trans HB4.out.size hg)
  have HB5 := hid (HB4.out.trans (hb.mono HB4.out.size))
  have HX5 := hid (HX.out.on HB5.out)
  have HV := hid (show scan ((enc x ++ l).drop 0) 0 0 = (0, zz x, (enc x).length) from scan_num h0 h1 l)
  have HN := hid (show m4 ≤ 100000 by have := HM4.out; have := HLn.out; omega)
  clear hr hg hb
  by_cases hin : low ≤ x ∧ x ≤ high
  · have e0 : decide (low ≤ x) = true := by simp; omega
    have e1 : decide (x ≤ high) = true := by simp; omega
    have exx : (x == x) = true := by simp
    go_wp2_with fail
    refine (num_ok (p := 0) (s := (enc x).length) low high HR.out HX5.out.errs HBy.out HN.out HV.out (by have := HM4.out; omega) (by rw [unzz_zz]; exact hin.1) (by rw [unzz_zz]; exact hin.2)).mono ?_
    rw [unzz_zz, Nat.zero_add]
    rintro e w6 ⟨rfl, hr, hg⟩
    have HR6 := hid hr
    have HB6 := hid (HB5.out.trans (below_only hg HG.out HB5.out.size))
    clear hr hg hin
    rw [← hm2.out] at HR6
    go_wp2_with fail
    refine (err_any HR6.out).mono ?_
    rintro e w7 ⟨rfl, rfl⟩
    go_wp2_with fail
    refine (at_any HR6.out).mono ?_
    rintro e w7 ⟨rfl, rfl⟩
    have emm : ((m2 : Int) == (m2 : Int)) = true := by simp
    have enn : ((n : Int) == (n : Int)) = true := by simp
    go_wp2_with fail
    refine (left_any HR6.out (by have := HM4.out; have := hm2.out; omega) HN.out).mono ?_
    rw [show m4 - m2 = n by have := HM4.out; have := hm2.out; omega]
    rintro e w7 ⟨rfl, k7, rfl⟩
    go_wp2
    go_ret
    exact ⟨rfl, below_drewN HB6.out _⟩
  · rcases Int.lt_or_le x low with hx | hx
    all_goals
      first
        | have e0 : decide (low ≤ x) = false := by simp; omega
        | (have e0 : decide (low ≤ x) = true := by simp; omega
           have e1 : decide (x ≤ high) = false := by simp; omega)
      have HU := hid (show unzz (zz x) < low ∨ high < unzz (zz x) by rw [unzz_zz]; omega)
      clear hin hx
      go_wp2_with fail
      refine (num_range (p := 0) (s := (enc x).length) low high HR.out HX5.out.errs HBy.out HN.out (Nat.zero_le _) HV.out HU.out).mono ?_
      rintro e w6 ⟨rfl, hb, hh, hk, hr, hg⟩
      have HR6 := hid hr
      have HK6 := hid hk
      have HB6 := hid (HB5.out.trans (below_only hg HG.out HB5.out.size))
      clear hr hg hh hk
      go_wp2_with fail
      refine (num_none HR6.out).mono ?_
      rintro e w7 ⟨rfl, rfl⟩
      go_wp2_with fail
      refine (bool_none HR6.out).mono ?_
      rintro e w7 ⟨rfl, rfl⟩
      go_wp2_with fail
      refine (text_none HR6.out).mono ?_
      rintro e w7 ⟨rfl, rfl⟩
      go_wp2_with fail
      refine (at_any HR6.out).mono ?_
      rintro e w7 ⟨rfl, rfl⟩
      go_wp2_with fail
      refine (err_any HR6.out).mono ?_
      rintro e w7 ⟨rfl, rfl⟩
      go_wp2_with fail
      refine (placed_any 103 0 _ (by decide)).mono ?_
      rintro e w7 ⟨rfl, hb7⟩
      have HB7 := hid (HB6.out.trans (hb7.mono HB6.out.size))
      have HK7 := hid (HK6.out.below hb7 HK6.out.lt)
      clear hb7
      go_wp2_with fail
      refine (see_any S 2 hb 0 103 _ (HX.out.on HB7.out) (by decide) HK7.out (by decide)).mono ?_
      rintro e w8 ⟨rfl, hb8⟩
      have HB8 := hid (HB7.out.trans (hb8.mono HB7.out.size))
      clear hb8
      go_wp2
      go_ret
      exact ⟨rfl, HB8.out⟩
end Go.Proofs.YtfggfdmjmebgfaaDoor
