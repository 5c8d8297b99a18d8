/- Put and PutText of package wire, and those of the document, lay the same bytes behind the same bytes, in new memory. Conditions: the slice reads, ten thousand bytes at the most. -/
import Derived.Test.YtfggfdmjmebgfaaDoorB
import Derived.Lib.AppendStr
import Derived.BigQuiet
import Derived.Deep.QuietTactic
namespace Go.Proofs.YtfggfdmjmebgfaaDoor
open Go.RowKit

theorem room_int (A : Option Addr) (n c : Nat) (r : Int) (l : List Int) (w : World) (h : Sl w w.heap.size A n c l) (h0 : 0 ≤ r) (hb : n + r ≤ 1000000) :
    Calls Tryd.prog 27 #[.slice A n c, .int .i64 r] w (Made w l) := by
  obtain ⟨k, rfl⟩ := Int.eq_ofNat_of_zero_le h0
  exact room_any A n c k l w h (by omega)

set_option maxRecDepth 100000 in
set_option maxHeartbeats 1000000 in
theorem put_any (A : Option Addr) (n c : Nat) (x : Int) (l : List Int) (w : World) (h : Sl w w.heap.size A n c l) (hn : n ≤ 10000) (h0 : -9223372036854775808 ≤ x) (h1 : x ≤ 9223372036854775807) :
    Calls Tryd.prog 11 #[.slice A n c, .int .i64 x] w (Made w (l ++ enc x)) := by
  have HS := hid h
  clear h
  go_enter Tryd.func11, Tryd.ntmps11
  go_wp2_with fail
  refine (room_int A n c 10 l _ HS.out (by omega) (by omega)).mono ?_
  rintro e w1 ⟨v, rfl, ho, hb⟩
  have HO := hid ho
  have HB := hid hb
  clear ho hb
  go_wp2_with fail
  refine (appendNum_any w.heap.size v l x w1 HO.out HB.out.size h0 h1 (by have := HS.out.len; omega)).mono ?_
  rintro e w2 ⟨v2, rfl, ho2, hb2⟩
  have HF := hid (show Made w (l ++ enc x) (.returned v2) w2 from ⟨v2, rfl, ho2, HB.out.trans hb2⟩)
  clear ho2 hb2
  go_wp2
  go_ret
  exact HF.out

def str (s : ByteArray) : List Int := s.data.toList.map fun b => (b.toNat : Int)
theorem str_len (s : ByteArray) : (str s).length = s.size := by
  rw [str, List.length_map, Array.length_toList]
  rfl
theorem str_cells (s : ByteArray) : Lib.strCells s = I (str s) := by simp [Lib.strCells, I, str]

set_option maxRecDepth 100000 in
set_option maxHeartbeats 1000000 in
theorem putText_any (A : Option Addr) (n c : Nat) (s : ByteArray) (l : List Int) (w : World) (h : Sl w w.heap.size A n c l) (hn : n ≤ 10000) (hs : s.size ≤ 10000) :
    Calls Tryd.prog 12 #[.slice A n c, .string s] w (Made w (l ++ enc s.size ++ str s)) := by
  obtain ⟨i0, hi, hz0, hz1, hz2⟩ := info_parts Tryd.info5
  have HS := hid h
  clear h
  go_enter Tryd.func12, Tryd.ntmps12
  go_wp2_with fail
  refine (room_int A n c (10 + (s.size : Int)) l _ HS.out (by omega) (by omega)).mono ?_
  rintro e w1 ⟨v, rfl, ho, hb⟩
  have HO := hid ho
  have HB := hid hb
  clear ho hb
  go_wp2_with fail
  refine (appendNum_any w.heap.size v l (s.size : Int) w1 HO.out HB.out.size (by omega) (by omega) (by have := HS.out.len; omega)).mono ?_
  rintro e w2 ⟨v2, rfl, ho2, hb2⟩
  have HO2 := hid ho2
  have HB2 := hid hb2
  clear ho2 hb2
  go_wp2_with (at_builtin; refine Lib.wpList_append_own_string _ rfl _ _ 22 9 rfl w.heap.size 5 i0 Tryd.underlying22 Tryd.underlying9 hi hz0 hz1 hz2 _ _ _ rfl HO2.out s rfl ?c3 ?c4 ?c5 ?_)
  case c3 => have := HS.out.len; have := enc_len (s.size : Int); unfold maxLen; simp; omega
  case c4 => have := HS.out.len; have := enc_len (s.size : Int); simp; omega
  case c5 => exact Nat.le_trans HB.out.size HB2.out.size
  intro v' w3 hown' hgrow _
  have HF := hid (show Made w (l ++ enc s.size ++ str s) (.returned v') w3 from ⟨v', rfl, by
    unfold Own
    rw [I_append, ← str_cells]
    simpa [str_len, Nat.add_assoc] using hown', (HB.out.trans HB2.out).grown hgrow (Nat.le_trans HB.out.size HB2.out.size) (fun k hk => (HO2.out.lt k hk).1)⟩)
  clear hown' hgrow
  go_wp2
  go_ret
  exact HF.out

/-- a copy, byte by byte -/
theorem take_next {l : List Int} {k : Nat} {x : Int} (h : l[k]? = some x) : l.take (k + 1) = l.take k ++ [x] := by rw [List.take_add_one, h]; rfl

set_option maxRecDepth 100000 in
set_option maxHeartbeats 1000000 in
theorem bytes_any (A : Option Addr) (n c : Nat) (l : List Int) (w : World) (h : Sl w w.heap.size A n c l) (hn : n ≤ 100000) :
    Calls Tryd.prog 10 #[.slice A n c] w (Made w l) := by
  obtain ⟨i0, hi, hz0, hz1, hz2⟩ := info_parts Tryd.info5
  have HS := hid h
  clear h
  go_enter Tryd.func10, Tryd.ntmps10
  go_wp2_with (at_make; refine wpList_make_own _ rfl _ _ 22 rfl w.heap.size 5 i0 (.int .u8 0) 1 Tryd.underlying22 hi hz0 hz1 _ _ _ n rfl rfl ?hC ?b2 ?b3 ?b4 ?_)
  case hC => rfl
  case b2 => rw [hz2]; omega
  case b3 => unfold maxLen; omega
  case b4 => exact Nat.le_refl _
  intro w1 hown hgrow
  have HO := hid (show Own w1 w.heap.size (.slice (some ⟨w.heap.size, 0, none⟩) 0 n) (l.take 0) from hown)
  have HB := hid (show Below w.heap.size w w1 from (Below.refl _ _).grown hgrow (Nat.le_refl _) (fun _ h => by cases h))
  clear hown hgrow
  go_wp2
  go_loopw [3, 4] (fun v i wr => ∃ k : Nat, k ≤ n ∧ i = .int .i64 (k : Int) ∧ Own wr w.heap.size v (l.take k) ∧ Below w.heap.size w wr) (fun _ i _ => n - (intOf i).toNat)
  case atStart => exact ⟨0, Nat.zero_le _, rfl, HO.out, HB.out⟩
  case round =>
    obtain ⟨k, hk, rfl, hown, hb⟩ := hrel
    have HO1 := hid hown
    have HB1 := hid hb
    clear hown hb
    by_cases hlt : k < n
    · obtain ⟨ad, x, rfl, hbl, hx, hc⟩ := (HS.out.below HB1.out).get hlt
      have HX := hid hx
      have HBl := hid hbl
      clear hx hbl
      go_wp2_with (at_builtin; refine wpList_append_own _ rfl _ _ 22 rfl w.heap.size 5 i0 (.int .u8 0) 1 1 Tryd.underlying22 hi hz0 hz1 hz2 rfl (by decide) _ _ _ rfl (World.ownsRow.alloc HO1.out _) ⟨wr.heap.size, 0, none⟩ 1 1 [.int .u8 x] rfl rfl ?c1 ?c2 ?c3 ?c4 ?c5 ?_)
      case c1 => exact cell_one_new _ _ _
      case c2 => intro u hu; simp at hu; subst hu; rfl
      case c3 => rw [List.length_take]; unfold maxLen; omega
      case c4 => rw [List.length_take]; omega
      case c5 => have := HB1.out.size; simp; omega
      intro v' w2 hown' hgrow _
      have R1 := hid (show Own w2 w.heap.size v' (l.take (k + 1)) by
        rw [take_next HX.out]
        unfold Own
        rw [I_append]
        simpa [I] using hown')
      have R2 := hid (show Below w.heap.size w w2 from (HB1.out.alloc HB1.out.size _).grown hgrow (by have := HB1.out.size; simp; omega) (fun k hk => (HO1.out.lt k hk).1))
      clear hown' hgrow
      go_wp2
      go_roundw
      case rel => exact ⟨k + 1, by omega, by go_num, R1.out, R2.out⟩
      case measure => simp [intOf]; omega
    · go_wp2
      go_ret
      exact ⟨_, rfl, by have := HO1.out; rwa [List.take_of_length_le (by have := HS.out.len; omega)] at this, HB1.out⟩

theorem not_shl {x : Int} (h0 : -9223372036854775808 ≤ x) (h : x < 0) : bits BinOp.xor IntKind.u64 IntKind.u64.max (IntKind.u64.wrap (IntKind.u64.wrap x * 2)) = ((zz x : Nat) : Int) := by
  have e : IntKind.u64.wrap (IntKind.u64.wrap x * 2) = 2 * x + 18446744073709551616 := by simp only [IntKind.wrap_u64]; omega
  rw [e, not_u64' _ (by omega) (by omega), zz_neg h]
  omega

set_option maxRecDepth 100000 in
set_option maxHeartbeats 1000000 in
theorem refPut_any (A : Option Addr) (n c : Nat) (x : Int) (l : List Int) (w : World) (h : Sl w w.heap.size A n c l) (hn : n ≤ 10000) (h0 : -9223372036854775808 ≤ x) (h1 : x ≤ 9223372036854775807) :
    Calls Tryd.prog 15 #[.slice A n c, .int .i64 x] w (Made w (l ++ enc x)) := by
  obtain ⟨i0, hi, hz0, hz1, hz2⟩ := info_parts Tryd.info5
  have HS := hid h
  clear h
  have HF := hid (zz_fit h0 h1)
  have HL := hid (enc_len x)
  rcases Int.lt_or_le x 0 with hx | hx
  all_goals
    have HN := hid (show (x < 0 → bits BinOp.xor IntKind.u64 IntKind.u64.max (IntKind.u64.wrap (IntKind.u64.wrap x * 2)) = ((zz x : Nat) : Int)) ∧ (0 ≤ x → x * 2 = ((zz x : Nat) : Int)) from ⟨not_shl h0, fun h => by rw [zz_pos h]; omega⟩)
    go_enter Tryd.func15, Tryd.ntmps15
    go_wp2_with fail
    refine (bytes_any A n c l _ HS.out (by omega)).mono ?_
    rintro e w1 ⟨v, rfl, ho, hb⟩
    have HO := hid ho
    have HB := hid hb
    clear ho hb
    go_wp2_with fail
    first | rw [HN.out.1 hx] | rw [HN.out.2 hx]
    go_loopw [5, 6] (fun v u wr => ∃ f z : Nat, u = .int .u64 (z : Int) ∧ Laying w w.heap.size (l ++ enc x) f z v wr) (fun _ u _ => (intOf u).toNat)
    case atStart => exact ⟨9, zz x, rfl, l, by omega, zz_lt h0 h1, HF.out, HO.out, rfl, HB.out, HB.out.size⟩
    case round =>
      obtain ⟨f, z, rfl, ys, hf, hz64, hz, hown, he, hb, hs⟩ := hrel
      have hlen : ys.length + (encF f z).length = l.length + (enc x).length := by rw [← List.length_append, he, List.length_append]
      have hen := encF_len f z
      have hys := hid (show ys.length ≤ 1000010 by have := HL.out; have := HS.out.len; omega)
      have HO1 := hid hown
      have HE := hid he
      have HBr := hid hb
      have HZ := hid hz
      have HZ6 := hid hz64
      have hzi : (z : Int) ≤ 18446744073709551615 := by omega
      have HA := hid (and127 z hz64)
      have HR := hid (or128 (z % 128) (by omega))
      clear hown he hb hz hlen hen hz64
      rcases Int.lt_or_le z 128 with hlt | hlt
      · clear hzi
        go_wp2_with (at_builtin; refine wpList_append_own _ rfl _ _ 22 rfl w.heap.size 5 i0 (.int .u8 0) 1 1 Tryd.underlying22 hi hz0 hz1 hz2 rfl (by decide) _ _ _ rfl (World.ownsRow.alloc HO1.out _) ⟨wr.heap.size, 0, none⟩ 1 1 [.int .u8 (z : Int)] rfl rfl ?d1 ?d2 ?d3 ?d4 ?d5 ?_)
        case d1 => exact cell_one_new _ _ _
        case d2 => intro u hu; simp at hu; subst hu; rfl
        case d3 => have := hys.out; unfold maxLen; omega
        case d4 => have := hys.out; omega
        case d5 => simp; omega
        intro v' w2 hown' hgrow _
        have hbw : Below w.heap.size wr w2 := ((Below.refl _ _).alloc hs _).grown hgrow (by simp; omega) (fun k hk => (World.ownsRow.lt HO1.out k hk).1)
        have hfin : Made w (l ++ enc x) (.returned v') w2 := by
          refine ⟨v', rfl, ?_, HBr.out.trans hbw⟩
          have he := HE.out
          rw [encF_lt (by omega)] at he
          rw [← he]
          unfold Own
          rw [I_append]
          simpa [I] using hown'
        have HFi := hid hfin
        clear hfin hown' hgrow hbw
        go_wp2
        go_ret
        exact HFi.out
      · go_wp2_with (at_builtin; refine wpList_append_own _ rfl _ _ 22 rfl w.heap.size 5 i0 (.int .u8 0) 1 1 Tryd.underlying22 hi hz0 hz1 hz2 rfl (by decide) _ _ _ rfl (World.ownsRow.alloc HO1.out _) ⟨wr.heap.size, 0, none⟩ 1 1 [.int .u8 (IntKind.u8.wrap (bits .or .u64 (bits .and .u64 (z : Int) 127) 128))] rfl rfl ?c1 ?c2 ?c3 ?c4 ?c5 ?_)
        case c1 => exact cell_one_new _ _ _
        case c2 => intro u hu; simp at hu; subst hu; rfl
        case c3 => have := hys.out; unfold maxLen; omega
        case c4 => have := hys.out; omega
        case c5 => simp; omega
        intro v' w2 hown' hgrow _
        have hbw : Below w.heap.size wr w2 := ((Below.refl _ _).alloc hs _).grown hgrow (by simp; omega) (fun k hk => (World.ownsRow.lt HO1.out k hk).1)
        rw [HA.out, HR.out, IntWalk.u8_in _ (by omega)] at hown'
        have R := hid (Laying.step hf HZ6.out HZ.out HE.out HBr.out hs (by omega) hown' hbw).1
        clear hown' hgrow hbw
        go_wp2
        go_roundw
        case rel => exact ⟨f - 1, z / 128, by go_num, R.out⟩
        case measure => simp [intOf]; omega

set_option maxRecDepth 100000 in
set_option maxHeartbeats 1000000 in
theorem refPutText_any (A : Option Addr) (n c : Nat) (s : ByteArray) (l : List Int) (w : World) (h : Sl w w.heap.size A n c l) (hn : n ≤ 10000) (hs : s.size ≤ 10000) :
    Calls Tryd.prog 16 #[.slice A n c, .string s] w (Made w (l ++ enc s.size ++ str s)) := by
  obtain ⟨i0, hi, hz0, hz1, hz2⟩ := info_parts Tryd.info5
  have HS := hid h
  clear h
  go_enter Tryd.func16, Tryd.ntmps16
  go_wp2_with fail
  refine (refPut_any A n c (s.size : Int) l _ HS.out (by omega) (by omega) (by omega)).mono ?_
  rintro e w2 ⟨v2, rfl, ho2, hb2⟩
  have HO2 := hid ho2
  have HB2 := hid hb2
  clear ho2 hb2
  go_wp2_with (at_builtin; refine Lib.wpList_append_own_string _ rfl _ _ 22 9 rfl w.heap.size 5 i0 Tryd.underlying22 Tryd.underlying9 hi hz0 hz1 hz2 _ _ _ rfl HO2.out s rfl ?c3 ?c4 ?c5 ?_)
  case c3 => have := HS.out.len; have := enc_len (s.size : Int); unfold maxLen; simp; omega
  case c4 => have := HS.out.len; have := enc_len (s.size : Int); simp; omega
  case c5 => exact HB2.out.size
  intro v' w3 hown' hgrow _
  have HF := hid (show Made w (l ++ enc s.size ++ str s) (.returned v') w3 from ⟨v', rfl, by
    unfold Own
    rw [I_append, ← str_cells]
    simpa [str_len, Nat.add_assoc] using hown', HB2.out.grown hgrow HB2.out.size (fun k hk => (HO2.out.lt k hk).1)⟩)
  clear hown' hgrow
  go_wp2
  go_ret
  exact HF.out

end Go.Proofs.YtfggfdmjmebgfaaDoor
