/- Put together out of 1 texts. Package wire, call by call: what Put, PutText, NewReader and a reader's calls answer, and what they turn. Conditions: as said in each. -/
import Derived.Test.YtkhdgacjgccnnaaGreatDoorGXbf
import Derived.Test.YtkhdgacjgccnnaaGreatDoorGXaa
import Derived.BigQuiet
import Derived.Deep.QuietTactic
namespace Go.Proofs.YtkhdgacjgccnnaaGreatDoor
open Go.RowKit

set_option maxHeartbeats 400000 in
theorem zigzag_any (n : Int) (w : World) (h0 : -9223372036854775808 ≤ n) (h1 : n ≤ 9223372036854775807) :
    Calls Tryz.prog 149 #[.int .i64 n] w fun e w' => e = .returned (.int .u64 (zz n : Nat)) ∧ w = w' := by
  by_cases h : n < 0
  · have hz : IntKind.u64.wrap (IntKind.u64.wrap (IntKind.u64.wrap (bits BinOp.xor IntKind.i64 (-1) n) * 2) + 1) = (zz n : Nat) := by
      rw [not_i64 n h0 h1, zz_neg h]
      simp only [IntKind.wrap_u64]
      omega
    have H := hid hz
    clear hz
    go_enter Tryz.func149, Tryz.ntmps149
    go_wp2
    go_ret
    refine ⟨?_, rfl⟩
    rw [← H.out]
    rfl
  · have hz : (n * 2 : Int) = (zz n : Nat) := by
      rw [zz_pos (by omega)]
      omega
    have H := hid hz
    clear hz
    go_enter Tryz.func149, Tryz.ntmps149
    go_wp2
    go_ret
    refine ⟨?_, rfl⟩
    rw [← H.out]
    rfl
set_option maxHeartbeats 400000 in
theorem unzigzag_any (u : Nat) (w : World) (h1 : u < 18446744073709551616) :
    Calls Tryz.prog 175 #[.int .u64 (u : Int)] w fun e w' => e = .returned (.int .i64 (unzz u)) ∧ w = w' := by
  by_cases h : u % 2 = 1
  · have hb : (((u : Int) % 2) == 1) = true := by rw [beq_iff_eq]; omega
    have hz : bits BinOp.xor IntKind.i64 (-1) ((u : Int) / 2) = unzz u := by
      rw [not_i64 _ (by omega) (by omega)]
      unfold unzz
      rw [if_pos h]
      omega
    have H := hid hz
    clear hz h
    go_enter Tryz.func175, Tryz.ntmps175
    go_wp2
    go_ret
    refine ⟨?_, rfl⟩
    rw [← H.out]
    rfl
  · have hb : (((u : Int) % 2) == 1) = false := by rw [beq_eq_false_iff_ne]; omega
    have hz : ((u : Int) / 2) = unzz u := by
      unfold unzz
      rw [if_neg h]
      omega
    have H := hid hz
    clear hz h
    go_enter Tryz.func175, Tryz.ntmps175
    go_wp2
    go_ret
    refine ⟨?_, rfl⟩
    rw [← H.out]
    rfl

set_option maxHeartbeats 400000 in
theorem room_any (A : Option Addr) (n c r : Nat) (l : List Int) (w : World) (h : Sl w w.heap.size A n c l) (hb : n + r ≤ 1000000) :
    Calls Tryz.prog 115 #[.slice A n c, .int .i64 (r : Int)] w (Made w l) := by
  obtain ⟨i0, hi, hz0, hz1, hz2⟩ := info_parts Tryz.info5
  have hmax : 1 * (n + r) ≤ 281474976710656 := by omega
  have HS := hid h
  clear h
  go_enter Tryz.func115, Tryz.ntmps115
  go_wp2_with (at_make; refine wpList_make_own _ rfl _ _ 29 rfl w.heap.size 5 i0 (.int .u8 0) 1 Tryz.underlying29 hi hz0 hz1 _ _ _ (n + r) rfl rfl ?hC ?b2 ?b3 ?b4 ?_)
  case hC => omega
  case b2 => rw [hz2]; omega
  case b3 => unfold maxLen; omega
  case b4 => exact Nat.le_refl _
  intro w1 hown hgrow
  have hb1 : Below w.heap.size w w1 := (Below.refl _ _).grown hgrow (Nat.le_refl _) (fun _ h => by cases h)
  have hs1 := HS.out.below hb1
  have HO := hid hown
  have HG := hid hb1
  have HS1 := hid hs1
  clear hown hgrow hb1 hs1
  go_wp2_with (at_builtin; refine wpList_append_fits_any _ rfl _ _ 29 rfl w.heap.size 5 i0 1 Tryz.underlying29 hi hz1 w.heap.size 0 (n + r) [] rfl HO.out A n c (I l) rfl ?hn ?hnone ?hc ?h1c ?b1 ?_)
  case hn => rw [I_len, HS.out.len]; omega
  case hnone => intro hA; have := HS.out.nil hA; have := HS.out.cap; omega
  case hc =>
    intro ad hA j u hu
    obtain ⟨x, hx, rfl⟩ := I_get' hu
    have hj : j < l.length := (List.getElem?_eq_some_iff.1 hx).1
    exact (HS1.out.at_ ad hA (by have := HS.out.len; omega)).2 j x hx
  case h1c => exact I_one
  case b1 => omega
  intro w2 hown2 hgrow2
  have hfin : Made w l (.returned (.slice (some ⟨w.heap.size, 0, none⟩) n (n + r))) w2 := ⟨_, rfl, by
    have := HS.out.len
    unfold Own; rw [this]; simpa using hown2, HG.out.grown hgrow2 HG.out.size (fun k hk => by injection hk with hk; omega)⟩
  have HF := hid hfin
  clear hfin hown2 hgrow2
  go_wp2
  go_ret
  exact HF.out
/-- what an append onto a slice of the call's own leaves -/
def App (w : World) (B : Nat) (l : List Int) (e : Ending) (w' : World) : Prop := ∃ v, e = .returned v ∧ Own w' B v l ∧ Below B w w'
/-- the relation of a loop that lays a number's bytes -/
def Laying (w : World) (B : Nat) (l : List Int) (f z : Nat) (v : Value) (wr : World) : Prop :=
  ∃ ys, f ≤ 9 ∧ z < 18446744073709551616 ∧ z < 128 ^ f * 128 ∧ Own wr B v ys ∧ ys ++ encF f z = l ∧ Below B w wr ∧ B ≤ wr.heap.size
theorem Laying.step {w wr w1 : World} {B f z : Nat} {l ys : List Int} {v' : Value} (hf : f ≤ 9) (hz6 : z < 18446744073709551616) (hz : z < 128 ^ f * 128) (he : ys ++ encF f z = l) (hb : Below B w wr) (hs : B ≤ wr.heap.size) (h : 128 ≤ z)
    (hown : w1.ownsRow B 5 1 v' (ys.length + 1) (I ys ++ [.int .u8 ((z : Int) % 128 + 128)])) (hw : Below B wr w1) : Laying w B l (f - 1) (z / 128) v' w1 ∧ f ≠ 0 := by
  rcases f with _ | f
  · omega
  refine ⟨⟨ys ++ [((z % 128 + 128 : Nat) : Int)], by omega, by omega, by rw [Nat.pow_succ] at hz; show z / 128 < 128 ^ f * 128; omega, ?_, ?_, hb.trans hw, Nat.le_trans hs hw.size⟩, by omega⟩
  · unfold Own
    rw [I_append]
    have e : ((z % 128 + 128 : Nat) : Int) = (z : Int) % 128 + 128 := by omega
    rw [e]
    simpa [I] using hown
  · rw [← he, encF_ge h]; simp
set_option maxRecDepth 100000 in
set_option maxHeartbeats 1000000 in
theorem appendNum_any (B : Nat) (v : Value) (l : List Int) (n : Int) (w : World) (h : Own w B v l) (hB : B ≤ w.heap.size) (h0 : -9223372036854775808 ≤ n) (h1 : n ≤ 9223372036854775807) (hl : l.length ≤ 1000000) :
    Calls Tryz.prog 114 #[v, .int .i64 n] w (App w B (l ++ enc n)) := by
  obtain ⟨i0, hi, hz0, hz1, hz2⟩ := info_parts Tryz.info5
  have HO := hid h
  clear h
  have HF := hid (zz_fit h0 h1)
  have HL := hid (enc_len n)
  go_enter Tryz.func114, Tryz.ntmps114
  go_wp2_with (go_at_call 149; refine (zigzag_any n _ h0 h1).mono ?_; rintro e w' ⟨rfl, rfl⟩)
  go_loopw [0, 5] (fun v u wr => ∃ f z : Nat, u = .int .u64 (z : Int) ∧ Laying w B (l ++ enc n) f z v wr) (fun _ u _ => (intOf u).toNat)
  case atStart => exact ⟨9, zz n, rfl, l, by omega, zz_lt h0 h1, HF.out, HO.out, rfl, Below.refl _ _, hB⟩
  case round =>
    obtain ⟨f, z, rfl, ys, hf, hz64, hz, hown, he, hb, hs⟩ := hrel
    have hlen : ys.length + (encF f z).length = l.length + (enc n).length := by rw [← List.length_append, he, List.length_append]
    have hen := encF_len f z
    have hys := hid (show ys.length ≤ 1000010 by have := HL.out; omega)
    have HO1 := hid hown
    have HE := hid he
    have HB := hid hb
    have HZ := hid hz
    have HZ6 := hid hz64
    clear hown he hb hz hlen hen
    have hzi : (z : Int) ≤ 18446744073709551615 := by omega
    clear hz64
    rcases Int.lt_or_le z 128 with hlt | hlt
    · clear hzi
      go_wp2_with (at_builtin; refine wpList_append_own _ rfl _ _ 29 rfl B 5 i0 (.int .u8 0) 1 1 Tryz.underlying29 hi hz0 hz1 hz2 rfl (by decide) _ _ _ rfl (World.ownsRow.alloc HO1.out _) ⟨wr.heap.size, 0, none⟩ 1 1 [.int .u8 (z : Int)] rfl rfl ?d1 ?d2 ?d3 ?d4 ?d5 ?_)
      case d1 => exact cell_one_new _ _ _
      case d2 => intro u hu; simp at hu; subst hu; rfl
      case d3 => have := hys.out; unfold maxLen; omega
      case d4 => have := hys.out; omega
      case d5 => simp; omega
      intro v' w1 hown' hgrow _
      have hbw : Below B wr w1 := ((Below.refl _ _).alloc hs _).grown hgrow (by simp; omega) (fun k hk => (World.ownsRow.lt HO1.out k hk).1)
      have hfin : App w B (l ++ enc n) (.returned v') w1 := by
        refine ⟨v', rfl, ?_, HB.out.trans hbw⟩
        have he := HE.out
        rw [encF_lt (by omega)] at he
        rw [← he]
        unfold Own
        rw [I_append]
        simpa [I] using hown'
      have HFi := hid hfin
      clear hfin hown' hgrow hbw
      go_wp2
      go_ret
      exact HFi.out
    · go_wp2_with (at_builtin; refine wpList_append_own _ rfl _ _ 29 rfl B 5 i0 (.int .u8 0) 1 1 Tryz.underlying29 hi hz0 hz1 hz2 rfl (by decide) _ _ _ rfl (World.ownsRow.alloc HO1.out _) ⟨wr.heap.size, 0, none⟩ 1 1 [.int .u8 ((z : Int) % 128 + 128)] rfl rfl ?c1 ?c2 ?c3 ?c4 ?c5 ?_)
      case c1 => exact cell_one_new _ _ _
      case c2 => intro u hu; simp at hu; subst hu; rfl
      case c3 => have := hys.out; unfold maxLen; omega
      case c4 => have := hys.out; omega
      case c5 => simp; omega
      intro v' w1 hown' hgrow _
      have hbw : Below B wr w1 := ((Below.refl _ _).alloc hs _).grown hgrow (by simp; omega) (fun k hk => (World.ownsRow.lt HO1.out k hk).1)
      have R := hid (Laying.step hf HZ6.out HZ.out HE.out HB.out hs (by omega) hown' hbw).1
      clear hown' hgrow hbw
      go_wp2
      go_roundw
      case rel => exact ⟨f - 1, z / 128, by go_num, R.out⟩
      case measure => simp [intOf]; omega

theorem room_int (A : Option Addr) (n c : Nat) (r : Int) (l : List Int) (w : World) (h : Sl w w.heap.size A n c l) (h0 : 0 ≤ r) (hb : n + r ≤ 1000000) :
    Calls Tryz.prog 115 #[.slice A n c, .int .i64 r] w (Made w l) := by
  obtain ⟨k, rfl⟩ := Int.eq_ofNat_of_zero_le h0
  exact room_any A n c k l w h (by omega)
set_option maxRecDepth 100000 in
set_option maxHeartbeats 1000000 in
theorem putText_any (A : Option Addr) (n c : Nat) (s : ByteArray) (l : List Int) (w : World) (h : Sl w w.heap.size A n c l) (hn : n ≤ 10000) (hs : s.size ≤ 10000) :
    Calls Tryz.prog 80 #[.slice A n c, .string s] w (Made w (l ++ enc s.size ++ str s)) := by
  obtain ⟨i0, hi, hz0, hz1, hz2⟩ := info_parts Tryz.info5
  have HS := hid h
  clear h
  go_enter Tryz.func80, Tryz.ntmps80
  go_wp2_with fail
  refine (room_int A n c (10 + (s.size : Int)) l _ HS.out (by omega) (by omega)).mono ?_
  rintro e w1 ⟨v, rfl, ho, hb⟩
  have HO := hid ho
  have HB := hid hb
  clear ho hb
  go_wp2_with fail
  refine (appendNum_any w.heap.size v l (s.size : Int) w1 HO.out HB.out.size (by omega) (by omega) (by have := HS.out.len; omega)).mono ?_
  rintro e w2 ⟨v2, rfl, ho2, hb2⟩
  have HO2 := hid ho2
  have HB2 := hid hb2
  clear ho2 hb2
  go_wp2_with (at_builtin; refine Lib.wpList_append_own_string _ rfl _ _ 29 9 rfl w.heap.size 5 i0 Tryz.underlying29 Tryz.underlying9 hi hz0 hz1 hz2 _ _ _ rfl HO2.out s rfl ?c3 ?c4 ?c5 ?_)
  case c3 => have := HS.out.len; have := enc_len (s.size : Int); unfold maxLen; simp; omega
  case c4 => have := HS.out.len; have := enc_len (s.size : Int); simp; omega
  case c5 => exact Nat.le_trans HB.out.size HB2.out.size
  intro v' w3 hown' hgrow _
  have HF := hid (show Made w (l ++ enc s.size ++ str s) (.returned v') w3 from ⟨v', rfl, by
    unfold Own
    rw [I_append, ← str_cells]
    simpa [str_len, Nat.add_assoc] using hown', (HB.out.trans HB2.out).grown hgrow (Nat.le_trans HB.out.size HB2.out.size) (fun k hk => (HO2.out.lt k hk).1)⟩)
  clear hown' hgrow
  go_wp2
  go_ret
  exact HF.out

/-- block g is a reader of the bytes l, at p, with the error ev -/
structure Rdr (w : World) (g : Nat) (A : Option Addr) (n c : Nat) (l : List Int) (p : Int) (ev : Value) : Prop where
  blk : Blk w g 214 #[.slice A n c, .int .i64 p, ev]
  sl : Sl w g A n c l
def Cloned (w : World) (n : Nat) (l : List Int) (e : Ending) (w' : World) : Prop := ∃ A' c', e = .returned (.slice A' n c') ∧ Sl w' w'.heap.size A' n c' l ∧ Below w.heap.size w w' ∧ ∀ ad, A' = some ad → w.heap.size ≤ ad.block
set_option maxRecDepth 100000 in
set_option maxHeartbeats 1000000 in
theorem clone_any (A : Option Addr) (n c : Nat) (l : List Int) (w : World) (h : Sl w w.heap.size A n c l) (hn : n ≤ 100000) :
    Calls Tryz.prog 79 #[.slice A n c] w (Cloned w n l) := by
  obtain ⟨i0, hi, hz0, hz1, hz2⟩ := info_parts Tryz.info5
  have HS := hid h
  clear h
  rcases A with _ | ad
  · obtain rfl : c = 0 := HS.out.nil rfl
    obtain rfl : n = 0 := by have := HS.out.cap; omega
    have HF := hid (show Cloned w 0 l (.returned (.slice none 0 0)) w from ⟨none, 0, rfl, HS.out, Below.refl _ _, fun _ h => by cases h⟩)
    have hq : ∀ W, (binOp .eql 29 (.slice none 0 0) (.slice none 0 0)).run Tryz.prog W = .ok (.bool true) W := fun W => Lib.run_eql_slice_nil (P := Tryz.prog) W 29 5 none 0 0 0 0 Tryz.underlying29
    go_enter Tryz.func79, Tryz.ntmps79
    go_wp2
    go_ret
    exact HF.out
  · have hq : ∀ W, (binOp .eql 29 (.slice (some ad) n c) (.slice none 0 0)).run Tryz.prog W = .ok (.bool false) W := fun W => Lib.run_eql_slice_nil (P := Tryz.prog) W 29 5 (some ad) n c 0 0 Tryz.underlying29
    have HM := hid (show (w.alloc (.cells #[] 5)).ownsRow w.heap.size 5 1 (.slice (some ⟨w.heap.size, 0, none⟩) 0 0) 0 [] from World.ownsRow_made w #[] 0 (Nat.le_refl _) (by decide) rfl)
    go_enter Tryz.func79, Tryz.ntmps79
    go_wp2_with (at_builtin; refine wpList_append_own _ rfl _ _ 29 rfl w.heap.size 5 i0 (.int .u8 0) 1 1 Tryz.underlying29 hi hz0 hz1 hz2 rfl (by decide) _ _ _ rfl HM.out ad n c (I l) rfl ?c0 ?c1 ?c2 ?c3 ?c4 ?c5 ?_)
    case c0 => rw [I_len, HS.out.len]; omega
    case c1 =>
      intro j u hu
      obtain ⟨x, hx, rfl⟩ := I_get' hu
      have hj : j < l.length := (List.getElem?_eq_some_iff.1 hx).1
      exact ((HS.out.alloc (Nat.le_refl _) _).at_ ad rfl (by have := HS.out.len; omega)).2 j x hx
    case c2 => exact I_one
    case c3 => unfold maxLen; omega
    case c4 => omega
    case c5 => simp
    intro v' w2 hown' hgrow _
    have ho : Own w2 w.heap.size v' l := by
      unfold Own
      rw [HS.out.len]
      simpa using hown'
    have hb : Below w.heap.size w w2 := ((Below.refl _ _).alloc (Nat.le_refl _) _).grown hgrow (by simp) (fun k hk => (World.ownsRow.lt HM.out k hk).1)
    obtain ⟨A', c', rfl, hs, hnew⟩ := ho.form
    have HF := hid (show Cloned w n l (.returned (.slice A' l.length c')) w2 from ⟨A', c', by rw [HS.out.len], by rw [HS.out.len] at hs; exact hs, hb, hnew⟩)
    clear hown' hgrow ho hb hs hnew
    go_wp2
    go_ret
    exact HF.out
def Opened (w : World) (n : Nat) (l : List Int) (e : Ending) (w' : World) : Prop := ∃ g A' c', e = .returned (.pointer (some ⟨g, 0, none⟩)) ∧ w.heap.size ≤ g ∧ Rdr w' g A' n c' l 0 .nilIface ∧ Below w.heap.size w w' ∧ ∀ ad, A' = some ad → w.heap.size ≤ ad.block
set_option maxRecDepth 100000 in
set_option maxHeartbeats 1000000 in
theorem newReader_any (A : Option Addr) (n c : Nat) (l : List Int) (w : World) (h : Sl w w.heap.size A n c l) (hn : n ≤ 100000) :
    Calls Tryz.prog 108 #[.slice A n c] w (Opened w n l) := by
  have HS := hid h
  clear h
  go_enter Tryz.func108, Tryz.ntmps108
  go_wp2_with fail
  refine (clone_any A n c l _ HS.out hn).mono ?_
  rintro e w1 ⟨A1, c1, rfl, hs, hb, hnew⟩
  have HF := hid (show Opened w n l (.returned (.pointer (some ⟨w1.heap.size, 0, none⟩))) (w1.alloc (.cells #[.slice A1 n c1, .int .i64 0, .nilIface] 214)) from ⟨_, A1, c1, rfl, hb.size, ⟨Blk.new _ _ _, hs.alloc (Nat.le_refl _) _⟩, hb.alloc hb.size _, hnew⟩)
  clear hs hb hnew
  go_wp2
  go_ret
  exact HF.out

/-- what a number's reading hands back -/
def fstV (r : Nat × Nat × Nat) (eS eE : Value) : Value :=
  if r.1 = 0 then .tuple #[.int .i64 (unzz r.2.1), .int .i64 (r.2.2 : Nat), .nilIface] else if r.1 = 1 then .tuple #[.int .i64 0, .int .i64 0, eS] else .tuple #[.int .i64 0, .int .i64 0, eE]
def Loop29 (l : List Int) (k U : Nat) : Prop := scan l 0 0 = scan (l.drop k) k U ∧ U < 128 ^ k
theorem Loop29.shape {l : List Int} {k U : Nat} {x : Int} (h : Loop29 l k U) (hx : l[k]? = some x) (hs : (k = 9 ∧ 1 < x) ∨ (0 < k ∧ x = 0)) : scan l 0 0 = (1, 0, 0) := by
  rw [h.1, drop_at hx]
  simp only [scan]
  rw [if_pos hs]
theorem Loop29.done {l : List Int} {k U : Nat} {x : Int} (h : Loop29 l k U) (hx : l[k]? = some x) (hs : ¬ ((k = 9 ∧ 1 < x) ∨ (0 < k ∧ x = 0))) (hd : x < 128) : scan l 0 0 = (0, U + x.toNat % 128 * 128 ^ k, k + 1) := by
  rw [h.1, drop_at hx]
  simp only [scan]
  rw [if_neg hs, if_pos hd]
theorem Loop29.on {l : List Int} {k U : Nat} {x : Int} (h : Loop29 l k U) (hx : l[k]? = some x) (hs : ¬ ((k = 9 ∧ 1 < x) ∨ (0 < k ∧ x = 0))) (hd : ¬ x < 128) : Loop29 l (k + 1) (U + x.toNat % 128 * 128 ^ k) := by
  refine ⟨?_, ?_⟩
  · rw [h.1, drop_at hx]
    simp only [scan]
    rw [if_neg hs, if_neg hd]
  · have h1 := h.2
    have h2 : x.toNat % 128 + 1 ≤ 128 := by omega
    have h3 := Nat.mul_le_mul_right (128 ^ k) h2
    rw [Nat.add_mul] at h3
    rw [Nat.pow_succ]
    omega
theorem Loop29.out {l : List Int} {k U n : Nat} (h : Loop29 l k U) (hn : l.length = n) (hk : ¬ k < n) : scan l 0 0 = (2, 0, 0) := by
  rw [h.1, List.drop_eq_nil_of_le (by omega)]
  rfl
theorem Loop29.sum {l : List Int} {k U : Nat} {x : Int} (h : Loop29 l k U) (hk : k ≤ 9) (hx0 : 0 ≤ x) (hx9 : k = 9 → x ≤ 1) :
    bits .or .u64 (U : Int) (IntKind.u64.wrap (x % 128 * 2 ^ (7 * k))) = ((U + x.toNat % 128 * 128 ^ k : Nat) : Int) ∧ U + x.toNat % 128 * 128 ^ k < 18446744073709551616 := by
  have h1 := h.2
  have hb : U + x.toNat % 128 * 128 ^ k < 18446744073709551616 := by
    by_cases h9 : k = 9
    · subst h9
      have := hx9 rfl
      omega
    · have h2 : x.toNat % 128 + 1 ≤ 128 := by omega
      have h3 := Nat.mul_le_mul_right (128 ^ k) h2
      rw [Nat.add_mul] at h3
      have h4 : 128 ^ k ≤ 128 ^ 8 := Nat.pow_le_pow_right (by omega) (by omega)
      omega
  refine ⟨?_, hb⟩
  have e : IntKind.u64.wrap (x % 128 * 2 ^ (7 * k)) = ((x.toNat % 128 * 128 ^ k : Nat) : Int) := by
    have e2 : (128 : Nat) ^ k = 2 ^ (7 * k) := by rw [Nat.pow_mul]
    have e3 : x % 128 * 2 ^ (7 * k) = ((x.toNat % 128 * 128 ^ k : Nat) : Int) := by
      rw [e2, Int.natCast_mul]
      have : x % 128 = ((x.toNat % 128 : Nat) : Int) := by omega
      rw [this]
      simp
    rw [e3]
    exact IntWalk.u64_in _ ⟨by omega, by omega⟩
  rw [e]
  exact or_up U _ k h1 hb
set_option maxRecDepth 100000 in
set_option maxHeartbeats 1000000 in
theorem wireNum_any (A : Option Addr) (n c B : Nat) (l : List Int) (eS eE : Value) (w : World) (h : Sl w B A n c l) (hl : Byt l) (hn : n ≤ 100000) (h1 : w.cell? ⟨8, 0, none⟩ = some eE) (h2 : w.cell? ⟨3, 0, none⟩ = some eS) :
    Calls Tryz.prog 159 #[.slice A n c] w (Quiet w (fstV (scan l 0 0) eS eE)) := by
  have HS := hid h
  have HY := hid hl
  clear h hl
  go_enter Tryz.func159, Tryz.ntmps159
  go_wp2
  go_loop [5, 11] (fun u i => ∃ k U : Nat, k ≤ n ∧ k ≤ 9 ∧ u = .int .u64 (U : Int) ∧ i = .int .i64 (k : Int) ∧ Loop29 l k U) (fun _ i => n - (intOf i).toNat)
  case atStart => exact ⟨0, 0, Nat.zero_le _, by omega, rfl, rfl, rfl, by decide⟩
  case round =>
    obtain ⟨k, U, hk, hk9, rfl, rfl, hL⟩ := hrel
    have HL := hid hL
    clear hL
    by_cases hlt : k < n
    · obtain ⟨ad, x, rfl, hbl, hx, hc⟩ := HS.out.get hlt
      have hxb := HY.out.at_ hx
      have HX := hid hx
      clear hx hbl
      obtain ⟨hx0, hx1⟩ := hxb
      have hb9 : ((k : Int) == 9) = true ∨ ((k : Int) == 9) = false := by cases ((k : Int) == 9) <;> simp
      have hb0 : (x == 0) = true ∨ (x == 0) = false := by cases (x == 0) <;> simp
      by_cases hs : (k = 9 ∧ 1 < x) ∨ (0 < k ∧ x = 0)
      · have HR := hid (HL.out.shape HX.out hs)
        have HZ := hid hs
        clear hs
        rcases hb9 with hb9 | hb9
        · have hk9' : (9 : Int) ≤ k := by rw [beq_iff_eq] at hb9; omega
          rcases Int.lt_or_le 1 x with hx1 | hx1
          · clear hb0
            go_wp2_with fail
            go_quiet (fail)
            go_wp2
            go_ret3
            rw [HR.out]
            exact ⟨rfl, _, rfl⟩
          · have hx0' : (x == 0) = true := by rw [beq_iff_eq]; have := HZ.out; omega
            clear hb0
            go_wp2_with fail
            go_quiet (fail)
            go_wp2
            go_ret3
            rw [HR.out]
            exact ⟨rfl, _, rfl⟩
        · have hk9' : (k : Int) < 9 := by rw [beq_eq_false_iff_ne] at hb9; omega
          have hk0 : (0 : Int) < k := by have := HZ.out; omega
          have hx0' : (x == 0) = true := by rw [beq_iff_eq]; have := HZ.out; omega
          clear hb0
          go_wp2_with fail
          go_quiet (fail)
          go_wp2
          go_ret3
          rw [HR.out]
          exact ⟨rfl, _, rfl⟩
      · have HN := hid hs
        have HU := hid (HL.out.sum (x := x) hk9 hx0 (fun h => by omega))
        clear hs
        by_cases h128 : x < 128
        · have HR := hid (HL.out.done HX.out HN.out h128)
          rcases hb9 with hb9 | hb9
          · have hk9' : (9 : Int) ≤ k := by rw [beq_iff_eq] at hb9; omega
            have hx1' : ¬ 1 < x := by have := HN.out; omega
            have hx0' : (x == 0) = false := by rw [beq_eq_false_iff_ne]; have := HN.out; omega
            clear hb0
            go_wp2_with fail
            rw [HU.out.1]
            refine (unzigzag_any _ _ HU.out.2).mono ?_
            rintro e w' ⟨rfl, rfl⟩
            go_wp2
            go_ret3
            rw [HR.out]
            exact ⟨rfl, 0, rfl⟩
          · have hk9' : (k : Int) < 9 := by rw [beq_eq_false_iff_ne] at hb9; omega
            rcases Nat.eq_zero_or_pos k with hk0 | hk0
            · have hk0' : (k : Int) ≤ 0 := by omega
              clear hb0 hk0
              go_wp2_with fail
              rw [HU.out.1]
              refine (unzigzag_any _ _ HU.out.2).mono ?_
              rintro e w' ⟨rfl, rfl⟩
              go_wp2
              go_ret3
              rw [HR.out]
              exact ⟨rfl, 0, rfl⟩
            · have hx0' : (x == 0) = false := by rw [beq_eq_false_iff_ne]; have := HN.out; omega
              have hk0' : (0 : Int) < k := by omega
              clear hb0
              go_wp2_with fail
              rw [HU.out.1]
              refine (unzigzag_any _ _ HU.out.2).mono ?_
              rintro e w' ⟨rfl, rfl⟩
              go_wp2
              go_ret3
              rw [HR.out]
              exact ⟨rfl, 0, rfl⟩
        · have HR := hid (HL.out.on HX.out HN.out h128)
          have hb9' : ((k : Int) == 9) = false := by rw [beq_eq_false_iff_ne]; have := HN.out; omega
          have hk9' : (k : Int) < 9 := by rw [beq_eq_false_iff_ne] at hb9'; omega
          have hx128 : 128 ≤ x := by omega
          have hx0' : (x == 0) = false := by rw [beq_eq_false_iff_ne]; omega
          clear hb0 hb9 h128
          rcases Nat.eq_zero_or_pos k with hk0 | hk0
          · have hk0' : (k : Int) ≤ 0 := by omega
            clear hk0
            go_wp2
            rw [HU.out.1]
            go_round
            case rel => exact ⟨k + 1, _, by omega, by omega, rfl, by go_num, HR.out⟩
            case measure => simp [intOf]; omega
          · have hk0' : (0 : Int) < k := by omega
            clear hk0
            go_wp2
            rw [HU.out.1]
            go_round
            case rel => exact ⟨k + 1, _, by omega, by omega, rfl, by go_num, HR.out⟩
            case measure => simp [intOf]; omega
    · have HR := hid (HL.out.out HS.out.len hlt)
      go_wp2_with fail
      go_quiet (fail)
      go_wp2
      go_ret3
      rw [HR.out]
      exact ⟨rfl, _, rfl⟩

theorem first_ok {A : Option Addr} {n c B : Nat} {l : List Int} {eS eE : Value} {w : World} {u s : Nat} (hr : scan l 0 0 = (0, u, s)) (h : Sl w B A n c l) (hl : Byt l) (hn : n ≤ 100000) (h1 : w.cell? ⟨8, 0, none⟩ = some eE) (h2 : w.cell? ⟨3, 0, none⟩ = some eS) :
    Calls Tryz.prog 159 #[.slice A n c] w fun e w' => e = .returned (.tuple #[.int .i64 (unzz u), .int .i64 (s : Int), .nilIface]) ∧ ∃ k, w' = w.drewN k := by
  refine (wireNum_any A n c B l eS eE w h hl hn h1 h2).mono fun e w' ⟨he, hw⟩ => ⟨?_, hw⟩
  rw [he, hr]
  rfl
/-- the errors that a reader tells, in their variables -/
structure Errs (w : World) (aR aE aS : Addr) : Prop where
  range : w.cell? ⟨0, 0, none⟩ = some (.iface 261 (.pointer (some aR)))
  ends : w.cell? ⟨8, 0, none⟩ = some (.iface 261 (.pointer (some aE)))
  shape : w.cell? ⟨3, 0, none⟩ = some (.iface 261 (.pointer (some aS)))
theorem Rdr.drewN {w : World} {g n c : Nat} {A : Option Addr} {l : List Int} {p : Int} {ev : Value} (h : Rdr w g A n c l p ev) (k : Nat) : Rdr (w.drewN k) g A n c l p ev := ⟨h.blk.drewN k, h.sl.drewN k⟩
theorem Rdr.move {w : World} {g n c : Nat} {A : Option Addr} {l : List Int} {p : Int} {ev : Value} (h : Rdr w g A n c l p ev) (q : Int) : Rdr (w.setCell ⟨g, 1, none⟩ (.int .i64 q)) g A n c l q ev :=
  ⟨h.blk.put 1 _, h.sl.put (Nat.le_refl _) _ _⟩
theorem Rdr.fail {w : World} {g n c : Nat} {A : Option Addr} {l : List Int} {p : Int} {ev : Value} (h : Rdr w g A n c l p ev) (u : Value) : Rdr (w.setCell ⟨g, 2, none⟩ u) g A n c l p u :=
  ⟨h.blk.put 2 _, h.sl.put (Nat.le_refl _) _ _⟩
theorem Rdr.alloc {w : World} {g n c : Nat} {A : Option Addr} {l : List Int} {p : Int} {ev : Value} (h : Rdr w g A n c l p ev) (o : Obj) : Rdr (w.alloc o) g A n c l p ev :=
  ⟨h.blk.alloc o, h.sl.alloc (Nat.le_of_lt h.blk.lt) o⟩
def NumOk (w : World) (g : Nat) (A : Option Addr) (n c : Nat) (l : List Int) (p : Nat) (v : Int) (e : Ending) (w' : World) : Prop :=
  e = .returned (.int .i64 v) ∧ Rdr w' g A n c l (p : Int) .nilIface ∧ w.grownBy w' (some g)
set_option maxRecDepth 100000 in
set_option maxHeartbeats 1000000 in
theorem num_ok {A : Option Addr} {n c g p u s : Nat} {l : List Int} {aR aE aS : Addr} {w : World} (low high : Int) (h : Rdr w g A n c l (p : Int) .nilIface) (hE : Errs w aR aE aS) (hl : Byt l) (hn : n ≤ 100000)
    (hr : scan (l.drop p) 0 0 = (0, u, s)) (hs : p + s ≤ n) (h0 : low ≤ unzz u) (h1 : unzz u ≤ high) :
    Calls Tryz.prog 137 #[.pointer (some ⟨g, 0, none⟩), .int .i64 low, .int .i64 high] w (NumOk w g A n c l (p + s) (unzz u)) := by
  have c0 := h.blk.cell 0
  have c1 := h.blk.cell 1
  have c2 := h.blk.cell 2
  have f1 := h.blk.free 1
  simp at c0 c1 c2
  have HH := hid h
  have HC := hid (h.sl.cut (k := p) (by omega))
  have HR := hid hr
  have HL := hid (hl.drop p)
  have HX := hid hE
  clear h hr hl hE
  generalize hv : unzz u = v at *
  have HV := hid hv
  clear hv
  have d0 : decide (v < low) = false := by simp; omega
  have d1 : decide (high < v) = false := by simp; omega
  go_enter Tryz.func137, Tryz.ntmps137
  go_wp2_with fail
  go_quiet ((go_at_call 159; exact Calls.quiet_of (first_ok HR.out (HC.out.drewN _) HL.out (by omega) HX.out.ends HX.out.shape)))
  rw [HV.out]
  have HF := fun k => hid (show NumOk w g A n c l (p + s) v (.returned (.int .i64 v)) ((w.drewN k).setCell ⟨g, 1, none⟩ (.int .i64 ((p : Int) + (s : Int)))) from ⟨rfl, by
    have := (HH.out.drewN k).move ((p : Int) + (s : Int))
    rwa [show ((p : Int) + (s : Int)) = ((p + s : Nat) : Int) by omega] at this ⊢, only_put (only_drewN (only_refl _ _) _) _ _⟩)
  generalize (if c = p then A else A.map (·.add p)) = A'
  go_wp2
  go_ret
  exact (HF _).out

theorem Rdr.on {w w' : World} {g n c : Nat} {A : Option Addr} {l : List Int} {p : Int} {ev : Value} (h : Rdr w g A n c l p ev) (hb : Below w.heap.size w w') : Rdr w' g A n c l p ev :=
  ⟨h.blk.below hb h.blk.lt, h.sl.below (hb.mono (Nat.le_of_lt h.blk.lt))⟩
theorem Errs.drewN {w : World} {aR aE aS : Addr} (h : Errs w aR aE aS) (k : Nat) : Errs (w.drewN k) aR aE aS := ⟨h.range, h.ends, h.shape⟩

theorem Rdr.lt {w : World} {g n c : Nat} {A : Option Addr} {l : List Int} {p : Int} {ev : Value} (h : Rdr w g A n c l p ev) : g < w.heap.size := h.blk.lt

theorem Rdr.drew {w : World} {g n c : Nat} {A : Option Addr} {l : List Int} {p : Int} {ev : Value} (h : Rdr w g A n c l p ev) : Rdr w.drew g A n c l p ev := ⟨h.blk.drew, h.sl.drew⟩
theorem Errs.drew {w : World} {aR aE aS : Addr} (h : Errs w aR aE aS) : Errs w.drew aR aE aS := ⟨h.range, h.ends, h.shape⟩

/-- the reader of block g has stopped at p with the error er around which the place is -/
def Stopped (w : World) (g : Nat) (A : Option Addr) (n c : Nat) (l : List Int) (p : Int) (er : Addr) (w' : World) : Prop :=
  ∃ h, w.heap.size ≤ h ∧ Blk w' h 239 #[.int .i64 p, .iface 261 (.pointer (some er))] ∧ Rdr w' g A n c l p (.iface 237 (.pointer (some ⟨h, 0, none⟩))) ∧ w.grownBy w' (some g)
theorem unpair {w : World} {g n c : Nat} {A : Option Addr} {l : List Int} {p : Int} {ev : Value} (h : Rdr w g A n c l p ev) : w.cell? ⟨g, 0, none⟩ = some (.slice A n c) ∧ w.cell? ⟨g, 1, none⟩ = some (.int .i64 p) ∧ w.cell? ⟨g, 2, none⟩ = some ev := by
  have c0 := h.blk.cell 0
  have c1 := h.blk.cell 1
  have c2 := h.blk.cell 2
  simp at c0 c1 c2
  exact ⟨c0, c1, c2⟩
theorem err_any {A : Option Addr} {n c g : Nat} {l : List Int} {p : Int} {ev : Value} {w : World} (hh : Rdr w g A n c l p ev) :
    Calls Tryz.prog 109 #[.pointer (some ⟨g, 0, none⟩)] w fun e w' => e = .returned ev ∧ w = w' := by
  obtain ⟨_, _, c2⟩ := unpair hh
  clear hh
  go_enter Tryz.func109, Tryz.ntmps109
  go_wp2
  go_ret
  exact ⟨rfl, rfl⟩
theorem left_any {A : Option Addr} {n c g p : Nat} {l : List Int} {w : World} (hh : Rdr w g A n c l (p : Int) .nilIface) (hp : p ≤ n) (hn : n ≤ 100000) :
    Calls Tryz.prog 110 #[.pointer (some ⟨g, 0, none⟩)] w fun e w' => e = .returned (.int .i64 ((n - p : Nat) : Int)) ∧ ∃ k, w' = w.drewN k := by
  obtain ⟨c0, c1, c2⟩ := unpair hh
  clear hh
  have HE := hid (show (n : Int) - (p : Int) = ((n - p : Nat) : Int) by omega)
  go_enter Tryz.func110, Tryz.ntmps110
  go_wp2_with fail
  go_quiet (fail)
  go_wp2
  go_ret
  rw [← HE.out]
  exact ⟨rfl, _, rfl⟩
def TextOk (w : World) (g : Nat) (A : Option Addr) (n c : Nat) (l : List Int) (p : Nat) (s : ByteArray) (e : Ending) (w' : World) : Prop :=
  e = .returned (.string s) ∧ Rdr w' g A n c l (p : Int) .nilIface ∧ w.grownBy w' (some g)
set_option maxRecDepth 100000 in
set_option maxHeartbeats 1000000 in
theorem text_ok {A : Option Addr} {n c g p u q m : Nat} {l : List Int} {aR aE aS : Addr} {w : World} (most : Int) (h : Rdr w g A n c l (p : Int) .nilIface) (hE : Errs w aR aE aS) (hl : Byt l) (hn : n ≤ 100000)
    (hr : scan (l.drop p) 0 0 = (0, u, q - p)) (hp : p ≤ q) (hu : unzz u = (m : Int)) (h1 : (m : Int) ≤ most) (hm : q + m ≤ n) :
    Calls Tryz.prog 111 #[.pointer (some ⟨g, 0, none⟩), .int .i64 most] w (TextOk w g A n c l (q + m) (strOfNums ((l.drop q).take m))) := by
  obtain ⟨c0, c1, c2⟩ := unpair h
  have hcap : (q : Int) + (m : Int) ≤ (c : Int) := by have := h.sl.cap; omega
  have hcap1 : (q : Int) ≤ (q : Int) + (m : Int) := by omega
  have HH := hid h
  have HR := hid hr
  have HL := hid hl
  have HX := hid hE
  have HU := hid hu
  clear h hr hl hE hu
  go_enter Tryz.func111, Tryz.ntmps111
  go_wp2_with fail
  refine (num_ok 0 most HH.out HX.out HL.out hn HR.out (by omega) (by have := HU.out; omega) (by have := HU.out; omega)).mono ?_
  rintro e w1 ⟨rfl, hr1, hg1⟩
  rw [HU.out]
  rw [show p + (q - p) = q by omega] at hr1
  clear c0 c1 c2
  obtain ⟨c0, c1, c2⟩ := unpair hr1
  have HR1 := hid hr1
  have HG1 := hid hg1
  have f1 := hr1.blk.free 1
  clear hr1 hg1
  go_wp2_with fail
  refine (left_any HR1.out (by omega) hn).mono ?_
  rintro e w2 ⟨rfl, k2, rfl⟩
  have hq : ∀ j, (convert 29 9 (.slice (if c = q then A else A.map (fun x => x.add q)) (((q : Int) + (m : Int)).toNat - q) (c - q))).run Tryz.prog (((w1.drewN k2).setCell ⟨g, 1, none⟩ (.int .i64 ((q : Int) + (m : Int)))).drewN j) = .ok (.string (strOfNums ((l.drop q).take m))) (((w1.drewN k2).setCell ⟨g, 1, none⟩ (.int .i64 ((q : Int) + (m : Int)))).drewN j) := by
    intro j
    have e : ((q : Int) + (m : Int)).toNat - q = m := by omega
    rw [e]
    exact conv_any ((((HR1.out.drewN k2).move _).drewN j).sl.cut (k := q) (by omega) |>.head (k := m) (by omega))
  have HF := fun j => hid (show TextOk w g A n c l (q + m) (strOfNums ((l.drop q).take m)) (.returned (.string (strOfNums ((l.drop q).take m)))) (((w1.drewN k2).setCell ⟨g, 1, none⟩ (.int .i64 ((q : Int) + (m : Int)))).drewN j) from ⟨rfl, ((HR1.out.drewN k2).move ((q + m : Nat) : Int)).drewN j, only_drewN (only_put (only_drewN HG1.out _) _ _) _⟩)
  go_wp2_with fail
  go_quiet (fail)
  generalize (if c = q then A else A.map (fun x => x.add q)) = A'
  go_wp2
  go_ret
  exact (HF _).out
theorem Stopped.behind {w w1 w2 : World} {g n c : Nat} {A : Option Addr} {l : List Int} {p : Int} {er : Addr} (h : Stopped w1 g A n c l p er w2) (hg : w.grownBy w1 (some g)) : Stopped w g A n c l p er w2 := by
  obtain ⟨x, h1, h2, h3, h4⟩ := h
  exact ⟨x, Nat.le_trans hg.size h1, h2, h3, only_trans hg h4⟩
end Go.Proofs.YtkhdgacjgccnnaaGreatDoor
