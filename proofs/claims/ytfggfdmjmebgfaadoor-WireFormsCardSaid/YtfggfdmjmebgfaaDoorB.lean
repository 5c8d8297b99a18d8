/- What roomBehind and appendNum of package wire make: new memory with the bytes that were, and the bytes of the number behind. Conditions: the slice reads, as many bytes as a million at the most. -/
import Derived.Test.YtfggfdmjmebgfaaDoorA
namespace Go.Proofs.YtfggfdmjmebgfaaDoor
open Go.RowKit

def Made (w : World) (l : List Int) (e : Ending) (w' : World) : Prop := ∃ v, e = .returned v ∧ Own w' w.heap.size v l ∧ Below w.heap.size w w'

set_option maxHeartbeats 400000 in
theorem room_any (A : Option Addr) (n c r : Nat) (l : List Int) (w : World) (h : Sl w w.heap.size A n c l) (hb : n + r ≤ 1000000) :
    Calls Tryd.prog 27 #[.slice A n c, .int .i64 (r : Int)] w (Made w l) := by
  obtain ⟨i0, hi, hz0, hz1, hz2⟩ := info_parts Tryd.info5
  have hmax : 1 * (n + r) ≤ 281474976710656 := by omega
  have HS := hid h
  clear h
  go_enter Tryd.func27, Tryd.ntmps27
  go_wp2_with (at_make; refine wpList_make_own _ rfl _ _ 22 rfl w.heap.size 5 i0 (.int .u8 0) 1 Tryd.underlying22 hi hz0 hz1 _ _ _ (n + r) rfl rfl ?hC ?b2 ?b3 ?b4 ?_)
  case hC => omega
  case b2 => rw [hz2]; omega
  case b3 => unfold maxLen; omega
  case b4 => exact Nat.le_refl _
  intro w1 hown hgrow
  have hb1 : Below w.heap.size w w1 := (Below.refl _ _).grown hgrow (Nat.le_refl _) (fun _ h => by cases h)
  have hs1 := HS.out.below hb1
  have HO := hid hown
  have HG := hid hb1
  have HS1 := hid hs1
  clear hown hgrow hb1 hs1
  go_wp2_with (at_builtin; refine wpList_append_fits_any _ rfl _ _ 22 rfl w.heap.size 5 i0 1 Tryd.underlying22 hi hz1 w.heap.size 0 (n + r) [] rfl HO.out A n c (I l) rfl ?hn ?hnone ?hc ?h1c ?b1 ?_)
  case hn => rw [I_len, HS.out.len]; omega
  case hnone => intro hA; have := HS.out.nil hA; have := HS.out.cap; omega
  case hc =>
    intro ad hA j u hu
    obtain ⟨x, hx, rfl⟩ := I_get' hu
    have hj : j < l.length := (List.getElem?_eq_some_iff.1 hx).1
    exact (HS1.out.at_ ad hA (by have := HS.out.len; omega)).2 j x hx
  case h1c => exact I_one
  case b1 => omega
  intro w2 hown2 hgrow2
  have hfin : Made w l (.returned (.slice (some ⟨w.heap.size, 0, none⟩) n (n + r))) w2 := ⟨_, rfl, by
    have := HS.out.len
    unfold Own; rw [this]; simpa using hown2, HG.out.grown hgrow2 HG.out.size (fun k hk => by injection hk with hk; omega)⟩
  have HF := hid hfin
  clear hfin hown2 hgrow2
  go_wp2
  go_ret
  exact HF.out

/-- what an append onto a slice of the call's own leaves -/
def App (w : World) (B : Nat) (l : List Int) (e : Ending) (w' : World) : Prop := ∃ v, e = .returned v ∧ Own w' B v l ∧ Below B w w'

/-- the relation of a loop that lays a number's bytes -/
def Laying (w : World) (B : Nat) (l : List Int) (f z : Nat) (v : Value) (wr : World) : Prop :=
  ∃ ys, f ≤ 9 ∧ z < 18446744073709551616 ∧ z < 128 ^ f * 128 ∧ Own wr B v ys ∧ ys ++ encF f z = l ∧ Below B w wr ∧ B ≤ wr.heap.size
theorem Laying.step {w wr w1 : World} {B f z : Nat} {l ys : List Int} {v' : Value} (hf : f ≤ 9) (hz6 : z < 18446744073709551616) (hz : z < 128 ^ f * 128) (he : ys ++ encF f z = l) (hb : Below B w wr) (hs : B ≤ wr.heap.size) (h : 128 ≤ z)
    (hown : w1.ownsRow B 5 1 v' (ys.length + 1) (I ys ++ [.int .u8 ((z : Int) % 128 + 128)])) (hw : Below B wr w1) : Laying w B l (f - 1) (z / 128) v' w1 ∧ f ≠ 0 := by
  rcases f with _ | f
  · omega
  refine ⟨⟨ys ++ [((z % 128 + 128 : Nat) : Int)], by omega, by omega, by rw [Nat.pow_succ] at hz; show z / 128 < 128 ^ f * 128; omega, ?_, ?_, hb.trans hw, Nat.le_trans hs hw.size⟩, by omega⟩
  · unfold Own
    rw [I_append]
    have e : ((z % 128 + 128 : Nat) : Int) = (z : Int) % 128 + 128 := by omega
    rw [e]
    simpa [I] using hown
  · rw [← he, encF_ge h]; simp

set_option maxRecDepth 100000 in
set_option maxHeartbeats 1000000 in
theorem appendNum_any (B : Nat) (v : Value) (l : List Int) (n : Int) (w : World) (h : Own w B v l) (hB : B ≤ w.heap.size) (h0 : -9223372036854775808 ≤ n) (h1 : n ≤ 9223372036854775807) (hl : l.length ≤ 1000000) :
    Calls Tryd.prog 26 #[v, .int .i64 n] w (App w B (l ++ enc n)) := by
  obtain ⟨i0, hi, hz0, hz1, hz2⟩ := info_parts Tryd.info5
  have HO := hid h
  clear h
  have HF := hid (zz_fit h0 h1)
  have HL := hid (enc_len n)
  go_enter Tryd.func26, Tryd.ntmps26
  go_wp2_with (go_at_call 34; refine (zigzag_any n _ h0 h1).mono ?_; rintro e w' ⟨rfl, rfl⟩)
  go_loopw [0, 5] (fun v u wr => ∃ f z : Nat, u = .int .u64 (z : Int) ∧ Laying w B (l ++ enc n) f z v wr) (fun _ u _ => (intOf u).toNat)
  case atStart => exact ⟨9, zz n, rfl, l, by omega, zz_lt h0 h1, HF.out, HO.out, rfl, Below.refl _ _, hB⟩
  case round =>
    obtain ⟨f, z, rfl, ys, hf, hz64, hz, hown, he, hb, hs⟩ := hrel
    have hlen : ys.length + (encF f z).length = l.length + (enc n).length := by rw [← List.length_append, he, List.length_append]
    have hen := encF_len f z
    have hys := hid (show ys.length ≤ 1000010 by have := HL.out; omega)
    have HO1 := hid hown
    have HE := hid he
    have HB := hid hb
    have HZ := hid hz
    have HZ6 := hid hz64
    clear hown he hb hz hlen hen
    have hzi : (z : Int) ≤ 18446744073709551615 := by omega
    clear hz64
    rcases Int.lt_or_le z 128 with hlt | hlt
    · clear hzi
      go_wp2_with (at_builtin; refine wpList_append_own _ rfl _ _ 22 rfl B 5 i0 (.int .u8 0) 1 1 Tryd.underlying22 hi hz0 hz1 hz2 rfl (by decide) _ _ _ rfl (World.ownsRow.alloc HO1.out _) ⟨wr.heap.size, 0, none⟩ 1 1 [.int .u8 (z : Int)] rfl rfl ?d1 ?d2 ?d3 ?d4 ?d5 ?_)
      case d1 => exact cell_one_new _ _ _
      case d2 => intro u hu; simp at hu; subst hu; rfl
      case d3 => have := hys.out; unfold maxLen; omega
      case d4 => have := hys.out; omega
      case d5 => simp; omega
      intro v' w1 hown' hgrow _
      have hbw : Below B wr w1 := ((Below.refl _ _).alloc hs _).grown hgrow (by simp; omega) (fun k hk => (World.ownsRow.lt HO1.out k hk).1)
      have hfin : App w B (l ++ enc n) (.returned v') w1 := by
        refine ⟨v', rfl, ?_, HB.out.trans hbw⟩
        have he := HE.out
        rw [encF_lt (by omega)] at he
        rw [← he]
        unfold Own
        rw [I_append]
        simpa [I] using hown'
      have HFi := hid hfin
      clear hfin hown' hgrow hbw
      go_wp2
      go_ret
      exact HFi.out
    · go_wp2_with (at_builtin; refine wpList_append_own _ rfl _ _ 22 rfl B 5 i0 (.int .u8 0) 1 1 Tryd.underlying22 hi hz0 hz1 hz2 rfl (by decide) _ _ _ rfl (World.ownsRow.alloc HO1.out _) ⟨wr.heap.size, 0, none⟩ 1 1 [.int .u8 ((z : Int) % 128 + 128)] rfl rfl ?c1 ?c2 ?c3 ?c4 ?c5 ?_)
      case c1 => exact cell_one_new _ _ _
      case c2 => intro u hu; simp at hu; subst hu; rfl
      case c3 => have := hys.out; unfold maxLen; omega
      case c4 => have := hys.out; omega
      case c5 => simp; omega
      intro v' w1 hown' hgrow _
      have hbw : Below B wr w1 := ((Below.refl _ _).alloc hs _).grown hgrow (by simp; omega) (fun k hk => (World.ownsRow.lt HO1.out k hk).1)
      have R := hid (Laying.step hf HZ6.out HZ.out HE.out HB.out hs (by omega) hown' hbw).1
      clear hown' hgrow hbw
      go_wp2
      go_roundw
      case rel => exact ⟨f - 1, z / 128, by go_num, R.out⟩
      case measure => simp [intOf]; omega
end Go.Proofs.YtfggfdmjmebgfaaDoor
