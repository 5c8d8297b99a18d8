/- RecRanges' bytes: a list laid anew with just its room; zeros behind it. -/
import Derived.Test.YtkihoibcgafooaaDoorGRcK
import Derived.Lib.AppendZerosOnto
namespace Go.Proofs.YtkihoibcgafooaaDoor
open Go.RowKit

/-- anew, with just its room -/
def Exactly (w : World) (n : Nat) (l : List Int) (e : Ending) (w' : World) : Prop :=
  e = .returned (.slice (some ⟨w.heap.size, 0, none⟩) n n) ∧ Own w' w.heap.size (.slice (some ⟨w.heap.size, 0, none⟩) n n) l ∧ Below w.heap.size w w'
set_option maxRecDepth 100000 in
set_option maxHeartbeats 1000000 in
theorem bytesX_any (A : Option Addr) (n c : Nat) (l : List Int) (w : World) (h : Sl w w.heap.size A n c l) (hn : n ≤ 100000) :
    Calls Tryd.prog 15 #[.slice A n c] w (Exactly w n l) := by
  obtain ⟨i0, hi, hz0, hz1, hz2⟩ := info_parts Tryd.info5
  have HS := hid h
  clear h
  go_enter Tryd.func15, Tryd.ntmps15
  go_wp2_with (at_make; refine wpList_make_own _ rfl _ _ 24 rfl w.heap.size 5 i0 (.int .u8 0) 1 Tryd.underlying24 hi hz0 hz1 _ _ _ n rfl rfl ?hC ?b2 ?b3 ?b4 ?_)
  case hC => rfl
  case b2 => rw [hz2]; omega
  case b3 => unfold maxLen; omega
  case b4 => exact Nat.le_refl _
  intro w1 hown hgrow
  have HO := hid (show Own w1 w.heap.size (.slice (some ⟨w.heap.size, 0, none⟩) 0 n) (l.take 0) from hown)
  have HB := hid (show Below w.heap.size w w1 from (Below.refl _ _).grown hgrow (Nat.le_refl _) (fun _ h => by cases h))
  clear hown hgrow
  go_wp2
  go_loopw [3, 4] (fun v i wr => ∃ k : Nat, k ≤ n ∧ i = .int .i64 (k : Int) ∧ v = .slice (some ⟨w.heap.size, 0, none⟩) k n ∧ Own wr w.heap.size (.slice (some ⟨w.heap.size, 0, none⟩) k n) (l.take k) ∧ Below w.heap.size w wr) (fun _ i _ => n - (intOf i).toNat)
  case atStart => exact ⟨0, Nat.zero_le _, rfl, rfl, HO.out, HB.out⟩
  case round =>
    obtain ⟨k, hk, rfl, rfl, hown, hb⟩ := hrel
    have HO1 := hid hown
    have HB1 := hid hb
    clear hown hb
    by_cases hlt : k < n
    · obtain ⟨ad, x, rfl, hbl, hx, hc⟩ := (HS.out.below HB1.out).get hlt
      have HX := hid hx
      have HBl := hid hbl
      clear hx hbl
      have HLt := hid (show (l.take k).length = k by rw [List.length_take, HS.out.len]; omega)
      have HOa := hid (show World.ownsRow (wr.alloc (.cells #[.int .u8 x] 5)) w.heap.size 5 1 (.slice (some ⟨w.heap.size, 0, none⟩) k n) k (I (l.take k)) from by
        have h := World.ownsRow.alloc HO1.out (.cells #[.int .u8 x] 5)
        rwa [HLt.out] at h)
      go_wp2_with (at_builtin; refine wpList_append_fits_any _ rfl _ _ 24 rfl w.heap.size 5 i0 1 Tryd.underlying24 hi hz1 w.heap.size k n (I (l.take k)) rfl HOa.out (some ⟨wr.heap.size, 0, none⟩) 1 1 [.int .u8 x] rfl ?hn ?hnone ?hc ?h1c ?b1 ?_)
      case hn => rfl
      case hnone => intro h; cases h
      case hc => intro ad h; cases h; exact cell_one_new _ _ _
      case h1c => intro u hu; simp at hu; subst hu; rfl
      case b1 => omega
      intro w2 hown' hgrow
      have R1 := hid (show Own w2 w.heap.size (.slice (some ⟨w.heap.size, 0, none⟩) (k + 1) n) (l.take (k + 1)) by
        rw [take_next HX.out]
        unfold Own
        rw [I_append]
        rw [List.length_append, HLt.out]
        simpa [I] using hown')
      have R2 := hid (show Below w.heap.size w w2 from (HB1.out.alloc HB1.out.size _).grown hgrow (by have := HB1.out.size; simp; omega) (fun q hq => by injection hq with hq; omega))
      clear hown' hgrow
      go_wp2
      go_roundw
      case rel => exact ⟨k + 1, by omega, by go_num, rfl, R1.out, R2.out⟩
      case measure => simp [intOf]; omega
    · go_wp2
      go_ret
      obtain rfl : k = n := by omega
      exact ⟨rfl, by have := HO1.out; rwa [List.take_of_length_le (by have := HS.out.len; omega)] at this, HB1.out⟩

theorem zeroCells_ints (n : Nat) : (Builtin.zeroCells (Value.int .u8 0).cells n).toList = I (List.replicate n 0) := by
  have hc : (Value.int .u8 0).cells = #[.int .u8 0] := rfl
  rw [hc]
  apply List.ext_getElem?
  intro k
  unfold I
  rw [List.map_replicate, List.getElem?_replicate]
  by_cases hk : k < n
  · rw [if_pos hk]
    simp [Builtin.zeroCells, hk, Nat.mod_one]
  · rw [if_neg hk, List.getElem?_eq_none (by simp [Builtin.zeroCells]; omega)]
/-- 25 zeros behind a list with just its room -/
theorem zeros_onto {w : World} {B g n : Nat} {l : List Int} (h : Own w B (.slice (some ⟨g, 0, none⟩) n n) l) (hl : l.length = n) (hn : n ≤ 1000) : ∃ c W', (∀ ty, (Builtin.append_ #[24, 3] ty #[.slice (some ⟨g, 0, none⟩) n n, .int .i64 25]).run Tryd.prog w = .ok (.slice (some ⟨w.heap.size, 0, none⟩) (n + 25) c) W') ∧
    Sl W' W'.heap.size (some ⟨w.heap.size, 0, none⟩) (n + 25) c (l ++ List.replicate 25 0) ∧ Below w.heap.size w W' := by
  obtain ⟨i0, hi, hz0, hz1, hz2⟩ := info_parts Tryd.info5
  have hold : (Builtin.firstCells i0.size n (.slice (some ⟨g, 0, none⟩) n n)).run Tryd.prog w.drew = .ok (I l).toArray w.drew := by
    rw [hz1]
    refine run_firstCells_some w.drew 1 n ⟨g, 0, none⟩ n n (I l) (by rw [I_len, hl]; omega) (fun j v hj => ?_)
    exact World.ownsRow.cells h (g := g) rfl j v hj
  obtain ⟨G, hG⟩ : ∃ G, grownCap w (n + 25) n 5 = G := ⟨_, rfl⟩
  have hGn : n + 25 ≤ G := by rw [← hG]; exact grownCap_ge w _ _ _
  have hG63 : G ≤ maxLen := by rw [← hG]; exact grownCap_le_maxLen w (n + 25) n 5 (by unfold maxLen; omega)
  have h1 := fun ty => Lib.run_append_grow_zeros w 24 3 ty 5 i0 _ .i64 .i64 Tryd.underlying24 Tryd.underlying3 hi hz0 (some ⟨g, 0, none⟩) n n (I l) hold 25 (by omega) (by omega) (by omega) (by omega) (by rw [hz2]; omega) (by rw [hz2]; exact growslice_fits (by omega) (by omega))
  rw [hG] at h1
  refine ⟨G, _, h1, ?_, ?_⟩
  · obtain ⟨cs, hcs⟩ : ∃ cs, (I l).toArray ++ Builtin.zeroCells (Value.int .u8 0).cells 25 ++ Builtin.zeroCells (Value.int .u8 0).cells (G - (n + 25)) = cs := ⟨_, rfl⟩
    have hget : ∀ j x, (l ++ List.replicate 25 (0 : Int))[j]? = some x → cs[j]? = some (Value.int .u8 x) := fun j x hx => by
      rw [← hcs, ← Array.getElem?_toList, Array.toList_append, Array.toList_append, zeroCells_ints, zeroCells_ints]
      show (I l ++ I (List.replicate 25 0) ++ I (List.replicate (G - (n + 25)) 0))[j]? = _
      rw [← I_append, List.getElem?_append_left (by rw [I_len]; exact (List.getElem?_eq_some_iff.1 hx).1)]
      exact I_get hx
    rw [hcs]
    refine ⟨by simp [hl], hGn, hG63, (fun h => by cases h), fun ad ha _ => ?_⟩
    cases ha
    refine ⟨by simp, fun j x hx => ?_⟩
    have e : (⟨w.heap.size, 0, none⟩ : Addr).add j = ⟨w.heap.size, j, none⟩ := by rw [Addr.add_lit, Nat.zero_add]
    rw [e]
    have hb := Blk.new w.drew 5 cs
    rw [show w.heap.size = w.drew.heap.size from rfl, hb.cell j]
    exact hget j x hx
  · exact (Below.refl _ _).drew.alloc (by simp) _
end Go.Proofs.YtkihoibcgafooaaDoor
