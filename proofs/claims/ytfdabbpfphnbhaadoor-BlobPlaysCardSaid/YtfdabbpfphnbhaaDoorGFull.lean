/- The document's Full, at as many bytes as a block has, or fewer. -/
import Derived.Test.YtfdabbpfphnbhaaDoorProg
import Derived.Test.YtfdabbpfphnbhaaDoorGBase
import Derived.Test.YtfdabbpfphnbhaaDoorGDevIf
namespace Go.Proofs.YtfdabbpfphnbhaaDoor
open Go.RowKit

/-- bytes as a block: 0s behind -/
def padB (l : List Int) : List Int := l ++ List.replicate (256 - l.length) 0
theorem padB_len {l : List Int} (h : l.length ≤ 256) : (padB l).length = 256 := by unfold padB; simp; omega
theorem padB_byt {l : List Int} (h : Byt l) : Byt (padB l) := h.append (fun x hx => by rw [List.eq_of_mem_replicate hx]; omega)
theorem padB_at {l : List Int} {k : Nat} {x : Int} (h : l[k]? = some x) : (padB l)[k]? = some x := by
  have hk := (List.getElem?_eq_some_iff.1 h).1
  unfold padB; rw [List.getElem?_append_left hk, h]
theorem padB_end (l : List Int) : (I (padB l)).take l.length ++ (I (List.replicate 256 0)).drop l.length = I (padB l) := by
  unfold padB
  rw [I_append, List.take_append_of_le_length (by rw [I_len]; exact Nat.le_refl _), List.take_of_length_le (by rw [I_len]; exact Nat.le_refl _)]
  congr 1
  unfold I
  rw [← List.map_drop, List.drop_replicate]
theorem pad_nil : padB [] = List.replicate 256 0 := rfl
set_option maxRecDepth 100000 in
set_option maxHeartbeats 1000000 in
theorem full_any (A : Option Addr) (n c : Nat) (l : List Int) (w : World) (h : Sl w w.heap.size A n c l) (hn : n ≤ 256) : Calls Tryd.prog 14 #[.slice A n c] w (Anew w 256 (padB l)) := by
  obtain ⟨i0, hi, hz0, hz1, hz2⟩ := info_parts Tryd.info5
  have HS := hid h
  have HN := hid hn
  have hfl : (I (padB l)).length = 256 := by rw [I_len, padB_len (by rw [h.len]; exact hn)]
  have hzl : (I (List.replicate 256 0)).length = 256 := by rw [I_len, List.length_replicate]
  have HFL := hid hfl
  have HZL := hid hzl
  clear hfl hzl h
  go_enter Tryd.func14, Tryd.ntmps14
  go_wp2_with (at_make; refine wpList_make_full _ rfl _ _ 31 rfl w.heap.size 5 i0 (.int .u8 0) 1 Tryd.underlying31 hi hz0 hz1 _ _ _ _ 256 rfl rfl rfl rfl ?b2 ?b3 ?b4 ?_)
  case b2 => rw [hz2]; omega
  case b3 => unfold maxLen; omega
  case b4 => exact Nat.le_refl _
  intro w1 hown hgrow
  have HO := hid (show OwnV 5 w1 w.heap.size (.slice (some ⟨w.heap.size, 0, none⟩) 256 256) ((I (padB l)).take 0 ++ (I (List.replicate 256 0)).drop 0) by
    have e := zeros 256
    unfold OwnV
    rw [fill_len (Nat.zero_le _) (by rw [HFL.out, HZL.out]), HZL.out]
    rw [List.take_zero, List.nil_append, List.drop_zero, ← e]
    exact hown)
  have HB := hid (show Below w.heap.size w w1 from (Below.refl _ _).grown hgrow (Nat.le_refl _) (fun _ h => by cases h))
  clear hown hgrow
  go_wp2
  go_loopw [4] (fun i wr => ∃ k : Nat, k ≤ n ∧ i = .int .i64 (k : Int) ∧ OwnV 5 wr w.heap.size (.slice (some ⟨w.heap.size, 0, none⟩) 256 256) ((I (padB l)).take k ++ (I (List.replicate 256 0)).drop k) ∧ Below w.heap.size w wr) (fun i _ => 256 - (intOf i).toNat)
  case atStart => exact ⟨0, Nat.zero_le _, rfl, HO.out, HB.out⟩
  case round =>
    obtain ⟨k, hk, rfl, hown, hb⟩ := hrel
    have HO1 := hid hown
    have HB1 := hid hb
    clear hown hb
    by_cases hlt : k < n
    · obtain ⟨ad, x, rfl, hbl, hx, hc⟩ := (HS.out.below HB1.out).get hlt
      have hk2 : k < 256 := by omega
      have hz : (I (List.replicate 256 0))[k]? = some (.int .u8 0) := I_get (by rw [List.getElem?_replicate, if_pos hk2])
      have hf : (I (padB l))[k]? = some (.int .u8 x) := I_get (padB_at hx)
      have hcell := OwnV.cell HO1.out ((fill_at (xs := I (padB l)) (by rw [HZL.out]; exact hk2) (by rw [HFL.out, HZL.out])).trans hz)
      have hfr := OwnV.free HO1.out k
      have R1 := hid (show OwnV 5 (wr.setCell ⟨w.heap.size, k, none⟩ (.int .u8 x)) w.heap.size (.slice (some ⟨w.heap.size, 0, none⟩) 256 256) ((I (padB l)).take (k + 1) ++ (I (List.replicate 256 0)).drop (k + 1)) by
        have := OwnV.put HO1.out (by rw [fill_len (by rw [HZL.out]; omega) (by rw [HFL.out, HZL.out]), HZL.out]) k (.int .u8 x)
        rwa [fill_next hf (by rw [HFL.out, HZL.out])] at this)
      have R2 := hid (show Below w.heap.size w (wr.setCell ⟨w.heap.size, k, none⟩ (.int .u8 x)) from HB1.out.setCell (by simp) _)
      have hki : (k : Int) < 256 := by omega
      clear hz hf hx hbl
      go_wp2
      go_roundw
      case rel => exact ⟨k + 1, by omega, by go_num, R1.out, R2.out⟩
      case measure => simp [intOf]; omega
    · have HF := hid (show Anew w 256 (padB l) (.returned (.slice (some ⟨w.heap.size, 0, none⟩) 256 256)) wr from ⟨_, rfl, by
        have := HO1.out
        rw [show k = l.length by have := HS.out.len; omega, padB_end] at this
        exact own_vals.2 this, HB1.out, by have := padB_len (l := l) (by have := HS.out.len; have := HN.out; omega); exact this⟩)
      have hnlt : decide (k < n) = false := by simpa using hlt
      go_wp2
      go_ret
      exact HF.out
end Go.Proofs.YtfdabbpfphnbhaaDoor
