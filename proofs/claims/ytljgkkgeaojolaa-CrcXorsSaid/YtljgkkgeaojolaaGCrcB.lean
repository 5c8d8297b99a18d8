/- The chapter's example; the table; the sum by the table. -/
import Derived.Test.YtljgkkgeaojolaaGCrcA
import Derived.Test.YtljgkkgeaojolaaGVals
import Derived.Lib.SlBytesConst
namespace Go.Proofs.Ytljgkkgeaojolaa
open Go.RowKit

theorem nine : ((crcOf (nats [49, 50, 51, 52, 53, 54, 55, 56, 57]) : Nat) : Int) = 3808858755 := by decide +kernel
/-- a constant text's bytes, laid -/
theorem Sl.mark (w : World) (l : List Int) (f : Nat × Nat) (h : l.length ≤ 1000) : Sl (w.alloc (.cells (I l).toArray 5 f)) (w.heap.size + 1) (some ⟨w.heap.size, 0, none⟩) l.length l.length l := by
  refine ⟨rfl, Nat.le_refl _, by unfold maxLen; omega, (fun h => by cases h), fun ad ha _ => ?_⟩
  cases ha
  refine ⟨by show w.heap.size < _; omega, fun j x hx => ?_⟩
  have e : (⟨w.heap.size, 0, none⟩ : Addr).add j = ⟨w.heap.size, j, none⟩ := by unfold Addr.add; split <;> simp_all
  rw [e, cell_of_row _ w.heap.size j (I l).toArray 5 f (heap_alloc_new w _)]
  simpa using I_get hx
theorem convB (w : World) (C : Array Value) (n c : Nat) : (convert 22 22 (.slice (some ⟨w.heap.size, 0, none⟩) n c)).run Try.prog (w.alloc (.cells C 5)) = .ok (.slice (some ⟨w.heap.size, 0, none⟩) n c) (w.alloc (.cells C 5 (C.size, C.size + 1))) :=
  Lib.run_convert_bytes_const (P := Try.prog) w 22 5 C n c Try.underlying22 Try.underlying5
set_option maxRecDepth 100000 in
set_option maxHeartbeats 1000000 in
theorem first_any (w : World) : Calls Try.prog 9 #[] w (Yes w) := by
  have kc := convB
  have HL := hid (Sl.mark w [49, 50, 51, 52, 53, 54, 55, 56, 57] (9, 10) (by decide))
  have HY := hid (show Byt [49, 50, 51, 52, 53, 54, 55, 56, 57] from by intro x hx; simp at hx; omega)
  have HF := hid (show Below w.heap.size w (w.alloc (.cells (I [49, 50, 51, 52, 53, 54, 55, 56, 57]).toArray 5 (9, 10))) from (Below.refl _ _).alloc (Nat.le_refl _) _)
  go_enter Try.func9, Try.ntmps9
  go_wp2_with fail
  refine (sum_any _ _ _ _ _ _ HL.out HY.out).mono ?_
  rintro e w' ⟨rfl, rfl⟩
  rw [nine]
  go_wp2
  go_ret
  exact ⟨rfl, HF.out⟩

/-- the table's words -/
def words : List Value := (List.range 256).map fun i => .int .u32 ((tab i : Nat) : Int)
theorem words_len : words.length = 256 := by simp [words]
theorem words_at {i : Nat} (h : i < 256) : words[i]? = some (.int .u32 ((tab i : Nat) : Int)) := by
  unfold words
  rw [List.getElem?_map, List.getElem?_range h]
  rfl
def wzeros : List Value := List.replicate 256 (.int .u32 0)
theorem wzeros_len : wzeros.length = 256 := List.length_replicate
theorem wzeros_at {i : Nat} (h : i < 256) : wzeros[i]? = some (.int .u32 0) := by unfold wzeros; rw [List.getElem?_replicate, if_pos h]
theorem Try.info23 : (Try.prog.info? 23).map (fun i => (i.zero, i.size, i.bytes)) = some (some (.int .u32 0), 1, 4) := by kernel_rfl

theorem through_zero (c : Nat) (w : World) (hc : c < 256) :
    Calls Try.prog 21 #[.int .u32 0, .int .u8 (c : Int)] w fun e w' => e = .returned (.int .u32 ((tab c : Nat) : Int)) ∧ w = w' := through_any 0 c w (by omega) hc
set_option maxRecDepth 100000 in
set_option maxHeartbeats 1000000 in
theorem table_any (w : World) : Calls Try.prog 10 #[] w (MadeV 23 w words) := by
  obtain ⟨i0, hi, hz0, hz1, hz2⟩ := info_parts Try.info23
  go_enter Try.func10, Try.ntmps10
  go_wp2_with (at_make; refine wpList_make_full _ rfl _ _ 25 rfl w.heap.size 23 i0 (.int .u32 0) 1 Try.underlying25 hi hz0 hz1 _ _ _ _ 256 rfl rfl rfl rfl ?b2 ?b3 ?b4 ?_)
  case b2 => rw [hz2]; omega
  case b3 => unfold maxLen; omega
  case b4 => exact Nat.le_refl _
  intro w1 hown hgrow
  have HO := hid (show OwnV 23 w1 w.heap.size (.slice (some ⟨w.heap.size, 0, none⟩) 256 256) (words.take 0 ++ wzeros.drop 0) by
    have e : (madeCells #[Value.int .u32 0] 256).toList = wzeros := toList_madeCells_one _ _
    rw [e] at hown
    unfold OwnV
    rw [fill_len (Nat.zero_le _) (by rw [words_len, wzeros_len]), wzeros_len]
    exact hown)
  have HB := hid (show Below w.heap.size w w1 from (Below.refl _ _).grown hgrow (Nat.le_refl _) (fun _ h => by cases h))
  clear hown hgrow
  go_wp2
  go_loopw [6] (fun i wr => ∃ k : Nat, k ≤ 256 ∧ i = .int .i64 (k : Int) ∧ OwnV 23 wr w.heap.size (.slice (some ⟨w.heap.size, 0, none⟩) 256 256) (words.take k ++ wzeros.drop k) ∧ Below w.heap.size w wr) (fun i _ => 256 - (intOf i).toNat)
  case atStart => exact ⟨0, Nat.zero_le _, rfl, HO.out, HB.out⟩
  case round =>
    obtain ⟨k, hk, rfl, hown, hb⟩ := hrel
    have HO1 := hid hown
    have HB1 := hid hb
    clear hown hb
    by_cases hlt : k < 256
    · have hcell := OwnV.cell HO1.out ((fill_at (xs := words) (by rw [wzeros_len]; exact hlt) (by rw [words_len, wzeros_len])).trans (wzeros_at hlt))
      have hfr := OwnV.free HO1.out k
      have R1 := hid (show OwnV 23 (wr.setCell ⟨w.heap.size, k, none⟩ (.int .u32 ((tab k : Nat) : Int))) w.heap.size (.slice (some ⟨w.heap.size, 0, none⟩) 256 256) (words.take (k + 1) ++ wzeros.drop (k + 1)) by
        have := OwnV.put HO1.out (by rw [fill_len (by rw [wzeros_len]; exact hk) (by rw [words_len, wzeros_len]), wzeros_len]) k (.int .u32 ((tab k : Nat) : Int))
        rwa [fill_next (words_at hlt) (by rw [words_len, wzeros_len])] at this)
      have R2 := hid (show Below w.heap.size w (wr.setCell ⟨w.heap.size, k, none⟩ (.int .u32 ((tab k : Nat) : Int))) from HB1.out.setCell (by simp) _)
      go_wp2_with (go_at_call 21; refine (through_zero k _ hlt).mono ?_; rintro e w' ⟨rfl, rfl⟩)
      go_roundw
      case rel => exact ⟨k + 1, by omega, by go_num, R1.out, R2.out⟩
      case measure => simp [intOf]; omega
    · have HF := hid (show MadeV 23 w words (.returned (.slice (some ⟨w.heap.size, 0, none⟩) 256 256)) wr from ⟨_, rfl, by
        have := HO1.out
        rwa [List.take_of_length_le (by rw [words_len]; omega), List.drop_eq_nil_of_le (by rw [wzeros_len]; omega), List.append_nil] at this, HB1.out⟩)
      go_wp2
      go_ret
      exact HF.out
end Go.Proofs.Ytljgkkgeaojolaa
