/- The document's Turned. -/
import Derived.Test.YtdllmodgefolbaaDoorGDevBase
import Derived.Test.YtdllmodgefolbaaDoorGBase
import Derived.Test.YtdllmodgefolbaaDoorGSee
import Derived.IntWalk
import Derived.Deep.RegionHeld3
import Derived.RegionTactic
import Derived.Deep.RegionLaw
namespace Go.Proofs.YtdllmodgefolbaaDoor
open Go.RowKit
set_option maxRecDepth 100000 in
set_option maxHeartbeats 1000000 in
theorem refTurned_neg (A : Option Addr) (n c b : Nat) (at' : Int) (l : List Int) (w : World) (h : Sl w w.heap.size A n c l) (hn : n ≤ 100000) (ha : at' < 0) :
    Calls Tryd.prog 17 #[.slice A n c, .int .i64 at', .int .u32 (b : Int)] w (Anew w n (turned l at' b)) := by
  have HS := hid h
  have HT := hid (show turned l at' b = l by unfold turned; rw [if_pos ha])
  have hg : decide (0 ≤ at') = false := by simpa using ha
  clear h
  go_enter Tryd.func17, Tryd.ntmps17
  go_wp2_with fail
  refine (bytes_any A n c l _ HS.out hn).mono ?_
  rintro e w1 hm
  obtain ⟨v, rfl, ho, hb⟩ := hm
  have HF := hid (show Anew w n (turned l at' b) (.returned v) w1 from ⟨_, rfl, by rw [HT.out]; exact ho, hb, by rw [HT.out]; exact HS.out.len⟩)
  clear ho hb
  go_wp2
  go_loop [8] (fun i => ∃ k : Nat, k ≤ 4 ∧ i = .int .i64 (k : Int)) (fun i => 4 - (intOf i).toNat)
  case atStart => exact ⟨0, by omega, rfl⟩
  case round =>
    obtain ⟨k, hk, rfl⟩ := hrel
    by_cases hlt : k < 4
    · go_wp2
      go_round
      case rel => exact ⟨k + 1, by omega, by go_num⟩
      case measure => simp [intOf]; omega
    · go_wp2
      go_ret
      exact HF.out

set_option maxRecDepth 100000 in
set_option maxHeartbeats 1000000 in
theorem refTurned_pos (A : Option Addr) (n c b p : Nat) (l : List Int) (w : World) (h : Sl w w.heap.size A n c l) (hy : Byt l) (hn : n ≤ 100000) (hp : (p : Int) ≤ 9223372036854775807) :
    Calls Tryd.prog 17 #[.slice A n c, .int .i64 (p : Int), .int .u32 (b : Int)] w (Anew w n (turns l p b 4)) := by
  have HS := hid h
  have HY := hid hy
  have HL := hid h.len
  have hg0 : decide (0 ≤ (p : Int)) = true := by simp
  clear h hy
  go_enter Tryd.func17, Tryd.ntmps17
  go_wp2_with fail
  refine (bytes_any A n c l _ HS.out hn).mono ?_
  rintro e w1 hm
  obtain ⟨v, rfl, ho, hb⟩ := hm
  have hs := ho.form
  rw [HL.out] at hs
  obtain ⟨A', c', rfl, hs, _⟩ := hs
  have HO := hid (own_vals.1 ho)
  have HB1 := hid hb
  clear ho hb hs
  go_wp2
  go_loopw [8] (fun i wr => ∃ k : Nat, k ≤ 4 ∧ i = .int .i64 (k : Int) ∧ OwnV 5 wr w.heap.size (.slice A' n c') (I (turns l p b k)) ∧ Below w.heap.size w wr) (fun i _ => 4 - (intOf i).toNat)
  case atStart => exact ⟨0, by omega, rfl, by rw [turns_zero]; exact HO.out, HB1.out⟩
  case round =>
    obtain ⟨k, hk, rfl, hown, hb⟩ := hrel
    have HO1 := hid hown
    have HB2 := hid hb
    clear hown hb
    by_cases hr1 : k < 4
    · by_cases hr2 : (p : Int) < n - k
      · obtain ⟨g, rfl, hgb, _, hgl⟩ := HO1.out.slot (by omega)
        obtain ⟨x, hx⟩ : ∃ x, l[p + k]? = some x := ⟨_, List.getElem?_eq_getElem (by have := HL.out; omega)⟩
        have hcell := OwnV.cell HO1.out (I_get (turns_here b hx))
        have hfr := OwnV.free HO1.out (p + k)
        have w2 : ((p : Int) + k).toNat = p + k := by omega
        have w3 : 0 ≤ (p : Int) + k := by omega
        have w4 : (p : Int) + k < n := by omega
        have w6 : 0 ≤ 8 * (k : Int) := by omega
        have hv := turn_val b k (HY.out.at_ hx)
        have R1 := hid (show OwnV 5 (wr.setCell ⟨g, p + k, none⟩ (.int .u8 (bits .xor .u8 x ((b : Int) / 2 ^ (8 * k) % 256)))) w.heap.size (.slice (some ⟨g, 0, none⟩) n c') (I (turns l p b (k + 1))) by
          have := OwnV.put HO1.out (by rw [I_len, turns_len]; exact HL.out) (p + k) (.int .u8 ((x.toNat ^^^ byteOf b k : Nat) : Int))
          rw [I_set, turns_step b hx, ← hv] at this
          exact this)
        have R2 := hid (show Below w.heap.size w (wr.setCell ⟨g, p + k, none⟩ (.int .u8 (bits .xor .u8 x ((b : Int) / 2 ^ (8 * k) % 256)))) from HB2.out.setCell (by simpa using hgb) _)
        clear hx hgl hv hgb
        go_wp2
        go_roundw
        case rel => exact ⟨k + 1, by omega, by go_num, R1.out, R2.out⟩
        case measure => simp [intOf]; omega
      · have R1 := hid (show OwnV 5 wr w.heap.size (.slice A' n c') (I (turns l p b (k + 1))) by
          rw [← turns_far b (by have := HL.out; omega) (Nat.le_succ k)]; exact HO1.out)
        go_wp2
        go_roundw
        case rel => exact ⟨k + 1, by omega, by go_num, R1.out, HB2.out⟩
        case measure => simp [intOf]; omega
    · have HF := hid (show Anew w n (turns l p b 4) (.returned (.slice A' n c')) wr from ⟨_, rfl, by
        rw [own_vals, show (4 : Nat) = k by omega]
        exact HO1.out, HB2.out, by rw [turns_len]; exact HL.out⟩)
      go_wp2
      go_ret
      exact HF.out
theorem refTurned_any (A : Option Addr) (n c b : Nat) (at' : Int) (l : List Int) (w : World) (h : Sl w w.heap.size A n c l) (hy : Byt l) (hn : n ≤ 100000) (ha : at' ≤ 9223372036854775807) :
    Calls Tryd.prog 17 #[.slice A n c, .int .i64 at', .int .u32 (b : Int)] w (Anew w n (turned l at' b)) := by
  rcases Int.lt_or_le at' 0 with h0 | h0
  · exact refTurned_neg A n c b at' l w h hn h0
  · obtain ⟨p, rfl⟩ : ∃ p : Nat, at' = (p : Int) := ⟨at'.toNat, by omega⟩
    have e : turned l (p : Int) b = turns l p b 4 := by unfold turned; rw [if_neg (by omega)]; rfl
    rw [e]
    exact refTurned_pos A n c b p l w h hy hn ha
end Go.Proofs.YtdllmodgefolbaaDoor
