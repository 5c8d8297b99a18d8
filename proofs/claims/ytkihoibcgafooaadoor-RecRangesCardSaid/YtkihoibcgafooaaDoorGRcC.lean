/- Package rec's Key, and the document's. -/
import Derived.Test.YtkihoibcgafooaaDoorGRcB
import Derived.Laws.OwnMore
namespace Go.Proofs.YtkihoibcgafooaaDoor
open Go.RowKit

/-- what an append onto a slice of the call's own leaves -/
def AppR (w : World) (B : Nat) (l : List Int) (e : Ending) (w' : World) : Prop := ∃ v, e = .returned v ∧ Own w' B v l ∧ Below B w w'
theorem num3_len (n : Int) : (num3 n).length = 3 := rfl
set_option maxRecDepth 100000 in
set_option maxHeartbeats 1000000 in
theorem appNum_any (B : Nat) (v : Value) (l : List Int) (n : Int) (w : World) (h : Own w B v l) (hB : B ≤ w.heap.size) (hn : numB n = true) (hl : l.length ≤ 1000000) :
    Calls Tryd.prog 17 #[v, .int .i64 n] w (AppR w B (l ++ num3 n)) := by
  obtain ⟨i0, hi, hz0, hz1, hz2⟩ := info_parts Tryd.info5
  have hn' : 0 ≤ n ∧ n ≤ 16777215 := by simpa [numB] using hn
  obtain ⟨hn0, hn1⟩ := hn'
  clear hn
  have e1 : IntKind.u8.wrap (n / 65536) = n / 65536 := by rw [IntKind.wrap_u8]; omega
  have e2 : IntKind.u8.wrap (n / 256) = n / 256 % 256 := by rw [IntKind.wrap_u8]
  have e3 : IntKind.u8.wrap n = n % 256 := by rw [IntKind.wrap_u8]
  have HO := hid h
  clear h
  go_enter Tryd.func17, Tryd.ntmps17
  go_wp2_with (at_builtin; refine wpList_append_own _ rfl _ _ 24 rfl B 5 i0 (.int .u8 0) 1 1 Tryd.underlying24 hi hz0 hz1 hz2 rfl (by decide) _ _ _ rfl (World.ownsRow.alloc HO.out _) ⟨w.heap.size, 0, none⟩ 3 3 [.int .u8 (n / 65536), .int .u8 (n / 256 % 256), .int .u8 (n % 256)] rfl rfl ?d1 ?d2 ?d3 ?d4 ?d5 ?_)
  case d1 =>
    intro j u hu
    rcases j with _ | _ | _ | j
    · simp at hu; subst hu; exact (Blk.new w _ _).cell 0
    · simp at hu; subst hu; exact (Blk.new w _ _).cell 1
    · simp at hu; subst hu; exact (Blk.new w _ _).cell 2
    · simp at hu
  case d2 => intro u hu; simp at hu; rcases hu with rfl | rfl | rfl <;> rfl
  case d3 => unfold maxLen; omega
  case d4 => omega
  case d5 => simp; omega
  intro v' w1 hown' hgrow _
  have HF := hid (show AppR w B (l ++ num3 n) (.returned v') w1 from ⟨v', rfl, by
    unfold Own
    rw [I_append]
    simpa [I, num3] using hown', ((Below.refl _ _).alloc hB _).grown hgrow (by simp; omega) (fun k hk => (World.ownsRow.lt HO.out k hk).1)⟩)
  clear hown' hgrow
  go_wp2
  go_ret
  exact HF.out
theorem EV.ways {S : Nat → Addr} {c : Int} {v : Value} (h : EV S c v) : (c = 0 ∧ v = .nilIface) ∨ (c ≠ 0 ∧ ∃ a, v = .iface 70 (.pointer (some a))) := by
  rcases h with _ | ⟨j, hj⟩
  · exact .inl ⟨rfl, rfl⟩
  · exact .inr ⟨by omega, _, rfl⟩
/-- a key handed out, or why not: C the error's number -/
def Keyed (S : Nat → Addr) (w : World) (C : Int) (l : List Int) (e : Ending) (w' : World) : Prop :=
  ∃ A m c v, e = .returned (.tuple #[.slice A m c, v]) ∧ EV S C v ∧ Sl w' w'.heap.size A m c (if C = 0 then l else []) ∧ Below w.heap.size w w'
theorem keyed_of {S : Nat → Addr} {w w' : World} {B : Nat} {l : List Int} {v : Value} (ho : Own w' B v l) (hb : Below w.heap.size w w') : Keyed S w 0 l (.returned (.tuple #[v, .nilIface])) w' := by
  obtain ⟨A, c, rfl, hs, _⟩ := ho.form
  exact ⟨A, _, c, _, rfl, EV.fine, by rw [if_pos rfl]; exact hs, hb⟩
theorem own_one (w : World) (k : Int) : Own (w.alloc (.cells #[.int .u8 k] 5)) w.heap.size (.slice (some ⟨w.heap.size, 0, none⟩) 1 1) [k] :=
  World.ownsRow_lit w #[.int .u8 k] 1 (Nat.le_refl _) (by decide) rfl
set_option maxRecDepth 100000 in
set_option maxHeartbeats 2000000 in
theorem key_any (S : Nat → Addr) (k n i : Int) (s : ByteArray) (w : World) (hS : Sent4 w S) :
    Calls Tryd.prog 7 #[pv k n i s] w (Keyed S w (keyC k n i s) (keyL k n i s)) := by
  obtain ⟨i0, hi, hz0, hz1, hz2⟩ := info_parts Tryd.info5
  have HW := hid (key_ways k n i s)
  obtain ⟨C, hC⟩ : ∃ C, keyC k n i s = C := ⟨_, rfl⟩
  have HS := hid hS
  have HC := hid hC
  rw [hC]
  clear hS hC
  unfold pv
  go_enter Tryd.func7, Tryd.ntmps7
  go_wp2_with fail
  have hb0 : Below w.heap.size w (w.alloc (Obj.cells #[.int .i64 k, .int .i64 n, .int .i64 i, .string s] 23)) := (Below.refl _ _).alloc (Nat.le_refl _) _
  refine (check_any S k n i s _ (HS.out.on hb0)).mono ?_
  rintro e w1 ⟨v, rfl, hv, hb1⟩
  rw [HC.out] at hv
  have HK := hid ((Blk.new w 23 #[.int .i64 k, .int .i64 n, .int .i64 i, .string s]).below hb1 (by simp))
  have HB1 := hid (hb0.trans (hb1.mono (by simp)))
  have HV := hid hv
  clear hb0 hb1 hv
  rcases HV.out.ways with ⟨hc, hv⟩ | ⟨hc, a, hv⟩
  · subst hc
    subst hv
    obtain ⟨c1, c2, c3, c4, c5, c6⟩ : kinB k = true ∧ numB n = true ∧ numB i = true ∧ (i = 0 ∨ i ≠ 0 ∧ k = 4) ∧ (s = ⟨#[]⟩ ∨ s ≠ ⟨#[]⟩ ∧ k = 3) ∧ s.size ≤ 24 := by
      have h0 := HC.out
      rcases HW.out with ⟨_, c⟩ | ⟨_, _, c⟩ | ⟨_, _, _, c⟩ | ⟨_, _, _, _, _, c⟩ | ⟨_, _, _, _, _, _, c⟩ | ⟨_, _, _, _, _, _, c⟩ | ⟨c1, c2, c3, c4, c5, c6, _⟩
      all_goals first | (exfalso; omega) | exact ⟨c1, c2, c3, c4, c5, c6⟩
    have hk4 : 1 ≤ k ∧ k ≤ 4 := by simpa [kinB] using c1
    have e1 : IntKind.u8.wrap k = k := by rw [IntKind.wrap_u8]; omega
    have k0 := HK.out.cell 0
    have k1 := HK.out.cell 1
    have k2 := (HK.out.alloc (.cells #[.int .u8 k] 5)).cell 1
    simp at k0 k1 k2
    have HSz := hid HB1.out.size
    clear HW HC HV c1
    go_wp2_with fail
    refine (appNum_any w1.heap.size _ [k] n _ (own_one w1 k) (by simp) c2 (by simp)).mono ?_
    rintro e w2 ⟨v2, rfl, ho2, hb2⟩
    have HB2 := hid (HB1.out.trans (((Below.refl w1.heap.size w1).alloc (Nat.le_refl _) _ |>.trans hb2).mono HB1.out.size))
    have HK2 := hid ((HK.out.alloc (.cells #[.int .u8 k] 5)).below hb2 HK.out.lt)
    have HO2 := hid ho2
    have HS2 := hid (show w1.heap.size ≤ w2.heap.size from Nat.le_trans (by simp) hb2.size)
    have q0 := HK2.out.cell 0
    have q2 := HK2.out.cell 2
    have q3 := HK2.out.cell 3
    simp at q0 q2 q3
    clear ho2 hb2 k0 k1 k2 HK HB1
    by_cases h4 : k = 4
    · have hf : s = ⟨#[]⟩ := by rcases c5 with h | ⟨_, h⟩; exact h; omega
      have HF := hid (show keyL k n i s = [k] ++ num3 n ++ num3 i from by unfold keyL; rw [if_pos h4]; rfl)
      have e4 : (k == 4) = true := by simp [h4]
      clear c4 c5 hk4 h4 hf
      go_wp2_with fail
      refine (appNum_any w1.heap.size _ _ i _ HO2.out HS2.out c3 (by simp [num3])).mono ?_
      rintro e w3 ⟨v3, rfl, ho3, hb3⟩
      have HR := hid (keyed_of (S := S) ho3 (HB2.out.trans (hb3.mono HSz.out)))
      clear ho3 hb3
      go_wp2
      go_ret2
      rw [HF.out]
      exact HR.out
    · have e4 : (k == 4) = false := by simp [h4]
      by_cases h3 : k = 3
      · have HF := hid (show keyL k n i s = [k] ++ num3 n ++ str s from by unfold keyL; rw [if_neg h4]; rfl)
        have e3 : (k == 3) = true := by simp [h3]
        clear c4 c5 hk4 h4 h3
        go_wp2_with (at_builtin; refine Lib.wpList_append_own_string _ rfl _ _ 24 9 rfl w1.heap.size 5 i0 Tryd.underlying24 Tryd.underlying9 hi hz0 hz1 hz2 _ _ _ rfl HO2.out s rfl ?c3 ?c4 ?c5 ?_)
        case c3 => unfold maxLen; simp [num3]; omega
        case c4 => simp [num3]; omega
        case c5 => exact HS2.out
        intro v' w3 hown' hgrow _
        have ho3 : Own w3 w1.heap.size v' ([k] ++ num3 n ++ str s) := by
          unfold Own
          rw [I_append, ← str_cells]
          simpa [str_len, Nat.add_assoc, Nat.add_comm, Nat.add_left_comm] using hown'
        have HR := hid (keyed_of (S := S) ho3 (HB2.out.grown hgrow HB2.out.size (fun q hq => by have := (HO2.out.lt q hq).1; have := HSz.out; omega)))
        clear ho3 hown' hgrow
        go_wp2
        go_ret2
        rw [HF.out]
        exact HR.out
      · have hf : s = ⟨#[]⟩ := by rcases c5 with h | ⟨_, h⟩; exact h; omega
        have HF := hid (show keyL k n i s = [k] ++ num3 n from by unfold keyL; rw [if_neg h4, hf]; simp [str])
        have e3 : (k == 3) = false := by simp [h3]
        have HR := hid (keyed_of (S := S) HO2.out HB2.out)
        clear c4 c5 hk4 h4 h3 hf
        go_wp2
        go_ret2
        rw [HF.out]
        exact HR.out
  · have HF := hid (show Keyed S w C (keyL k n i s) (.returned (.tuple #[.slice none 0 0, v])) w1 from ⟨none, 0, 0, v, rfl, HV.out, by rw [if_neg hc]; exact Sl.empty _ _, HB1.out⟩)
    subst hv
    clear HK HB1 HV HW HC hc
    go_wp2
    go_ret2
    exact HF.out
end Go.Proofs.YtkihoibcgafooaaDoor
