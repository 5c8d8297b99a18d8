/- The document's Key and ReadKey. -/
import Derived.Test.YtkihoibcgafooaaDoorGRcD
import Derived.Deep.DeepCutAuto
import Derived.Deep.CutBlock
namespace Go.Proofs.YtkihoibcgafooaaDoor
open Go.RowKit

/-- the document's key handed out, or why not: C the error's number -/
def RKeyed (w : World) (C : Int) (l : List Int) (e : Ending) (w' : World) : Prop :=
  ∃ A m c, e = .returned (.tuple #[.slice A m c, .int .i64 C]) ∧ Sl w' w'.heap.size A m c (if C = 0 then l else []) ∧ Below w.heap.size w w'
theorem rkeyed_of {w w' : World} {B : Nat} {l : List Int} {v : Value} (ho : Own w' B v l) (hb : Below w.heap.size w w') : RKeyed w 0 l (.returned (.tuple #[v, .int .i64 0])) w' := by
  obtain ⟨A, c, rfl, hs, _⟩ := ho.form
  exact ⟨A, _, c, rfl, by rw [if_pos rfl]; exact hs, hb⟩
theorem rkeyed_no {w : World} {C : Int} {l : List Int} (h : C ≠ 0) : RKeyed w C l (.returned (.tuple #[.slice none 0 0, .int .i64 C])) w :=
  ⟨none, 0, 0, rfl, by rw [if_neg h]; exact Sl.empty _ _, Below.refl _ _⟩
theorem own_four (w : World) (a b c d : Int) : Own (w.alloc (.cells #[.int .u8 a, .int .u8 b, .int .u8 c, .int .u8 d] 5)) w.heap.size (.slice (some ⟨w.heap.size, 0, none⟩) 4 4) [a, b, c, d] :=
  World.ownsRow_lit w #[.int .u8 a, .int .u8 b, .int .u8 c, .int .u8 d] 4 (Nat.le_refl _) (by decide) rfl
theorem num_ways {n : Int} (h : numB n = false) : n < 0 ∨ (0 ≤ n ∧ 16777216 ≤ n) := by
  have : ¬ (0 ≤ n ∧ n ≤ 16777215) := by simpa [numB] using h
  omega
theorem kin_ways {n : Int} (h : kinB n = false) : n < 1 ∨ (1 ≤ n ∧ 4 < n) := by
  have : ¬ (1 ≤ n ∧ n ≤ 4) := by simpa [kinB] using h
  omega
theorem num_yes {n : Int} (h : numB n = true) : 0 ≤ n ∧ n < 16777216 := by
  have : (0 ≤ n ∧ n ≤ 16777215) := by simpa [numB] using h
  omega
theorem kin_yes {n : Int} (h : kinB n = true) : 1 ≤ n ∧ n ≤ 4 := by
  simpa [kinB] using h
set_option maxRecDepth 100000 in
set_option maxHeartbeats 4000000 in
theorem rkey_any (k n i : Int) (s : ByteArray) (w : World) :
    Calls Tryd.prog 8 #[.int .i64 k, .int .i64 n, .int .i64 i, .string s] w (RKeyed w (keyC k n i s) (keyL k n i s)) := by
  obtain ⟨i0, hi, hz0, hz1, hz2⟩ := info_parts Tryd.info5
  have HW := hid (key_ways k n i s)
  obtain ⟨C, hC⟩ : ∃ C, keyC k n i s = C := ⟨_, rfl⟩
  have HC := hid hC
  rw [hC]
  rw [hC] at HW
  clear hC
  have hs1 : s ≠ ⟨#[]⟩ → (s.toList == ([] : List UInt8)) = false := fun c5 => by
    rw [beq_eq_false_iff_ne, ByteArray.toList_eq]
    intro e
    exact c5 (emp_iff.1 (show s.data.size = 0 by rw [← Array.length_toList, e]; rfl))
  have hs0 : s = ⟨#[]⟩ → (s.toList == ([] : List UInt8)) = true := fun c5 => by subst c5; rw [ByteArray.toList_eq]; rfl
  have HS1 := hid hs1
  have HS0 := hid hs0
  clear hs1 hs0
  go_enter Tryd.func8, Tryd.ntmps8
  go_upto_region 1 with fail
  go_cut [48] (fun b wx => b = .bool (decide (C = 103)) ∧ wx = w)
  case first =>
    have ni : i ≠ 0 → (i != 0) = true := fun h => by simp [h]
    have n0 : i = 0 → (i != 0) = false := fun h => by simp [h]
    have nk : ∀ a : Int, k ≠ a → (k != a) = true := fun a h => by simp [h]
    have n4 : ∀ a : Int, k = a → (k != a) = false := fun a h => by simp [h]
    rcases HW.out with ⟨c1, c⟩ | ⟨c1, c2, c⟩ | ⟨c1, c2, c3, c⟩ | ⟨c1, c2, c3, c4, c5, c⟩ | ⟨c1, c2, c3, c4, c5, c6, c⟩ | ⟨c1, c2, c3, c4, c5, c6, c⟩ | ⟨c1, c2, c3, c4, c5, c6, c⟩
    · clear ni n0 nk n4
      rcases kin_ways c1 with h | ⟨h, h'⟩
      all_goals
        go_wp2
        go_meet
        exact ⟨by rw [c]; first | rfl | (congr 1; simp; omega), rfl⟩
    · clear ni n0 nk n4
      obtain ⟨h1, h2⟩ := kin_yes c1
      rcases num_ways c2 with h | ⟨h, h'⟩
      all_goals
        go_wp2
        go_meet
        exact ⟨by rw [c]; first | rfl | (congr 1; simp; omega), rfl⟩
    · clear ni n0 nk n4
      obtain ⟨h1, h2⟩ := kin_yes c1
      obtain ⟨h3, h4⟩ := num_yes c2
      rcases num_ways c3 with h | ⟨h, h'⟩
      all_goals
        go_wp2
        go_meet
        exact ⟨by rw [c]; first | rfl | (congr 1; simp; omega), rfl⟩
    · have d1 := ni c4
      have d2 := nk 4 c5
      clear ni n0 nk n4 c4 c5
      obtain ⟨h1, h2⟩ := kin_yes c1
      obtain ⟨h3, h4⟩ := num_yes c2
      obtain ⟨h5, h6⟩ := num_yes c3
      go_wp2
      go_meet
      exact ⟨by rw [c]; first | rfl | (congr 1; simp; omega), rfl⟩
    · obtain ⟨h1, h2⟩ := kin_yes c1
      obtain ⟨h3, h4⟩ := num_yes c2
      obtain ⟨h5, h6⟩ := num_yes c3
      have d3 := HS1.out c5
      have d4 := nk 3 c6
      rcases c4 with c4 | ⟨c4, c4'⟩
      · have d1 := n0 c4
        clear ni n0 nk n4 c4 c5 c6
        go_wp2
        go_meet
        exact ⟨by rw [c]; first | rfl | (congr 1; simp; omega), rfl⟩
      · have d1 := ni c4
        have d2 := n4 4 c4'
        clear ni n0 nk n4 c4 c5 c6 c4'
        go_wp2
        go_meet
        exact ⟨by rw [c]; first | rfl | (congr 1; simp; omega), rfl⟩
    · obtain ⟨h1, h2⟩ := kin_yes c1
      obtain ⟨h3, h4⟩ := num_yes c2
      obtain ⟨h5, h6⟩ := num_yes c3
      rcases c4 with c4 | ⟨c4, c4'⟩
      · have d1 := n0 c4
        rcases c5 with c5 | ⟨c5, c5'⟩
        · have d3 := HS0.out c5
          clear ni n0 nk n4 c4 c5
          go_wp2
          go_meet
          exact ⟨by rw [c]; first | rfl | (congr 1; simp; omega), rfl⟩
        · have d3 := HS1.out c5
          have d4 := n4 3 c5'
          clear ni n0 nk n4 c4 c5 c5'
          go_wp2
          go_meet
          exact ⟨by rw [c]; first | rfl | (congr 1; simp; omega), rfl⟩
      · have d1 := ni c4
        have d2 := n4 4 c4'
        rcases c5 with c5 | ⟨c5, c5'⟩
        · have d3 := HS0.out c5
          clear ni n0 nk n4 c4 c5 c4'
          go_wp2
          go_meet
          exact ⟨by rw [c]; first | rfl | (congr 1; simp; omega), rfl⟩
        · exact absurd (c4'.symm.trans c5') (by decide)
    · obtain ⟨h1, h2⟩ := kin_yes c1
      obtain ⟨h3, h4⟩ := num_yes c2
      obtain ⟨h5, h6⟩ := num_yes c3
      rcases c4 with c4 | ⟨c4, c4'⟩
      · have d1 := n0 c4
        rcases c5 with c5 | ⟨c5, c5'⟩
        · have d3 := HS0.out c5
          clear ni n0 nk n4 c4 c5
          go_wp2
          go_meet
          exact ⟨by rw [c]; first | rfl | (congr 1; simp; omega), rfl⟩
        · have d3 := HS1.out c5
          have d4 := n4 3 c5'
          clear ni n0 nk n4 c4 c5 c5'
          go_wp2
          go_meet
          exact ⟨by rw [c]; first | rfl | (congr 1; simp; omega), rfl⟩
      · have d1 := ni c4
        have d2 := n4 4 c4'
        rcases c5 with c5 | ⟨c5, c5'⟩
        · have d3 := HS0.out c5
          clear ni n0 nk n4 c4 c5 c4'
          go_wp2
          go_meet
          exact ⟨by rw [c]; first | rfl | (congr 1; simp; omega), rfl⟩
        · exact absurd (c4'.symm.trans c5') (by decide)
  case rest =>
    obtain ⟨rfl, rfl⟩ := hcut
    rename World => w
    by_cases h103 : C = 103
    · have HF := hid (rkeyed_no (w := w) (C := 103) (l := keyL k n i s) (by decide))
      subst h103
      go_wp2
      go_ret2
      exact HF.out
    by_cases h24 : 24 < s.size
    · have hc : C = 115 := by
        rcases HW.out with ⟨_, c⟩ | ⟨_, _, c⟩ | ⟨_, _, _, c⟩ | ⟨_, _, _, _, _, c⟩ | ⟨_, _, _, _, _, _, c⟩ | ⟨_, _, _, _, _, _, c⟩ | ⟨c1, c2, c3, c4, c5, c6, _⟩
        all_goals first | exact c | omega
      have HF := hid (rkeyed_no (w := w) (C := 115) (l := keyL k n i s) (by decide))
      have g : decide (C = 103) = false := by simp [hc]
      subst hc
      go_wp2
      go_ret2
      exact HF.out
    · obtain ⟨c1, c2, c3, c4, c5, hc⟩ : kinB k = true ∧ numB n = true ∧ numB i = true ∧ (i = 0 ∨ i ≠ 0 ∧ k = 4) ∧ (s = ⟨#[]⟩ ∨ s ≠ ⟨#[]⟩ ∧ k = 3) ∧ C = 0 := by
        rcases HW.out with ⟨_, c⟩ | ⟨_, _, c⟩ | ⟨_, _, _, c⟩ | ⟨_, _, _, _, _, c⟩ | ⟨_, _, _, _, _, _, c⟩ | ⟨_, _, _, _, _, _, c⟩ | ⟨c1, c2, c3, c4, c5, c6, c⟩
        all_goals first | exact ⟨c1, c2, c3, c4, c5, c⟩ | omega
      subst hc
      obtain ⟨h1, h2⟩ := kin_yes c1
      obtain ⟨h3, h4⟩ := num_yes c2
      obtain ⟨h5, h6⟩ := num_yes c3
      have e1 : IntKind.u8.wrap k = k := by rw [IntKind.wrap_u8]; omega
      have e2 : IntKind.u8.wrap (n / 65536) = n / 65536 := by rw [IntKind.wrap_u8]; omega
      have e3 : IntKind.u8.wrap (n / 256) = n / 256 % 256 := by rw [IntKind.wrap_u8]
      have e4 : IntKind.u8.wrap n = n % 256 := by rw [IntKind.wrap_u8]
      have g : decide ((0 : Int) = 103) = false := by decide
      have HO := hid (own_four w k (n / 65536) (n / 256 % 256) (n % 256))
      have HB := hid ((Below.refl w.heap.size w).alloc (Nat.le_refl _) (.cells #[.int .u8 k, .int .u8 (n / 65536), .int .u8 (n / 256 % 256), .int .u8 (n % 256)] 5))
      by_cases hk : k = 4
      · have hf : s = ⟨#[]⟩ := by rcases c5 with h | ⟨_, h⟩; exact h; omega
        have HF := hid (show keyL k n i s = (k :: num3 n ++ num3 i) ++ str s from by unfold keyL; rw [if_pos hk, hf]; simp [str])
        have hk4 : (k == 4) = true := by simp [hk]
        have f2 : IntKind.u8.wrap (i / 65536) = i / 65536 := by rw [IntKind.wrap_u8]; omega
        have f3 : IntKind.u8.wrap (i / 256) = i / 256 % 256 := by rw [IntKind.wrap_u8]
        have f4 : IntKind.u8.wrap i = i % 256 := by rw [IntKind.wrap_u8]
        clear c4 c5 hk hf HW HC
        go_wp2_with (at_builtin; refine wpList_append_own _ rfl _ _ 24 rfl w.heap.size 5 i0 (.int .u8 0) 1 1 Tryd.underlying24 hi hz0 hz1 hz2 rfl (by decide) _ _ _ rfl (World.ownsRow.alloc HO.out _) ⟨w.heap.size + 1, 0, none⟩ 3 3 [.int .u8 (i / 65536), .int .u8 (i / 256 % 256), .int .u8 (i % 256)] rfl rfl ?d1 ?d2 ?d3 ?d4 ?d5 ?_)
        case d1 =>
          have hb := Blk.new (w.alloc (.cells #[.int .u8 k, .int .u8 (n / 65536), .int .u8 (n / 256 % 256), .int .u8 (n % 256)] 5)) 5 #[.int .u8 (i / 65536), .int .u8 (i / 256 % 256), .int .u8 (i % 256)]
          rw [World.size_alloc] at hb
          intro j u hu
          rcases j with _ | _ | _ | j
          · simp at hu; subst hu; exact hb.cell 0
          · simp at hu; subst hu; exact hb.cell 1
          · simp at hu; subst hu; exact hb.cell 2
          · simp at hu
        case d2 => intro u hu; simp at hu; rcases hu with rfl | rfl | rfl <;> rfl
        case d3 => unfold maxLen; simp
        case d4 => simp
        case d5 => simp; omega
        intro v' w2 hown' hgrow _
        have ho2 : Own w2 w.heap.size v' (k :: num3 n ++ num3 i) := by
          unfold Own
          rw [I_append]
          simpa [I, num3] using hown'
        have hb2 := ((HB.out.alloc (by simp) (.cells #[.int .u8 (i / 65536), .int .u8 (i / 256 % 256), .int .u8 (i % 256)] 5)).grown hgrow (by simp; omega) (fun q hq => (World.ownsRow.lt HO.out q hq).1))
        have HO2 := hid ho2
        have HB2 := hid hb2
        clear ho2 hb2 hown' hgrow
        go_wp2_with (at_builtin; refine Lib.wpList_append_own_string _ rfl _ _ 24 9 rfl w.heap.size 5 i0 Tryd.underlying24 Tryd.underlying9 hi hz0 hz1 hz2 _ _ _ rfl HO2.out s rfl ?c3 ?c4 ?c5 ?_)
        case c3 => unfold maxLen; simp [num3]; omega
        case c4 => simp [num3]; omega
        case c5 => exact HB2.out.size
        intro v' w3 hown' hgrow _
        have ho3 : Own w3 w.heap.size v' ((k :: num3 n ++ num3 i) ++ str s) := by
          unfold Own
          rw [I_append, ← str_cells]
          simpa [str_len, num3, Nat.add_assoc, Nat.add_comm, Nat.add_left_comm] using hown'
        have HR := hid (rkeyed_of ho3 (HB2.out.grown hgrow (HB2.out.size) (fun q hq => (World.ownsRow.lt (HO2.out) q hq).1)))
        clear ho3 hown' hgrow
        go_wp2
        go_ret2
        rw [HF.out]
        exact HR.out
      · have HF := hid (show keyL k n i s = (k :: num3 n) ++ str s from by unfold keyL; rw [if_neg hk])
        have hk4 : (k == 4) = false := by simp [hk]
        clear c4 c5 hk HW HC
        go_wp2_with (at_builtin; refine Lib.wpList_append_own_string _ rfl _ _ 24 9 rfl w.heap.size 5 i0 Tryd.underlying24 Tryd.underlying9 hi hz0 hz1 hz2 _ _ _ rfl HO.out s rfl ?c3 ?c4 ?c5 ?_)
        case c3 => unfold maxLen; simp; omega
        case c4 => simp; omega
        case c5 => exact HB.out.size
        intro v' w3 hown' hgrow _
        have ho3 : Own w3 w.heap.size v' ((k :: num3 n) ++ str s) := by
          unfold Own
          rw [I_append, ← str_cells]
          simpa [str_len, num3, Nat.add_assoc, Nat.add_comm, Nat.add_left_comm] using hown'
        have HR := hid (rkeyed_of ho3 (HB.out.grown hgrow (HB.out.size) (fun q hq => (World.ownsRow.lt (HO.out) q hq).1)))
        clear ho3 hown' hgrow
        go_wp2
        go_ret2
        rw [HF.out]
        exact HR.out
end Go.Proofs.YtkihoibcgafooaaDoor
