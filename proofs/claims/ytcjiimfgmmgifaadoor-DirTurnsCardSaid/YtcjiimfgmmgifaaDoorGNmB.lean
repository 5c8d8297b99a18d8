/- Whether a text has a slash or a 0: strings.ContainsAny at these two, whatever the text's bytes. -/
import Derived.Test.YtcjiimfgmmgifaaDoorGSee
import Derived.Test.YtcjiimfgmmgifaaDoorGNmA
import Derived.Test.YtcjiimfgmmgifaaDoorGPaS
import Derived.Lib.OthersKept
import Derived.Deep.LoopGhost
import Derived.WalkMore
namespace Go.Proofs.YtcjiimfgmmgifaaDoor
open Go.RowKit Go.Shelf Go.Lib

abbrev two : ByteArray := ⟨#[47, 0]⟩
theorem indexByte_any (s : ByteArray) (c : Int) (w : World) : Calls Tryd.prog 64 #[.string s, .int .u8 c] w fun e w' => e = .returned (.int .i64 (Lib.indexByte s.data.toList c.toNat.toUInt8)) ∧ w' = w :=
  Any.strings_IndexByte Tryd.lays137 s c w
theorem indexRune_low (c : Int) (w : World) (h0 : 0 ≤ c) (h1 : c < 128) : Calls Tryd.prog 54 #[.string two, .int .i32 c] w fun e w' => e = .returned (.int .i64 (Lib.indexByte [47, 0] c.toNat.toUInt8)) ∧ w' = w :=
  Any.strings_IndexRune_ascii { Tryd.lays153 with } two c w h0 h1
theorem validRune_any (c : Nat) (w : World) (hm : c ≤ 1114111) : Calls Tryd.prog 65 #[.int .i32 c] w fun e w' => (∃ b, e = .returned (.bool b) ∧ (b = true → c < 55296 ∨ 57344 ≤ c)) ∧ w' = w := by
  have hz : decide ((0 : Int) ≤ (c : Int)) = true := decide_eq_true (by omega)
  by_cases h1 : c < 55296
  · have g : decide ((c : Int) < 55296) = true := decide_eq_true (by omega)
    go_enter Tryd.func65, Tryd.ntmps65
    go_wp2
    go_ret
    exact ⟨⟨_, rfl, fun _ => .inl h1⟩, rfl⟩
  · have g : decide ((c : Int) < 55296) = false := decide_eq_false (by omega)
    by_cases h2 : 57343 < c
    · have g2 : decide ((57343 : Int) < (c : Int)) = true := decide_eq_true (by omega)
      have g3 : decide ((c : Int) ≤ 1114111) = true := decide_eq_true (by omega)
      go_enter Tryd.func65, Tryd.ntmps65
      go_wp2
      go_ret
      exact ⟨⟨_, rfl, fun _ => .inr h2⟩, rfl⟩
    · have g2 : decide ((57343 : Int) < (c : Int)) = false := decide_eq_false (by omega)
      go_enter Tryd.func65, Tryd.ntmps65
      go_wp2
      go_ret
      exact ⟨⟨_, rfl, fun h => by cases h⟩, rfl⟩

theorem run_rune (c : Nat) (W : World) : (convert 21 9 (.int .i32 c)).run Tryd.prog W = .ok (.string (Utf8.encode c)) W := by
  simp [go_sem]
theorem encode_ways (c : Nat) (h : 128 ≤ c) :
    (∃ a b : UInt8, 128 ≤ b.toNat ∧ Utf8.encode (c : Int) = ⟨#[a, b]⟩) ∨ (∃ a b d : UInt8, Utf8.encode (c : Int) = ⟨#[a, b, d]⟩) ∨ (∃ a b d e : UInt8, Utf8.encode (c : Int) = ⟨#[a, b, d, e]⟩) := by
  have key : ∀ d : Nat, 128 ≤ d → ((if d < 0x80 then (⟨#[UInt8.ofNat d]⟩ : ByteArray) else if d < 0x800 then ⟨#[UInt8.ofNat (0xC0 + d / 64), UInt8.ofNat (0x80 + d % 64)]⟩
      else if d < 0x10000 then ⟨#[UInt8.ofNat (0xE0 + d / 4096), UInt8.ofNat (0x80 + d / 64 % 64), UInt8.ofNat (0x80 + d % 64)]⟩
      else ⟨#[UInt8.ofNat (0xF0 + d / 262144), UInt8.ofNat (0x80 + d / 4096 % 64), UInt8.ofNat (0x80 + d / 64 % 64), UInt8.ofNat (0x80 + d % 64)]⟩) = (Utf8.encode (c : Int)) →
      (∃ a b : UInt8, 128 ≤ b.toNat ∧ Utf8.encode (c : Int) = ⟨#[a, b]⟩) ∨ (∃ a b d : UInt8, Utf8.encode (c : Int) = ⟨#[a, b, d]⟩) ∨ (∃ a b d e : UInt8, Utf8.encode (c : Int) = ⟨#[a, b, d, e]⟩)) := by
    intro d hd he
    rw [← he]
    rw [if_neg (by omega)]
    by_cases h2 : d < 0x800
    · rw [if_pos h2]
      refine .inl ⟨_, _, ?_, rfl⟩
      rw [UInt8.toNat_ofNat']
      omega
    · rw [if_neg h2]
      by_cases h3 : d < 0x10000
      · rw [if_pos h3]; exact .inr (.inl ⟨_, _, _, rfl⟩)
      · rw [if_neg h3]; exact .inr (.inr ⟨_, _, _, _, rfl⟩)
  by_cases hv : Utf8.valid (c : Int) = true
  · refine key c h ?_
    simp [Utf8.encode, hv]
  · refine key 65533 (by omega) ?_
    simp [Utf8.encode, hv, Utf8.runeError]

set_option maxHeartbeats 4000000 in
set_option maxRecDepth 100000 in
theorem indexRune_high (c : Nat) (w : World) (h : 128 ≤ c) (hm : c ≤ 1114111) : Calls Tryd.prog 54 #[.string two, .int .i32 c] w fun e w' => e = .returned (.int .i64 (-1)) ∧ Below w.heap.size w w' := by
  have g0 : decide ((0 : Int) ≤ (c : Int)) = true := decide_eq_true (by omega)
  have g1 : decide ((c : Int) < 128) = false := decide_eq_false (by omega)
  by_cases hE : c = 65533
  · subst hE
    go_enter Tryd.func54, Tryd.ntmps54
    go_wp2
    go_loopg [5, 6] 2 (fun g _ _ wx => ∃ i : Nat, i + g = 2 ∧ wx = w.iter two i)
    case atStart => exact ⟨0, rfl, rfl⟩
    case round =>
      obtain ⟨i, hig, rfl⟩ := hrel
      cases gk with
      | zero =>
        obtain rfl : i = 2 := by omega
        have hnx := run_next_end (P := Tryd.prog) w two 2
        go_wp2
        go_ret
        exact ⟨rfl, (Below.refl _ _).alloc (Nat.le_refl _) _⟩
      | succ g =>
        have hi : i < two.size := by show i < 2; omega
        have hc : (two[i]'hi).toNat < 128 := by
          have : i = 0 ∨ i = 1 := by omega
          rcases this with rfl | rfl
          · show ((47 : UInt8).toNat < 128); decide
          · show ((0 : UInt8).toNat < 128); decide
        have hnx := fun ty => run_next_ascii (P := Tryd.prog) w two i ty hi hc
        have hne : ((((two[i]'hi).toNat : Nat) : Int) == 65533) = false := beq_eq_false_iff_ne.2 (by omega)
        obtain ⟨x, hx⟩ : ∃ x, (two[i]'hi).toNat = x := ⟨_, rfl⟩
        rw [hx] at hnx hne
        clear hx hc
        go_wp2
        go_roundg g
        case measure => omega
        case rel => exact ⟨i + 1, by omega, rfl⟩
  · have g2 : ((c : Int) == 65533) = false := beq_eq_false_iff_ne.2 (by omega)
    go_enter Tryd.func54, Tryd.ntmps54
    go_wp2_with fail
    refine (validRune_any c _ hm).mono ?_
    rintro e w' ⟨⟨b, rfl, hv⟩, hw⟩
    rw [hw]
    clear hw
    rcases b with _ | _
    · go_wp2
      go_ret
      exact ⟨rfl, Below.refl _ _⟩
    · have hcv := fun W => run_rune c W
      clear hv
      rcases encode_ways c h with ⟨x, y, hy, hr⟩ | ⟨x, y, z, hr⟩ | ⟨x, y, z, t, hr⟩ <;> rw [hr] at hcv <;> clear hr
      · have hne : (((two[1]'(show 1 < 2 by omega)).toNat : Int) != (((⟨#[x, y]⟩ : ByteArray)[1]'(show 1 < 2 by omega)).toNat : Int)) = true := bne_iff_ne.2 (show ((0 : Nat) : Int) ≠ (y.toNat : Int) by omega)
        have hI : Hid (∀ (z : Int) W, Calls Tryd.prog 64 #[.string ByteArray.empty, .int .u8 z] W fun e w' => e = .returned (.int .i64 (-1)) ∧ w' = W) := fun z W => indexByte_any ⟨#[]⟩ z W
        go_wp2
        go_step3
        go_wp2
        go_loopg [9] 0 (fun g s9 wr => s9 = .int .i64 1 ∧ wr = w)
        case atStart => exact ⟨rfl, rfl⟩
        case round =>
          obtain ⟨rfl, rfl⟩ := hrel
          go_wp2
          go_step3
          go_wp2
          go_quiet (fail)
          have HB := hid (show Below wr.heap.size wr (wr.drewN nq) from ⟨rfl, rfl, rfl, Nat.le_refl _, fun _ _ => rfl⟩)
          generalize wr.drewN nq = W at HB ⊢
          go_wp2
          go_quiet ((go_at_call 64; exact Calls.quiet_of_same (hI.out _ _)))
          go_wp2
          rw [Exit.noGoto_ret]
          go_wp2
          rw [Exit.noGoto_ret]
          go_ret
          exact ⟨rfl, below_drewN HB.out _⟩
      · go_wp2
        go_step3
        go_wp2
        go_loopg [9] 0 (fun g s9 wr => s9 = .int .i64 2 ∧ wr = w)
        case atStart => exact ⟨rfl, rfl⟩
        case round =>
          obtain ⟨rfl, rfl⟩ := hrel
          go_wp2
          rw [Exit.noGoto_ret]
          go_ret
          exact ⟨rfl, Below.refl _ _⟩
      · go_wp2
        go_step3
        go_wp2
        go_loopg [9] 0 (fun g s9 wr => s9 = .int .i64 3 ∧ wr = w)
        case atStart => exact ⟨rfl, rfl⟩
        case round =>
          obtain ⟨rfl, rfl⟩ := hrel
          go_wp2
          rw [Exit.noGoto_ret]
          go_ret
          exact ⟨rfl, Below.refl _ _⟩
end Go.Proofs.YtcjiimfgmmgifaaDoor
