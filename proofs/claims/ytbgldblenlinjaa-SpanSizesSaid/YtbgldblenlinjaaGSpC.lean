/- Package span: Blocks, share, Whole. -/
import Derived.Test.YtbgldblenlinjaaGSpA
namespace Go.Proofs.Ytbgldblenlinjaa
open Go.RowKit

set_option maxRecDepth 100000 in
theorem share_any (i s : Nat) (w : World) (hi : i ≤ 1000000) (hs : s ≤ 1000000) :
    Calls Try.prog 15 #[.int .i64 (i : Int), .int .i64 (s : Int)] w fun e w' => e = .returned (.int .i64 ((shr i s : Nat) : Int)) ∧ w' = w := by
  have e1 : ((s : Nat) : Int).tdiv 256 = ((s / 256 : Nat) : Int) := by rw [Int.tdiv_eq_ediv_of_nonneg (by omega)]; omega
  have e2 : ((s : Nat) : Int).tmod 256 = ((s % 256 : Nat) : Int) := by rw [Int.tmod_eq_emod_of_nonneg (by omega)]; omega
  obtain ⟨q, hq⟩ : ∃ q, s / 256 = q := ⟨_, rfl⟩
  obtain ⟨r, hr⟩ : ∃ r, s % 256 = r := ⟨_, rfl⟩
  have HQ := hid (show s = 256 * q + r ∧ r < 256 by omega)
  have hq1 : q ≤ 1000000 := by omega
  rw [hq] at e1
  rw [hr] at e2
  clear hq hr
  rcases Nat.lt_trichotomy i q with h | h | h
  · go_enter Try.func15, Try.ntmps15
    go_wp2
    go_ret
    exact ⟨congrArg (fun z : Int => Ending.returned (.int .i64 z)) (show (256 : Int) = ((shr i s : Nat) : Int) by have := HQ.out; unfold shr; omega), rfl⟩
  · go_enter Try.func15, Try.ntmps15
    go_wp2
    go_ret
    exact ⟨congrArg (fun z : Int => Ending.returned (.int .i64 z)) (show (r : Int) = ((shr i s : Nat) : Int) by have := HQ.out; unfold shr; omega), rfl⟩
  · go_enter Try.func15, Try.ntmps15
    go_wp2
    go_ret
    exact ⟨congrArg (fun z : Int => Ending.returned (.int .i64 z)) (show (0 : Int) = ((shr i s : Nat) : Int) by have := HQ.out; unfold shr; omega), rfl⟩
set_option maxRecDepth 100000 in
theorem blocks_any (s : Nat) (w : World) (hs : s ≤ 1000000) :
    Calls Try.prog 11 #[.int .i64 (s : Int)] w fun e w' => e = .returned (.int .i64 (((s + 255) / 256 : Nat) : Int)) ∧ w' = w := by
  rcases Nat.eq_zero_or_pos s with h | h
  · subst h
    go_enter Try.func11, Try.ntmps11
    go_wp2
    go_ret
    exact ⟨rfl, rfl⟩
  · have e1 : ((s : Nat) - 1 : Int).tdiv 256 = (((s - 1) / 256 : Nat) : Int) := by rw [Int.tdiv_eq_ediv_of_nonneg (by omega)]; omega
    obtain ⟨q, hq⟩ : ∃ q, (s - 1) / 256 = q := ⟨_, rfl⟩
    have HQ := hid (show (s + 255) / 256 = q + 1 ∧ q ≤ 1000000 by omega)
    have hq1 : q ≤ 1000000 := HQ.out.2
    rw [hq] at e1
    clear hq
    go_enter Try.func11, Try.ntmps11
    go_wp2
    go_ret
    exact ⟨congrArg (fun z : Int => Ending.returned (.int .i64 z)) (show (q : Int) + 1 = (((s + 255) / 256 : Nat) : Int) by have := HQ.out; omega), rfl⟩
theorem blocks_neg (w : World) : Calls Try.prog 11 #[.int .i64 (-5)] w fun e w' => e = .returned (.int .i64 0) ∧ w' = w := by
  go_enter Try.func11, Try.ntmps11
  go_wp2
  go_ret
  exact ⟨rfl, rfl⟩
end Go.Proofs.Ytbgldblenlinjaa
