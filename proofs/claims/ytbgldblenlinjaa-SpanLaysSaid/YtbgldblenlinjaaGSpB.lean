/- Package span: Pieces, Blocks. -/
import Derived.Test.YtbgldblenlinjaaGSpA
namespace Go.Proofs.Ytbgldblenlinjaa
open Go.RowKit

theorem Try.infoPc : (Try.prog.info? 27).map (fun i => (i.zero, i.size, i.bytes)) = some (some (.agg #[.int .i64 0, .int .i64 0, .int .i64 0]), 3, 24) := by kernel_rfl
/-- pieces of one's own -/
def PcO (w : World) (a n : Nat) (e : Ending) (w' : World) : Prop := ∃ v, e = .returned v ∧ w'.ownsRow w.heap.size 27 3 v (pN a n) (pcs a n (pN a n)) ∧ Below w.heap.size w w'
set_option maxRecDepth 100000 in
set_option maxHeartbeats 1000000 in
theorem pieces_any (a n : Nat) (w : World) (ha : a ≤ 1000000) (hn : n ≤ 100000) :
    Calls Try.prog 8 #[.int .i64 (a : Int), .int .i64 (n : Int)] w (PcO w a n) := by
  obtain ⟨i0, hi, hz0, hz1, hz2⟩ := info_parts Try.infoPc
  go_enter Try.func8, Try.ntmps8
  go_wp2
  go_loopw [1, 5, 6, 7] (fun nv v iv fv wr => ∃ k : Nat, k ≤ pN a n ∧ nv = .int .i64 ((n - pS a n k : Nat) : Int) ∧ iv = .int .i64 ((pI a k : Nat) : Int) ∧ fv = .int .i64 ((pF a k : Nat) : Int) ∧ wr.ownsRow w.heap.size 27 3 v k (pcs a n k) ∧ Below w.heap.size w wr) (fun nv _ _ _ _ => (intOf nv).toNat)
  case atStart =>
    refine ⟨0, Nat.zero_le _, ?_, ?_, ?_, World.ownsRow_nil _ _ _ _, Below.refl _ _⟩
    · congr 2; unfold pS; omega
    · exact congrArg (Value.int .i64) (by unfold pI; omega)
    · exact congrArg (Value.int .i64) (by unfold pF; omega)
  case round =>
    obtain ⟨k, hk, rfl, rfl, rfl, hown, hb⟩ := hrel
    have HO := hid hown
    have HB := hid hb
    clear hown hb
    by_cases hlt : pS a n k < n
    · have hkn : k < pN a n := by
        rcases Nat.lt_or_ge k (pN a n) with h | h
        · exact h
        · have := p_last a n
          rw [show k = pN a n by omega] at hlt
          omega
      obtain ⟨h1, h2, h3, h4, h5⟩ := p_more hkn
      have HP := hid (⟨h1, h2, h3, h4, h5⟩ : pS a n k < n ∧ pF a k < pT a n k ∧ pT a n k ≤ 256 ∧ pS a n (k + 1) = pS a n k + (pT a n k - pF a k) ∧ 256 * pI a k + pF a k = a + pS a n k)
      have hways : (256 < pF a k + (n - pS a n k) ∧ (pT a n k : Int) = 256) ∨ (pF a k + (n - pS a n k) ≤ 256 ∧ (pT a n k : Int) = (pF a k : Int) + ((n - pS a n k : Nat) : Int)) := by unfold pT; unfold pF pS at *; unfold pI at h5; omega
      have hi1 : pI a k ≤ 2000000 := by omega
      have hc := pcs_len a n k
      have HPn := hid (show pN a n ≤ 500000 by unfold pN; split <;> omega)
      have hF1 : pF a k ≤ 256 := by omega
      have hk5 : k ≤ 500000 := by have := HPn.out; omega
      clear h1 h2 h3 h4 h5
      rcases hways with ⟨hw1, hw2⟩ | ⟨hw1, hw2⟩
      all_goals have HT := hid hw2
      all_goals clear hw2
      · go_wp2_with (at_builtin; refine wpList_append_own _ rfl _ _ 24 rfl w.heap.size 27 i0 (.agg #[.int .i64 0, .int .i64 0, .int .i64 0]) 3 24 Try.underlying24 hi hz0 hz1 hz2 rfl (by decide) _ _ _ rfl (World.ownsRow.alloc HO.out _) ⟨wr.heap.size, 0, none⟩ 1 1 [.int .i64 (pI a k : Nat), .int .i64 (pF a k : Nat), .int .i64 256] rfl rfl ?c1 ?c2 ?c3 ?c4 ?c5 ?_)
        case c1 =>
          intro j u hu
          rcases j with _ | _ | _ | j
          · simp at hu; subst hu; exact (Blk.new wr _ _).cell 0
          · simp at hu; subst hu; exact (Blk.new wr _ _).cell 1
          · simp at hu; subst hu; exact (Blk.new wr _ _).cell 2
          · simp at hu
        case c2 => intro u hu; simp at hu; rcases hu with rfl | rfl | rfl <;> rfl
        case c3 => unfold maxLen; have : pN a n ≤ 500000 := HPn.out; omega
        case c4 => omega
        case c5 => have := HB.out.size; simp; omega
        intro v' w2 hown' hgrow _
        have R1 := hid (show World.ownsRow w2 w.heap.size 27 3 v' (k + 1) (pcs a n (k + 1)) by
          have e : pC a n k = [.int .i64 (pI a k : Nat), .int .i64 (pF a k : Nat), .int .i64 256] := by unfold pC; rw [HT.out]
          rw [pcs_next, e]; exact hown')
        have R2 := hid (show Below w.heap.size w w2 from (HB.out.alloc HB.out.size _).grown hgrow (by have := HB.out.size; simp; omega) (fun q hq => (World.ownsRow.lt HO.out q hq).1))
        clear hown' hgrow
        go_wp2
        go_roundw
        case rel => exact ⟨k + 1, by omega, congrArg (Value.int .i64) (by have := HP.out; have := HT.out; omega), congrArg (Value.int .i64) (by unfold pI; omega), congrArg (Value.int .i64) (by have := p_first (a := a) (k := k + 1) (by omega); omega), R1.out, R2.out⟩
        case measure => have := HP.out; have := HT.out; simp [intOf]; omega
      · go_wp2_with (at_builtin; refine wpList_append_own _ rfl _ _ 24 rfl w.heap.size 27 i0 (.agg #[.int .i64 0, .int .i64 0, .int .i64 0]) 3 24 Try.underlying24 hi hz0 hz1 hz2 rfl (by decide) _ _ _ rfl (World.ownsRow.alloc HO.out _) ⟨wr.heap.size, 0, none⟩ 1 1 [.int .i64 (pI a k : Nat), .int .i64 (pF a k : Nat), .int .i64 ((pF a k : Int) + ((n - pS a n k : Nat) : Int))] rfl rfl ?c1 ?c2 ?c3 ?c4 ?c5 ?_)
        case c1 =>
          intro j u hu
          rcases j with _ | _ | _ | j
          · simp at hu; subst hu; exact (Blk.new wr _ _).cell 0
          · simp at hu; subst hu; exact (Blk.new wr _ _).cell 1
          · simp at hu; subst hu; exact (Blk.new wr _ _).cell 2
          · simp at hu
        case c2 => intro u hu; simp at hu; rcases hu with rfl | rfl | rfl <;> rfl
        case c3 => unfold maxLen; have : pN a n ≤ 500000 := HPn.out; omega
        case c4 => omega
        case c5 => have := HB.out.size; simp; omega
        intro v' w2 hown' hgrow _
        have R1 := hid (show World.ownsRow w2 w.heap.size 27 3 v' (k + 1) (pcs a n (k + 1)) by
          have e : pC a n k = [.int .i64 (pI a k : Nat), .int .i64 (pF a k : Nat), .int .i64 ((pF a k : Int) + ((n - pS a n k : Nat) : Int))] := by unfold pC; rw [HT.out]
          rw [pcs_next, e]; exact hown')
        have R2 := hid (show Below w.heap.size w w2 from (HB.out.alloc HB.out.size _).grown hgrow (by have := HB.out.size; simp; omega) (fun q hq => (World.ownsRow.lt HO.out q hq).1))
        clear hown' hgrow
        go_wp2
        go_roundw
        case rel => exact ⟨k + 1, by omega, congrArg (Value.int .i64) (by have := HP.out; have := HT.out; omega), congrArg (Value.int .i64) (by unfold pI; omega), congrArg (Value.int .i64) (by have := p_first (a := a) (k := k + 1) (by omega); omega), R1.out, R2.out⟩
        case measure => have := HP.out; have := HT.out; simp [intOf]; omega
    · obtain rfl := p_end hk (by omega)
      go_wp2
      go_ret
      exact ⟨_, rfl, HO.out, HB.out⟩
end Go.Proofs.Ytbgldblenlinjaa
