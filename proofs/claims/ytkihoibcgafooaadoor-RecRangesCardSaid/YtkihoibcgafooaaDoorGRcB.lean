/- Package rec's check, and a number's bytes behind others. -/
import Derived.Test.YtkihoibcgafooaaDoorGRcA
namespace Go.Proofs.YtkihoibcgafooaaDoor
open Go.RowKit

abbrev Sent4 : World → (Nat → Addr) → Prop := SentL [0, 1, 2, 14]
/-- what a check answers -/
def Chk (S : Nat → Addr) (w : World) (c : Int) (e : Ending) (w' : World) : Prop := ∃ v, e = .returned v ∧ EV S c v ∧ Below w.heap.size w w'
set_option maxRecDepth 100000 in
set_option maxHeartbeats 2000000 in
theorem check_any (S : Nat → Addr) (k n i : Int) (s : ByteArray) (w : World) (hS : Sent4 w S) :
    Calls Tryd.prog 16 #[pv k n i s] w (Chk S w (keyC k n i s)) := by
  unfold pv
  have hb : Below w.heap.size w (w.alloc (Obj.cells #[.int .i64 k, .int .i64 n, .int .i64 i, .string s] 23)) := (Below.refl _ _).alloc (Nat.le_refl _) _
  have hs1 := hS.on hb
  have g2 : (w.alloc (Obj.cells #[.int .i64 k, .int .i64 n, .int .i64 i, .string s] 23)).cell? ⟨1, 0, none⟩ = some (.iface 70 (.pointer (some (S 2)))) := hs1 2 (by decide)
  have g14 : (w.alloc (Obj.cells #[.int .i64 k, .int .i64 n, .int .i64 i, .string s] 23)).cell? ⟨3, 0, none⟩ = some (.iface 70 (.pointer (some (S 14)))) := hs1 14 (by decide)
  have HR := hid (show Chk S w 103 (.returned (.iface 70 (.pointer (some (S 2))))) (w.alloc (Obj.cells #[.int .i64 k, .int .i64 n, .int .i64 i, .string s] 23)) from ⟨_, rfl, EV.err 2 (by decide), hb⟩)
  have HL := hid (show Chk S w 115 (.returned (.iface 70 (.pointer (some (S 14))))) (w.alloc (Obj.cells #[.int .i64 k, .int .i64 n, .int .i64 i, .string s] 23)) from ⟨_, rfl, EV.err 14 (by decide), hb⟩)
  have HN := hid (show Chk S w 0 (.returned .nilIface) (w.alloc (Obj.cells #[.int .i64 k, .int .i64 n, .int .i64 i, .string s] 23)) from ⟨_, rfl, EV.fine, hb⟩)
  clear hb hs1 hS
  have hs1 : s ≠ ⟨#[]⟩ → (s.toList == ([] : List UInt8)) = false := fun c5 => by
    rw [beq_eq_false_iff_ne, ByteArray.toList_eq]
    intro e
    exact c5 (emp_iff.1 (show s.data.size = 0 by rw [← Array.length_toList, e]; rfl))
  have hs0 : s = ⟨#[]⟩ → (s.toList == ([] : List UInt8)) = true := fun c5 => by subst c5; rw [ByteArray.toList_eq]; rfl
  have ni : i ≠ 0 → (i != 0) = true := fun h => by simp [h]
  have n0 : i = 0 → (i != 0) = false := fun h => by simp [h]
  have nk : ∀ a : Int, k ≠ a → (k != a) = true := fun a h => by simp [h]
  have n4 : ∀ a : Int, k = a → (k != a) = false := fun a h => by simp [h]
  rcases key_ways k n i s with ⟨c1, c⟩ | ⟨c1, c2, c⟩ | ⟨c1, c2, c3, c⟩ | ⟨c1, c2, c3, c4, c5, c⟩ | ⟨c1, c2, c3, c4, c5, c6, c⟩ | ⟨c1, c2, c3, c4, c5, c6, c⟩ | ⟨c1, c2, c3, c4, c5, c6, c⟩
  · rw [c]; clear c hs1 hs0 ni n0 nk n4
    go_enter Tryd.func16, Tryd.ntmps16
    go_wp2_with fail
    refine (isKind_any k _).mono ?_
    rintro e w' ⟨rfl, rfl⟩
    rw [c1]
    go_wp2
    go_ret
    exact HR.out
  · rw [c]; clear c hs1 hs0 ni n0 nk n4
    go_enter Tryd.func16, Tryd.ntmps16
    go_wp2_with fail
    refine (isKind_any k _).mono ?_
    rintro e w' ⟨rfl, rfl⟩
    rw [c1]
    go_wp2_with fail
    refine (isNum_any n _).mono ?_
    rintro e w' ⟨rfl, rfl⟩
    rw [c2]
    go_wp2
    go_ret
    exact HR.out
  · rw [c]; clear c hs1 hs0 ni n0 nk n4
    go_enter Tryd.func16, Tryd.ntmps16
    go_wp2_with fail
    refine (isKind_any k _).mono ?_
    rintro e w' ⟨rfl, rfl⟩
    rw [c1]
    go_wp2_with fail
    refine (isNum_any n _).mono ?_
    rintro e w' ⟨rfl, rfl⟩
    rw [c2]
    go_wp2_with fail
    refine (isNum_any i _).mono ?_
    rintro e w' ⟨rfl, rfl⟩
    rw [c3]
    go_wp2
    go_ret
    exact HR.out
  · rw [c]; clear c
    have d1 := ni c4
    have d2 := nk 4 c5
    clear hs1 hs0 ni n0 nk n4 c4 c5
    go_enter Tryd.func16, Tryd.ntmps16
    go_wp2_with fail
    refine (isKind_any _ _).mono ?_
    rintro e w' ⟨rfl, rfl⟩
    rw [c1]
    go_wp2_with fail
    refine (isNum_any n _).mono ?_
    rintro e w' ⟨rfl, rfl⟩
    rw [c2]
    go_wp2_with fail
    refine (isNum_any _ _).mono ?_
    rintro e w' ⟨rfl, rfl⟩
    rw [c3]
    go_wp2
    go_ret
    exact HR.out
  · rw [c]; clear c
    have d3 := hs1 c5
    have d4 := nk 3 c6
    rcases c4 with c4 | ⟨c4, c4'⟩
    · have d1 := n0 c4
      clear hs1 hs0 ni n0 nk n4 c4 c5 c6
      go_enter Tryd.func16, Tryd.ntmps16
      go_wp2_with fail
      refine (isKind_any _ _).mono ?_
      rintro e w' ⟨rfl, rfl⟩
      rw [c1]
      go_wp2_with fail
      refine (isNum_any n _).mono ?_
      rintro e w' ⟨rfl, rfl⟩
      rw [c2]
      go_wp2_with fail
      refine (isNum_any _ _).mono ?_
      rintro e w' ⟨rfl, rfl⟩
      rw [c3]
      go_wp2
      go_ret
      exact HR.out
    · have d1 := ni c4
      have d2 := n4 4 c4'
      clear hs1 hs0 ni n0 nk n4 c4 c5 c6 c4'
      go_enter Tryd.func16, Tryd.ntmps16
      go_wp2_with fail
      refine (isKind_any _ _).mono ?_
      rintro e w' ⟨rfl, rfl⟩
      rw [c1]
      go_wp2_with fail
      refine (isNum_any n _).mono ?_
      rintro e w' ⟨rfl, rfl⟩
      rw [c2]
      go_wp2_with fail
      refine (isNum_any _ _).mono ?_
      rintro e w' ⟨rfl, rfl⟩
      rw [c3]
      go_wp2
      go_ret
      exact HR.out
  · rw [c]; clear c
    rcases c4 with c4 | ⟨c4, c4'⟩
    · have d1 := n0 c4
      rcases c5 with c5 | ⟨c5, c5'⟩
      · have d3 := hs0 c5
        clear hs1 hs0 ni n0 nk n4 c4 c5
        go_enter Tryd.func16, Tryd.ntmps16
        go_wp2_with fail
        refine (isKind_any _ _).mono ?_
        rintro e w' ⟨rfl, rfl⟩
        rw [c1]
        go_wp2_with fail
        refine (isNum_any n _).mono ?_
        rintro e w' ⟨rfl, rfl⟩
        rw [c2]
        go_wp2_with fail
        refine (isNum_any _ _).mono ?_
        rintro e w' ⟨rfl, rfl⟩
        rw [c3]
        go_wp2
        go_ret
        exact HL.out
      · have d3 := hs1 c5
        have d4 := n4 3 c5'
        clear hs1 hs0 ni n0 nk n4 c4 c5 c5'
        go_enter Tryd.func16, Tryd.ntmps16
        go_wp2_with fail
        refine (isKind_any _ _).mono ?_
        rintro e w' ⟨rfl, rfl⟩
        rw [c1]
        go_wp2_with fail
        refine (isNum_any n _).mono ?_
        rintro e w' ⟨rfl, rfl⟩
        rw [c2]
        go_wp2_with fail
        refine (isNum_any _ _).mono ?_
        rintro e w' ⟨rfl, rfl⟩
        rw [c3]
        go_wp2
        go_ret
        exact HL.out
    · have d1 := ni c4
      have d2 := n4 4 c4'
      rcases c5 with c5 | ⟨c5, c5'⟩
      · have d3 := hs0 c5
        clear hs1 hs0 ni n0 nk n4 c4 c5 c4'
        go_enter Tryd.func16, Tryd.ntmps16
        go_wp2_with fail
        refine (isKind_any _ _).mono ?_
        rintro e w' ⟨rfl, rfl⟩
        rw [c1]
        go_wp2_with fail
        refine (isNum_any n _).mono ?_
        rintro e w' ⟨rfl, rfl⟩
        rw [c2]
        go_wp2_with fail
        refine (isNum_any _ _).mono ?_
        rintro e w' ⟨rfl, rfl⟩
        rw [c3]
        go_wp2
        go_ret
        exact HL.out
      · exact absurd (c4'.symm.trans c5') (by decide)
  · rw [c]; clear c
    rcases c4 with c4 | ⟨c4, c4'⟩
    · have d1 := n0 c4
      rcases c5 with c5 | ⟨c5, c5'⟩
      · have d3 := hs0 c5
        clear hs1 hs0 ni n0 nk n4 c4 c5
        go_enter Tryd.func16, Tryd.ntmps16
        go_wp2_with fail
        refine (isKind_any _ _).mono ?_
        rintro e w' ⟨rfl, rfl⟩
        rw [c1]
        go_wp2_with fail
        refine (isNum_any n _).mono ?_
        rintro e w' ⟨rfl, rfl⟩
        rw [c2]
        go_wp2_with fail
        refine (isNum_any _ _).mono ?_
        rintro e w' ⟨rfl, rfl⟩
        rw [c3]
        go_wp2
        go_ret
        exact HN.out
      · have d3 := hs1 c5
        have d4 := n4 3 c5'
        clear hs1 hs0 ni n0 nk n4 c4 c5 c5'
        go_enter Tryd.func16, Tryd.ntmps16
        go_wp2_with fail
        refine (isKind_any _ _).mono ?_
        rintro e w' ⟨rfl, rfl⟩
        rw [c1]
        go_wp2_with fail
        refine (isNum_any n _).mono ?_
        rintro e w' ⟨rfl, rfl⟩
        rw [c2]
        go_wp2_with fail
        refine (isNum_any _ _).mono ?_
        rintro e w' ⟨rfl, rfl⟩
        rw [c3]
        go_wp2
        go_ret
        exact HN.out
    · have d1 := ni c4
      have d2 := n4 4 c4'
      rcases c5 with c5 | ⟨c5, c5'⟩
      · have d3 := hs0 c5
        clear hs1 hs0 ni n0 nk n4 c4 c5 c4'
        go_enter Tryd.func16, Tryd.ntmps16
        go_wp2_with fail
        refine (isKind_any _ _).mono ?_
        rintro e w' ⟨rfl, rfl⟩
        rw [c1]
        go_wp2_with fail
        refine (isNum_any n _).mono ?_
        rintro e w' ⟨rfl, rfl⟩
        rw [c2]
        go_wp2_with fail
        refine (isNum_any _ _).mono ?_
        rintro e w' ⟨rfl, rfl⟩
        rw [c3]
        go_wp2
        go_ret
        exact HN.out
      · exact absurd (c4'.symm.trans c5') (by decide)
end Go.Proofs.YtkihoibcgafooaaDoor
