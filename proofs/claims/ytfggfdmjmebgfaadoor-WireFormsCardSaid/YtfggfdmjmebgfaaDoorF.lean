/- NewReader makes a reader, at place 0, without an error, of a copy of the bytes. Conditions: the slice reads, a hundred thousand bytes at the most. -/
import Derived.Test.YtfggfdmjmebgfaaDoorE
namespace Go.Proofs.YtfggfdmjmebgfaaDoor
open Go.RowKit

/-- block g is a reader of the bytes l, at p, with the error ev -/
structure Rdr (w : World) (g : Nat) (A : Option Addr) (n c : Nat) (l : List Int) (p : Int) (ev : Value) : Prop where
  blk : Blk w g 51 #[.slice A n c, .int .i64 p, ev]
  sl : Sl w g A n c l

def Cloned (w : World) (n : Nat) (l : List Int) (e : Ending) (w' : World) : Prop := ∃ A' c', e = .returned (.slice A' n c') ∧ Sl w' w'.heap.size A' n c' l ∧ Below w.heap.size w w' ∧ ∀ ad, A' = some ad → w.heap.size ≤ ad.block

set_option maxRecDepth 100000 in
set_option maxHeartbeats 1000000 in
theorem clone_any (A : Option Addr) (n c : Nat) (l : List Int) (w : World) (h : Sl w w.heap.size A n c l) (hn : n ≤ 100000) :
    Calls Tryd.prog 28 #[.slice A n c] w (Cloned w n l) := by
  obtain ⟨i0, hi, hz0, hz1, hz2⟩ := info_parts Tryd.info5
  have HS := hid h
  clear h
  rcases A with _ | ad
  · obtain rfl : c = 0 := HS.out.nil rfl
    obtain rfl : n = 0 := by have := HS.out.cap; omega
    have HF := hid (show Cloned w 0 l (.returned (.slice none 0 0)) w from ⟨none, 0, rfl, HS.out, Below.refl _ _, fun _ h => by cases h⟩)
    have hq : ∀ W, (binOp .eql 22 (.slice none 0 0) (.slice none 0 0)).run Tryd.prog W = .ok (.bool true) W := fun W => Lib.run_eql_slice_nil (P := Tryd.prog) W 22 5 none 0 0 0 0 Tryd.underlying22
    go_enter Tryd.func28, Tryd.ntmps28
    go_wp2
    go_ret
    exact HF.out
  · have hq : ∀ W, (binOp .eql 22 (.slice (some ad) n c) (.slice none 0 0)).run Tryd.prog W = .ok (.bool false) W := fun W => Lib.run_eql_slice_nil (P := Tryd.prog) W 22 5 (some ad) n c 0 0 Tryd.underlying22
    have HM := hid (show (w.alloc (.cells #[] 5)).ownsRow w.heap.size 5 1 (.slice (some ⟨w.heap.size, 0, none⟩) 0 0) 0 [] from World.ownsRow_made w #[] 0 (Nat.le_refl _) (by decide) rfl)
    go_enter Tryd.func28, Tryd.ntmps28
    go_wp2_with (at_builtin; refine wpList_append_own _ rfl _ _ 22 rfl w.heap.size 5 i0 (.int .u8 0) 1 1 Tryd.underlying22 hi hz0 hz1 hz2 rfl (by decide) _ _ _ rfl HM.out ad n c (I l) rfl ?c0 ?c1 ?c2 ?c3 ?c4 ?c5 ?_)
    case c0 => rw [I_len, HS.out.len]; omega
    case c1 =>
      intro j u hu
      obtain ⟨x, hx, rfl⟩ := I_get' hu
      have hj : j < l.length := (List.getElem?_eq_some_iff.1 hx).1
      exact ((HS.out.alloc (Nat.le_refl _) _).at_ ad rfl (by have := HS.out.len; omega)).2 j x hx
    case c2 => exact I_one
    case c3 => unfold maxLen; omega
    case c4 => omega
    case c5 => simp
    intro v' w2 hown' hgrow _
    have ho : Own w2 w.heap.size v' l := by
      unfold Own
      rw [HS.out.len]
      simpa using hown'
    have hb : Below w.heap.size w w2 := ((Below.refl _ _).alloc (Nat.le_refl _) _).grown hgrow (by simp) (fun k hk => (World.ownsRow.lt HM.out k hk).1)
    obtain ⟨A', c', rfl, hs, hnew⟩ := ho.form
    have HF := hid (show Cloned w n l (.returned (.slice A' l.length c')) w2 from ⟨A', c', by rw [HS.out.len], by rw [HS.out.len] at hs; exact hs, hb, hnew⟩)
    clear hown' hgrow ho hb hs hnew
    go_wp2
    go_ret
    exact HF.out

def Opened (w : World) (n : Nat) (l : List Int) (e : Ending) (w' : World) : Prop := ∃ g A' c', e = .returned (.pointer (some ⟨g, 0, none⟩)) ∧ w.heap.size ≤ g ∧ Rdr w' g A' n c' l 0 .nilIface ∧ Below w.heap.size w w' ∧ ∀ ad, A' = some ad → w.heap.size ≤ ad.block

set_option maxRecDepth 100000 in
set_option maxHeartbeats 1000000 in
theorem newReader_any (A : Option Addr) (n c : Nat) (l : List Int) (w : World) (h : Sl w w.heap.size A n c l) (hn : n ≤ 100000) :
    Calls Tryd.prog 13 #[.slice A n c] w (Opened w n l) := by
  have HS := hid h
  clear h
  go_enter Tryd.func13, Tryd.ntmps13
  go_wp2_with fail
  refine (clone_any A n c l _ HS.out hn).mono ?_
  rintro e w1 ⟨A1, c1, rfl, hs, hb, hnew⟩
  have HF := hid (show Opened w n l (.returned (.pointer (some ⟨w1.heap.size, 0, none⟩))) (w1.alloc (.cells #[.slice A1 n c1, .int .i64 0, .nilIface] 51)) from ⟨_, A1, c1, rfl, hb.size, ⟨Blk.new _ _ _, hs.alloc (Nat.le_refl _) _⟩, hb.alloc hb.size _, hnew⟩)
  clear hs hb hnew
  go_wp2
  go_ret
  exact HF.out
end Go.Proofs.YtfggfdmjmebgfaaDoor
