/- slices.Clone at bytes: new memory with the same bytes, nil for nil. Conditions: the slice reads, as many bytes as a hundred thousand at the most. -/
import Derived.Test.YtljgkkgeaojolaaGWords
namespace Go.Proofs.Ytljgkkgeaojolaa
open Go.RowKit

/-- the call's own, with as many bytes -/
def Anew (w : World) (n : Nat) (l : List Int) (e : Ending) (w' : World) : Prop := ∃ v, e = .returned v ∧ Own w' w.heap.size v l ∧ Below w.heap.size w w' ∧ l.length = n
set_option maxRecDepth 100000 in
set_option maxHeartbeats 1000000 in
theorem cloned_any (A : Option Addr) (n c : Nat) (l : List Int) (w : World) (h : Sl w w.heap.size A n c l) (hn : n ≤ 100000) :
    Calls Try.prog 22 #[.slice A n c] w (Anew w n l) := by
  obtain ⟨i0, hi, hz0, hz1, hz2⟩ := info_parts Try.info5
  have HS := hid h
  clear h
  rcases A with _ | ad
  · obtain rfl : c = 0 := HS.out.nil rfl
    obtain rfl : n = 0 := by have := HS.out.cap; omega
    obtain rfl : l = [] := List.eq_nil_of_length_eq_zero HS.out.len
    have HF := hid (show Anew w 0 [] (.returned (.slice none 0 0)) w from ⟨_, rfl, Own.nil _ _, Below.refl _ _, rfl⟩)
    have hq : ∀ W, (binOp .eql 22 (.slice none 0 0) (.slice none 0 0)).run Try.prog W = .ok (.bool true) W := fun W => Lib.run_eql_slice_nil (P := Try.prog) W 22 5 none 0 0 0 0 Try.underlying22
    go_enter Try.func22, Try.ntmps22
    go_wp2
    go_ret
    exact HF.out
  · have hq : ∀ W, (binOp .eql 22 (.slice (some ad) n c) (.slice none 0 0)).run Try.prog W = .ok (.bool false) W := fun W => Lib.run_eql_slice_nil (P := Try.prog) W 22 5 (some ad) n c 0 0 Try.underlying22
    have HM := hid (show (w.alloc (.cells #[] 5)).ownsRow w.heap.size 5 1 (.slice (some ⟨w.heap.size, 0, none⟩) 0 0) 0 [] from World.ownsRow_made w #[] 0 (Nat.le_refl _) (by decide) rfl)
    go_enter Try.func22, Try.ntmps22
    go_wp2_with (at_builtin; refine wpList_append_own _ rfl _ _ 22 rfl w.heap.size 5 i0 (.int .u8 0) 1 1 Try.underlying22 hi hz0 hz1 hz2 rfl (by decide) _ _ _ rfl HM.out ad n c (I l) rfl ?c0 ?c1 ?c2 ?c3 ?c4 ?c5 ?_)
    case c0 => rw [I_len, HS.out.len]; omega
    case c1 =>
      intro j u hu
      obtain ⟨x, hx, rfl⟩ := I_get' hu
      have hj : j < l.length := (List.getElem?_eq_some_iff.1 hx).1
      exact ((HS.out.alloc (Nat.le_refl _) _).at_ ad rfl (by have := HS.out.len; omega)).2 j x hx
    case c2 => exact I_one
    case c3 => unfold maxLen; omega
    case c4 => omega
    case c5 => simp
    intro v' w2 hown' hgrow _
    have HF := hid (show Anew w n l (.returned v') w2 from ⟨_, rfl, by
      unfold Own
      rw [HS.out.len]
      simpa using hown', ((Below.refl _ _).alloc (Nat.le_refl _) _).grown hgrow (by simp) (fun k hk => (World.ownsRow.lt HM.out k hk).1), HS.out.len⟩)
    clear hown' hgrow
    go_wp2
    go_ret
    exact HF.out
theorem Anew.get {w w' : World} {n : Nat} {l : List Int} {e : Ending} (h : Anew w n l e w') : ∃ A c, e = .returned (.slice A n c) ∧ Sl w' w'.heap.size A n c l ∧ Below w.heap.size w w' ∧ (∀ ad, A = some ad → w.heap.size ≤ ad.block) ∧ Own w' w.heap.size (.slice A n c) l := by
  obtain ⟨v, rfl, ho, hb, rfl⟩ := h
  obtain ⟨A, c, rfl, hs, hn⟩ := ho.form
  exact ⟨A, c, rfl, hs, hb, hn, ho⟩
theorem own_sl {w : World} {B n c : Nat} {A : Option Addr} {l : List Int} (h : Own w B (.slice A n c) l) : Sl w w.heap.size A n c l ∧ l.length = n := by
  obtain ⟨A', c', hv, hs, _⟩ := h.form
  cases hv
  exact ⟨hs, rfl⟩
end Go.Proofs.Ytljgkkgeaojolaa
