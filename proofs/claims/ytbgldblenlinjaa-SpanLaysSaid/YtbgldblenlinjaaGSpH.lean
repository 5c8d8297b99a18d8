/- What SpanLays carries: a row of 2,048 bytes of one's own; pieces beside it. -/
import Derived.Test.YtbgldblenlinjaaGSpE
import Derived.Test.YtbgldblenlinjaaGSpD
namespace Go.Proofs.Ytbgldblenlinjaa
open Go.RowKit

/-- the row, from block g on -/
def Row (w : World) (g : Nat) (L : List Int) : Prop := L.length = 2048 ∧ OwnV 5 w g (.slice (some ⟨g, 0, none⟩) 2048 2048) (I L)
theorem Row.lt {w : World} {g : Nat} {L : List Int} (h : Row w g L) : g < w.heap.size := (h.2.lt g rfl).2
theorem Row.cell {w : World} {g i : Nat} {L : List Int} {x : Int} (h : Row w g L) (hx : L[i]? = some x) : w.cell? ⟨g, i, none⟩ = some (.int .u8 x) := OwnV.cell h.2 (I_get hx)
theorem Row.free {w : World} {g : Nat} {L : List Int} (h : Row w g L) (i : Nat) : w.frozen? ⟨g, i, none⟩ = false := OwnV.free h.2 i
theorem Row.put {w : World} {g : Nat} {L : List Int} (h : Row w g L) (i : Nat) (x : Int) : Row (w.setCell ⟨g, i, none⟩ (.int .u8 x)) g (L.set i x) := by
  refine ⟨by rw [List.length_set]; exact h.1, ?_⟩
  have := OwnV.put h.2 (by rw [I_len, h.1]) i (.int .u8 x)
  unfold I
  rw [List.map_set]
  exact this
theorem Row.on {w w' : World} {g : Nat} {L : List Int} (h : Row w g L) (hb : Below w.heap.size w w') : Row w' g L := ⟨h.1, h.2.on hb⟩
theorem Row.sl {w : World} {g i : Nat} {L : List Int} (h : Row w g L) (hi : i ≤ 7) : Sl w w.heap.size (some ⟨g, 256 * i, none⟩) 256 (2048 - 256 * i) ((L.drop (256 * i)).take 256) := by
  refine ⟨by rw [List.length_take, List.length_drop, h.1]; omega, by omega, by unfold maxLen; omega, (fun h => by cases h), fun ad ha _ => ?_⟩
  cases ha
  refine ⟨h.lt, fun j x hx => ?_⟩
  have hj : j < 256 := by
    have := (List.getElem?_eq_some_iff.1 hx).1
    rw [List.length_take] at this
    omega
  rw [List.getElem?_take, if_pos hj, List.getElem?_drop] at hx
  rw [Addr.add_lit]
  exact h.cell hx
/-- filled so far -/
theorem row_next {xs ys : List Int} {k : Nat} {u : Int} (hx : xs[k]? = some u) (hl : xs.length = ys.length) : (xs.take k ++ ys.drop k).set k u = xs.take (k + 1) ++ ys.drop (k + 1) := by
  have hk : k < xs.length := (List.getElem?_eq_some_iff.1 hx).1
  rw [List.take_add_one, hx]
  have e : ys.drop k = ys[k]'(by omega) :: ys.drop (k + 1) := List.drop_eq_getElem_cons (by omega)
  rw [e, List.set_append_right _ _ (by rw [List.length_take]; omega), List.length_take, Nat.min_eq_left (by omega), Nat.sub_self, List.set_cons_zero, List.append_assoc]
  rfl
theorem row_at {xs ys : List Int} {k : Nat} (hk : k < ys.length) (hl : xs.length = ys.length) : (xs.take k ++ ys.drop k)[k]? = ys[k]? := by
  rw [List.getElem?_append_right (by rw [List.length_take]; omega), List.length_take, Nat.min_eq_left (by omega), Nat.sub_self]
  simp
theorem PSl.apart {w w' : World} {A : Option Addr} {a n g : Nat} (h : PSl w A a n) (hg : w.grownBy w' (some g)) (hn : ∀ ad, A = some ad → g < ad.block) : PSl w' A a n := by
  rcases h with h | ⟨g2, h1, h2, h3⟩
  · exact .inl h
  · have hne := hn _ h1
    simp at hne
    refine .inr ⟨g2, h1, Nat.lt_of_lt_of_le h2 hg.size, fun k hk => ?_⟩
    obtain ⟨e1, e2, e3⟩ := h3 k hk
    exact ⟨hg.cell e1 (by simp; omega), hg.cell e2 (by simp; omega), hg.cell e3 (by simp; omega)⟩
theorem PcO.far {w w' : World} {a n : Nat} {e : Ending} (h : PcO w a n e w') : ∃ A c, e = .returned (.slice A (pN a n) c) ∧ PSl w' A a n ∧ Below w.heap.size w w' ∧ ∀ ad, A = some ad → w.heap.size ≤ ad.block := by
  obtain ⟨A, c, he, h1, h2⟩ := h.get
  obtain ⟨v, he2, hown, hb⟩ := h
  rw [he] at he2
  injection he2 with he2
  subst he2
  refine ⟨A, c, he, h1, h2, fun ad ha => ?_⟩
  subst ha
  exact (World.ownsRow.lt hown ad.block rfl).1
end Go.Proofs.Ytbgldblenlinjaa
