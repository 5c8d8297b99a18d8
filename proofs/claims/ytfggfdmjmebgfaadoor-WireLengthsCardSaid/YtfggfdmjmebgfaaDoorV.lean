/- Plain facts on a row of numbers and a text cut off anywhere, and on where each of them ends; a slice of ints that a call made and owns. Conditions: as said in each. -/
import Derived.Test.YtfggfdmjmebgfaaDoorU
namespace Go.Proofs.YtfggfdmjmebgfaaDoor
open Go.RowKit

theorem scan_take {y : Int} (h0 : -9223372036854775808 ≤ y) (h1 : y ≤ 9223372036854775807) (R : List Int) (m : Nat) :
    (((enc y).length ≤ m → scan ((enc y ++ R).take m) 0 0 = (0, zz y, (enc y).length)) ∧ (m < (enc y).length → scan ((enc y ++ R).take m) 0 0 = (2, 0, 0))) := by
  refine ⟨fun h => ?_, fun h => ?_⟩
  · have e : (enc y ++ R).take m = enc y ++ R.take (m - (enc y).length) := by rw [List.take_append, List.take_of_length_le h]
    rw [e]
    exact scan_num h0 h1 _
  · rw [List.take_append_of_le_length (by omega)]
    exact scan_num_cut h0 h1 h
/-- where the j-th number begins -/
def pos (l : List Int) (j : Nat) : Nat := (encs (l.take j)).length
theorem pos_zero (l : List Int) : pos l 0 = 0 := rfl
theorem pos_next {l : List Int} {j : Nat} {y : Int} (h : l[j]? = some y) : pos l (j + 1) = pos l j + (enc y).length := encs_step h
theorem pos_all {l : List Int} {n : Nat} (h : l.length = n) : pos l n = (encs l).length := by
  unfold pos
  rw [List.take_of_length_le (by omega)]
/-- the whole -/
def row (l : List Int) (s : ByteArray) : List Int := encs l ++ (enc s.size ++ str s)
theorem row_len (l : List Int) (s : ByteArray) : (row l s).length = (encs l).length + ((enc s.size).length + s.size) := by simp [row, str_len]
theorem row_at {l : List Int} {s : ByteArray} {j : Nat} {y : Int} (h : l[j]? = some y) : ∃ R, (row l s).drop (pos l j) = enc y ++ R := by
  refine ⟨encs (l.drop (j + 1)) ++ (enc s.size ++ str s), ?_⟩
  have h1 : pos l j ≤ (encs l).length := encs_le l j
  unfold row
  rw [List.drop_append_of_le_length h1]
  unfold pos
  rw [encs_cut h, List.append_assoc]
theorem row_text {l : List Int} {s : ByteArray} {n : Nat} (h : l.length = n) : (row l s).drop (pos l n) = enc s.size ++ str s := by
  rw [pos_all h]
  exact List.drop_left
theorem row_num_yes {l : List Int} {s : ByteArray} {j k : Nat} {y : Int} (hw : Wide l) (h : l[j]? = some y) (hk : pos l (j + 1) ≤ k) : scan (((row l s).take k).drop (pos l j)) 0 0 = (0, zz y, (enc y).length) := by
  obtain ⟨R, hR⟩ := row_at (s := s) h
  rw [List.drop_take, hR]
  rw [pos_next h] at hk
  exact (scan_take (hw.at_ h).1 (hw.at_ h).2 R _).1 (by omega)
theorem row_num_no {l : List Int} {s : ByteArray} {j k : Nat} {y : Int} (hw : Wide l) (h : l[j]? = some y) (hj : pos l j ≤ k) (hk : k < pos l (j + 1)) : scan (((row l s).take k).drop (pos l j)) 0 0 = (2, 0, 0) := by
  obtain ⟨R, hR⟩ := row_at (s := s) h
  rw [List.drop_take, hR]
  rw [pos_next h] at hk
  exact (scan_take (hw.at_ h).1 (hw.at_ h).2 R _).2 (by omega)
theorem row_size_yes {l : List Int} {s : ByteArray} {n k : Nat} (h : l.length = n) (hs : s.size ≤ 100) (hk : pos l n + (enc s.size).length ≤ k) : scan (((row l s).take k).drop (pos l n)) 0 0 = (0, zz s.size, (enc s.size).length) := by
  rw [List.drop_take, row_text h]
  exact (scan_take (by omega) (by omega) _ _).1 (by omega)
theorem row_size_no {l : List Int} {s : ByteArray} {n k : Nat} (h : l.length = n) (hs : s.size ≤ 100) (hj : pos l n ≤ k) (hk : k < pos l n + (enc s.size).length) : scan (((row l s).take k).drop (pos l n)) 0 0 = (2, 0, 0) := by
  rw [List.drop_take, row_text h]
  exact (scan_take (by omega) (by omega) _ _).2 (by omega)
theorem row_str {l : List Int} {s : ByteArray} {n k : Nat} (h : l.length = n) (hk : (row l s).length ≤ k) : strOfNums ((((row l s).take k).drop (pos l n + (enc s.size).length)).take s.size) = s := by
  rw [List.take_of_length_le hk, ← List.drop_drop, row_text h, List.drop_left, List.take_of_length_le (by rw [str_len]; exact Nat.le_refl _), str_of]
theorem row_byt {l : List Int} {s : ByteArray} (hw : Wide l) (hs : s.size ≤ 100) : Byt (row l s) := (encs_byt hw).append ((enc_byt (by omega) (by omega)).append (str_byt s))

/-- where each of the first k ends -/
def endl (l : List Int) (k : Nat) : List Int := (List.range k).map fun i => ((pos l (i + 1) : Nat) : Int)
theorem endl_len (l : List Int) (k : Nat) : (endl l k).length = k := by simp [endl]
theorem endl_next (l : List Int) (k : Nat) : endl l (k + 1) = endl l k ++ [((pos l (k + 1) : Nat) : Int)] := by simp [endl, List.range_succ]
theorem endl_get {l : List Int} {k j : Nat} (h : j < k) : (endl l k)[j]? = some ((pos l (j + 1) : Nat) : Int) := by simp [endl, h]

/-- the slice value v is the call's own, from block B on, and holds the ints l -/
def OwnN (w : World) (B : Nat) (v : Value) (l : List Int) : Prop := w.ownsRow B 3 1 v l.length (l.map (Value.int .i64))
theorem OwnN.form {w : World} {B : Nat} {v : Value} {l : List Int} (h : OwnN w B v l) : ∃ A c, v = .slice A l.length c ∧ Sn w w.heap.size A l.length c l := by
  have h' := h
  rcases h'.2 with ⟨rfl, h0⟩ | ⟨g, cap, cur, rfl, hb, hg, h1, h2, h3, h4⟩
  · have : l = [] := List.eq_nil_of_length_eq_zero h0
    subst this
    exact ⟨none, 0, rfl, ⟨rfl, Nat.le_refl _, by unfold maxLen; omega, fun _ => rfl, fun _ h => by cases h⟩⟩
  · refine ⟨_, _, rfl, ⟨rfl, h1, h2, fun h => (by cases h), fun ad ha hn => ?_⟩⟩
    cases ha
    exact ⟨(World.ownsRow.lt h g rfl).2, fun j x hx => World.ownsRow.cells h (g := g) rfl j _ (by simp [hx])⟩
theorem OwnN.on {w w' : World} {B : Nat} {v : Value} {l : List Int} (h : OwnN w B v l) (hb : Below w.heap.size w w') : OwnN w' B v l :=
  World.ownsRow.kept h (only_below hb none) (by cases hv : v.ownBlock <;> simp)
theorem OwnN.lt {w : World} {B : Nat} {v : Value} {l : List Int} (h : OwnN w B v l) : ∀ k, v.ownBlock = some k → B ≤ k ∧ k < w.heap.size := World.ownsRow.lt h
theorem Sl.far {w w' : World} {B n c : Nat} {A : Option Addr} {l : List Int} {row : Option Nat} (h : Sl w B A n c l) (hg : w.grownBy w' row) (hr : ∀ g ad, row = some g → A = some ad → g < ad.block) : Sl w' B A n c l :=
  ⟨h.len, h.cap, h.max, h.nil, fun ad ha h0 => ⟨(h.at_ ad ha h0).1, fun j x hx => hg.cell ((h.at_ ad ha h0).2 j x hx) (fun e => by have := hr _ ad e.symm ha; rw [add_block] at this; omega)⟩⟩
theorem Made.fresh {w w' : World} {l : List Int} {e : Ending} (h : Made w l e w') : ∃ A m c, e = .returned (.slice A m c) ∧ Sl w' w'.heap.size A m c l ∧ Below w.heap.size w w' ∧ ∀ ad, A = some ad → w.heap.size ≤ ad.block := by
  obtain ⟨v, rfl, ho, hb⟩ := h
  obtain ⟨A, c, rfl, hs, hn⟩ := ho.form
  exact ⟨A, _, c, rfl, hs, hb, hn⟩
theorem Tryd.info3 : (Tryd.prog.info? 3).map (fun i => (i.zero, i.size, i.bytes)) = some (some (.int .i64 0), 1, 8) := by kernel_rfl
end Go.Proofs.YtfggfdmjmebgfaaDoor
