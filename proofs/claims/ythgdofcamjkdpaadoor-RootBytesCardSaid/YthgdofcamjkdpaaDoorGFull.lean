/- The document's Full, at as many bytes as a block has, or fewer. -/
import Derived.Test.YthgdofcamjkdpaaDoorProg
import Derived.Test.YthgdofcamjkdpaaDoorGBase
import Derived.Test.YthgdofcamjkdpaaDoorGDevIf
namespace Go.Proofs.YthgdofcamjkdpaaDoor
open Go.RowKit

/-- bytes as a block: 0s behind -/
def padB (l : List Int) : List Int := l ++ List.replicate (256 - l.length) 0
theorem padB_len {l : List Int} (h : l.length ≤ 256) : (padB l).length = 256 := by unfold padB; simp; omega
theorem padB_byt {l : List Int} (h : Byt l) : Byt (padB l) := h.append (fun x hx => by rw [List.eq_of_mem_replicate hx]; omega)
theorem padB_at {l : List Int} {k : Nat} {x : Int} (h : l[k]? = some x) : (padB l)[k]? = some x := by
  have hk := (List.getElem?_eq_some_iff.1 h).1
  unfold padB; rw [List.getElem?_append_left hk, h]
theorem padB_end (l : List Int) : (I (padB l)).take l.length ++ (I (List.replicate 256 0)).drop l.length = I (padB l) := by
  unfold padB
  rw [I_append, List.take_append_of_le_length (by rw [I_len]; exact Nat.le_refl _), List.take_of_length_le (by rw [I_len]; exact Nat.le_refl _)]
  congr 1
  unfold I
  rw [← List.map_drop, List.drop_replicate]
theorem pad_nil : padB [] = List.replicate 256 0 := rfl
end Go.Proofs.YthgdofcamjkdpaaDoor
