/- PathSplits, walked. -/
import Derived.Test.YtjoajjndopfbmaaDoorGPaJ
import Derived.Test.YtjoajjndopfbmaaDoorGPaL
namespace Go.Proofs.YtjoajjndopfbmaaDoor
open Go.RowKit Go.Shelf Go.Lib

def qs4 (l : List Int) : List Nam := l.map fun x => part4 (x % 4)
theorem qs4_next {l : List Int} {k : Nat} {x : Int} (h : l[k]? = some x) : qs4 (l.take (k + 1)) = qs4 (l.take k) ++ [part4 (x % 4)] := by
  unfold qs4
  rw [List.take_add_one, h]
  simp
theorem qs4_len (l : List Int) : (qs4 l).length = l.length := by simp [qs4]
theorem part4_ok (k : Int) : goodP (part4 k) = true ∧ (part4 k).length ≤ 3 := by
  unfold part4
  repeat (first | (split) | decide)
theorem qs4_good (l : List Int) : ∀ x ∈ qs4 l, goodP x = true ∧ x.length ≤ 3 := by
  intro x hx
  unfold qs4 at hx
  obtain ⟨y, _, rfl⟩ := List.mem_map.1 hx
  exact part4_ok _
theorem sb_split {m : List Nam} {x : Nam} (h1 : ∀ y ∈ m, goodP y = true) (h2 : ∀ y ∈ m, y.length ≤ 3) (h3 : goodP x = true) (h4 : x.length ≤ 3) : SB (txt m false ++ slashed [x]) (m ++ [x]) := by
  rw [txt_is]
  by_cases hm : m = []
  · subst hm
    have := SB.start.next (t := [47]) (.inr (.inl rfl)) h3 h4
    simpa [slashed] using this
  · rw [if_neg hm]
    have := (SB.ofSlashed m h1 h2).next (t := []) (.inl rfl) h3 h4
    simpa [slashed] using this
theorem hz5 {wr w5 : World} {o1 o2 : Obj} {B g : Nat} {p : Addr} {u : Value} (h : Below B ((wr.alloc o1).alloc o2).drew w5) (hz : g + 1 ≤ wr.heap.size) : g + 1 ≤ (w5.setCell p u).heap.size := by
  have h1 : ((wr.alloc o1).alloc o2).drew.heap.size ≤ w5.heap.size := h.size
  have h3 : ((wr.alloc o1).alloc o2).drew.heap.size = wr.heap.size + 2 := by show ((wr.alloc o1).alloc o2).heap.size = _; simp [World.size_alloc]
  rw [World.size_setCell]
  omega
end Go.Proofs.YtjoajjndopfbmaaDoor
