/- PathSays and PathWrong, over what their rows lay. -/
import Derived.Test.YtjoajjndopfbmaaDoorGAll
import Derived.Test.YtjoajjndopfbmaaDoorGRow
import Derived.Test.YtjoajjndopfbmaaDoorGTxs
import Derived.Test.YtjoajjndopfbmaaDoorGTab
import Derived.Test.YtjoajjndopfbmaaDoorGPaK
import Derived.Lib.SmallJoins
namespace Go.Proofs.YtjoajjndopfbmaaDoor
open Go.ChangeShapes Go.WideShapes Go.ChangeAt Go.RowKit

set_option maxRecDepth 100000 in
/-- a Path that came in -/
theorem open_path {H : Type} {enc : TypeId × Value → H} {W : World} {base b0 : Nat} {r : Reach} {held : Bool} {v : Value} {d : DataW H} {p : List MemPlace} (hv : Value.okWide Tryd.prog W r b0 24 v) (h : DataW.Trod enc Tryd.prog W base (fun _ => true) held 24 v d p) :
    ∃ (a : Option Addr) (len cap : Nat) (ss : List ByteArray) (b : Bool), v = .agg #[.slice a len cap, .bool b] ∧ Txs W a len cap ss := by
  obtain ⟨v0, v1, y0, y1, m, rfl, rfl, rfl, h0, h1⟩ := Go.Joins.open_agg2 Tryd.underlying24 (by kernel_rfl) (by kernel_rfl) hv h
  obtain ⟨b, e1, rfl⟩ := DataW.trod_bool Tryd.underlying4 h1
  cases e1
  rcases open_strings Tryd.underlying22 Tryd.underlying9 (by kernel_rfl) h0 with ⟨hcs, _⟩ | ⟨x, l, c, ss, hcs, _, hl, hm, hz, _, hcell, _⟩
  · cases hcs
    exact ⟨none, 0, 0, [], b, rfl, .inl ⟨rfl, rfl, rfl, rfl⟩⟩
  · cases hcs
    exact ⟨some x, l, c, ss, b, rfl, .inr ⟨_, rfl, hl, hm, by simpa using hz, hcell⟩⟩
theorem pathSays_all (s : ByteArray) (a : Option Addr) (len cap : Nat) (zs : List ByteArray) (b : Bool) (W : World) (hs : s.size ≤ maxLen) (h : Txs W a len cap zs) (hL : laidMetH Tryd.prog laid26 W) :
    Calls Tryd.prog 3 #[.string s, .agg #[.slice a len cap, .bool b]] W fun e W' => e = .returned (.bool true) ∧ Below W.heap.size W W' := by
  obtain ⟨S, hS⟩ := sent_of_laid26 hL
  have := pathSays_any S s.data.toList a len cap b _ W hS (st_of_txs h) (by rw [← Lib.size_eq]; exact hs)
  simpa [encStr] using this
theorem pathWrong_all (n what : Int) (W : World) (_ : (Lit.int .i64 n).wf = true) (_ : (Lit.int .i64 what).wf = true) (hL : laidMetH Tryd.prog laid26 W) :
    Calls Tryd.prog 5 #[.int .i64 n, .int .i64 what] W fun e W' => e = .returned (.bool true) ∧ Below W.heap.size W W' := by
  obtain ⟨S, hS⟩ := sent_of_laid26 hL
  exact pathWrong_any S n what W hS
end Go.Proofs.YtjoajjndopfbmaaDoor
