/- DirPlays at package dir's own directory. -/
import Derived.Test.YtcjiimfgmmgifaaDoorGAll
import Derived.Test.YtcjiimfgmmgifaaDoorGDrI
import Derived.Test.YtcjiimfgmmgifaaDoorGDrPlaysW
namespace Go.Proofs.YtcjiimfgmmgifaaDoor
open Go.ChangeShapes Go.WideShapes Go.ChangeAt Go.RowKit Go.Shelf Go.Sort

theorem dirPlays_all (A : Option Addr) (len cap : Nat) (T : Nat → Std) (s : ByteArray) (m : Int) (w : World) (hT : Dod w w.heap.size A len T) (hs : s.size ≤ maxLen) (hm : (Lit.int .i64 m).wf = true) (hL : laidMetH Tryd.prog laid24 w) :
    Calls Tryd.prog 3 #[.slice A len cap, .string s, .int .i64 m] w (Yes w) := by
  obtain ⟨S, hS⟩ := sent_of_laid hL
  have hb := bounds_i64 hm
  have h := dirPlays_any dirOk S A len cap T s.data.toList m w hS hT hb.1 hb.2 (by simpa using hs)
  have e : encStr s.data.toList = .string s := by rfl
  rw [e] at h
  exact h
end Go.Proofs.YtcjiimfgmmgifaaDoor
