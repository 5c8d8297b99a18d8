/- What the four errors that package rec answers read as, when the call begins; the start that the initialisers lay meets it. Places as arguments: opened and shut. -/
import Derived.Test.YtkihoibcgafooaaDoorGOpen
import Derived.Test.YtkihoibcgafooaaDoorGSee
import Derived.Test.YtkihoibcgafooaaDoorGAll
import Derived.Test.YtkihoibcgafooaaDoorGRcA
import Derived.Lib.SmallJoins
namespace Go.Proofs.YtkihoibcgafooaaDoor
open Go.ChangeShapes Go.WideShapes Go.ChangeAt Go.RowKit

/-- the errors, in the order of the rows' lists: the variable, its number, its text -/
def all4 : List (String × Nat × List UInt8) := [("breviary/api.ErrEnd", 0, [105, 116, 32, 101, 110, 100, 115, 32, 116, 111, 111, 32, 101, 97, 114, 108, 121]), ("breviary/api.ErrShape", 2, [110, 111, 116, 32, 97, 115, 32, 105, 116, 32, 104, 97, 115, 32, 116, 111, 32, 98, 101]), ("breviary/api.ErrRange", 1, [97, 32, 110, 117, 109, 98, 101, 114, 32, 111, 117, 116, 32, 111, 102, 32, 105, 116, 115, 32, 114, 97, 110, 103, 101]), ("breviary/api.ErrLong", 3, [116, 111, 111, 32, 108, 111, 110, 103, 32, 97, 32, 110, 97, 109, 101])]
def laid4 : List (String × DataW Unit) := all4.map sentOf
theorem glob4 : ∀ x ∈ all4, Tryd.prog.globalNamed x.1 = some x.2.1 ∧ (Tryd.prog.globals[x.2.1]?).map (·.type) = some 27 := by
  intro x hx
  simp only [all4, List.mem_cons, List.not_mem_nil, or_false] at hx
  rcases hx with rfl | rfl | rfl | rfl
  all_goals exact ⟨by kernel_rfl, by kernel_rfl⟩
theorem door_met_laid4 (os : Os) (args : Array Value) : laidMetH Tryd.prog laid4 ((World.doorLaid Tryd.prog 465 os).forCall (fun _ _ => 0) ⟨#[], args, []⟩).memory :=
  laidMetH_of_parts3 (fuel := 8) (laidMet_of_run' 8 (by kernel_rfl) (by kernel_rfl)) (by kernel_rfl) (by kernel_rfl)
theorem sent4_of_laid {W : World} (h : laidMetH Tryd.prog laid4 W) : ∃ S, SentL [0, 1, 2, 14] W S := by
  rw [MakeChecks.laidMetH_plain _ _ _ (by kernel_rfl)] at h
  obtain ⟨ps, hv, hnd, hrows⟩ := h
  obtain ⟨az, hl, hn, hm, hc⟩ := sents all4 ps hv glob4 hrows hnd
  have hl5 : az.length = 4 := hl
  have hget : ∀ i, i < 4 → az[i]? = some (az.getD i ⟨0, 0, none⟩) := fun i hi => by simp [List.getD, show i < az.length by omega]
  refine ⟨fun i => az.getD (match i with | 0 => 0 | 1 => 1 | 2 => 2 | 14 => 3 | _ => 0) ⟨0, 0, none⟩, fun i hi => ?_⟩
  simp only [List.mem_cons, List.not_mem_nil, or_false] at hi
  rcases hi with rfl | rfl | rfl | rfl
  · exact hc 0 _ _ rfl (hget 0 (by decide))
  · exact hc 1 _ _ rfl (hget 1 (by decide))
  · exact hc 2 _ _ rfl (hget 2 (by decide))
  · exact hc 3 _ _ rfl (hget 3 (by decide))

section
variable {H : Type} {enc : TypeId × Value → H} {W : World} {base : Nat} {sp : Nat → Bool} {held : Bool}
/-- a Place that came in -/
theorem open_place {r : Reach} {b0 : Nat} {v : Value} {d : DataW H} {p : List MemPlace} (hv : Value.okWide Tryd.prog W r b0 23 v) (h : DataW.Trod enc Tryd.prog W base sp held 23 v d p) :
    ∃ (k n i : Int) (s : ByteArray), v = pv k n i s ∧ d = .agg [.lit (.int .i64 k), .lit (.int .i64 n), .lit (.int .i64 i), .lit (.string s.data.toList)] ∧ p = [] ∧ ((Lit.int .i64 k).wf = true ∧ (Lit.int .i64 n).wf = true ∧ (Lit.int .i64 i).wf = true ∧ s.size ≤ maxLen) := by
  obtain ⟨v0, v1, v2, v3, y0, y1, y2, y3, m, rfl, rfl, rfl, h0, h1, h2, h3⟩ := Joins.open_agg4 Tryd.underlying23 (by kernel_rfl) (by kernel_rfl) hv h
  obtain ⟨k, e0, rfl, w0⟩ := DataW.trod_int Tryd.underlying3 h0
  obtain ⟨n, e1, rfl, w1⟩ := DataW.trod_int Tryd.underlying3 h1
  obtain ⟨i, e2, rfl, w2⟩ := DataW.trod_int Tryd.underlying3 h2
  obtain ⟨s, e3, rfl, w3⟩ := DataW.trod_string Tryd.underlying9 h3
  cases e0
  cases e1
  cases e2
  cases e3
  exact ⟨k, n, i, s, rfl, rfl, rfl, w0, w1, w2, w3⟩
theorem shut_place {k n i : Int} {s : ByteArray} (h : (Lit.int .i64 k).wf = true ∧ (Lit.int .i64 n).wf = true ∧ (Lit.int .i64 i).wf = true ∧ s.size ≤ maxLen) :
    DataW.Trod enc Tryd.prog W base sp held 23 (pv k n i s) (.agg [.lit (.int .i64 k), .lit (.int .i64 n), .lit (.int .i64 i), .lit (.string s.data.toList)]) [] :=
  Joins.shut_agg4 (y0 := (.lit (.int .i64 k), [])) (y1 := (.lit (.int .i64 n), [])) (y2 := (.lit (.int .i64 i), [])) (y3 := (.lit (.string s.data.toList), [])) Tryd.underlying23 (by kernel_rfl) (by kernel_rfl)
    ⟨1, trod_int_mk 0 Tryd.underlying3 h.1⟩ ⟨1, trod_int_mk 0 Tryd.underlying3 h.2.1⟩ ⟨1, trod_int_mk 0 Tryd.underlying3 h.2.2.1⟩ (Joins.field_of_Trod (Go.ChangeMaps.shut_string Tryd.underlying9 h.2.2.2) rfl)
end
end Go.Proofs.YtkihoibcgafooaaDoor
