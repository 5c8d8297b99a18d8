/- What may be a name: package name's Valid and Special, the document's, and the chapter's example. -/
import Derived.Test.YtjoajjndopfbmaaDoorGNmC
namespace Go.Proofs.YtjoajjndopfbmaaDoor
open Go.RowKit Go.Shelf Go.Lib

/-- why a text is no name: the error's number -/
def vldC (s : ByteArray) : Int := if s.size = 0 then 109 else if 24 < s.size then 115 else if hasNev s.data.toList then 114 else 0
theorem emp_of (s : ByteArray) : s.toList.isEmpty = decide (s.size = 0) := by
  rw [Lib.toList_data, Lib.size_eq]
  rcases s.data.toList with _ | ⟨a, l⟩ <;> simp
theorem vld_ways (s : ByteArray) : (s.toList.isEmpty = true ∧ vldC s = 109) ∨ (s.toList.isEmpty = false ∧ 24 < s.size ∧ vldC s = 115) ∨ (s.toList.isEmpty = false ∧ s.size ≤ 24 ∧ hasNev s.data.toList = true ∧ vldC s = 114) ∨ (s.toList.isEmpty = false ∧ s.size ≤ 24 ∧ hasNev s.data.toList = false ∧ vldC s = 0) := by
  unfold vldC
  rw [emp_of]
  by_cases h : s.size = 0
  · exact .inl ⟨decide_eq_true h, by rw [if_pos h]⟩
  · refine .inr ?_
    rw [if_neg h]
    have hb : decide (s.size = 0) = false := decide_eq_false h
    by_cases h2 : 24 < s.size
    · exact .inl ⟨hb, h2, by rw [if_pos h2]⟩
    · refine .inr ?_
      rw [if_neg h2]
      rcases h3 : hasNev s.data.toList with _ | _
      · exact .inr ⟨hb, by omega, rfl, rfl⟩
      · exact .inl ⟨hb, by omega, rfl, rfl⟩
set_option maxHeartbeats 1000000 in
theorem valid3_any (S : Nat → Addr) (s : ByteArray) (w : World) (hS : SentL [8, 13, 14] w S) : Calls Tryd.prog 20 #[.string s] w fun e w' => (∃ v, e = .returned v ∧ EV S (vldC s) v) ∧ Below w.heap.size w w' := by
  have g0 : w.cell? ⟨1, 0, none⟩ = some (.iface 106 (.pointer (some (S 8)))) := hS 8 (by decide)
  have g1 : w.cell? ⟨2, 0, none⟩ = some (.iface 106 (.pointer (some (S 14)))) := hS 14 (by decide)
  have g2 := hid (hS 13 (by decide))
  clear hS
  rcases vld_ways s with ⟨h1, h⟩ | ⟨h1, h2, h⟩ | ⟨h1, h2, h3, h⟩ | ⟨h1, h2, h3, h⟩
  · have HV := hid h
    clear h
    go_enter Tryd.func20, Tryd.ntmps20
    go_wp2
    go_ret
    exact ⟨⟨_, rfl, by rw [HV.out]; exact EV.err 8 (by decide)⟩, Below.refl _ _⟩
  · have HV := hid h
    have g : decide ((24 : Int) < (s.size : Int)) = true := decide_eq_true (by omega)
    clear h
    go_enter Tryd.func20, Tryd.ntmps20
    go_wp2
    go_ret
    exact ⟨⟨_, rfl, by rw [HV.out]; exact EV.err 14 (by decide)⟩, Below.refl _ _⟩
  · have HV := hid h
    have g : decide ((24 : Int) < (s.size : Int)) = false := decide_eq_false (by omega)
    have H2 := hid h2
    have H3 := hid h3
    clear h h2 h3
    go_enter Tryd.func20, Tryd.ntmps20
    go_wp2_with fail
    refine (containsAny_any s w (by have := H2.out; omega)).mono ?_
    rw [H3.out]
    rintro e w' ⟨rfl, hb⟩
    have HB := hid hb
    have g3 : w'.cell? ⟨0, 0, none⟩ = some (.iface 106 (.pointer (some (S 13)))) := (hb.cell (World.block_lt_of_cell? w _ g2.out)).trans g2.out
    clear hb g0 g1
    go_wp2
    go_ret
    exact ⟨⟨_, rfl, by rw [HV.out]; exact EV.err 13 (by decide)⟩, HB.out⟩
  · have HV := hid h
    have g : decide ((24 : Int) < (s.size : Int)) = false := decide_eq_false (by omega)
    have H2 := hid h2
    have H3 := hid h3
    clear h h2 h3
    go_enter Tryd.func20, Tryd.ntmps20
    go_wp2_with fail
    refine (containsAny_any s w (by have := H2.out; omega)).mono ?_
    rw [H3.out]
    rintro e w' ⟨rfl, hb⟩
    have HB := hid hb
    clear hb g0 g1
    go_wp2
    go_ret
    exact ⟨⟨_, rfl, by rw [HV.out]; exact EV.fine⟩, HB.out⟩
theorem valid_any (S : Nat → Addr) (s : ByteArray) (w : World) (hS : Sent w S) : Calls Tryd.prog 20 #[.string s] w fun e w' => (∃ v, e = .returned v ∧ EV S (vldC s) v) ∧ Below w.heap.size w w' :=
  valid3_any S s w (hS.some (by decide))
/-- '.' and '..' -/
def spec (s : ByteArray) : Bool := s.toList == [46] || s.toList == [46, 46]
end Go.Proofs.YtjoajjndopfbmaaDoor
