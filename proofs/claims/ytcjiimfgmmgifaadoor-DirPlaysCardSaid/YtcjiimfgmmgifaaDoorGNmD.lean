/- What may be a name: package name's Valid and Special, the document's, and the chapter's example. -/
import Derived.Test.YtcjiimfgmmgifaaDoorGNmC
namespace Go.Proofs.YtcjiimfgmmgifaaDoor
open Go.RowKit Go.Shelf Go.Lib

/-- why a text is no name: the error's number -/
def vldC (s : ByteArray) : Int := if s.size = 0 then 109 else if 24 < s.size then 115 else if hasNev s.data.toList then 114 else 0
theorem emp_of (s : ByteArray) : s.toList.isEmpty = decide (s.size = 0) := by
  rw [Lib.toList_data, Lib.size_eq]
  rcases s.data.toList with _ | ⟨a, l⟩ <;> simp
theorem vld_ways (s : ByteArray) : (s.toList.isEmpty = true ∧ vldC s = 109) ∨ (s.toList.isEmpty = false ∧ 24 < s.size ∧ vldC s = 115) ∨ (s.toList.isEmpty = false ∧ s.size ≤ 24 ∧ hasNev s.data.toList = true ∧ vldC s = 114) ∨ (s.toList.isEmpty = false ∧ s.size ≤ 24 ∧ hasNev s.data.toList = false ∧ vldC s = 0) := by
  unfold vldC
  rw [emp_of]
  by_cases h : s.size = 0
  · exact .inl ⟨decide_eq_true h, by rw [if_pos h]⟩
  · refine .inr ?_
    rw [if_neg h]
    have hb : decide (s.size = 0) = false := decide_eq_false h
    by_cases h2 : 24 < s.size
    · exact .inl ⟨hb, h2, by rw [if_pos h2]⟩
    · refine .inr ?_
      rw [if_neg h2]
      rcases h3 : hasNev s.data.toList with _ | _
      · exact .inr ⟨hb, by omega, rfl, rfl⟩
      · exact .inl ⟨hb, by omega, rfl, rfl⟩
set_option maxHeartbeats 1000000 in
theorem valid3_any (S : Nat → Addr) (s : ByteArray) (w : World) (hS : SentL [8, 13, 14] w S) : Calls Tryd.prog 29 #[.string s] w fun e w' => (∃ v, e = .returned v ∧ EV S (vldC s) v) ∧ Below w.heap.size w w' := by
  have g0 : w.cell? ⟨3, 0, none⟩ = some (.iface 112 (.pointer (some (S 8)))) := hS 8 (by decide)
  have g1 : w.cell? ⟨4, 0, none⟩ = some (.iface 112 (.pointer (some (S 14)))) := hS 14 (by decide)
  have g2 := hid (hS 13 (by decide))
  clear hS
  rcases vld_ways s with ⟨h1, h⟩ | ⟨h1, h2, h⟩ | ⟨h1, h2, h3, h⟩ | ⟨h1, h2, h3, h⟩
  · have HV := hid h
    clear h
    go_enter Tryd.func29, Tryd.ntmps29
    go_wp2
    go_ret
    exact ⟨⟨_, rfl, by rw [HV.out]; exact EV.err 8 (by decide)⟩, Below.refl _ _⟩
  · have HV := hid h
    have g : decide ((24 : Int) < (s.size : Int)) = true := decide_eq_true (by omega)
    clear h
    go_enter Tryd.func29, Tryd.ntmps29
    go_wp2
    go_ret
    exact ⟨⟨_, rfl, by rw [HV.out]; exact EV.err 14 (by decide)⟩, Below.refl _ _⟩
  · have HV := hid h
    have g : decide ((24 : Int) < (s.size : Int)) = false := decide_eq_false (by omega)
    have H2 := hid h2
    have H3 := hid h3
    clear h h2 h3
    go_enter Tryd.func29, Tryd.ntmps29
    go_wp2_with fail
    refine (containsAny_any s w (by have := H2.out; omega)).mono ?_
    rw [H3.out]
    rintro e w' ⟨rfl, hb⟩
    have HB := hid hb
    have g3 : w'.cell? ⟨0, 0, none⟩ = some (.iface 112 (.pointer (some (S 13)))) := (hb.cell (World.block_lt_of_cell? w _ g2.out)).trans g2.out
    clear hb g0 g1
    go_wp2
    go_ret
    exact ⟨⟨_, rfl, by rw [HV.out]; exact EV.err 13 (by decide)⟩, HB.out⟩
  · have HV := hid h
    have g : decide ((24 : Int) < (s.size : Int)) = false := decide_eq_false (by omega)
    have H2 := hid h2
    have H3 := hid h3
    clear h h2 h3
    go_enter Tryd.func29, Tryd.ntmps29
    go_wp2_with fail
    refine (containsAny_any s w (by have := H2.out; omega)).mono ?_
    rw [H3.out]
    rintro e w' ⟨rfl, hb⟩
    have HB := hid hb
    clear hb g0 g1
    go_wp2
    go_ret
    exact ⟨⟨_, rfl, by rw [HV.out]; exact EV.fine⟩, HB.out⟩
theorem valid_any (S : Nat → Addr) (s : ByteArray) (w : World) (hS : Sent w S) : Calls Tryd.prog 29 #[.string s] w fun e w' => (∃ v, e = .returned v ∧ EV S (vldC s) v) ∧ Below w.heap.size w w' :=
  valid3_any S s w (hS.some (by decide))
set_option maxHeartbeats 1000000 in
/-- the document's -/
theorem refName_any (s : ByteArray) (w : World) : Calls Tryd.prog 10 #[.string s] w fun e w' => e = .returned (.int .i64 (vldC s)) ∧ Below w.heap.size w w' := by
  rcases vld_ways s with ⟨h1, h⟩ | ⟨h1, h2, h⟩ | h'
  · rw [h]; clear h
    go_enter Tryd.func10, Tryd.ntmps10
    go_wp2
    go_ret
    exact ⟨rfl, Below.refl _ _⟩
  · rw [h]; clear h
    have g : decide ((24 : Int) < (s.size : Int)) = true := decide_eq_true (by omega)
    go_enter Tryd.func10, Tryd.ntmps10
    go_wp2
    go_ret
    exact ⟨rfl, Below.refl _ _⟩
  · have h1 : s.toList.isEmpty = false := by rcases h' with h | h <;> exact h.1
    have h2 : s.size ≤ 24 := by rcases h' with h | h <;> exact h.2.1
    have HV := hid (show (hasNev s.data.toList = true ∧ vldC s = 114) ∨ (hasNev s.data.toList = false ∧ vldC s = 0) by
      rcases h' with h | h
      · exact .inl h.2.2
      · exact .inr h.2.2)
    have HL := hid (show s.data.toList.length = s.size from (Lib.size_eq s).symm)
    have g : decide ((24 : Int) < (s.size : Int)) = false := decide_eq_false (by omega)
    clear h'
    go_enter Tryd.func10, Tryd.ntmps10
    go_wp2
    go_loopg [3] s.size (fun g s3 wr => ∃ i : Nat, i ≤ s.size ∧ s.size - i ≤ g ∧ s3 = .int .i64 i ∧ Hid (wr = w) ∧ Hid (NoNev s.data.toList i))
    case atStart => exact ⟨0, Nat.zero_le _, Nat.le_refl _, rfl, rfl, hid (NoNev.zero _)⟩
    case round =>
      obtain ⟨i, hi, hig, rfl, HW, HN⟩ := hrel
      by_cases hlt : i < s.size
      · obtain ⟨x, hx⟩ : ∃ x : UInt8, s[i]'hlt = x := ⟨_, rfl⟩
        have HX := hid (show s.data.toList[i]? = some x by rw [← hx]; exact Lib.data_getElem? s i hlt)
        have hlz : decide ((i : Int) < (s.size : Int)) = true := decide_eq_true (by omega)
        rcases e1 : (x == 47) with _ | _
        · have e1' : ((x.toNat : Int) == 47) = false := beq_eq_false_iff_ne.2 (fun h => by
            have : x = 47 := UInt8.toNat_inj.1 (show x.toNat = (47 : UInt8).toNat by show x.toNat = 47; omega)
            rw [this] at e1; exact absurd e1 (by decide))
          rcases e2 : (x == 0) with _ | _
          · have e2' : ((x.toNat : Int) == 0) = false := beq_eq_false_iff_ne.2 (fun h => by
              have : x = 0 := UInt8.toNat_inj.1 (show x.toNat = (0 : UInt8).toNat by show x.toNat = 0; omega)
              rw [this] at e2; exact absurd e2 (by decide))
            have HN2 := hid (HN.out.succ HX.out (show nev x = false by unfold nev; rw [e1, e2]; rfl))
            clear e1 e2
            go_wp2
            go_roundg (s.size - (i + 1))
            case measure => omega
            case rel => exact ⟨i + 1, by omega, Nat.le_refl _, rfl, HW, HN2⟩
          · have e2' : ((x.toNat : Int) == 0) = true := by rw [eq_of_beq e2]; rfl
            have HX2 := hid (hasNev_of HX.out (show nev x = true by unfold nev; rw [e2]; simp))
            clear e1 e2
            go_wp2
            go_ret
            refine ⟨?_, by rw [HW.out]; exact Below.refl _ _⟩
            rcases HV.out with h | h
            · rw [h.2]; rfl
            · rw [h.1] at HX2; exact absurd HX2.out (by decide)
        · have e1' : ((x.toNat : Int) == 47) = true := by rw [eq_of_beq e1]; rfl
          have HX2 := hid (hasNev_of HX.out (show nev x = true by unfold nev; rw [e1]; rfl))
          clear e1
          go_wp2
          go_ret
          refine ⟨?_, by rw [HW.out]; exact Below.refl _ _⟩
          rcases HV.out with h | h
          · rw [h.2]; rfl
          · rw [h.1] at HX2; exact absurd HX2.out (by decide)
      · obtain rfl : i = s.size := by omega
        have HX2 := hid (HN.out.all (by rw [HL.out]; exact Nat.le_refl _))
        have hlz : decide ((s.size : Int) < (s.size : Int)) = false := decide_eq_false (by omega)
        go_wp2
        go_ret
        refine ⟨?_, by rw [HW.out]; exact Below.refl _ _⟩
        rcases HV.out with h | h
        · rw [h.1] at HX2; exact absurd HX2.out (by decide)
        · rw [h.2]; rfl
/-- '.' and '..' -/
def spec (s : ByteArray) : Bool := s.toList == [46] || s.toList == [46, 46]
theorem special_any (s : ByteArray) (w : World) : Calls Tryd.prog 31 #[.string s] w fun e w' => e = .returned (.bool (spec s)) ∧ w' = w := by
  unfold spec
  rcases h1 : (s.toList == [46]) with _ | _ <;> rcases h2 : (s.toList == [46, 46]) with _ | _
  all_goals
    go_enter Tryd.func31, Tryd.ntmps31
    go_wp2
    go_ret
    exact ⟨rfl, rfl⟩
theorem refSpecial_any (s : ByteArray) (w : World) : Calls Tryd.prog 11 #[.string s] w fun e w' => e = .returned (.bool (spec s)) ∧ w' = w := by
  unfold spec
  rcases h1 : (s.toList == [46]) with _ | _ <;> rcases h2 : (s.toList == [46, 46]) with _ | _
  all_goals
    go_enter Tryd.func11, Tryd.ntmps11
    go_wp2
    go_ret
    exact ⟨rfl, rfl⟩
end Go.Proofs.YtcjiimfgmmgifaaDoor
