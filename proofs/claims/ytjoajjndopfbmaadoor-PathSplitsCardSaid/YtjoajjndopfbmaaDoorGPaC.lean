/- Package path's check and Parse. -/
import Derived.Test.YtjoajjndopfbmaaDoorGPaB
import Derived.Lib.Strings
import Derived.Lib.Slices
import Derived.Lib.Walk
namespace Go.Proofs.YtjoajjndopfbmaaDoor
open Go.RowKit Go.Shelf Go.Lib

set_option maxHeartbeats 1000000 in
theorem hasPrefix_any (s p : ByteArray) (w : World) :
    Calls Tryd.prog 28 #[.string s, .string p] w fun e w' => e = .returned (.bool (Lib.hasPrefix s.data.toList p.data.toList)) ∧ w' = w := by
  rw [← Lib.hasPrefix_of_take, ← Lib.size_eq, ← Lib.size_eq]
  go_enter Tryd.func28, Tryd.ntmps28
  go_wp2
  · rename_i h
    go_ret
    refine ⟨?_, rfl⟩
    show Ending.returned (Value.bool ((s.extract 0 p.size).toList == p.toList)) = _
    rw [Lib.extract_toList, Lib.toList_data]
    simp [h]
  · rename_i h
    go_ret
    refine ⟨?_, rfl⟩
    show Ending.returned (Value.bool false) = _
    simp [h]
set_option maxHeartbeats 1000000 in
theorem hasSuffix_any (s p : ByteArray) (w : World) (hs : s.size ≤ 9223372036854775807) :
    Calls Tryd.prog 21 #[.string s, .string p] w fun e w' => e = .returned (.bool (Lib.hasSuffix s.data.toList p.data.toList)) ∧ w' = w := by
  rw [← Lib.hasSuffix_raw]
  have hlo : p.size ≤ s.size → ((s.size : Int) - (p.size : Int) + 9223372036854775808) % 18446744073709551616 - 9223372036854775808 = ((s.size - p.size : Nat) : Int) := fun _ => by omega
  go_enter Tryd.func21, Tryd.ntmps21
  go_wp2
  · have h : p.size ≤ s.size := by assumption
    go_ret
    refine ⟨?_, rfl⟩
    show Ending.returned (Value.bool ((s.extract (s.size - p.size) s.size).toList == p.toList)) = _
    simp [h]
  · have h : ¬ p.size ≤ s.size := by assumption
    go_ret
    refine ⟨?_, rfl⟩
    show Ending.returned (Value.bool false) = _
    simp [h]
theorem prefix_sl (l : List UInt8) : Lib.hasPrefix l [47] = (l.head? == some 47) := by
  unfold Lib.hasPrefix
  rcases l with _ | ⟨a, l⟩
  · rfl
  · have e : ((47 : UInt8) == a) = (a == 47) := by
      rcases h : (a == 47) with _ | _
      · exact beq_eq_false_iff_ne.2 fun e => (beq_eq_false_iff_ne.1 h) e.symm
      · exact beq_iff_eq.2 (beq_iff_eq.1 h).symm
    simp [List.isPrefixOf, e]
theorem suffix_sl (l : List UInt8) : Lib.hasSuffix l [47] = (l.getLast? == some 47) := by
  unfold Lib.hasSuffix List.isSuffixOf
  rw [← List.head?_reverse]
  exact prefix_sl l.reverse
theorem contains_nul (s : ByteArray) (w : World) :
    Calls Tryd.prog 29 #[.string s, .string ⟨#[0]⟩] w fun e w' => e = .returned (.bool (s.data.toList.contains 0)) ∧ w' = w := by
  refine (Any.strings_Contains_one Tryd.lays144 s 0 w).mono fun e w' ⟨he, hw⟩ => ⟨?_, hw⟩
  rw [he]
  congr 2
  rcases ib_ways 0 s.data.toList with ⟨h1, h2⟩ | ⟨a, b, h1, h2, h3⟩
  · rw [h1]
    have : s.data.toList.contains 0 = false := by
      rw [Bool.eq_false_iff]
      intro h
      exact h2 0 (by simpa using h) rfl
    rw [this]; rfl
  · rw [h3]
    have : s.data.toList.contains 0 = true := by rw [h1]; simp
    rw [this]
    simp

def chkC (s : Nam) : Int := if s = [] then 109 else if 256 < s.length then 115 else if s.head? = some 47 ∧ (0 : UInt8) ∉ s then 0 else 114
theorem chk_ways (s : ByteArray) : (s.toList.isEmpty = true ∧ chkC s.data.toList = 109) ∨ (s.toList.isEmpty = false ∧ 256 < s.size ∧ chkC s.data.toList = 115) ∨ (s.toList.isEmpty = false ∧ s.size ≤ 256 ∧ (s.data.toList.head? == some 47) = false ∧ chkC s.data.toList = 114) ∨ (s.toList.isEmpty = false ∧ s.size ≤ 256 ∧ (s.data.toList.head? == some 47) = true ∧ s.data.toList.contains 0 = true ∧ chkC s.data.toList = 114) ∨ (s.toList.isEmpty = false ∧ s.size ≤ 256 ∧ (s.data.toList.head? == some 47) = true ∧ s.data.toList.contains 0 = false ∧ chkC s.data.toList = 0) := by
  rw [Lib.toList_data, Lib.size_eq]
  generalize s.data.toList = l
  unfold chkC
  rcases l with _ | ⟨x, l⟩
  · exact .inl ⟨rfl, rfl⟩
  · refine .inr ?_
    rw [if_neg (by simp)]
    by_cases h2 : 256 < (x :: l).length
    · exact .inl ⟨rfl, h2, by rw [if_pos h2]⟩
    · refine .inr ?_
      rw [if_neg h2]
      rcases h3 : ((x :: l).head? == some 47) with _ | _
      · refine .inl ⟨rfl, by omega, rfl, if_neg fun h => ?_⟩
        rw [h.1] at h3
        cases h3
      · have h3' : (x :: l).head? = some 47 := by simpa using h3
        rcases h4 : (x :: l).contains 0 with _ | _
        · exact .inr (.inr ⟨rfl, by omega, rfl, rfl, if_pos ⟨h3', by intro h; rw [Bool.eq_false_iff] at h4; exact h4 (by simpa using h)⟩⟩)
        · exact .inr (.inl ⟨rfl, by omega, rfl, rfl, if_neg fun h => h.2 (by simpa using h4)⟩)
set_option maxHeartbeats 1000000 in
theorem check_any (S : Nat → Addr) (s : ByteArray) (w : World) (hS : SentL [8, 13, 14] w S) : Calls Tryd.prog 18 #[.string s] w fun e w' => (∃ v, e = .returned v ∧ EV S (chkC s.data.toList) v) ∧ w' = w := by
  have g0 : w.cell? ⟨1, 0, none⟩ = some (.iface 106 (.pointer (some (S 8)))) := hS 8 (by decide)
  have g1 : w.cell? ⟨2, 0, none⟩ = some (.iface 106 (.pointer (some (S 14)))) := hS 14 (by decide)
  have g2 : w.cell? ⟨0, 0, none⟩ = some (.iface 106 (.pointer (some (S 13)))) := hS 13 (by decide)
  clear hS
  have hpre := hid (hasPrefix_any s sl1)
  have hcon := hid (contains_nul s)
  rcases chk_ways s with ⟨h1, h⟩ | ⟨h1, h2, h⟩ | ⟨h1, h2, h3, h⟩ | ⟨h1, h2, h3, h4, h⟩ | ⟨h1, h2, h3, h4, h⟩
  · have HV := hid h
    clear h
    go_enter Tryd.func18, Tryd.ntmps18
    go_wp2
    go_ret
    exact ⟨⟨_, rfl, by rw [HV.out]; exact EV.err 8 (by decide)⟩, rfl⟩
  · have HV := hid h
    have g : decide ((256 : Int) < (s.size : Int)) = true := decide_eq_true (by omega)
    clear h
    go_enter Tryd.func18, Tryd.ntmps18
    go_wp2
    go_ret
    exact ⟨⟨_, rfl, by rw [HV.out]; exact EV.err 14 (by decide)⟩, rfl⟩
  · have HV := hid h
    have g : decide ((256 : Int) < (s.size : Int)) = false := decide_eq_false (by omega)
    have H3 := hid h3
    clear h h3
    go_enter Tryd.func18, Tryd.ntmps18
    go_wp2_with fail
    refine (hpre.out w).mono ?_
    rw [show Lib.hasPrefix s.data.toList sl1.data.toList = false from (prefix_sl _).trans H3.out]
    rintro e w' ⟨rfl, hw⟩
    rw [hw]
    clear hw
    go_wp2_with fail
    go_ret
    exact ⟨⟨_, rfl, by rw [HV.out]; exact EV.err 13 (by decide)⟩, rfl⟩
  · have HV := hid h
    have g : decide ((256 : Int) < (s.size : Int)) = false := decide_eq_false (by omega)
    have H3 := hid h3
    have H4 := hid h4
    clear h h3 h4
    go_enter Tryd.func18, Tryd.ntmps18
    go_wp2_with fail
    refine (hpre.out w).mono ?_
    rw [show Lib.hasPrefix s.data.toList sl1.data.toList = true from (prefix_sl _).trans H3.out]
    rintro e w' ⟨rfl, hw⟩
    rw [hw]
    clear hw
    go_wp2_with fail
    refine (hcon.out w).mono ?_
    rw [H4.out]
    rintro e w' ⟨rfl, hw⟩
    rw [hw]
    clear hw
    go_wp2_with fail
    go_ret
    exact ⟨⟨_, rfl, by rw [HV.out]; exact EV.err 13 (by decide)⟩, rfl⟩
  · have HV := hid h
    have g : decide ((256 : Int) < (s.size : Int)) = false := decide_eq_false (by omega)
    have H3 := hid h3
    have H4 := hid h4
    clear h h3 h4
    go_enter Tryd.func18, Tryd.ntmps18
    go_wp2_with fail
    refine (hpre.out w).mono ?_
    rw [show Lib.hasPrefix s.data.toList sl1.data.toList = true from (prefix_sl _).trans H3.out]
    rintro e w' ⟨rfl, hw⟩
    rw [hw]
    clear hw
    go_wp2_with fail
    refine (hcon.out w).mono ?_
    rw [H4.out]
    rintro e w' ⟨rfl, hw⟩
    rw [hw]
    clear hw
    go_wp2_with fail
    go_ret
    exact ⟨⟨_, rfl, by rw [HV.out]; exact EV.fine⟩, rfl⟩
end Go.Proofs.YtjoajjndopfbmaaDoor
