/- Small numbers' texts; the names that DirTurns adds. -/
import Derived.Test.YtcjiimfgmmgifaaDoorGDrI
namespace Go.Proofs.YtcjiimfgmmgifaaDoor
open Go.RowKit Go.Shelf Go.Sort

/-- a small number's text -/
def decN (j : Nat) : Nam := if j < 10 then [UInt8.ofNat (48 + j)] else [UInt8.ofNat (48 + j / 10), UInt8.ofNat (48 + j % 10)]
theorem all_lt {P : Nat → Prop} (n : Nat) (h : ∀ k : Fin n, P k.val) (j : Nat) (hj : j < n) : P j := h ⟨j, hj⟩
theorem str_data {a : ByteArray} {l : Nam} (h : a.data.toList = l) : Ending.returned (Value.string a) = Ending.returned (encStr l) := by
  subst h
  rfl
set_option maxRecDepth 100000 in
theorem small_any (j : Nat) (w : World) (hj : j < 40) : Calls Tryd.prog 60 #[.int .i64 (j : Int)] w fun e w' => e = .returned (encStr (decN j)) ∧ w' = w := by
  by_cases h10 : j < 10
  · have h1 : decide ((j : Int) < 10) = true := by simp; omega
    have hw : IntKind.i64.wrap ((j : Int) + 1) = (j : Int) + 1 := by rw [IntKind.wrap_i64]; omega
    have h2 : (0 : Int) ≤ (j : Int) := by omega
    have h3 : (j : Int) ≤ (j : Int) + 1 := by omega
    have h4 : (j : Int) + 1 ≤ 36 := by omega
    have h5 : ((j : Int) + 1).toNat = j + 1 := by omega
    go_enter Tryd.func60, Tryd.ntmps60
    go_wp2
    refine bodyPost_ret (by simp [results, Tryd.results60, go_sem]; rfl) rfl ⟨str_data ?_, rfl⟩
    have hjs : j = 0 ∨ j = 1 ∨ j = 2 ∨ j = 3 ∨ j = 4 ∨ j = 5 ∨ j = 6 ∨ j = 7 ∨ j = 8 ∨ j = 9 := by omega
    rcases hjs with rfl | rfl | rfl | rfl | rfl | rfl | rfl | rfl | rfl | rfl
    all_goals decide +kernel
  · have h1 : decide ((j : Int) < 10) = false := by simp; omega
    have hw : IntKind.i64.wrap ((j : Int) * 2) = (j : Int) * 2 := by rw [IntKind.wrap_i64]; omega
    have hw2 : IntKind.i64.wrap ((j : Int) * 2 + 2) = (j : Int) * 2 + 2 := by rw [IntKind.wrap_i64]; omega
    have h2 : (0 : Int) ≤ (j : Int) * 2 := by omega
    have h3 : (j : Int) * 2 ≤ (j : Int) * 2 + 2 := by omega
    have h4 : (j : Int) * 2 + 2 ≤ 200 := by omega
    have h5 : ((j : Int) * 2 + 2).toNat = j * 2 + 2 := by omega
    have h6 : ((j : Int) * 2).toNat = j * 2 := by omega
    go_enter Tryd.func60, Tryd.ntmps60
    go_wp2
    refine bodyPost_ret (by simp [results, Tryd.results60, go_sem]; rfl) rfl ⟨str_data ?_, rfl⟩
    clear h1 hw hw2 h2 h3 h4 h5 h6
    have hjs : j = 10 ∨ j = 11 ∨ j = 12 ∨ j = 13 ∨ j = 14 ∨ j = 15 ∨ j = 16 ∨ j = 17 ∨ j = 18 ∨ j = 19 ∨ j = 20 ∨ j = 21 ∨ j = 22 ∨ j = 23 ∨ j = 24 ∨ j = 25 ∨ j = 26 ∨ j = 27 ∨ j = 28 ∨ j = 29 ∨ j = 30 ∨ j = 31 ∨ j = 32 ∨ j = 33 ∨ j = 34 ∨ j = 35 ∨ j = 36 ∨ j = 37 ∨ j = 38 ∨ j = 39 := by omega
    rcases hjs with rfl | rfl | rfl | rfl | rfl | rfl | rfl | rfl | rfl | rfl | rfl | rfl | rfl | rfl | rfl | rfl | rfl | rfl | rfl | rfl | rfl | rfl | rfl | rfl | rfl | rfl | rfl | rfl | rfl | rfl
    all_goals decide +kernel
set_option maxRecDepth 100000 in
theorem num_any (j : Nat) (w : World) (hj : j < 40) : Calls Tryd.prog 25 #[.int .i64 (j : Int)] w fun e w' => e = .returned (encStr (decN j)) ∧ w' = w := by
  have HS := hid (small_any j w hj)
  have HF : Calls Tryd.prog 51 #[.int .i64 (j : Int), .int .i64 10] w fun e w' => e = .returned (encStr (decN j)) ∧ w' = w := by
    have h1 : decide ((j : Int) < 100) = true := by simp; omega
    have h2 : decide ((0 : Int) ≤ (j : Int)) = true := by simp
    go_enter Tryd.func51, Tryd.ntmps51
    go_wp2_with fail
    refine HS.out.mono ?_
    rintro e w' ⟨rfl, rfl⟩
    go_wp2
    go_ret
    exact ⟨rfl, rfl⟩
  have HF := hid HF
  have HI : Calls Tryd.prog 44 #[.int .i64 (j : Int)] w fun e w' => e = .returned (encStr (decN j)) ∧ w' = w := by
    go_enter Tryd.func44, Tryd.ntmps44
    go_wp2_with fail
    refine HF.out.mono ?_
    rintro e w' ⟨rfl, rfl⟩
    go_wp2
    go_ret
    exact ⟨rfl, rfl⟩
  have HI := hid HI
  have HJ : Calls Tryd.prog 35 #[.int .i64 (j : Int)] w fun e w' => e = .returned (encStr (decN j)) ∧ w' = w := by
    go_enter Tryd.func35, Tryd.ntmps35
    go_wp2_with fail
    refine HI.out.mono ?_
    rintro e w' ⟨rfl, rfl⟩
    go_wp2
    go_ret
    exact ⟨rfl, rfl⟩
  have HJ := hid HJ
  go_enter Tryd.func25, Tryd.ntmps25
  go_wp2_with fail
  refine HJ.out.mono ?_
  rintro e w' ⟨rfl, rfl⟩
  go_wp2
  go_ret
  exact ⟨rfl, rfl⟩
/-- the j-th name -/
def nmE (j : Nat) : Nam := 110 :: decN j
abbrev enE (j : Nat) : En := ⟨nmE j, (j : Int) + 2, 1⟩
theorem cat_nm (j : Nat) : ({ data := #[110] } : ByteArray) ++ { data := (decN j).toArray } = ⟨(nmE j).toArray⟩ := by
  apply ByteArray.ext
  rw [ByteArray.data_append]
  simp [nmE]
theorem decN_ok (j : Nat) : ¬ 9223372036854775807 < 1 + (decN j).length := by
  unfold decN
  split <;> simp
theorem leq_not {a b : Nam} (h : b < a) : (decide (a < b) || a == b) = false := by
  have h1 : ¬ a < b := fun k => List.lt_irrefl a (List.lt_trans k h)
  have h2 : ¬ a = b := fun e => by subst e; exact List.lt_irrefl a h
  simp [h1, h2]
theorem nmE_inj : ∀ j, j < 31 → ∀ k, k < 31 → nmE j = nmE k → j = k := by
  refine all_lt 31 ?_
  have h : ∀ j : Fin 31, ∀ k : Fin 31, nmE j.val = nmE k.val → j.val = k.val := by decide +kernel
  exact fun j k hk => h j ⟨k, hk⟩
theorem nmE_len : ∀ j, j < 31 → (nmE j).length ≤ 3 := by
  refine all_lt 31 ?_
  decide +kernel
theorem nmE_pos (j : Nat) : ([] : Nam) < nmE j := by unfold nmE; exact List.nil_lt_cons _ _
theorem nmE_ok : ∀ j, j < 31 → vldC ⟨(nmE j).toArray⟩ = 0 ∧ spec ⟨(nmE j).toArray⟩ = false := by
  refine all_lt 31 ?_
  decide +kernel
theorem step_inj (t : Nat) (ht : t = 1 ∨ t = 7 ∨ t = 11 ∨ t = 13) {i k : Nat} (hi : i < 31) (hk : k < i) : i * t % 31 ≠ k * t % 31 := by
  rcases ht with rfl | rfl | rfl | rfl <;> omega
/-- one more of them -/
theorem addE_new {D : List En} {j i t : Nat} (hD : ∀ x, x ∈ D → ∃ k, k < i ∧ x = enE (k * t % 31)) (ht : t = 1 ∨ t = 7 ∨ t = 11 ∨ t = 13) (hi : i < 31) (hj : i * t % 31 = j) :
    addC D (enE j) = 0 ∧ (addE D (enE j)).length = D.length + 1 ∧ ∀ x, x ∈ addE D (enE j) → ∃ k, k < i + 1 ∧ x = enE (k * t % 31) := by
  have hj31 : j < 31 := by omega
  obtain ⟨h1, h2⟩ := nmE_ok j hj31
  have h3 : fnd D (nmE j) = D.length := fnd_none (fun q x hx e => by
    obtain ⟨k, hk, rfl⟩ := hD x (List.mem_of_getElem? hx)
    have h4 := nmE_inj _ (show k * t % 31 < 31 by omega) _ hj31 e
    exact step_inj t ht hi hk (by omega))
  have h5 : rightE (enE j) = true := by unfold rightE; simp; omega
  have h6 : addC D (enE j) = 0 := by
    unfold addC
    rw [show (⟨(enE j).s.toArray⟩ : ByteArray) = ⟨(nmE j).toArray⟩ from rfl, h1, h2, h5, show (enE j).s = nmE j from rfl, h3]
    simp
  refine ⟨h6, ?_, ?_⟩
  · unfold addE
    rw [if_pos h6, insE_len]
  · unfold addE
    rw [if_pos h6]
    unfold insE
    intro x hx
    rcases List.mem_append.1 hx with hx | hx
    · rcases List.mem_append.1 hx with hx | hx
      · obtain ⟨k, hk, e⟩ := hD x (List.mem_of_mem_take hx)
        exact ⟨k, by omega, e⟩
      · rw [List.mem_singleton] at hx
        exact ⟨i, by omega, by rw [hx, hj]⟩
    · obtain ⟨k, hk, e⟩ := hD x (List.mem_of_mem_drop hx)
      exact ⟨k, by omega, e⟩
/-- behind the q-th come those from q + 1 on -/
theorem behind_nth {D : List En} (hr : RisE D) {q : Nat} {x : En} (hx : D[q]? = some x) : behindE D x.s = D.drop (q + 1) := by
  have hq := (List.getElem?_eq_some_iff.1 hx).1
  have hl : LowAt D x.s q := ⟨by omega, fun p y hp hy => hr.lt hp hy hx, fun p y hp hy hlt => by
    rcases Nat.lt_or_eq_of_le hp with h | rfl
    · exact List.lt_irrefl _ (en_trans hlt (hr.lt h hx hy))
    · rw [hx] at hy; injection hy with hy; rw [hy] at hlt; exact List.lt_irrefl _ hlt⟩
  rw [behind_low hr hl, (hl.yes hx rfl).2]
  rfl
theorem behind_none {D : List En} (hD : ∀ x, x ∈ D → ([] : Nam) < x.s) : behindE D [] = D := by
  unfold behindE
  rw [List.filter_eq_self]
  intro x hx
  exact decide_eq_true (hD x hx)
end Go.Proofs.YtcjiimfgmmgifaaDoor
