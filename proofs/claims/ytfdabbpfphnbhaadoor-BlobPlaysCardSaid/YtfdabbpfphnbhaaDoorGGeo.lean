/- Package geo's calls, and the document's, over a geometry that may be. -/
import Derived.Test.YtfdabbpfphnbhaaDoorProg
import Derived.Test.YtfdabbpfphnbhaaDoorGBase
import Derived.Test.YtfdabbpfphnbhaaDoorGSee
import Derived.RegionTactic
namespace Go.Proofs.YtfdabbpfphnbhaaDoor
open Go.RowKit

/-- a geometry: B blocks, halves of H -/
structure Gm (B H : Int) : Prop where
  h0 : 0 ≤ H
  hB : 2 * H ≤ B
  b : B ≤ 6000
def prt (H i : Int) : Int := if 0 ≤ i ∧ i < H then i + H else if H ≤ i ∧ i < 2 * H then i - H else 0
def mirB (H i : Int) : Bool := decide (0 ≤ i ∧ i < 2 * H)
def datB (B H i : Int) : Bool := decide (2 * H ≤ i ∧ i < B)
def thB (B i : Int) : Bool := decide (0 ≤ i ∧ i < B)
def quo (B H : Int) : Int := max (min ((B - 2 * H) / 2 - 8) (H - 60)) 0
def hal (n : Int) : Int := min (n / 4) 512
abbrev gv (B H : Int) : Value := .agg #[.int .i64 B, .int .i64 H]

/-- the ways of a block: none; one of the first half; of the second half; data -/
theorem ways (B H i : Int) (hg : Gm B H) :
    (¬ 0 ≤ i ∧ thB B i = false ∧ prt H i = 0 ∧ mirB H i = false ∧ datB B H i = false) ∨
    (0 ≤ i ∧ i < H ∧ thB B i = true ∧ prt H i = i + H ∧ mirB H i = true ∧ datB B H i = false) ∨
    (H ≤ i ∧ i < 2 * H ∧ thB B i = true ∧ prt H i = i - H ∧ mirB H i = true ∧ datB B H i = false) ∨
    (2 * H ≤ i ∧ i < B ∧ thB B i = true ∧ prt H i = 0 ∧ mirB H i = false ∧ datB B H i = true) ∨
    (B ≤ i ∧ thB B i = false ∧ prt H i = 0 ∧ mirB H i = false ∧ datB B H i = false) := by
  obtain ⟨h0, hB, hb⟩ := hg
  unfold thB prt mirB datB
  by_cases h1 : 0 ≤ i
  · by_cases h2 : i < H
    · exact .inr (.inl ⟨h1, h2, by simp; omega, by rw [if_pos ⟨h1, h2⟩], by simp; omega, by simp; omega⟩)
    · by_cases h3 : i < 2 * H
      · exact .inr (.inr (.inl ⟨by omega, h3, by simp; omega, by rw [if_neg (by omega), if_pos ⟨by omega, h3⟩], by simp; omega, by simp; omega⟩))
      · by_cases h4 : i < B
        · exact .inr (.inr (.inr (.inl ⟨by omega, h4, by simp; omega, by rw [if_neg (by omega), if_neg (by omega)], by simp; omega, by simp; omega⟩)))
        · exact .inr (.inr (.inr (.inr ⟨by omega, by simp; omega, by rw [if_neg (by omega), if_neg (by omega)], by simp; omega, by simp; omega⟩)))
  · exact .inl ⟨h1, by simp; omega, by rw [if_neg (by omega), if_neg (by omega)], by simp; omega, by simp; omega⟩

theorem quo_ways (B H : Int) :
    (H - 60 < (B - 2 * H) / 2 - 8 ∧ 0 < H - 60 ∧ quo B H = H - 60) ∨ (H - 60 < (B - 2 * H) / 2 - 8 ∧ H - 60 ≤ 0 ∧ quo B H = 0) ∨
    ((B - 2 * H) / 2 - 8 ≤ H - 60 ∧ 0 < (B - 2 * H) / 2 - 8 ∧ quo B H = (B - 2 * H) / 2 - 8) ∨ ((B - 2 * H) / 2 - 8 ≤ H - 60 ∧ (B - 2 * H) / 2 - 8 ≤ 0 ∧ quo B H = 0) := by
  unfold quo; omega
theorem halfOf_any (B H : Int) (w : World) (hg : Gm B H) :
    Calls Tryd.prog 50 #[gv B H] w fun e w' => e = .returned (.int .i64 H) ∧ Below w.heap.size w w' := by
  obtain ⟨h0, hB, hb⟩ := hg
  go_enter Tryd.func50, Tryd.ntmps50
  go_wp2
  go_ret
  exact ⟨by congr 2, (Below.refl _ _).alloc (Nat.le_refl _) _⟩
theorem there_any (B H i : Int) (w : World) (hg : Gm B H) :
    Calls Tryd.prog 51 #[gv B H, .int .i64 i] w fun e w' => e = .returned (.bool (thB B i)) ∧ Below w.heap.size w w' := by
  obtain ⟨h0, hB, hb⟩ := hg
  have hc : (decide (0 ≤ i) = false ∧ thB B i = false) ∨ (decide (0 ≤ i) = true ∧ decide (i < B) = false ∧ thB B i = false) ∨ (decide (0 ≤ i) = true ∧ decide (i < B) = true ∧ thB B i = true) := by
    unfold thB
    by_cases h1 : 0 ≤ i
    · by_cases h2 : i < B
      · exact .inr (.inr ⟨by simpa using h1, by simpa using h2, by simp; omega⟩)
      · exact .inr (.inl ⟨by simpa using h1, by simpa using h2, by simp; omega⟩)
    · exact .inl ⟨by simpa using h1, by simp; omega⟩
  rcases hc with ⟨c1, c2⟩ | ⟨c1, c2, c3⟩ | ⟨c1, c2, c3⟩
  · rw [c2]; clear c2
    go_enter Tryd.func51, Tryd.ntmps51
    go_wp2
    go_ret
    exact ⟨rfl, (Below.refl _ _).alloc (Nat.le_refl _) _⟩
  all_goals
    rw [c3]; clear c3
    go_enter Tryd.func51, Tryd.ntmps51
    go_wp2
    go_ret
    exact ⟨rfl, (Below.refl _ _).alloc (Nat.le_refl _) _⟩

set_option maxHeartbeats 1000000 in
theorem data_any (B H i : Int) (w : World) (hg : Gm B H) :
    Calls Tryd.prog 43 #[gv B H, .int .i64 i] w fun e w' => e = .returned (.bool (datB B H i)) ∧ Below w.heap.size w w' := by
  have HG := hid hg
  have hw := ways B H i hg
  obtain ⟨h0, hB, hb⟩ := hg
  rcases hw with ⟨h1, t, _, _, m⟩ | ⟨h1, h2, t, _, _, m⟩ | ⟨h1, h2, t, _, _, m⟩ | ⟨h1, h2, t, _, _, m⟩ | ⟨h1, t, _, _, m⟩
  all_goals
    rw [m]
    have HT := hid t
    clear t m
    first
      | have g1 : decide (H ≤ i - H) = true := (by simp; omega)
      | have g1 : decide (H ≤ i - H) = false := (by simp; omega)
    go_enter Tryd.func43, Tryd.ntmps43
    go_wp2_with fail
    refine (halfOf_any B H _ HG.out).mono ?_
    rintro e w1 ⟨rfl, hb1⟩
    have HB1 := hid (show Below w.heap.size w w1 from ((Below.refl _ _).alloc (Nat.le_refl _) _).trans (hb1.mono (by simp)))
    obtain ⟨k1, k2⟩ : w1.cell? ⟨w.heap.size, 0, none⟩ = some (.int .i64 B) ∧ w1.cell? ⟨w.heap.size, 1, none⟩ = some (.int .i64 H) :=
      ⟨((Blk.new w _ _).below hb1 (by simp)).cell 0, ((Blk.new w _ _).below hb1 (by simp)).cell 1⟩
    clear hb1
    go_wp2_with fail
    refine (there_any B H i _ HG.out).mono ?_
    rintro e w2 ⟨rfl, hb2⟩
    rw [HT.out]
    have HB2 := hid (HB1.out.trans (hb2.mono HB1.out.size))
    clear hb2 k1 k2
    go_wp2
    go_ret
    exact ⟨rfl, HB2.out⟩
theorem of_ok (n : Int) (w : World) (h1 : 300 ≤ n) (h2 : n ≤ 6000) :
    Calls Tryd.prog 41 #[.int .i64 n] w fun e w' => e = .returned (.tuple #[gv n (hal n), .nilIface]) ∧ Below w.heap.size w w' := by
  have g1 : decide (n < 300) = false := by simp; omega
  have g2 : decide (6000 < n) = false := by simp; omega
  rcases Int.lt_or_le 512 (n / 4) with g3 | g3
  all_goals
    first
      | rw [show hal n = 512 by unfold hal; omega]
      | rw [show hal n = n / 4 by unfold hal; omega]
    go_enter Tryd.func41, Tryd.ntmps41
    go_wp2
    first
      | exact bodyPost_ret (v := .tuple #[.agg #[.int .i64 n, .int .i64 512], .nilIface]) (by simp [results, Tryd.results41, go_sem]) rfl ⟨rfl, (Below.refl _ _).alloc (Nat.le_refl _) _⟩
      | exact bodyPost_ret (v := .tuple #[.agg #[.int .i64 n, .int .i64 (n / 4)], .nilIface]) (by simp [results, Tryd.results41, go_sem]) rfl ⟨rfl, (Below.refl _ _).alloc (Nat.le_refl _) _⟩
theorem of_bad (n : Int) (v : Value) (w : World) (h : n < 300 ∨ 6000 < n) (hv : w.cell? ⟨0, 0, none⟩ = some v) :
    Calls Tryd.prog 41 #[.int .i64 n] w fun e w' => e = .returned (.tuple #[gv 0 0, v]) ∧ Below w.heap.size w w' := by
  have hc : decide (n < 300) = true ∨ (decide (n < 300) = false ∧ decide (6000 < n) = true) := by
    by_cases h1 : n < 300
    · exact .inl (by simpa using h1)
    · exact .inr ⟨by simpa using h1, by simp; omega⟩
  have hlt := World.block_lt_of_cell? w _ hv
  have hv2 : (w.alloc (Obj.cells #[.int .i64 0, .int .i64 0] 91)).cell? ⟨0, 0, none⟩ = some v := (World.cell?_alloc_lt w _ _ hlt).trans hv
  clear h hv
  rcases hc with g1 | ⟨g1, g2⟩
  all_goals
    go_enter Tryd.func41, Tryd.ntmps41
    go_wp2_with fail
    go_region
    go_wp2
    refine bodyPost_ret (v := .tuple #[.agg #[.int .i64 0, .int .i64 0], v]) (by simp [results, Tryd.results41, go_sem]) rfl ?_
    exact ⟨rfl, ((Below.refl _ _).alloc (Nat.le_refl _) _).drew⟩

end Go.Proofs.YtfdabbpfphnbhaaDoor
