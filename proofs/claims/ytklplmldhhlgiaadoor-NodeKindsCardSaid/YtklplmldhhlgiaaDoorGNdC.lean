/- What 'fits' answers. -/
import Derived.Test.YtklplmldhhlgiaaDoorGNdA
namespace Go.Proofs.YtklplmldhhlgiaaDoor
open Go.RowKit Go.Sort

set_option linter.unusedSimpArgs false in
set_option maxRecDepth 100000 in
set_option maxHeartbeats 8000000 in
theorem fits15_any (e : Nd) (w : World) (he : e.tg.length ≤ 1000000) : Calls Tryd.prog 13 #[ndV e] w fun r w' => r = .returned (.bool (fitsN e)) ∧ Below w.heap.size w w' := by
  obtain ⟨id, k, ln, sz, tg, pa⟩ := e
  have HB := hid (show Below w.heap.size w (w.alloc (.cells #[.int .i64 id, .int .i64 k, .int .i64 ln, .int .i64 sz, encStr tg, .int .i64 pa] 30)) from (Below.refl _ _).alloc (Nat.le_refl _) _)
  simp only at he
  by_cases h0 : id < 1
  · have HF := hid (show fitsN ⟨id, k, ln, sz, tg, pa⟩ = false from by unfold fitsN; simp; omega)
    go_enter Tryd.func13, Tryd.ntmps13
    go_wp2
    go_ret
    exact ⟨by rw [HF.out]; rfl, (Below.refl _ _).alloc (Nat.le_refl _) _⟩
  by_cases h1 : 16777216 ≤ id
  · have HF := hid (show fitsN ⟨id, k, ln, sz, tg, pa⟩ = false from by unfold fitsN; simp; omega)
    go_enter Tryd.func13, Tryd.ntmps13
    go_wp2
    go_ret
    exact ⟨by rw [HF.out]; rfl, (Below.refl _ _).alloc (Nat.le_refl _) _⟩
  by_cases h2 : k < 1
  · have HF := hid (show fitsN ⟨id, k, ln, sz, tg, pa⟩ = false from by unfold fitsN; simp; omega)
    go_enter Tryd.func13, Tryd.ntmps13
    go_wp2
    go_ret
    exact ⟨by rw [HF.out]; rfl, (Below.refl _ _).alloc (Nat.le_refl _) _⟩
  by_cases h3 : 3 < k
  · have HF := hid (show fitsN ⟨id, k, ln, sz, tg, pa⟩ = false from by unfold fitsN; simp; omega)
    go_enter Tryd.func13, Tryd.ntmps13
    go_wp2
    go_ret
    exact ⟨by rw [HF.out]; rfl, (Below.refl _ _).alloc (Nat.le_refl _) _⟩
  by_cases h4 : ln < 0
  · have HF := hid (show fitsN ⟨id, k, ln, sz, tg, pa⟩ = false from by unfold fitsN; simp; omega)
    go_enter Tryd.func13, Tryd.ntmps13
    go_wp2
    go_ret
    exact ⟨by rw [HF.out]; rfl, (Below.refl _ _).alloc (Nat.le_refl _) _⟩
  by_cases h5 : 16 < ln
  · have HF := hid (show fitsN ⟨id, k, ln, sz, tg, pa⟩ = false from by unfold fitsN; simp; omega)
    go_enter Tryd.func13, Tryd.ntmps13
    go_wp2
    go_ret
    exact ⟨by rw [HF.out]; rfl, (Below.refl _ _).alloc (Nat.le_refl _) _⟩
  by_cases h6 : sz < 0
  · have HF := hid (show fitsN ⟨id, k, ln, sz, tg, pa⟩ = false from by unfold fitsN; simp; omega)
    go_enter Tryd.func13, Tryd.ntmps13
    go_wp2
    go_ret
    exact ⟨by rw [HF.out]; rfl, (Below.refl _ _).alloc (Nat.le_refl _) _⟩
  by_cases h7 : 16384 < sz
  · have HF := hid (show fitsN ⟨id, k, ln, sz, tg, pa⟩ = false from by unfold fitsN; simp; omega)
    go_enter Tryd.func13, Tryd.ntmps13
    go_wp2
    go_ret
    exact ⟨by rw [HF.out]; rfl, (Below.refl _ _).alloc (Nat.le_refl _) _⟩
  by_cases k1 : k = 1
  · subst k1
    rcases tg with _ | ⟨a, tg⟩
    · by_cases gpa : pa = 0
      rotate_left
      · have gb : (pa == 0) = false := by simpa using gpa
        have HF := hid (show fitsN ⟨id, 1, ln, sz, [], pa⟩ = false from by unfold fitsN; simp; omega)
        go_enter Tryd.func13, Tryd.ntmps13
        go_wp2
        go_ret
        exact ⟨by rw [HF.out]; rfl, (Below.refl _ _).alloc (Nat.le_refl _) _⟩
      subst gpa
      have HF := hid (show fitsN ⟨id, 1, ln, sz, [], 0⟩ = true from by unfold fitsN; simp; omega)
      go_enter Tryd.func13, Tryd.ntmps13
      go_wp2
      go_ret
      exact ⟨by rw [HF.out]; rfl, (Below.refl _ _).alloc (Nat.le_refl _) _⟩
    · have HF := hid (show fitsN ⟨id, 1, ln, sz, (a :: tg), pa⟩ = false from by unfold fitsN; simp)
      go_enter Tryd.func13, Tryd.ntmps13
      go_wp2
      go_ret
      exact ⟨by rw [HF.out]; rfl, (Below.refl _ _).alloc (Nat.le_refl _) _⟩
  by_cases k2 : k = 2
  · subst k2
    by_cases gsz : sz = 0
    rotate_left
    · have gb : (sz == 0) = false := by simpa using gsz
      have HF := hid (show fitsN ⟨id, 2, ln, sz, tg, pa⟩ = false from by unfold fitsN; simp; omega)
      go_enter Tryd.func13, Tryd.ntmps13
      go_wp2
      go_ret
      exact ⟨by rw [HF.out]; rfl, (Below.refl _ _).alloc (Nat.le_refl _) _⟩
    subst gsz
    rcases tg with _ | ⟨a, tg⟩
    · by_cases q1 : 1 ≤ pa
      rotate_left
      · have HF := hid (show fitsN ⟨id, 2, ln, 0, [], pa⟩ = false from by unfold fitsN; simp; omega)
        go_enter Tryd.func13, Tryd.ntmps13
        go_wp2
        go_ret
        exact ⟨by rw [HF.out]; rfl, (Below.refl _ _).alloc (Nat.le_refl _) _⟩
      by_cases q2 : pa < 16777216
      rotate_left
      · have HF := hid (show fitsN ⟨id, 2, ln, 0, [], pa⟩ = false from by unfold fitsN; simp; omega)
        go_enter Tryd.func13, Tryd.ntmps13
        go_wp2
        go_ret
        exact ⟨by rw [HF.out]; rfl, (Below.refl _ _).alloc (Nat.le_refl _) _⟩
      have HF := hid (show fitsN ⟨id, 2, ln, 0, [], pa⟩ = true from by unfold fitsN; simp; omega)
      go_enter Tryd.func13, Tryd.ntmps13
      go_wp2
      go_ret
      exact ⟨by rw [HF.out]; rfl, (Below.refl _ _).alloc (Nat.le_refl _) _⟩
    · have HF := hid (show fitsN ⟨id, 2, ln, 0, (a :: tg), pa⟩ = false from by unfold fitsN; simp)
      go_enter Tryd.func13, Tryd.ntmps13
      go_wp2
      go_ret
      exact ⟨by rw [HF.out]; rfl, (Below.refl _ _).alloc (Nat.le_refl _) _⟩
  obtain rfl : k = 3 := by omega
  by_cases gsz : sz = 0
  rotate_left
  · have gb : (sz == 0) = false := by simpa using gsz
    have HF := hid (show fitsN ⟨id, 3, ln, sz, tg, pa⟩ = false from by unfold fitsN; simp; omega)
    go_enter Tryd.func13, Tryd.ntmps13
    go_wp2
    go_ret
    exact ⟨by rw [HF.out]; rfl, (Below.refl _ _).alloc (Nat.le_refl _) _⟩
  subst gsz
  rcases tg with _ | ⟨a, tg⟩
  · have HF := hid (show fitsN ⟨id, 3, ln, 0, [], pa⟩ = false from by unfold fitsN; simp)
    go_enter Tryd.func13, Tryd.ntmps13
    go_wp2
    go_ret
    exact ⟨by rw [HF.out]; rfl, (Below.refl _ _).alloc (Nat.le_refl _) _⟩
  · by_cases hm : (tg.length : Int) + 1 ≤ 88
    rotate_left
    · have HF := hid (show fitsN ⟨id, 3, ln, 0, (a :: tg), pa⟩ = false from by unfold fitsN; simp; omega)
      go_enter Tryd.func13, Tryd.ntmps13
      go_wp2
      go_ret
      exact ⟨by rw [HF.out]; rfl, (Below.refl _ _).alloc (Nat.le_refl _) _⟩
    by_cases gpa : pa = 0
    rotate_left
    · have gb : (pa == 0) = false := by simpa using gpa
      have HF := hid (show fitsN ⟨id, 3, ln, 0, (a :: tg), pa⟩ = false from by unfold fitsN; simp; omega)
      go_enter Tryd.func13, Tryd.ntmps13
      go_wp2
      go_ret
      exact ⟨by rw [HF.out]; rfl, (Below.refl _ _).alloc (Nat.le_refl _) _⟩
    subst gpa
    have HF := hid (show fitsN ⟨id, 3, ln, 0, (a :: tg), 0⟩ = true from by unfold fitsN; simp; omega)
    go_enter Tryd.func13, Tryd.ntmps13
    go_wp2
    go_ret
    exact ⟨by rw [HF.out]; rfl, (Below.refl _ _).alloc (Nat.le_refl _) _⟩
end Go.Proofs.YtklplmldhhlgiaaDoor
