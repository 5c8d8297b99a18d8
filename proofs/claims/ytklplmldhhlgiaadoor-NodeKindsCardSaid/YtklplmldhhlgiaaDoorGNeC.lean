/- Package node: may a node be? -/
import Derived.Test.YtklplmldhhlgiaaDoorGNeB
namespace Go.Proofs.YtklplmldhhlgiaaDoor
open Go.RowKit Go.Sort

def isI (i : Int) : Bool := decide (1 ≤ i) && decide (i ≤ 16777215)
def szB (e : Nd) : Bool := if e.k = 1 then decide (0 ≤ e.sz) && decide (e.sz ≤ 16384) else decide (e.sz = 0)
def tgB (e : Nd) : Bool := if e.k = 3 then decide (e.tg ≠ []) && decide (e.tg.length ≤ 88) else decide (e.tg = [])
def paB (e : Nd) : Bool := if e.k = 2 then isI e.pa else decide (e.pa = 0)
/-- why a node may not be -/
def vldN (e : Nd) : Int := if fitsN e = true then 0 else 103
theorem vldN_no {e : Nd} (h : fitsN e = false) : vldN e = 103 := by unfold vldN; rw [h]; rfl
theorem vldN_yes {e : Nd} (h : fitsN e = true) : vldN e = 0 := by unfold vldN; rw [h]; rfl
theorem fits_parts (e : Nd) : fitsN e = (isI e.id && okK e.k && decide (0 ≤ e.ln) && decide (e.ln ≤ 16) && szB e && tgB e && paB e) := by
  obtain ⟨id, k, ln, sz, tg, pa⟩ := e
  rw [Bool.eq_iff_iff]
  unfold fitsN isI szB tgB paB okK isI
  by_cases h1 : k = 1
  · subst h1
    simp
    constructor
    · rintro ⟨⟨a, b, c, d, e, f⟩, g, h⟩; exact ⟨⟨⟨⟨⟨⟨by omega, by omega⟩, by omega⟩, by omega⟩, by omega, by omega⟩, g⟩, h⟩
    · rintro ⟨⟨⟨⟨⟨⟨a, b⟩, c⟩, d⟩, e, f⟩, g⟩, h⟩; exact ⟨⟨by omega, by omega, by omega, by omega, by omega, by omega⟩, g, h⟩
  · by_cases h2 : k = 2
    · subst h2
      simp
      constructor
      · rintro ⟨⟨a, b, c, d, e, f⟩, g, h, i, j⟩; exact ⟨⟨⟨⟨⟨⟨by omega, by omega⟩, by omega⟩, by omega⟩, by omega⟩, h⟩, by omega, by omega⟩
      · rintro ⟨⟨⟨⟨⟨⟨a, b⟩, c⟩, d⟩, e⟩, g⟩, h, i⟩; exact ⟨⟨by omega, by omega, by omega, by omega, by omega, by omega⟩, by omega, g, by omega, by omega⟩
    · by_cases h3 : k = 3
      · subst h3
        simp
        constructor
        · rintro ⟨⟨a, b, c, d, e, f⟩, g, h, i, j⟩; exact ⟨⟨⟨⟨⟨⟨by omega, by omega⟩, by omega⟩, by omega⟩, by omega⟩, h, by omega⟩, by omega⟩
        · rintro ⟨⟨⟨⟨⟨⟨a, b⟩, c⟩, d⟩, e⟩, g, h⟩, i⟩; exact ⟨⟨by omega, by omega, by omega, by omega, by omega, by omega⟩, by omega, g, by omega, by omega⟩
      · simp [h1, h2, h3]
        omega
set_option linter.unusedSimpArgs false in
set_option maxRecDepth 100000 in
set_option maxHeartbeats 1000000 in
theorem isID_any (i : Int) (w : World) : Calls Tryd.prog 32 #[.int .i64 i] w fun r w' => r = .returned (.bool (isI i)) ∧ w = w' := by
  by_cases h1 : 1 ≤ i
  · by_cases h2 : i ≤ 16777215
    · have hf : isI i = true := by unfold isI; simp; omega
      rw [hf]
      go_enter Tryd.func32, Tryd.ntmps32
      go_wp2
      go_ret
      exact ⟨rfl, rfl⟩
    · have hf : isI i = false := by unfold isI; simp; omega
      rw [hf]
      go_enter Tryd.func32, Tryd.ntmps32
      go_wp2
      go_ret
      exact ⟨rfl, rfl⟩
  · have hf : isI i = false := by unfold isI; simp; omega
    rw [hf]
    go_enter Tryd.func32, Tryd.ntmps32
    go_wp2
    go_ret
    exact ⟨rfl, rfl⟩
set_option linter.unusedSimpArgs false in
set_option maxRecDepth 100000 in
set_option maxHeartbeats 1000000 in
theorem isKind_any (k : Int) (w : World) : Calls Tryd.prog 21 #[.int .i64 k] w fun r w' => r = .returned (.bool (okK k)) ∧ w = w' := by
  by_cases h1 : k = 1
  · subst h1
    go_enter Tryd.func21, Tryd.ntmps21
    go_wp2
    go_ret
    exact ⟨rfl, rfl⟩
  · by_cases h2 : k = 2
    · subst h2
      go_enter Tryd.func21, Tryd.ntmps21
      go_wp2
      go_ret
      exact ⟨rfl, rfl⟩
    · by_cases h3 : k = 3
      · subst h3
        go_enter Tryd.func21, Tryd.ntmps21
        go_wp2
        go_ret
        exact ⟨rfl, rfl⟩
      · have hf : okK k = false := by unfold okK; simp; omega
        have b1 : (k == 1) = false := by simpa using h1
        have b2 : (k == 2) = false := by simpa using h2
        have b3 : (k == 3) = false := by simpa using h3
        rw [hf]
        go_enter Tryd.func21, Tryd.ntmps21
        go_wp2
        go_ret
        exact ⟨rfl, rfl⟩
set_option linter.unusedSimpArgs false in
set_option maxRecDepth 100000 in
set_option maxHeartbeats 1000000 in
theorem maySize_any (e : Nd) (w : World) : Calls Tryd.prog 33 #[ndV e] w fun r w' => r = .returned (.bool (szB e)) ∧ Below w.heap.size w w' := by
  obtain ⟨id, k, ln, sz, tg, pa⟩ := e
  by_cases h1 : k = 1
  · subst h1
    by_cases h2 : 0 ≤ sz
    · by_cases h3 : sz ≤ 16384
      · have HF := hid (show szB ⟨id, 1, ln, sz, tg, pa⟩ = true from by unfold szB; simp; omega)
        go_enter Tryd.func33, Tryd.ntmps33
        go_wp2
        go_ret
        exact ⟨by rw [HF.out]; rfl, (Below.refl _ _).alloc (Nat.le_refl _) _⟩
      · have HF := hid (show szB ⟨id, 1, ln, sz, tg, pa⟩ = false from by unfold szB; simp; omega)
        go_enter Tryd.func33, Tryd.ntmps33
        go_wp2
        go_ret
        exact ⟨by rw [HF.out]; rfl, (Below.refl _ _).alloc (Nat.le_refl _) _⟩
    · have HF := hid (show szB ⟨id, 1, ln, sz, tg, pa⟩ = false from by unfold szB; simp; omega)
      go_enter Tryd.func33, Tryd.ntmps33
      go_wp2
      go_ret
      exact ⟨by rw [HF.out]; rfl, (Below.refl _ _).alloc (Nat.le_refl _) _⟩
  · have b1 : (k == 1) = false := by simpa using h1
    by_cases h2 : sz = 0
    · subst h2
      have HF := hid (show szB ⟨id, k, ln, 0, tg, pa⟩ = true from by unfold szB; simp [h1])
      go_enter Tryd.func33, Tryd.ntmps33
      go_wp2
      go_ret
      exact ⟨by rw [HF.out]; rfl, (Below.refl _ _).alloc (Nat.le_refl _) _⟩
    · have b2 : (sz == 0) = false := by simpa using h2
      have HF := hid (show szB ⟨id, k, ln, sz, tg, pa⟩ = false from by unfold szB; simp [h1, h2])
      go_enter Tryd.func33, Tryd.ntmps33
      go_wp2
      go_ret
      exact ⟨by rw [HF.out]; rfl, (Below.refl _ _).alloc (Nat.le_refl _) _⟩
set_option linter.unusedSimpArgs false in
set_option maxRecDepth 100000 in
set_option maxHeartbeats 1000000 in
theorem mayTarget_any (e : Nd) (w : World) (he : e.tg.length ≤ 1000000) : Calls Tryd.prog 34 #[ndV e] w fun r w' => r = .returned (.bool (tgB e)) ∧ Below w.heap.size w w' := by
  obtain ⟨id, k, ln, sz, tg, pa⟩ := e
  simp only at he
  by_cases h1 : k = 3
  · subst h1
    rcases tg with _ | ⟨a, tg⟩
    · have HF := hid (show tgB ⟨id, 3, ln, sz, [], pa⟩ = false from by unfold tgB; simp)
      go_enter Tryd.func34, Tryd.ntmps34
      go_wp2
      go_ret
      exact ⟨by rw [HF.out]; rfl, (Below.refl _ _).alloc (Nat.le_refl _) _⟩
    · have hsz : (⟨(a :: tg).toArray⟩ : ByteArray).size = tg.length + 1 := by show (a :: tg).toArray.size = _; simp
      simp at he
      by_cases h2 : (tg.length : Int) + 1 ≤ 88
      · have HF := hid (show tgB ⟨id, 3, ln, sz, (a :: tg), pa⟩ = true from by unfold tgB; simp; omega)
        go_enter Tryd.func34, Tryd.ntmps34
        go_wp2
        go_ret
        exact ⟨by rw [HF.out]; rfl, (Below.refl _ _).alloc (Nat.le_refl _) _⟩
      · have HF := hid (show tgB ⟨id, 3, ln, sz, (a :: tg), pa⟩ = false from by unfold tgB; simp; omega)
        go_enter Tryd.func34, Tryd.ntmps34
        go_wp2
        go_ret
        exact ⟨by rw [HF.out]; rfl, (Below.refl _ _).alloc (Nat.le_refl _) _⟩
  · have b1 : (k == 3) = false := by simpa using h1
    rcases tg with _ | ⟨a, tg⟩
    · have HF := hid (show tgB ⟨id, k, ln, sz, [], pa⟩ = true from by unfold tgB; simp [h1])
      go_enter Tryd.func34, Tryd.ntmps34
      go_wp2
      go_ret
      exact ⟨by rw [HF.out]; rfl, (Below.refl _ _).alloc (Nat.le_refl _) _⟩
    · have HF := hid (show tgB ⟨id, k, ln, sz, (a :: tg), pa⟩ = false from by unfold tgB; simp [h1])
      go_enter Tryd.func34, Tryd.ntmps34
      go_wp2
      go_ret
      exact ⟨by rw [HF.out]; rfl, (Below.refl _ _).alloc (Nat.le_refl _) _⟩
set_option linter.unusedSimpArgs false in
set_option maxRecDepth 100000 in
set_option maxHeartbeats 1000000 in
theorem mayParent_any (e : Nd) (w : World) : Calls Tryd.prog 35 #[ndV e] w fun r w' => r = .returned (.bool (paB e)) ∧ Below w.heap.size w w' := by
  obtain ⟨id, k, ln, sz, tg, pa⟩ := e
  by_cases h1 : k = 2
  · subst h1
    have HF := hid (show paB ⟨id, 2, ln, sz, tg, pa⟩ = isI pa from by unfold paB; simp)
    go_enter Tryd.func35, Tryd.ntmps35
    go_wp2_with fail
    refine (isID_any pa _).mono ?_
    rintro e w1 ⟨rfl, rfl⟩
    go_wp2
    go_ret
    exact ⟨by rw [HF.out]; rfl, (Below.refl _ _).alloc (Nat.le_refl _) _⟩
  · have b1 : (k == 2) = false := by simpa using h1
    by_cases h2 : pa = 0
    · subst h2
      have HF := hid (show paB ⟨id, k, ln, sz, tg, 0⟩ = true from by unfold paB; simp [h1])
      go_enter Tryd.func35, Tryd.ntmps35
      go_wp2
      go_ret
      exact ⟨by rw [HF.out]; rfl, (Below.refl _ _).alloc (Nat.le_refl _) _⟩
    · have b2 : (pa == 0) = false := by simpa using h2
      have HF := hid (show paB ⟨id, k, ln, sz, tg, pa⟩ = false from by unfold paB; simp [h1, h2])
      go_enter Tryd.func35, Tryd.ntmps35
      go_wp2
      go_ret
      exact ⟨by rw [HF.out]; rfl, (Below.refl _ _).alloc (Nat.le_refl _) _⟩
set_option linter.unusedSimpArgs false in
set_option maxRecDepth 100000 in
set_option maxHeartbeats 4000000 in
theorem nodeValid_any (S : Nat → Addr) (e : Nd) (w : World) (hS : Sent w S) (he : e.tg.length ≤ 1000000) : Calls Tryd.prog 26 #[ndV e] w fun r w' => (∃ v, r = .returned v ∧ EV S (vldN e) v) ∧ Below w.heap.size w w' := by
  have HP := hid (fits_parts e)
  have HE := hid he
  obtain ⟨id, k, ln, sz, tg, pa⟩ := e
  have HS := hid hS
  have hb0 : Below w.heap.size w (w.alloc (Obj.cells #[.int .i64 id, .int .i64 k, .int .i64 ln, .int .i64 sz, encStr tg, .int .i64 pa] 30)) := (Below.refl _ _).alloc (Nat.le_refl _) _
  have HB := hid hb0
  have HBk := hid (Blk.new w 30 #[.int .i64 id, .int .i64 k, .int .i64 ln, .int .i64 sz, encStr tg, .int .i64 pa])
  have HBad := hid (show fitsN ⟨id, k, ln, sz, tg, pa⟩ = false → EV S (vldN ⟨id, k, ln, sz, tg, pa⟩) (.iface 104 (.pointer (some (S 2)))) from fun h => by rw [vldN_no h]; exact EV.err 2 (by decide))
  have g1 : (w.alloc (Obj.cells #[.int .i64 id, .int .i64 k, .int .i64 ln, .int .i64 sz, encStr tg, .int .i64 pa] 30)).cell? ⟨0, 0, none⟩ = some (.iface 104 (.pointer (some (S 2)))) := (hS.on hb0).at_ 2 (by decide)
  clear hS he hb0
  rcases hi : isI id with _ | _
  · have HN := hid (show fitsN ⟨id, k, ln, sz, tg, pa⟩ = false from by rw [HP.out]; simp [hi])
    have HI := hid hi
    clear hi
    go_enter Tryd.func26, Tryd.ntmps26
    go_wp2_with fail
    refine (isID_any id _).mono ?_
    rw [HI.out]
    rintro e w1 ⟨rfl, rfl⟩
    go_wp2
    go_ret
    exact ⟨⟨_, rfl, HBad.out HN.out⟩, HB.out⟩
  rcases hk : okK k with _ | _
  · have HN := hid (show fitsN ⟨id, k, ln, sz, tg, pa⟩ = false from by rw [HP.out]; simp [hk])
    have HI := hid hi
    have HK := hid hk
    clear hi hk
    go_enter Tryd.func26, Tryd.ntmps26
    go_wp2_with fail
    refine (isID_any id _).mono ?_
    rw [HI.out]
    rintro e w1 ⟨rfl, rfl⟩
    go_wp2_with fail
    refine (isKind_any k _).mono ?_
    rw [HK.out]
    rintro e w1 ⟨rfl, rfl⟩
    go_wp2
    go_ret
    exact ⟨⟨_, rfl, HBad.out HN.out⟩, HB.out⟩
  by_cases h4 : ln < 0
  · have HN := hid (show fitsN ⟨id, k, ln, sz, tg, pa⟩ = false from by rw [HP.out]; simp; omega)
    have HI := hid hi
    have HK := hid hk
    clear hi hk
    go_enter Tryd.func26, Tryd.ntmps26
    go_wp2_with fail
    refine (isID_any id _).mono ?_
    rw [HI.out]
    rintro e w1 ⟨rfl, rfl⟩
    go_wp2_with fail
    refine (isKind_any k _).mono ?_
    rw [HK.out]
    rintro e w1 ⟨rfl, rfl⟩
    go_wp2
    go_ret
    exact ⟨⟨_, rfl, HBad.out HN.out⟩, HB.out⟩
  by_cases h5 : 16 < ln
  · have HN := hid (show fitsN ⟨id, k, ln, sz, tg, pa⟩ = false from by rw [HP.out]; simp; omega)
    have HI := hid hi
    have HK := hid hk
    clear hi hk
    go_enter Tryd.func26, Tryd.ntmps26
    go_wp2_with fail
    refine (isID_any id _).mono ?_
    rw [HI.out]
    rintro e w1 ⟨rfl, rfl⟩
    go_wp2_with fail
    refine (isKind_any k _).mono ?_
    rw [HK.out]
    rintro e w1 ⟨rfl, rfl⟩
    go_wp2
    go_ret
    exact ⟨⟨_, rfl, HBad.out HN.out⟩, HB.out⟩
  rcases hsz : szB ⟨id, k, ln, sz, tg, pa⟩ with _ | _
  · have HN := hid (show fitsN ⟨id, k, ln, sz, tg, pa⟩ = false from by rw [HP.out]; simp [hsz])
    have Hsz := hid hsz
    clear hsz
    have HI := hid hi
    have HK := hid hk
    clear hi hk
    go_enter Tryd.func26, Tryd.ntmps26
    go_wp2_with fail
    refine (isID_any id _).mono ?_
    rw [HI.out]
    rintro e w1 ⟨rfl, rfl⟩
    go_wp2_with fail
    refine (isKind_any k _).mono ?_
    rw [HK.out]
    rintro e w1 ⟨rfl, rfl⟩
    go_wp2_with fail
    refine (maySize_any ⟨id, k, ln, sz, tg, pa⟩ _).mono ?_
    rw [Hsz.out]
    rintro e w1 ⟨rfl, hb1⟩
    have HB1 := hid (HB.out.trans (hb1.mono HB.out.size))
    have HBk1 := hid (HBk.out.below hb1 HBk.out.lt)
    clear hb1 g1
    have g1 : w1.cell? ⟨0, 0, none⟩ = some (.iface 104 (.pointer (some (S 2)))) := (HS.out.on HB1.out).at_ 2 (by decide)
    go_wp2
    go_ret
    exact ⟨⟨_, rfl, HBad.out HN.out⟩, HB1.out⟩
  rcases htg : tgB ⟨id, k, ln, sz, tg, pa⟩ with _ | _
  · have HN := hid (show fitsN ⟨id, k, ln, sz, tg, pa⟩ = false from by rw [HP.out]; simp [htg])
    have Hsz := hid hsz
    have Htg := hid htg
    clear hsz htg
    have HI := hid hi
    have HK := hid hk
    clear hi hk
    go_enter Tryd.func26, Tryd.ntmps26
    go_wp2_with fail
    refine (isID_any id _).mono ?_
    rw [HI.out]
    rintro e w1 ⟨rfl, rfl⟩
    go_wp2_with fail
    refine (isKind_any k _).mono ?_
    rw [HK.out]
    rintro e w1 ⟨rfl, rfl⟩
    go_wp2_with fail
    refine (maySize_any ⟨id, k, ln, sz, tg, pa⟩ _).mono ?_
    rw [Hsz.out]
    rintro e w1 ⟨rfl, hb1⟩
    have HB1 := hid (HB.out.trans (hb1.mono HB.out.size))
    have HBk1 := hid (HBk.out.below hb1 HBk.out.lt)
    clear hb1 g1
    have b0 := HBk1.out.cell 0
    have b1 := HBk1.out.cell 1
    have b2 := HBk1.out.cell 2
    have b3 := HBk1.out.cell 3
    have b4 := HBk1.out.cell 4
    have b5 := HBk1.out.cell 5
    simp at b0 b1 b2 b3 b4 b5
    go_wp2_with fail
    refine (mayTarget_any ⟨id, k, ln, sz, tg, pa⟩ _ HE.out).mono ?_
    rw [Htg.out]
    rintro e w2 ⟨rfl, hb2⟩
    have HB2 := hid (HB1.out.trans (hb2.mono HB1.out.size))
    have HBk2 := hid (HBk1.out.below hb2 HBk1.out.lt)
    clear hb2 b0 b1 b2 b3 b4 b5
    have g1 : w2.cell? ⟨0, 0, none⟩ = some (.iface 104 (.pointer (some (S 2)))) := (HS.out.on HB2.out).at_ 2 (by decide)
    go_wp2
    go_ret
    exact ⟨⟨_, rfl, HBad.out HN.out⟩, HB2.out⟩
  rcases hpa : paB ⟨id, k, ln, sz, tg, pa⟩ with _ | _
  · have HN := hid (show fitsN ⟨id, k, ln, sz, tg, pa⟩ = false from by rw [HP.out]; simp [hpa])
    have Hsz := hid hsz
    have Htg := hid htg
    have Hpa := hid hpa
    clear hsz htg hpa
    have HI := hid hi
    have HK := hid hk
    clear hi hk
    go_enter Tryd.func26, Tryd.ntmps26
    go_wp2_with fail
    refine (isID_any id _).mono ?_
    rw [HI.out]
    rintro e w1 ⟨rfl, rfl⟩
    go_wp2_with fail
    refine (isKind_any k _).mono ?_
    rw [HK.out]
    rintro e w1 ⟨rfl, rfl⟩
    go_wp2_with fail
    refine (maySize_any ⟨id, k, ln, sz, tg, pa⟩ _).mono ?_
    rw [Hsz.out]
    rintro e w1 ⟨rfl, hb1⟩
    have HB1 := hid (HB.out.trans (hb1.mono HB.out.size))
    have HBk1 := hid (HBk.out.below hb1 HBk.out.lt)
    clear hb1 g1
    have b0 := HBk1.out.cell 0
    have b1 := HBk1.out.cell 1
    have b2 := HBk1.out.cell 2
    have b3 := HBk1.out.cell 3
    have b4 := HBk1.out.cell 4
    have b5 := HBk1.out.cell 5
    simp at b0 b1 b2 b3 b4 b5
    go_wp2_with fail
    refine (mayTarget_any ⟨id, k, ln, sz, tg, pa⟩ _ HE.out).mono ?_
    rw [Htg.out]
    rintro e w2 ⟨rfl, hb2⟩
    have HB2 := hid (HB1.out.trans (hb2.mono HB1.out.size))
    have HBk2 := hid (HBk1.out.below hb2 HBk1.out.lt)
    clear hb2 b0 b1 b2 b3 b4 b5
    have b0 := HBk2.out.cell 0
    have b1 := HBk2.out.cell 1
    have b2 := HBk2.out.cell 2
    have b3 := HBk2.out.cell 3
    have b4 := HBk2.out.cell 4
    have b5 := HBk2.out.cell 5
    simp at b0 b1 b2 b3 b4 b5
    go_wp2_with fail
    refine (mayParent_any ⟨id, k, ln, sz, tg, pa⟩ _).mono ?_
    rw [Hpa.out]
    rintro e w3 ⟨rfl, hb3⟩
    have HB3 := hid (HB2.out.trans (hb3.mono HB2.out.size))
    have HBk3 := hid (HBk2.out.below hb3 HBk2.out.lt)
    clear hb3 b0 b1 b2 b3 b4 b5
    have g1 : w3.cell? ⟨0, 0, none⟩ = some (.iface 104 (.pointer (some (S 2)))) := (HS.out.on HB3.out).at_ 2 (by decide)
    go_wp2
    go_ret
    exact ⟨⟨_, rfl, HBad.out HN.out⟩, HB3.out⟩
  have HN := hid (show fitsN ⟨id, k, ln, sz, tg, pa⟩ = true from by rw [HP.out, hsz, htg, hpa]; simp [hi, hk]; omega)
  have Hsz := hid hsz
  have Htg := hid htg
  have Hpa := hid hpa
  clear hsz htg hpa
  have HI := hid hi
  have HK := hid hk
  clear hi hk
  go_enter Tryd.func26, Tryd.ntmps26
  go_wp2_with fail
  refine (isID_any id _).mono ?_
  rw [HI.out]
  rintro e w1 ⟨rfl, rfl⟩
  go_wp2_with fail
  refine (isKind_any k _).mono ?_
  rw [HK.out]
  rintro e w1 ⟨rfl, rfl⟩
  go_wp2_with fail
  refine (maySize_any ⟨id, k, ln, sz, tg, pa⟩ _).mono ?_
  rw [Hsz.out]
  rintro e w1 ⟨rfl, hb1⟩
  have HB1 := hid (HB.out.trans (hb1.mono HB.out.size))
  have HBk1 := hid (HBk.out.below hb1 HBk.out.lt)
  clear hb1 g1
  have b0 := HBk1.out.cell 0
  have b1 := HBk1.out.cell 1
  have b2 := HBk1.out.cell 2
  have b3 := HBk1.out.cell 3
  have b4 := HBk1.out.cell 4
  have b5 := HBk1.out.cell 5
  simp at b0 b1 b2 b3 b4 b5
  go_wp2_with fail
  refine (mayTarget_any ⟨id, k, ln, sz, tg, pa⟩ _ HE.out).mono ?_
  rw [Htg.out]
  rintro e w2 ⟨rfl, hb2⟩
  have HB2 := hid (HB1.out.trans (hb2.mono HB1.out.size))
  have HBk2 := hid (HBk1.out.below hb2 HBk1.out.lt)
  clear hb2 b0 b1 b2 b3 b4 b5
  have b0 := HBk2.out.cell 0
  have b1 := HBk2.out.cell 1
  have b2 := HBk2.out.cell 2
  have b3 := HBk2.out.cell 3
  have b4 := HBk2.out.cell 4
  have b5 := HBk2.out.cell 5
  simp at b0 b1 b2 b3 b4 b5
  go_wp2_with fail
  refine (mayParent_any ⟨id, k, ln, sz, tg, pa⟩ _).mono ?_
  rw [Hpa.out]
  rintro e w3 ⟨rfl, hb3⟩
  have HB3 := hid (HB2.out.trans (hb3.mono HB2.out.size))
  have HBk3 := hid (HBk2.out.below hb3 HBk2.out.lt)
  clear hb3 b0 b1 b2 b3 b4 b5
  go_wp2
  go_ret
  exact ⟨⟨_, rfl, by rw [vldN_yes HN.out]; exact EV.fine⟩, HB3.out⟩
end Go.Proofs.YtklplmldhhlgiaaDoor
