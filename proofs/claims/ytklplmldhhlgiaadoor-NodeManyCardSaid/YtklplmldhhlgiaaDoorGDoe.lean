/- The things that a table is told, as they came in: a slice of structs with a node within, opened. -/
import Derived.Test.YtklplmldhhlgiaaDoorGRow
import Derived.Test.YtklplmldhhlgiaaDoorGNdIf
import Derived.Deep.Slices
namespace Go.Proofs.YtklplmldhhlgiaaDoor
open Go.ChangeShapes Go.WideShapes Go.ChangeAt Go.RowKit Go.Sort

/-- a thing that a table is told -/
structure Ste where
  k : Int
  n : Int
  e : Nd
instance : Inhabited Ste := ⟨⟨0, 0, ⟨0, 0, 0, 0, [], 0⟩⟩⟩
def steC (s : Ste) : List Value := [.int .i64 s.k, .int .i64 s.n, .int .i64 s.e.id, .int .i64 s.e.k, .int .i64 s.e.ln, .int .i64 s.e.sz, encStr s.e.tg, .int .i64 s.e.pa]
/-- its numbers are numbers of their kinds -/
structure SteOk (s : Ste) : Prop where
  k0 : -9223372036854775808 ≤ s.k
  k1 : s.k ≤ 9223372036854775807
  n0 : -9223372036854775808 ≤ s.n
  n1 : s.n ≤ 9223372036854775807
  a0 : -9223372036854775808 ≤ s.e.id
  a1 : s.e.id ≤ 9223372036854775807
  b0 : -9223372036854775808 ≤ s.e.k
  b1 : s.e.k ≤ 9223372036854775807
  c0 : -9223372036854775808 ≤ s.e.ln
  c1 : s.e.ln ≤ 9223372036854775807
  d0 : -9223372036854775808 ≤ s.e.sz
  d1 : s.e.sz ≤ 9223372036854775807
  t : s.e.tg.length ≤ maxLen
  p0 : -9223372036854775808 ≤ s.e.pa
  p1 : s.e.pa ≤ 9223372036854775807
/-- a slice of them in memory -/
structure Doe (w : World) (h : Nat) (A : Option Addr) (len : Nat) (T : Nat → Ste) : Prop where
  nil : A = none → len = 0
  max : len ≤ maxLen
  at_ : ∀ ad, A = some ad → ∀ i, i < len → (ad.block < h ∧ ad = ⟨ad.block, ad.off, none⟩) ∧ ∀ j, j < 8 → w.cell? ⟨ad.block, ad.off + i * 8 + j, none⟩ = (steC (T i))[j]?
  ok : ∀ i, i < len → SteOk (T i)
theorem Doe.below {w w' : World} {h len : Nat} {A : Option Addr} {T : Nat → Ste} (d : Doe w h A len T) (hb : Below h w w') : Doe w' h A len T :=
  ⟨d.nil, d.max, fun ad ha i hi => by
    obtain ⟨h1, e0⟩ := d.at_ ad ha i hi
    exact ⟨h1, fun j hj => (hb.cell (show (⟨ad.block, ad.off + i * 8 + j, none⟩ : Addr).block < h from h1.1)).trans (e0 j hj)⟩, d.ok⟩
theorem spot_none15 {W : World} {a : Addr} {v : Value} (h : W.cell? a = some v) : a = ⟨a.block, a.off, none⟩ := by
  obtain ⟨b, o, sp⟩ := a
  unfold World.cell? at h
  rcases sp with _ | sp
  · rfl
  · simp only at h
    split at h
    · simp at h
    · cases h
theorem len8e {α : Type} {l : List α} (h : l.length = 8) : ∃ a b c d e f g i, l = [a, b, c, d, e, f, g, i] := by
  match l, h with
  | [a, b, c, d, e, f, g, i], _ => exact ⟨a, b, c, d, e, f, g, i, rfl⟩
theorem len6e {α : Type} {l : List α} (h : l.length = 6) : ∃ a b c d e f, l = [a, b, c, d, e, f] := by
  match l, h with
  | [a, b, c, d, e, f], _ => exact ⟨a, b, c, d, e, f, rfl⟩
theorem len3e {α : Type} {l : List α} (h : l.length = 3) : ∃ a b c, l = [a, b, c] := by
  match l, h with
  | [a, b, c], _ => exact ⟨a, b, c, rfl⟩
set_option linter.unusedSimpArgs false in
set_option maxRecDepth 100000 in
theorem doe_of {H : Type} {enc : TypeId × Value → H} {W : World} {fuel len cap : Nat} {A : Option Addr} {x : DataW H × List MemPlace}
    (h : DataW.trod enc Tryd.prog W 0 (fun _ => true) true fuel 22 [.slice A len cap] = some x) : ∃ T, Doe W W.heap.size A len T := by
  have ce : Tryd.prog.cellsOf 32 = 8 := by kernel_rfl
  rcases Go.Deep.open_slice Tryd.underlying22 h with ⟨hcs, _⟩ | ⟨a, l, c, m, n, D, Pl, hcs, hb, hl, hm, hmm, _, hx⟩
  · simp at hcs
    obtain ⟨rfl, rfl, rfl⟩ := hcs
    exact ⟨fun _ => default, fun _ => rfl, Nat.zero_le _, fun _ h => (by cases h), fun i hi => absurd hi (Nat.not_lt_zero _)⟩
  · simp at hcs
    obtain ⟨rfl, rfl, rfl⟩ := hcs
    have hlm : len ≤ m := by rw [hmm]; simpa using hl
    have each : ∀ i, i < len → ∃ s : Ste, (∀ j, j < 8 → W.cell? (a.add (i * 8 + j)) = (steC s)[j]?) ∧ SteOk s := by
      intro i hi
      obtain ⟨cs', h1, h2⟩ := hx i (by omega)
      rw [ce] at h1
      obtain ⟨_, hlen, hcell⟩ := World.cells?_some h1
      obtain ⟨xs, k, hk, _, _, hxl, hf⟩ := DataW.trod_struct Tryd.underlying32 h2
      obtain ⟨v0, v1, v2, v3, v4, v5, v6, v7, rfl⟩ := len8e hlen
      obtain ⟨y0, y1, y2, rfl⟩ := len3e hxl
      have c3 : Tryd.prog.cellsOf 3 = 1 := by kernel_rfl
      have c64 : Tryd.prog.cellsOf 2 = 1 := by kernel_rfl
      have c9 : Tryd.prog.cellsOf 9 = 1 := by kernel_rfl
      have c29 : Tryd.prog.cellsOf 30 = 6 := by kernel_rfl
      have g0 := hf 0 _ rfl
      have g1 := hf 1 _ rfl
      have g2 := hf 2 _ rfl
      simp [c3] at g0
      simp [c3] at g1
      simp [c3, c29] at g2
      obtain ⟨zs, k2, hk2, _, _, hzl, hg⟩ := DataW.trod_struct Tryd.underlying30 g2
      obtain ⟨z0, z1, z2, z3, z4, z5, rfl⟩ := len6e hzl
      have q0 := hg 0 _ rfl
      have q1 := hg 1 _ rfl
      have q2 := hg 2 _ rfl
      have q3 := hg 3 _ rfl
      have q4 := hg 4 _ rfl
      have q5 := hg 5 _ rfl
      simp [c3] at q0
      simp [c3] at q1
      simp [c3] at q2
      simp [c3, c64] at q3
      simp [c3, c64, c9] at q4
      simp [c3, c64, c9] at q5
      obtain ⟨n0, e0, _, w0⟩ := DataW.trod_int Tryd.underlying3 g0
      obtain ⟨n1, e1, _, w1⟩ := DataW.trod_int Tryd.underlying3 g1
      obtain ⟨m0, f0, _, u0⟩ := DataW.trod_int Tryd.underlying3 q0
      obtain ⟨m1, f1, _, u1⟩ := DataW.trod_int Tryd.underlying3 q1
      obtain ⟨m2, f2, _, u2⟩ := DataW.trod_int Tryd.underlying3 q2
      obtain ⟨m3, f3, _, u3⟩ := DataW.trod_int Tryd.underlying2 q3
      obtain ⟨st, f4, _, u4⟩ := DataW.trod_string Tryd.underlying9 q4
      obtain ⟨m5, f5, _, u5⟩ := DataW.trod_int Tryd.underlying3 q5
      simp at e0 e1 f0 f1 f2 f3 f4 f5
      subst e0 e1 f0 f1 f2 f3 f4 f5
      have b0 := bounds_i64 w0
      have b1 := bounds_i64 w1
      have d0 := bounds_i64 u0
      have d1 := bounds_i64 u1
      have d2 := bounds_i64 u2
      have d3 := bounds_i64 u3
      have d5 := bounds_i64 u5
      refine ⟨⟨n0, n1, ⟨m0, m1, m2, m3, st.data.toList, m5⟩⟩, fun j hj => ?_, ⟨?_, ?_, ?_, ?_, ?_, ?_, ?_, ?_, ?_, ?_, ?_, ?_, ?_, ?_, ?_⟩⟩
      · have hc := hcell j hj
        rw [Go.Deep.add_add] at hc
        rw [hc]
        rfl
      all_goals first | (simp only []; omega) | (simpa using u4)
    obtain ⟨T, hT⟩ := Go.Deep.choose_lt each
    refine ⟨T, fun h => (by cases h), by omega, fun ad ha i hi => ?_, fun i hi => (hT i hi).2⟩
    cases ha
    have h00 := (hT 0 (by omega)).1 0 (by omega)
    have e0 : a.add (0 * 8 + 0) = a := by unfold Addr.add; simp
    rw [e0] at h00
    have hsp := spot_none15 (v := .int .i64 (T 0).k) h00
    obtain ⟨b, o, sp⟩ := a
    simp only [Addr.mk.injEq, true_and] at hsp
    subst hsp
    refine ⟨⟨World.block_lt_of_cell? W _ (u := .int .i64 (T 0).k) h00, rfl⟩, fun j hj => ?_⟩
    have h0 := (hT i hi).1 j hj
    rw [Addr.add_lit, ← Nat.add_assoc] at h0
    exact h0
end Go.Proofs.YtklplmldhhlgiaaDoor
