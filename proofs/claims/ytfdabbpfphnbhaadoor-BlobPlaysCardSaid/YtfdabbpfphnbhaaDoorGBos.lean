/- The things that an area is told, as they came in: a slice of structs with slices within, opened. -/
import Derived.Test.YtfdabbpfphnbhaaDoorGRow
import Derived.Test.YtfdabbpfphnbhaaDoorGBlIf
import Derived.Deep.Slices
namespace Go.Proofs.YtfdabbpfphnbhaaDoor
open Go.ChangeShapes Go.WideShapes Go.ChangeAt Go.RowKit

/-- a thing that an area is told -/
structure Stb where
  k : Int
  n : Int
  t : Int
  z : Nat
  B : Option Addr
  nB : Nat
  cB : Nat
  lB : List Int
instance : Inhabited Stb := ⟨⟨0, 0, 0, 0, none, 0, 0, []⟩⟩
def Stb.cell (s : Stb) : Nat → Option Value
  | 0 => some (.int .i64 s.k)
  | 1 => some (.int .i64 s.n)
  | 2 => some (.int .i64 s.t)
  | 3 => some (.int .u32 (s.z : Int))
  | 4 => some (.slice s.B s.nB s.cB)
  | _ => none
/-- its numbers are numbers of their kinds, its bytes can be read -/
structure StbOk (w : World) (h : Nat) (s : Stb) : Prop where
  k0 : -9223372036854775808 ≤ s.k
  k1 : s.k ≤ 9223372036854775807
  n0 : -9223372036854775808 ≤ s.n
  n1 : s.n ≤ 9223372036854775807
  t0 : -9223372036854775808 ≤ s.t
  t1 : s.t ≤ 9223372036854775807
  z : s.z < 4294967296
  hB : Sl w h s.B s.nB s.cB s.lB
  yB : Byt s.lB
/-- a slice of them in memory -/
structure Dob (w : World) (h : Nat) (A : Option Addr) (len : Nat) (T : Nat → Stb) : Prop where
  nil : A = none → len = 0
  max : len ≤ maxLen
  lt : ∀ ad, A = some ad → 0 < len → ad.block < h
  at_ : ∀ ad, A = some ad → ∀ i, i < len → ∀ j, j < 5 → w.cell? (ad.add (i * 5 + j)) = (T i).cell j
  ok : ∀ i, i < len → StbOk w h (T i)
theorem StbOk.below {w w' : World} {h : Nat} {s : Stb} (o : StbOk w h s) (hb : Below h w w') : StbOk w' h s :=
  { o with hB := o.hB.below hb }
theorem Dob.below {w w' : World} {h len : Nat} {A : Option Addr} {T : Nat → Stb} (d : Dob w h A len T) (hb : Below h w w') : Dob w' h A len T :=
  { d with
    at_ := fun ad ha i hi j hj => (hb.cell (by rw [add_block]; exact d.lt ad ha (by omega))).trans (d.at_ ad ha i hi j hj)
    ok := fun i hi => (d.ok i hi).below hb }
theorem row_ob {H : Type} {enc : TypeId × Value → H} {W : World} {k : IntKind} {t e fuel : Nat} {v : Value} {x : DataW H × List MemPlace} (ht : Tryd.prog.underlying t = some (.slice e)) (he : Tryd.prog.underlying e = some (.int k)) (hc : Tryd.prog.cellsOf e = 1)
    (h : DataW.trod enc Tryd.prog W 0 (fun _ => true) true fuel t [v] = some x) : ∃ a len cap zs, v = .slice a len cap ∧ IsRow k W a len cap zs := by
  rcases open_ints ht he hc h with ⟨hcs, _⟩ | ⟨a, l, c, zs, hcs, _, hl, hm, hz, _, hcell, hwz⟩
  · simp at hcs
    exact ⟨none, 0, 0, [], hcs, .inl ⟨rfl, rfl, rfl, rfl⟩⟩
  · simp at hcs
    exact ⟨some a, l, c, zs, hcs, .inr ⟨_, rfl, hl, hm, by simpa using hz, hcell, hwz⟩⟩
theorem len5b {α : Type} {l : List α} (h : l.length = 5) : ∃ a b c d e, l = [a, b, c, d, e] := by
  match l, h with
  | [a, b, c, d, e], _ => exact ⟨a, b, c, d, e, rfl⟩
theorem stb_cells {s : Stb} {j : Nat} (hj : j < 5) : s.cell j = [Value.int .i64 s.k, .int .i64 s.n, .int .i64 s.t, .int .u32 (s.z : Int), .slice s.B s.nB s.cB][j]? := by
  match j, hj with
  | 0, _ => rfl
  | 1, _ => rfl
  | 2, _ => rfl
  | 3, _ => rfl
  | 4, _ => rfl
set_option maxRecDepth 100000 in
theorem dob_of {H : Type} {enc : TypeId × Value → H} {W : World} {fuel len cap : Nat} {A : Option Addr} {x : DataW H × List MemPlace}
    (h : DataW.trod enc Tryd.prog W 0 (fun _ => true) true fuel 22 [.slice A len cap] = some x) : ∃ T, Dob W W.heap.size A len T := by
  have ce : Tryd.prog.cellsOf 33 = 5 := by kernel_rfl
  rcases Go.Deep.open_slice Tryd.underlying22 h with ⟨hcs, _⟩ | ⟨a, l, c, m, n, D, Pl, hcs, hb, hl, hm, hmm, _, hx⟩
  · simp at hcs
    obtain ⟨rfl, rfl, rfl⟩ := hcs
    exact ⟨fun _ => default, fun _ => rfl, Nat.zero_le _, fun _ h => (by cases h), fun _ h => (by cases h), fun i hi => absurd hi (Nat.not_lt_zero _)⟩
  · simp at hcs
    obtain ⟨rfl, rfl, rfl⟩ := hcs
    have hlm : len ≤ m := by rw [hmm]; simpa using hl
    have each : ∀ i, i < len → ∃ s : Stb, (∀ j, j < 5 → W.cell? (a.add (i * 5 + j)) = s.cell j) ∧ StbOk W W.heap.size s := by
      intro i hi
      obtain ⟨cs', h1, h2⟩ := hx i (by omega)
      rw [ce] at h1
      obtain ⟨_, hlen, hcell⟩ := World.cells?_some h1
      obtain ⟨xs, k, hk, _, _, hxl, hf⟩ := DataW.trod_struct Tryd.underlying33 h2
      obtain ⟨v0, v1, v2, v3, v4, rfl⟩ := len5b hlen
      obtain ⟨y0, y1, y2, y3, y4, rfl⟩ := len5b hxl
      have c3 : Tryd.prog.cellsOf 3 = 1 := by kernel_rfl
      have c5 : Tryd.prog.cellsOf 5 = 1 := by kernel_rfl
      have c32 : Tryd.prog.cellsOf 30 = 1 := by kernel_rfl
      have c33 : Tryd.prog.cellsOf 31 = 1 := by kernel_rfl
      have g0 := hf 0 _ rfl
      have g1 := hf 1 _ rfl
      have g2 := hf 2 _ rfl
      have g4 := hf 3 _ rfl
      have g5 := hf 4 _ rfl
      simp [c3] at g0 g1 g2
      simp [c32] at g4
      simp [c33] at g5
      obtain ⟨n0, e0, _, w0⟩ := DataW.trod_int Tryd.underlying3 g0
      obtain ⟨n1, e1, _, w1⟩ := DataW.trod_int Tryd.underlying3 g1
      obtain ⟨n2, e2, _, w2⟩ := DataW.trod_int Tryd.underlying3 g2
      obtain ⟨n4, e4, _, w4⟩ := DataW.trod_int Tryd.underlying30 g4
      obtain ⟨a5, l5, p5, z5, e5, r5⟩ := row_ob Tryd.underlying31 Tryd.underlying5 c5 g5
      simp at e0 e1 e2 e4
      subst e0 e1 e2 e4 e5
      have b0 := bounds_i64 w0
      have b1 := bounds_i64 w1
      have b2 := bounds_i64 w2
      have b4 := bounds_u32 w4
      obtain ⟨m4, rfl⟩ : ∃ m4 : Nat, n4 = (m4 : Int) := ⟨n4.toNat, by omega⟩
      refine ⟨⟨n0, n1, n2, m4, a5, l5, p5, z5.take l5⟩, fun j hj => ?_, ⟨?_, ?_, ?_, ?_, ?_, ?_, ?_, sl_of_row r5, byt_of_row r5⟩⟩
      · have hc := hcell j hj
        rw [Go.Deep.add_add] at hc
        rw [hc]
        exact (stb_cells (s := ⟨n0, n1, n2, m4, a5, l5, p5, z5.take l5⟩) hj).symm
      all_goals (simp only []; omega)
    obtain ⟨T, hT⟩ := Go.Deep.choose_lt each
    refine ⟨T, fun h => (by cases h), by omega, fun ad ha h0 => ?_, fun ad ha i hi => ?_, fun i hi => (hT i hi).2⟩
    · cases ha
      have := (hT 0 h0).1 0 (by omega)
      exact (by have := World.block_lt_of_cell? W _ this; rwa [add_block] at this)
    · cases ha
      exact (hT i hi).1
end Go.Proofs.YtfdabbpfphnbhaaDoor
