/- The steps of a play with pairs that came in: a slice of structs with a slice within, opened. -/
import Derived.Test.YtomhmodgfldlpaaDoorGRow
import Derived.Deep.Slices
namespace Go.Proofs.YtomhmodgfldlpaaDoor
open Go.ChangeShapes Go.WideShapes Go.ChangeAt Go.RowKit

/-- a step of the play -/
structure Ptp where
  k : Int
  n : Int
  t : Int
  z : Nat
  B : Option Addr
  nB : Nat
  cB : Nat
  lB : List Int
instance : Inhabited Ptp := ⟨⟨0, 0, 0, 0, none, 0, 0, []⟩⟩
def Ptp.cell (s : Ptp) : Nat → Option Value
  | 0 => some (.int .i64 s.k)
  | 1 => some (.int .i64 s.n)
  | 2 => some (.int .i64 s.t)
  | 3 => some (.int .u32 (s.z : Int))
  | 4 => some (.slice s.B s.nB s.cB)
  | _ => none
/-- the step's numbers are numbers of their kinds, its slices can be read -/
structure PtpOk (w : World) (h : Nat) (s : Ptp) : Prop where
  k0 : -9223372036854775808 ≤ s.k
  k1 : s.k ≤ 9223372036854775807
  n0 : -9223372036854775808 ≤ s.n
  n1 : s.n ≤ 9223372036854775807
  t0 : -9223372036854775808 ≤ s.t
  t1 : s.t ≤ 9223372036854775807
  z : s.z < 4294967296
  hB : Sl w h s.B s.nB s.cB s.lB
  yB : Byt s.lB
/-- a slice of steps in memory -/
structure Pos (w : World) (h : Nat) (A : Option Addr) (len : Nat) (T : Nat → Ptp) : Prop where
  nil : A = none → len = 0
  max : len ≤ maxLen
  lt : ∀ ad, A = some ad → 0 < len → ad.block < h
  at_ : ∀ ad, A = some ad → ∀ i, i < len → ∀ j, j < 5 → w.cell? (ad.add (i * 5 + j)) = (T i).cell j
  ok : ∀ i, i < len → PtpOk w h (T i)
theorem PtpOk.below {w w' : World} {h : Nat} {s : Ptp} (o : PtpOk w h s) (hb : Below h w w') : PtpOk w' h s :=
  { o with hB := o.hB.below hb }
theorem Pos.below {w w' : World} {h len : Nat} {A : Option Addr} {T : Nat → Ptp} (d : Pos w h A len T) (hb : Below h w w') : Pos w' h A len T :=
  { d with
    at_ := fun ad ha i hi j hj => (hb.cell (by rw [add_block]; exact d.lt ad ha (by omega))).trans (d.at_ ad ha i hi j hj)
    ok := fun i hi => (d.ok i hi).below hb }
theorem rowP_of {H : Type} {enc : TypeId × Value → H} {W : World} {k : IntKind} {t e fuel : Nat} {v : Value} {x : DataW H × List MemPlace} (ht : Tryd.prog.underlying t = some (.slice e)) (he : Tryd.prog.underlying e = some (.int k)) (hc : Tryd.prog.cellsOf e = 1)
    (h : DataW.trod enc Tryd.prog W 0 (fun _ => true) true fuel t [v] = some x) : ∃ a len cap zs, v = .slice a len cap ∧ IsRow k W a len cap zs := by
  rcases open_ints ht he hc h with ⟨hcs, _⟩ | ⟨a, l, c, zs, hcs, _, hl, hm, hz, _, hcell, hwz⟩
  · simp at hcs
    exact ⟨none, 0, 0, [], hcs, .inl ⟨rfl, rfl, rfl, rfl⟩⟩
  · simp at hcs
    exact ⟨some a, l, c, zs, hcs, .inr ⟨_, rfl, hl, hm, by simpa using hz, hcell, hwz⟩⟩
theorem len5 {α : Type} {l : List α} (h : l.length = 5) : ∃ a b c d e, l = [a, b, c, d, e] := by
  match l, h with
  | [a, b, c, d, e], _ => exact ⟨a, b, c, d, e, rfl⟩
theorem ptp_cells {s : Ptp} {j : Nat} (hj : j < 5) : s.cell j = [Value.int .i64 s.k, .int .i64 s.n, .int .i64 s.t, .int .u32 (s.z : Int), .slice s.B s.nB s.cB][j]? := by
  match j, hj with
  | 0, _ => rfl
  | 1, _ => rfl
  | 2, _ => rfl
  | 3, _ => rfl
  | 4, _ => rfl
set_option maxRecDepth 100000 in
theorem pos_of {H : Type} {enc : TypeId × Value → H} {W : World} {fuel len cap : Nat} {A : Option Addr} {x : DataW H × List MemPlace}
    (h : DataW.trod enc Tryd.prog W 0 (fun _ => true) true fuel 22 [.slice A len cap] = some x) : ∃ T, Pos W W.heap.size A len T := by
  have ce : Tryd.prog.cellsOf 35 = 5 := by kernel_rfl
  rcases Go.Deep.open_slice Tryd.underlying22 h with ⟨hcs, _⟩ | ⟨a, l, c, m, n, D, Pl, hcs, hb, hl, hm, hmm, _, hx⟩
  · simp at hcs
    obtain ⟨rfl, rfl, rfl⟩ := hcs
    exact ⟨fun _ => default, fun _ => rfl, Nat.zero_le _, fun _ h => (by cases h), fun _ h => (by cases h), fun i hi => absurd hi (Nat.not_lt_zero _)⟩
  · simp at hcs
    obtain ⟨rfl, rfl, rfl⟩ := hcs
    have hlm : len ≤ m := by rw [hmm]; simpa using hl
    have each : ∀ i, i < len → ∃ s : Ptp, (∀ j, j < 5 → W.cell? (a.add (i * 5 + j)) = s.cell j) ∧ PtpOk W W.heap.size s := by
      intro i hi
      obtain ⟨cs', h1, h2⟩ := hx i (by omega)
      rw [ce] at h1
      obtain ⟨_, hlen, hcell⟩ := World.cells?_some h1
      obtain ⟨xs, k, hk, _, _, hxl, hf⟩ := DataW.trod_struct Tryd.underlying35 h2
      obtain ⟨v0, v1, v2, v3, v4, rfl⟩ := len5 hlen
      obtain ⟨y0, y1, y2, y3, y4, rfl⟩ := len5 hxl
      have c3 : Tryd.prog.cellsOf 3 = 1 := by kernel_rfl
      have c5 : Tryd.prog.cellsOf 5 = 1 := by kernel_rfl
      have c32 : Tryd.prog.cellsOf 30 = 1 := by kernel_rfl
      have c33 : Tryd.prog.cellsOf 28 = 1 := by kernel_rfl
      have g0 := hf 0 _ rfl
      have g1 := hf 1 _ rfl
      have g2 := hf 2 _ rfl
      have g3 := hf 3 _ rfl
      have g4 := hf 4 _ rfl
      simp [c3] at g0 g1 g2
      simp [c32] at g3
      simp [c33] at g4
      obtain ⟨n0, e0, _, w0⟩ := DataW.trod_int Tryd.underlying3 g0
      obtain ⟨n1, e1, _, w1⟩ := DataW.trod_int Tryd.underlying3 g1
      obtain ⟨n2, e2, _, w2⟩ := DataW.trod_int Tryd.underlying3 g2
      obtain ⟨n3, e3, _, w3⟩ := DataW.trod_int Tryd.underlying30 g3
      obtain ⟨a4, l4, p4, z4, e4, r4⟩ := rowP_of Tryd.underlying28 Tryd.underlying5 c5 g4
      simp at e0 e1 e2 e3
      subst e0 e1 e2 e3 e4
      have b0 := bounds_i64 w0
      have b1 := bounds_i64 w1
      have b2 := bounds_i64 w2
      have b3 := bounds_u32 w3
      obtain ⟨m3, rfl⟩ : ∃ m3 : Nat, n3 = (m3 : Int) := ⟨n3.toNat, by omega⟩
      refine ⟨⟨n0, n1, n2, m3, a4, l4, p4, z4.take l4⟩, fun j hj => ?_, ⟨?_, ?_, ?_, ?_, ?_, ?_, ?_, sl_of_row r4, byt_of_row r4⟩⟩
      · have hc := hcell j hj
        rw [Go.Deep.add_add] at hc
        rw [hc]
        exact (ptp_cells (s := ⟨n0, n1, n2, m3, a4, l4, p4, z4.take l4⟩) hj).symm
      all_goals (simp only []; omega)
    obtain ⟨T, hT⟩ := Go.Deep.choose_lt each
    refine ⟨T, fun h => (by cases h), by omega, fun ad ha h0 => ?_, fun ad ha i hi => ?_, fun i hi => (hT i hi).2⟩
    · cases ha
      have := (hT 0 h0).1 0 (by omega)
      exact (by have := World.block_lt_of_cell? W _ this; rwa [add_block] at this)
    · cases ha
      exact (hT i hi).1
end Go.Proofs.YtomhmodgfldlpaaDoor
