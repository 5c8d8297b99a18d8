/- The things that a directory is told, as they came in: a slice of structs with an entry within, opened. -/
import Derived.Test.YtcjiimfgmmgifaaDoorGRow
import Derived.Test.YtcjiimfgmmgifaaDoorGEn
import Derived.Deep.Slices
namespace Go.Proofs.YtcjiimfgmmgifaaDoor
open Go.ChangeShapes Go.WideShapes Go.ChangeAt Go.RowKit Go.Shelf Go.Sort

/-- a thing that a directory is told -/
structure Std where
  k : Int
  e : En
instance : Inhabited Std := ⟨⟨0, [], 0, 0⟩⟩
/-- its numbers are numbers of their kinds -/
structure StdOk (s : Std) : Prop where
  k0 : -9223372036854775808 ≤ s.k
  k1 : s.k ≤ 9223372036854775807
  n0 : -9223372036854775808 ≤ s.e.n
  n1 : s.e.n ≤ 9223372036854775807
  t0 : -9223372036854775808 ≤ s.e.k
  t1 : s.e.k ≤ 9223372036854775807
/-- a slice of them in memory -/
structure Dod (w : World) (h : Nat) (A : Option Addr) (len : Nat) (T : Nat → Std) : Prop where
  nil : A = none → len = 0
  max : len ≤ maxLen
  at_ : ∀ ad, A = some ad → ∀ i, i < len → (ad.block < h ∧ ad = ⟨ad.block, ad.off, none⟩) ∧ w.cell? ⟨ad.block, ad.off + i * 4, none⟩ = some (.int .i64 (T i).k) ∧ w.cell? ⟨ad.block, ad.off + i * 4 + 1, none⟩ = some (encStr (T i).e.s) ∧ w.cell? ⟨ad.block, ad.off + i * 4 + 1 + 1, none⟩ = some (.int .i64 (T i).e.n) ∧ w.cell? ⟨ad.block, ad.off + i * 4 + 1 + 2, none⟩ = some (.int .i64 (T i).e.k)
  ok : ∀ i, i < len → StdOk (T i)
theorem Dod.below {w w' : World} {h len : Nat} {A : Option Addr} {T : Nat → Std} (d : Dod w h A len T) (hb : Below h w w') : Dod w' h A len T :=
  ⟨d.nil, d.max, fun ad ha i hi => by
    obtain ⟨h1, e0, e1, e2, e3⟩ := d.at_ ad ha i hi
    have hc : ∀ j, w'.cell? ⟨ad.block, j, none⟩ = w.cell? ⟨ad.block, j, none⟩ := fun j => hb.cell (show (⟨ad.block, j, none⟩ : Addr).block < h from h1.1)
    exact ⟨h1, (hc _).trans e0, (hc _).trans e1, (hc _).trans e2, (hc _).trans e3⟩, d.ok⟩
theorem spot_none {W : World} {a : Addr} {v : Value} (h : W.cell? a = some v) : a = ⟨a.block, a.off, none⟩ := by
  obtain ⟨b, o, sp⟩ := a
  unfold World.cell? at h
  rcases sp with _ | sp
  · rfl
  · simp only at h
    split at h
    · simp at h
    · cases h
theorem len4d {α : Type} {l : List α} (h : l.length = 4) : ∃ a b c d, l = [a, b, c, d] := by
  match l, h with
  | [a, b, c, d], _ => exact ⟨a, b, c, d, rfl⟩
theorem len3d {α : Type} {l : List α} (h : l.length = 3) : ∃ a b c, l = [a, b, c] := by
  match l, h with
  | [a, b, c], _ => exact ⟨a, b, c, rfl⟩
theorem len2d {α : Type} {l : List α} (h : l.length = 2) : ∃ a b, l = [a, b] := by
  match l, h with
  | [a, b], _ => exact ⟨a, b, rfl⟩
set_option maxRecDepth 100000 in
theorem dod_of {H : Type} {enc : TypeId × Value → H} {W : World} {fuel len cap : Nat} {A : Option Addr} {x : DataW H × List MemPlace}
    (h : DataW.trod enc Tryd.prog W 0 (fun _ => true) true fuel 22 [.slice A len cap] = some x) : ∃ T, Dod W W.heap.size A len T := by
  have ce : Tryd.prog.cellsOf 31 = 4 := by kernel_rfl
  rcases Go.Deep.open_slice Tryd.underlying22 h with ⟨hcs, _⟩ | ⟨a, l, c, m, n, D, Pl, hcs, hb, hl, hm, hmm, _, hx⟩
  · simp at hcs
    obtain ⟨rfl, rfl, rfl⟩ := hcs
    exact ⟨fun _ => default, fun _ => rfl, Nat.zero_le _, fun _ h => (by cases h), fun i hi => absurd hi (Nat.not_lt_zero _)⟩
  · simp at hcs
    obtain ⟨rfl, rfl, rfl⟩ := hcs
    have hlm : len ≤ m := by rw [hmm]; simpa using hl
    have each : ∀ i, i < len → ∃ s : Std, (∀ j, j < 4 → W.cell? (a.add (i * 4 + j)) = [Value.int .i64 s.k, encStr s.e.s, .int .i64 s.e.n, .int .i64 s.e.k][j]?) ∧ StdOk s := by
      intro i hi
      obtain ⟨cs', h1, h2⟩ := hx i (by omega)
      rw [ce] at h1
      obtain ⟨_, hlen, hcell⟩ := World.cells?_some h1
      obtain ⟨xs, k, hk, _, _, hxl, hf⟩ := DataW.trod_struct Tryd.underlying31 h2
      obtain ⟨v0, v1, v2, v3, rfl⟩ := len4d hlen
      obtain ⟨y0, y1, rfl⟩ := len2d hxl
      have c3 : Tryd.prog.cellsOf 3 = 1 := by kernel_rfl
      have c9 : Tryd.prog.cellsOf 9 = 1 := by kernel_rfl
      have c29 : Tryd.prog.cellsOf 29 = 3 := by kernel_rfl
      have g0 := hf 0 _ rfl
      have g1 := hf 1 _ rfl
      simp [c3] at g0
      simp [c29] at g1
      obtain ⟨zs, k2, hk2, _, _, hzl, hg⟩ := DataW.trod_struct Tryd.underlying29 g1
      obtain ⟨z0, z1, z2, rfl⟩ := len3d hzl
      have q0 := hg 0 _ rfl
      have q1 := hg 1 _ rfl
      have q2 := hg 2 _ rfl
      simp [c9] at q0
      simp [c3] at q1
      simp [c3] at q2
      obtain ⟨n0, e0, _, w0⟩ := DataW.trod_int Tryd.underlying3 g0
      obtain ⟨n1, e1, _, w1⟩ := DataW.trod_int Tryd.underlying3 q1
      obtain ⟨n2, e2, _, w2⟩ := DataW.trod_int Tryd.underlying3 q2
      obtain ⟨st, e3, _, w3⟩ := DataW.trod_string Tryd.underlying9 q0
      simp at e0 e1 e2 e3
      subst e0 e1 e2 e3
      have b0 := bounds_i64 w0
      have b1 := bounds_i64 w1
      have b2 := bounds_i64 w2
      refine ⟨⟨n0, st.data.toList, n1, n2⟩, fun j hj => ?_, ⟨?_, ?_, ?_, ?_, ?_, ?_⟩⟩
      · have hc := hcell j hj
        rw [Go.Deep.add_add] at hc
        rw [hc]
      all_goals (simp only []; omega)
    obtain ⟨T, hT⟩ := Go.Deep.choose_lt each
    refine ⟨T, fun h => (by cases h), by omega, fun ad ha i hi => ?_, fun i hi => (hT i hi).2⟩
    cases ha
    have h00 := (hT 0 (by omega)).1 0 (by omega)
    have e0 : a.add (0 * 4 + 0) = a := by unfold Addr.add; simp
    rw [e0] at h00
    have hsp := spot_none h00
    obtain ⟨b, o, sp⟩ := a
    simp only [Addr.mk.injEq, true_and] at hsp
    subst hsp
    have h0 := (hT i hi).1 0 (by omega)
    have h1 := (hT i hi).1 1 (by omega)
    have h2 := (hT i hi).1 2 (by omega)
    have h3 := (hT i hi).1 3 (by omega)
    rw [Addr.add_lit] at h0 h1 h2 h3
    exact ⟨⟨World.block_lt_of_cell? W _ h00, rfl⟩, h0, h1, h2, h3⟩
end Go.Proofs.YtcjiimfgmmgifaaDoor
