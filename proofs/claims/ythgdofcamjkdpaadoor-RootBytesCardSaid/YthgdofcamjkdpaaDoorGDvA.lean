/- Package dev's device in memory; its small calls. -/
import Derived.Test.YthgdofcamjkdpaaDoorProg
import Derived.Shelf.SlIterI.Nil
import Derived.Shelf.SortM.Plain
import Derived.Shelf.SortM.SortNone
import Derived.Shelf.SlMaps.Clone
import Derived.Test.YthgdofcamjkdpaaDoorGBase
import Derived.Test.YthgdofcamjkdpaaDoorGDevIf
import Derived.Maps.OwnSet
import Derived.Maps.RangeWalk
namespace Go.Proofs.YthgdofcamjkdpaaDoor
open Go.RowKit Go.Maps Go.Sort Go.Shelf

def Tryd.keysA_ren : Go.Shelf.Ren := ⟨fun | 7 => 33 | 10 => 51 | n => n, fun | 23 => 70 | 26 => 3 | 3 => 67 | 28 => 82 | 0 => 0 | 27 => 81 | 33 => 111 | 4 => 4 | n => n, fun | n => n⟩
theorem Tryd.keysA : Go.Proofs.SlLaysZI.n7 Tryd.prog Tryd.keysA_ren := {
    mixed := by kernel_rfl,
    f7 := ⟨Tryd.f33.name, by decide, Tryd.func33.trans (congrArg some (by kernel_rfl))⟩,
    f10 := ⟨Tryd.f51.name, by decide, Tryd.func51.trans (congrArg some (by kernel_rfl))⟩,
    t0 := Tryd.underlying0,
    a0 := Tryd.isAgg0,
    z0 := Tryd.sizeOf0,
    v0 := Tryd.zeroValue0,
    t4 := Tryd.underlying4,
    a4 := Tryd.isAgg4,
    z4 := Tryd.sizeOf4,
    v4 := Tryd.zeroValue4,
    t23 := Tryd.underlying70,
    a23 := Tryd.isAgg70,
    z23 := Tryd.sizeOf70,
    v23 := Tryd.zeroValue70,
    t26 := Tryd.underlying3,
    a26 := Tryd.isAgg3,
    z26 := Tryd.sizeOf3,
    v26 := Tryd.zeroValue3,
    t27 := Tryd.underlying81,
    a27 := Tryd.isAgg81,
    z27 := Tryd.sizeOf81,
    v27 := Tryd.zeroValue81,
    t28 := Tryd.underlying82,
    a28 := Tryd.isAgg82,
    z28 := Tryd.sizeOf82,
    v28 := Tryd.zeroValue82,
    t33 := Tryd.underlying111,
    a33 := Tryd.isAgg111,
    z33 := Tryd.sizeOf111,
    v33 := Tryd.zeroValue111 }
def Tryd.sortedA_ren : Go.Shelf.Ren := ⟨fun | 6 => 32 | 8 => 49 | 9 => 50 | 11 => 62 | 13 => 64 | 12 => 63 | 23 => 78 | 24 => 79 | 14 => 69 | 15 => 70 | 16 => 71 | 17 => 72 | 18 => 73 | 19 => 74 | 20 => 75 | 21 => 76 | 22 => 77 | 25 => 80 | 26 => 81 | 27 => 82 | 28 => 83 | 29 => 84 | 30 => 85 | 31 => 86 | n => n, fun | 26 => 3 | 28 => 82 | 24 => 22 | 0 => 0 | 3 => 3 | 37 => 96 | 48 => 54 | 50 => 124 | 4 => 4 | 40 => 140 | 39 => 139 | 45 => 112 | 5 => 5 | 9 => 9 | 51 => 148 | 55 => 152 | 57 => 154 | 58 => 155 | 33 => 111 | n => n, fun | n => n⟩
theorem Tryd.sortedA : Go.Proofs.SlLaysZI.n6 Tryd.prog Tryd.sortedA_ren := {
    mixed := by kernel_rfl,
    f6 := ⟨Tryd.f32.name, by decide, Tryd.func32.trans (congrArg some (by kernel_rfl))⟩,
    f8 := ⟨Tryd.f49.name, by decide, Tryd.func49.trans (congrArg some (by kernel_rfl))⟩,
    f11 := ⟨Tryd.f62.name, by decide, Tryd.func62.trans (congrArg some (by kernel_rfl))⟩,
    t0 := Tryd.underlying0,
    a0 := Tryd.isAgg0,
    z0 := Tryd.sizeOf0,
    v0 := Tryd.zeroValue0,
    t24 := Tryd.underlying22,
    a24 := Tryd.isAgg22,
    z24 := Tryd.sizeOf22,
    v24 := Tryd.zeroValue22,
    t26 := Tryd.underlying3,
    a26 := Tryd.isAgg3,
    z26 := Tryd.sizeOf3,
    v26 := Tryd.zeroValue3,
    t28 := Tryd.underlying82,
    a28 := Tryd.isAgg82,
    z28 := Tryd.sizeOf82,
    v28 := Tryd.zeroValue82,
    i26 := by kernel_rfl }
def Tryd.sortA_ren : Go.Shelf.Ren := ⟨fun | 5 => 50 | 8 => 64 | 7 => 63 | 19 => 78 | 20 => 79 | 10 => 69 | 11 => 70 | 12 => 71 | 13 => 72 | 14 => 73 | 15 => 74 | 16 => 75 | 17 => 76 | 18 => 77 | 30 => 80 | 31 => 81 | 32 => 82 | 33 => 83 | 34 => 84 | 35 => 85 | 40 => 86 | n => n, fun | 23 => 22 | 25 => 3 | 3 => 3 | 32 => 96 | 22 => 22 | 0 => 0 | 44 => 54 | 46 => 124 | 4 => 4 | 36 => 140 | 35 => 139 | 41 => 112 | 5 => 5 | 9 => 9 | 53 => 148 | 57 => 152 | 63 => 154 | 64 => 155 | n => n, fun | n => n⟩
theorem Tryd.sortA : Go.Proofs.SlLaysM.n5 Tryd.prog Tryd.sortA_ren := {
    mixed := by kernel_rfl,
    f5 := ⟨Tryd.f50.name, by decide, Tryd.func50.trans (congrArg some (by kernel_rfl))⟩,
    f7 := ⟨Tryd.f63.name, by decide, Tryd.func63.trans (congrArg some (by kernel_rfl))⟩,
    f8 := Tryd.func64.trans (congrArg some (by kernel_rfl)),
    f10 := ⟨Tryd.f69.name, by decide, Tryd.func69.trans (congrArg some (by kernel_rfl))⟩,
    f11 := ⟨Tryd.f70.name, by decide, Tryd.func70.trans (congrArg some (by kernel_rfl))⟩,
    f12 := ⟨Tryd.f71.name, by decide, Tryd.func71.trans (congrArg some (by kernel_rfl))⟩,
    f13 := ⟨Tryd.f72.name, by decide, Tryd.func72.trans (congrArg some (by kernel_rfl))⟩,
    f14 := ⟨Tryd.f73.name, by decide, Tryd.func73.trans (congrArg some (by kernel_rfl))⟩,
    f15 := ⟨Tryd.f74.name, by decide, Tryd.func74.trans (congrArg some (by kernel_rfl))⟩,
    f16 := ⟨Tryd.f75.name, by decide, Tryd.func75.trans (congrArg some (by kernel_rfl))⟩,
    f17 := ⟨Tryd.f76.name, by decide, Tryd.func76.trans (congrArg some (by kernel_rfl))⟩,
    f18 := ⟨Tryd.f77.name, by decide, Tryd.func77.trans (congrArg some (by kernel_rfl))⟩,
    f19 := Tryd.func78.trans (congrArg some (by kernel_rfl)),
    f20 := Tryd.func79.trans (congrArg some (by kernel_rfl)),
    f30 := ⟨Tryd.f80.name, by decide, Tryd.func80.trans (congrArg some (by kernel_rfl))⟩,
    f31 := Tryd.func81.trans (congrArg some (by kernel_rfl)),
    f32 := Tryd.func82.trans (congrArg some (by kernel_rfl)),
    f33 := ⟨Tryd.f83.name, by decide, Tryd.func83.trans (congrArg some (by kernel_rfl))⟩,
    f34 := ⟨Tryd.f84.name, by decide, Tryd.func84.trans (congrArg some (by kernel_rfl))⟩,
    f35 := ⟨Tryd.f85.name, by decide, Tryd.func85.trans (congrArg some (by kernel_rfl))⟩,
    f40 := ⟨Tryd.f86.name, by decide, Tryd.func86.trans (congrArg some (by kernel_rfl))⟩,
    t0 := Tryd.underlying0,
    a0 := Tryd.isAgg0,
    z0 := Tryd.sizeOf0,
    v0 := Tryd.zeroValue0,
    t3 := Tryd.underlying3,
    a3 := Tryd.isAgg3,
    z3 := Tryd.sizeOf3,
    v3 := Tryd.zeroValue3,
    t4 := Tryd.underlying4,
    a4 := Tryd.isAgg4,
    z4 := Tryd.sizeOf4,
    v4 := Tryd.zeroValue4,
    t5 := Tryd.underlying5,
    a5 := Tryd.isAgg5,
    z5 := Tryd.sizeOf5,
    v5 := Tryd.zeroValue5,
    t9 := Tryd.underlying9,
    a9 := Tryd.isAgg9,
    z9 := Tryd.sizeOf9,
    v9 := Tryd.zeroValue9,
    t22 := Tryd.underlying22,
    a22 := Tryd.isAgg22,
    z22 := Tryd.sizeOf22,
    v22 := Tryd.zeroValue22,
    t23 := Tryd.underlying22,
    a23 := Tryd.isAgg22,
    z23 := Tryd.sizeOf22,
    v23 := Tryd.zeroValue22,
    t25 := Tryd.underlying3,
    a25 := Tryd.isAgg3,
    z25 := Tryd.sizeOf3,
    v25 := Tryd.zeroValue3,
    t32 := Tryd.underlying96,
    a32 := Tryd.isAgg96,
    z32 := Tryd.sizeOf96,
    v32 := Tryd.zeroValue96,
    t35 := Tryd.underlying139,
    a35 := Tryd.isAgg139,
    z35 := Tryd.sizeOf139,
    v35 := Tryd.zeroValue139,
    t36 := Tryd.underlying140,
    a36 := Tryd.isAgg140,
    z36 := Tryd.sizeOf140,
    v36 := Tryd.zeroValue140,
    t41 := Tryd.underlying112,
    a41 := Tryd.isAgg112,
    z41 := Tryd.sizeOf112,
    v41 := Tryd.zeroValue112,
    t44 := Tryd.underlying54,
    a44 := Tryd.isAgg54,
    z44 := Tryd.sizeOf54,
    v44 := Tryd.zeroValue54,
    t46 := Tryd.underlying124,
    a46 := Tryd.isAgg124,
    z46 := Tryd.sizeOf124,
    v46 := Tryd.zeroValue124,
    t53 := Tryd.underlying148,
    a53 := Tryd.isAgg148,
    z53 := Tryd.sizeOf148,
    v53 := Tryd.zeroValue148,
    t57 := Tryd.underlying152,
    a57 := Tryd.isAgg152,
    z57 := Tryd.sizeOf152,
    v57 := Tryd.zeroValue152,
    t63 := Tryd.underlying154,
    a63 := Tryd.isAgg154,
    z63 := Tryd.sizeOf154,
    v63 := Tryd.zeroValue154,
    t64 := Tryd.underlying155,
    a64 := Tryd.isAgg155,
    z64 := Tryd.sizeOf155,
    v64 := Tryd.zeroValue155 }
end Go.Proofs.YthgdofcamjkdpaaDoor
namespace Go.Proofs.YthgdofcamjkdpaaDoor
open Go.RowKit Go.Maps Go.Sort Go.Shelf

theorem keys_any (mb : Option Nat) (w : World) : Calls Tryd.prog 33 #[.map mb] w fun e w' => e = .returned (.func (.func 51) #[] #[.pointer (some ⟨w.heap.size, 0, none⟩)]) ∧ w' = w.alloc (.cells #[.map mb] 70) :=
  (callsIn_wide (n := 6)).1 (AnyZI.keys_in Tryd.keysA Fence.wide 6 trivial rfl mb w)
theorem sortsA (m : Nat) : AnyZI.SortsIn Tryd.prog Tryd.sortedA_ren Fence.wide m :=
  ⟨fun blk off cap ss W hH hblk hsz => callsIn_wide.2 (AnyM.slices_Sort_int Tryd.sortA blk off cap ss W hH hblk hsz),
   fun p cap W => callsIn_wide.2 (AnyM.slices_Sort_int_none Tryd.sortA p cap W)⟩
/-- a new slice of the keys, rising -/
def SortedKeys {H : Type} (D : DataW H) (w : World) (e : Ending) (w' : World) : Prop := ∃ (v : Value) (ss : List Int), e = .returned v ∧ ss.Perm (intKeys D) ∧ OwnN w' w.heap.size v (ss.mergeSort (fun x y => decide (x ≤ y))) ∧ Below w.heap.size w w'
set_option maxHeartbeats 1000000 in
theorem sorted_any {H : Type} (g b nn : Nat) (D : DataW H) (R : Value → Option (DataW H × List MemPlace)) (w : World) (hg : w.cell? ⟨g, 0, none⟩ = some (.map (some b))) (hown : w.ownsMap Tryd.prog 3 R b nn D) (hmax : Maps.size D ≤ 100000) :
    Calls Tryd.prog 32 #[.func (.func 51) #[] #[.pointer (some ⟨g, 0, none⟩)]] w (SortedKeys D w) := by
  refine (callsIn_wide (n := 6)).1 ?_
  have hseq : SeqGives Fence.wide (6 - 1 - 1 - 1) Tryd.prog 51 #[.pointer (some ⟨g, 0, none⟩)] encZ (fun ss => ss.Perm (intKeys D)) (Maps.size D) w :=
    AnyZI.keys_gives (ρ := Tryd.keysA_ren) { Tryd.keysA with } Fence.wide _ trivial rfl (by omega) g b nn D w (World.block_lt_of_cell? w _ hg) hg hown
  refine (AnyZI.sorted_in Tryd.sortedA Fence.wide 6 trivial trivial trivial trivial rfl (by omega) (sortsA _) (enters_of Tryd.func50 (by kernel_rfl) rfl) 51 #[.pointer (some ⟨g, 0, none⟩)] trivial (enters_of Tryd.func51 (by kernel_rfl) rfl) _ (Maps.size D) (by unfold maxLen; omega) (by omega) w hseq).mono ?_
  rintro e w' ⟨v, ss, he, hp, hr, _, hb⟩
  refine ⟨v, ss, he, hp, ?_, hb⟩
  unfold OwnN
  rw [List.length_mergeSort]
  exact hr
end Go.Proofs.YthgdofcamjkdpaaDoor
namespace Go.Proofs.YthgdofcamjkdpaaDoor
open Go.RowKit Go.Maps

/-- a block's three cells -/
def faultN (x : BSt) : Int := if x.fail = true then 2 else if x.fault = true then 1 else 0
def cells3 (x : BSt) : List Value := [.string (strOfNums x.has), .int .i8 (faultN x), .bool x.ever]
def cellsOf (l : List BSt) : List Value := l.flatMap cells3
theorem cellsOf_len (l : List BSt) : (cellsOf l).length = l.length * 3 := by
  induction l with
  | nil => rfl
  | cons x l ih => simp only [cellsOf, List.flatMap_cons, List.length_append, List.length_cons] at ih ⊢; rw [ih]; simp [cells3]; omega
theorem cellsOf_get {l : List BSt} {k : Nat} {x : BSt} (h : l[k]? = some x) {j : Nat} (hj : j < 3) : (cellsOf l)[k * 3 + j]? = (cells3 x)[j]? := by
  induction l generalizing k with
  | nil => simp at h
  | cons y l ih =>
    rcases k with _ | k
    · simp at h
      subst h
      simp only [cellsOf, List.flatMap_cons]
      rw [List.getElem?_append_left (by simp [cells3]; omega)]
      congr 1
      omega
    · simp at h
      simp only [cellsOf, List.flatMap_cons]
      rw [List.getElem?_append_right (by simp [cells3]; omega)]
      have e : (k + 1) * 3 + j - (cells3 y).length = k * 3 + j := by simp [cells3]; omega
      rw [e]
      exact ih h
/-- its j-th cell set, in the k-th block -/
theorem cellsOf_set {l : List BSt} {k : Nat} {x x' : BSt} {j : Nat} {u : Value} (h : l[k]? = some x) (hj : j < 3) (e : (cells3 x).set j u = cells3 x') : (cellsOf l).set (k * 3 + j) u = cellsOf (l.set k x') := by
  induction l generalizing k with
  | nil => simp at h
  | cons y l ih =>
    rcases k with _ | k
    · simp at h
      subst h
      simp only [cellsOf, List.flatMap_cons, List.set_cons_zero]
      rw [List.set_append_left _ _ (by simp [cells3]; omega), ← e]
      congr 2
      omega
    · simp at h
      simp only [cellsOf, List.flatMap_cons, List.set_cons_succ]
      rw [List.set_append_right _ _ (by simp [cells3]; omega)]
      have e2 : (k + 1) * 3 + j - (cells3 y).length = k * 3 + j := by simp [cells3]; omega
      rw [e2]
      congr 1
      exact ih h
/-- how a pending block reads -/
def blkD (x : ByteArray) (c : Int) (e : Bool) : DataW Unit := .agg [.lit (.string x.data.toList), .lit (.int .i8 c), .lit (.bool e)]
def blkV (x : ByteArray) (c : Int) (e : Bool) : Value := .agg #[.string x, .int .i8 c, .bool e]
def blkL : List Value → Option (DataW Unit × List MemPlace)
  | [.string x, .int .i8 c, .bool e] => some (blkD x c e, [])
  | _ => none
def blkR : Value → Option (DataW Unit × List MemPlace)
  | .agg cs => blkL cs.toList
  | _ => none
theorem blkR_mk (x : ByteArray) (c : Int) (e : Bool) : blkR (blkV x c e) = some (blkD x c e, []) := rfl
theorem blkR_inv {v : Value} {y : DataW Unit × List MemPlace} (h : blkR v = some y) : ∃ x c e, v = .agg #[.string x, .int .i8 c, .bool e] ∧ y = (blkD x c e, []) := by
  unfold blkR at h
  split at h
  · rename_i cs
    obtain ⟨l⟩ := cs
    simp only at h
    unfold blkL at h
    split at h
    · cases h
      exact ⟨_, _, _, rfl, rfl⟩
    · cases h
  · cases h
theorem blkD_inj {x x' : ByteArray} {c c' : Int} {e e' : Bool} (h : blkD x c e = blkD x' c' e') : x = x' ∧ c = c' ∧ e = e' := by
  simp only [blkD, DataW.agg.injEq, List.cons.injEq, DataW.lit.injEq, Lit.string.injEq, Lit.int.injEq, Lit.bool.injEq, and_true, true_and] at h
  obtain ⟨h1, h2, h3⟩ := h
  exact ⟨by obtain ⟨⟨a⟩⟩ := x; obtain ⟨⟨b⟩⟩ := x'; simp at h1; rw [h1], h2, h3⟩
/-- an int's key -/
abbrev kl (i : Nat) : Lit := .int .i64 (i : Int)
theorem law : Keyed Tryd.prog 3 := int_keyed Tryd.underlying3
theorem key_of {i : Nat} (h : i ≤ 100000) : keyOf Tryd.prog 3 (.int .i64 (i : Int)) = some (kl i) := keyOf_int_mk Tryd.underlying3 (WalkArith.wf_i64 (by omega))
theorem Tryd.zeroBlk (w : World) : (zeroValue 67).run Tryd.prog w = .ok (blkV ⟨#[]⟩ 0 false) w := by kernel_rfl
/-- what is pending of these blocks -/
structure Pend (D : DataW Unit) (l : List BSt) : Prop where
  has : ∀ (k : Nat) (x : BSt), l[k]? = some x → Maps.has D (kl k) = x.pend
  val : ∀ (k : Nat) (x : BSt), l[k]? = some x → x.pend = true → ∀ z, D.atKey (kl k) z = blkD (strOfNums x.next) 0 x.ever
  key : ∀ z, Maps.has D z = true → ∃ k, k < l.length ∧ z = kl k
  size : Maps.size D = l.countP BSt.pend
structure DB where
  p : Nat
  g : Nat
  c : Nat
  m : Nat
def DB.all (b : DB) : List Nat := [b.p, b.g, b.m]
def DB.cells (b : DB) (n calls : Nat) (arm : Int) (down : Bool) : Array Value := #[.slice (some ⟨b.g, 0, none⟩) n b.c, .map (some b.m), .int .i64 (calls : Int), .int .i64 arm, .bool down]
/-- the device's memory -/
structure DvIn (w : World) (b : DB) (D : DataW Unit) (s : DSt) (arm : Int) : Prop where
  box : Blk w b.p 72 (b.cells s.blks.length s.calls arm s.down)
  row : w.ownsRow 0 67 3 (.slice (some ⟨b.g, 0, none⟩) s.blks.length b.c) s.blks.length (cellsOf s.blks)
  map : w.ownsMap Tryd.prog 3 blkR b.m (Maps.size D) D
  nd : b.p ≠ b.g ∧ b.p ≠ b.m ∧ b.g ≠ b.m
  pend : Pend D s.blks
  arm : s.down = false → arm.toNat = s.arm
  bad : ∀ x, x ∈ s.blks → x.fail = true → x.fault = true
/-- the device at p is s, in the blocks F -/
def DvReal (w : World) (p : Nat) (s : DSt) (F : Nat → Prop) : Prop := ∃ b D arm, b.p = p ∧ DvIn w b D s arm ∧ (∀ k, k ∈ b.all → F k) ∧ ∀ k, F k → k < w.heap.size
theorem ownsMap_size {w : World} {b n : Nat} {D : DataW Unit} (h : w.ownsMap Tryd.prog 3 blkR b n D) : w.ownsMap Tryd.prog 3 blkR b (Maps.size D) D := by
  obtain ⟨es, clock, hb, F, hs, rfl⟩ := h
  exact ⟨es, clock, hb, F, by rw [size_eq, length_sorted]; simp, rfl⟩
theorem ownsMap_same {w w' : World} {b n : Nat} {D : DataW Unit} (h : w.ownsMap Tryd.prog 3 blkR b n D) (hk : w'.heap[b]? = w.heap[b]?) : w'.ownsMap Tryd.prog 3 blkR b n D := by
  obtain ⟨es, clock, hb, F, hs, hD⟩ := h
  exact ⟨es, clock, hk.trans hb, F, hs, hD⟩
theorem ownsRow_same {w w' : World} {e : TypeId} {z n c g B : Nat} {xs : List Value} (h : w.ownsRow B e z (.slice (some ⟨g, 0, none⟩) n c) n xs) (hk : w'.heap[g]? = w.heap[g]?) : w'.ownsRow B e z (.slice (some ⟨g, 0, none⟩) n c) n xs := by
  refine ⟨h.1, ?_⟩
  rcases h.2 with ⟨h', _⟩ | ⟨g', cap', cur, h', hb, hg, hr⟩
  · cases h'
  · cases h'
    exact .inr ⟨g, _, cur, rfl, hb, hk.trans hg, hr⟩
theorem DvIn.same {w w' : World} {b : DB} {D : DataW Unit} {s : DSt} {arm : Int} (h : DvIn w b D s arm) (hk : ∀ k, k ∈ b.all → w'.heap[k]? = w.heap[k]?) : DvIn w' b D s arm :=
  ⟨h.box.same (hk _ (by simp [DB.all])), ownsRow_same h.row (hk _ (by simp [DB.all])), ownsMap_same h.map (hk _ (by simp [DB.all])), h.nd, h.pend, h.arm, h.bad⟩
theorem DvIn.lt {w : World} {b : DB} {D : DataW Unit} {s : DSt} {arm : Int} (h : DvIn w b D s arm) : ∀ k, k ∈ b.all → k < w.heap.size := by
  intro k hk
  simp only [DB.all, List.mem_cons, List.not_mem_nil, or_false] at hk
  rcases hk with rfl | rfl | rfl
  · exact h.box.lt
  · exact (h.row.lt b.g rfl).2
  · exact h.map.lt
theorem DvReal.kept {w w' : World} {p : Nat} {s : DSt} {F : Nat → Prop} (h : DvReal w p s F) (hk : Kept F w w') : DvReal w' p s F := by
  obtain ⟨b, D, arm, hp, hi, hF, hl⟩ := h
  exact ⟨b, D, arm, hp, hi.same (fun k hk' => hk.1 k (hF k hk')), hF, fun k h' => Nat.lt_of_lt_of_le (hl k h') hk.2⟩
theorem DvReal.lt {w : World} {p : Nat} {s : DSt} {F : Nat → Prop} (h : DvReal w p s F) : ∀ k, F k → k < w.heap.size := by
  obtain ⟨b, D, arm, hp, hi, hF, hl⟩ := h
  exact hl
/-- what a call leaves -/
theorem upd_refl {w : World} {p : Nat} {s : DSt} {F : Nat → Prop} (h : DvReal w p s F) : RealUpd DvReal w p s F w := ⟨F, h, Only.refl _ _, fun _ h => .inl h⟩
theorem upd_of {w w' : World} {b : DB} {D : DataW Unit} {s : DSt} {arm : Int} {F : Nat → Prop} (hF : ∀ k, k ∈ b.all → F k) (hl : ∀ k, F k → k < w.heap.size) (h : DvIn w' b D s arm) (ho : Only F w w') : RealUpd DvReal w b.p s F w' :=
  ⟨F, ⟨b, D, arm, rfl, h, hF, fun k hk => Nat.lt_of_lt_of_le (hl k hk) ho.size⟩, ho, fun _ h => .inl h⟩
/-- a store into the struct -/
theorem DvIn.put_box {w : World} {b : DB} {D : DataW Unit} {s t : DSt} {arm arm' : Int} (h : DvIn w b D s arm) (k : Nat) (u : Value) (hc : (b.cells s.blks.length s.calls arm s.down).setIfInBounds k u = b.cells t.blks.length t.calls arm' t.down) (hb : t.blks = s.blks) (ha : t.down = false → arm'.toNat = t.arm) : DvIn (w.setCell ⟨b.p, k, none⟩ u) b D t arm' :=
  ⟨(by rw [← hc]; exact h.box.put k u), (by rw [hb]; exact ownsRow_same h.row (Below.heap_setCell w ⟨b.p, k, none⟩ u b.g (Ne.symm h.nd.1))), ownsMap_same h.map (Below.heap_setCell w ⟨b.p, k, none⟩ u b.m (Ne.symm h.nd.2.1)), h.nd, (by rw [hb]; exact h.pend), ha, (by rw [hb]; exact h.bad)⟩
/-- a store into the row of blocks, that leaves blocks again -/
theorem row_put {w : World} {g c n : Nat} {l : List BSt} {k j : Nat} {x x' : BSt} {u : Value} (h : w.ownsRow 0 67 3 (.slice (some ⟨g, 0, none⟩) n c) n (cellsOf l)) (hx : l[k]? = some x) (hj : j < 3) (e : (cells3 x).set j u = cells3 x') : (w.setCell ⟨g, k * 3 + j, none⟩ u).ownsRow 0 67 3 (.slice (some ⟨g, 0, none⟩) n c) n (cellsOf (l.set k x')) := by
  have := (h.stored (k * 3 + j) u).1
  rwa [cellsOf_set hx hj e] at this
theorem DvIn.cell {w : World} {b : DB} {D : DataW Unit} {s : DSt} {arm : Int} (h : DvIn w b D s arm) {k j : Nat} {x : BSt} {u : Value} (hx : s.blks[k]? = some x) (hj : j < 3) (hu : (cells3 x)[j]? = some u) : w.cell? ⟨b.g, k * 3 + j, none⟩ = some u := by
  have hk : k < s.blks.length := (List.getElem?_eq_some_iff.1 hx).1
  rw [h.row.cellAt (k * 3 + j) (by omega), cellsOf_get hx hj, hu]
theorem DvIn.free {w : World} {b : DB} {D : DataW Unit} {s : DSt} {arm : Int} (h : DvIn w b D s arm) (k : Nat) : w.frozen? ⟨b.g, k, none⟩ = false := h.row.frozenAt k
end Go.Proofs.YthgdofcamjkdpaaDoor
namespace Go.Proofs.YthgdofcamjkdpaaDoor
open Go.RowKit Go.Maps

theorem DvReal.in_ {w : World} {p : Nat} {s : DSt} {F : Nat → Prop} (h : DvReal w p s F) : ∃ b D arm, b.p = p ∧ DvIn w b D s arm := by
  obtain ⟨b, D, arm, hp, hi, _⟩ := h
  exact ⟨b, D, arm, hp, hi⟩
set_option maxRecDepth 100000 in
set_option maxHeartbeats 1000000 in
theorem dvThere_any (p : Nat) (s : DSt) (F : Nat → Prop) (i : Int) (w : World) (h : DvReal w p s F) :
    Calls Tryd.prog 59 #[.pointer (some ⟨p, 0, none⟩), .int .i64 i] w fun e w' => e = .returned (.bool (s.inB i)) ∧ w = w' := by
  obtain ⟨b, D, arm, rfl, hin⟩ := h.in_
  have c0 := hin.box.cell 0
  simp [DB.cells] at c0
  obtain ⟨N, hN⟩ : ∃ N, s.blks.length = N := ⟨_, rfl⟩
  have hI : s.inB i = (decide (0 ≤ i) && decide (i < (N : Int))) := by rw [← hN]; rfl
  rw [hI]
  rw [hN] at c0
  clear hin h hI hN
  by_cases h0 : 0 ≤ i
  · by_cases h1 : i < (N : Int)
    · rw [show (decide (0 ≤ i) && decide (i < (N : Int))) = true by simp [h0, h1]]
      go_enter Tryd.func59, Tryd.ntmps59
      go_wp2
      go_ret
      exact ⟨rfl, rfl⟩
    · rw [show (decide (0 ≤ i) && decide (i < (N : Int))) = false by simp [h1]]
      go_enter Tryd.func59, Tryd.ntmps59
      go_wp2
      go_ret
      exact ⟨rfl, rfl⟩
  · rw [show (decide (0 ≤ i) && decide (i < (N : Int))) = false by simp [h0]]
    go_enter Tryd.func59, Tryd.ntmps59
    go_wp2
    go_ret
    exact ⟨rfl, rfl⟩
set_option maxRecDepth 100000 in
set_option maxHeartbeats 1000000 in
theorem dvBlocks_any (p : Nat) (s : DSt) (F : Nat → Prop) (w : World) (h : DvReal w p s F) : Calls Tryd.prog 44 #[.pointer (some ⟨p, 0, none⟩)] w (Quiet w (.int .i64 (s.blks.length : Int))) := by
  obtain ⟨b, D, arm, rfl, hin⟩ := h.in_
  have c0 := hin.box.cell 0
  simp [DB.cells] at c0
  clear hin h
  go_enter Tryd.func44, Tryd.ntmps44
  go_wp2
  go_ret
  exact ⟨rfl, 0, rfl⟩
end Go.Proofs.YthgdofcamjkdpaaDoor
namespace Go.Proofs.YthgdofcamjkdpaaDoor
open Go.RowKit Go.Maps

/-- the power is found gone: the device behind it -/
def PowerDv (w : World) (p : Nat) (s : DSt) (F : Nat → Prop) (e : Ending) (w' : World) : Prop := e = .returned (.bool (s.power.1 != 0)) ∧ DvReal w' p s.power.2 F ∧ Only (fun k => k = p) w w'
theorem dvPower_end {w : World} {b : DB} {D : DataW Unit} {s t : DSt} {arm' : Int} {F : Nat → Prop} {x : Int} {y : Bool} {v : Value} {u : Value} (hs : s.power = (x, t)) (hy : (x != 0) = y) (hF : ∀ k, k ∈ b.all → F k) (hl : ∀ k, F k → k < w.heap.size) (h : DvIn ((w.setCell ⟨b.p, 3, none⟩ v).setCell ⟨b.p, 4, none⟩ u) b D t arm') : PowerDv w b.p s F (.returned (.bool y)) ((w.setCell ⟨b.p, 3, none⟩ v).setCell ⟨b.p, 4, none⟩ u) := by
  unfold PowerDv
  rw [hs, hy]
  exact ⟨rfl, ⟨b, D, arm', rfl, h, hF, fun k hk => by simpa using hl k hk⟩, ((Only.refl (fun k => k = b.p) w).put (p := ⟨b.p, 3, none⟩) rfl _).put (p := ⟨b.p, 4, none⟩) rfl _⟩
set_option maxRecDepth 100000 in
set_option maxHeartbeats 1000000 in
theorem dvPower_any (p : Nat) (s : DSt) (F : Nat → Prop) (w : World) (h : DvReal w p s F) (hok : s.arm ≤ 9223372036854775807) :
    Calls Tryd.prog 48 #[.pointer (some ⟨p, 0, none⟩)] w (PowerDv w p s F) := by
  have hself := h
  obtain ⟨b, D, arm, rfl, hin, hF, hl⟩ := h
  have c3 := hin.box.cell 3
  have c4 := hin.box.cell 4
  have f3 := hin.box.free 3
  have f4 := hin.box.free 4
  simp [DB.cells] at c3 c4
  have HIN := hid hin
  have HF := hid hF
  have HL := hid hl
  have a1 := hin.arm
  have HS := hid hself
  clear hin hF hl hself
  by_cases h0 : 0 < arm
  · rcases hd : s.down with _ | _
    · have ea : s.arm = arm.toNat := (a1 hd).symm
      have a2 : arm ≤ 9223372036854775807 := by omega
      by_cases h1 : arm = 1
      · subst h1
        have hs : s.power = (106, { s with arm := 0, down := true }) := by unfold DSt.power; rw [hd, ea]; rfl
        have i1 := HIN.out.put_box (t := { s with arm := 0 }) (arm' := 0) 3 (.int .i64 0) (by rfl) rfl (fun _ => rfl)
        have i2 := i1.put_box (t := { s with arm := 0, down := true }) (arm' := 0) 4 (.bool true) (by rfl) rfl (fun _ => rfl)
        have HE := hid (dvPower_end hs rfl HF.out HL.out i2)
        rw [hd] at c4
        clear i1 i2 hs hd ea a1 a2 hok
        go_enter Tryd.func48, Tryd.ntmps48
        go_wp2
        go_ret
        exact HE.out
      · have hs : s.power = (0, { s with arm := s.arm - 1 }) := by unfold DSt.power; rw [hd, ea, if_neg (by decide), if_neg (by omega), if_neg (by omega)]
        have i1 := HIN.out.put_box (t := { s with arm := s.arm - 1 }) (arm' := arm - 1) 3 (.int .i64 (arm - 1)) (by rfl) rfl (fun _ => by show (arm - 1).toNat = s.arm - 1; omega)
        have i2 := i1.put_box (t := { s with arm := s.arm - 1 }) (arm' := arm - 1) 4 (.bool false) (by rw [show (DSt.down { s with arm := s.arm - 1 }) = false from hd]; rfl) rfl (fun _ => by show (arm - 1).toNat = s.arm - 1; omega)
        have HE := hid (dvPower_end hs rfl HF.out HL.out i2)
        have hne : (arm - 1 == 0) = false := by rw [beq_eq_false_iff_ne]; omega
        rw [hd] at c4
        clear i1 i2 hs hd ea a1 hok
        go_enter Tryd.func48, Tryd.ntmps48
        go_wp2
        go_ret
        exact HE.out
    · have hs : s.power = (106, s) := by unfold DSt.power; rw [hd]; rfl
      have i1 := HIN.out.put_box (t := s) (arm' := wrap64 (arm - 1)) 3 (.int .i64 (wrap64 (arm - 1))) (by rfl) rfl (fun h => absurd (h.symm.trans hd) (by decide))
      have i2 := i1.put_box (t := s) (arm' := wrap64 (arm - 1)) 4 (.bool true) (by rw [hd]; rfl) rfl (fun h => absurd (h.symm.trans hd) (by decide))
      have HE := hid (dvPower_end hs rfl HF.out HL.out i2)
      rw [hd] at c4
      clear i1 i2 hs hd a1 hok
      go_enter Tryd.func48, Tryd.ntmps48
      go_wp2
      go_ret
      exact HE.out
  · have HE := hid (show PowerDv w b.p s F (.returned (.bool s.down)) w by
      unfold PowerDv
      have e : s.power = (if s.down = true then 106 else 0, s) := by
        unfold DSt.power
        rcases hd : s.down with _ | _
        · rw [if_neg (by decide), if_pos (by have := a1 hd; omega)]; rfl
        · rfl
      rw [e]
      refine ⟨?_, HS.out, Only.refl _ _⟩
      rcases hd : s.down with _ | _ <;> rfl)
    clear a1 hok
    go_enter Tryd.func48, Tryd.ntmps48
    go_wp2
    go_ret
    exact HE.out
set_option maxRecDepth 100000 in
set_option maxHeartbeats 1000000 in
theorem dvArm_any (p : Nat) (s : DSt) (F : Nat → Prop) (n : Int) (w : World) (h : DvReal w p s F) :
    Calls Tryd.prog 16 #[.pointer (some ⟨p, 0, none⟩), .int .i64 n] w fun e w' => e = .returned (.tuple #[]) ∧ RealUpd DvReal w p (s.setArm n) F w' := by
  obtain ⟨b, D, arm, rfl, hin, hF, hl⟩ := h
  have c3 := hin.box.cell 3
  have f3 := hin.box.free 3
  simp [DB.cells] at c3
  have i1 := hin.put_box (t := s.setArm n) (arm' := n) 3 (.int .i64 n) (by rfl) rfl (fun _ => rfl)
  have HE := hid (show RealUpd DvReal w b.p (s.setArm n) F (w.setCell ⟨b.p, 3, none⟩ (.int .i64 n)) from upd_of hF hl i1 ((Only.refl F w).put (hF _ (by simp [DB.all])) _))
  clear i1 hin hF hl
  go_enter Tryd.func16, Tryd.ntmps16
  go_wp2
  go_end0
  exact ⟨rfl, HE.out⟩
theorem PowerDv.more {w w' : World} {p : Nat} {s : DSt} {F : Nat → Prop} {e : Ending} (h : PowerDv w p s F e w') (hp : F p) : Only F w w' := h.2.2.mono (fun i hi => .inl (by rw [hi]; exact hp))
/-- the errors lie elsewhere -/
theorem Sent5.only {w w' : World} {S : Nat → Addr} {p : Nat} {t : TypeId} {cs : Array Value} (h : Sent5 w S) (hb : Blk w p t cs) (h0 : ∃ a n c, cs[0]? = some (.slice a n c)) (ho : Only (fun k => k = p) w w') : Sent5 w' S := fun i hi => by
  have hc := h i hi
  refine (World.cell?_of_block (ho.block _ (World.block_lt_of_cell? w _ hc) ?_)).trans hc
  intro e
  obtain ⟨a, n, c, h0⟩ := h0
  have e' : (⟨glo.getD i 0, 0, none⟩ : Addr) = ⟨p, 0, none⟩ := by rw [show glo.getD i 0 = p from e]
  rw [e', hb.cell 0, h0] at hc
  cases hc
theorem DvReal.sent {w w' : World} {S : Nat → Addr} {p : Nat} {s : DSt} {F : Nat → Prop} (h : DvReal w p s F) (hS : Sent5 w S) (ho : Only (fun k => k = p) w w') : Sent5 w' S := by
  obtain ⟨b, D, arm, rfl, hin⟩ := h.in_
  exact hS.only hin.box ⟨_, _, _, rfl⟩ ho
theorem DSt.power_ok {s : DSt} (h : s.power.1 ≠ 0) : s.power.1 = 106 := by
  unfold DSt.power at h ⊢
  split at h <;> rename_i h1
  · rw [if_pos h1]
  · rw [if_neg h1]
    split at h <;> rename_i h2
    · exact absurd rfl h
    · rw [if_neg h2]
      split at h <;> rename_i h3
      · rw [if_pos h3]
      · exact absurd rfl h
end Go.Proofs.YthgdofcamjkdpaaDoor
namespace Go.Proofs.YthgdofcamjkdpaaDoor
open Go.RowKit Go.Maps

set_option maxRecDepth 100000 in
set_option maxHeartbeats 1000000 in
theorem dvAnew_any (p g N cc : Nat) (ev : Bool) (j : Nat) (A : Option Addr) (n c : Nat) (l : List Int) (w : World) (c0 : w.cell? ⟨p, 0, none⟩ = some (.slice (some ⟨g, 0, none⟩) N cc)) (c2 : w.cell? ⟨g, j * 3 + 2, none⟩ = some (.bool ev)) (hj : (j : Int) < N) (hs : Sl w w.heap.size A n c l) :
    Calls Tryd.prog 60 #[.pointer (some ⟨p, 0, none⟩), .int .i64 (j : Int), .slice A n c] w fun e w' => e = .returned (.agg #[.string (strOfNums l), .int .i8 0, .bool ev]) ∧ Below w.heap.size w w' := by
  have hp : p < w.heap.size := World.block_lt_of_cell? w _ c0
  have hg : g < w.heap.size := World.block_lt_of_cell? w _ c2
  have hs1 := hs.alloc (Nat.le_refl _) (.cells #[.string ⟨#[]⟩, .int .i8 0, .bool false] 67)
  have hq : (convert 24 9 (.slice A n c)).run Tryd.prog (w.alloc (.cells #[.string ⟨#[]⟩, .int .i8 0, .bool false] 67)).drew = .ok (.string (strOfNums l)) (w.alloc (.cells #[.string ⟨#[]⟩, .int .i8 0, .bool false] 67)).drew := conv_any hs1.drew
  clear hs1 hs
  go_enter Tryd.func60, Tryd.ntmps60
  go_wp2
  go_region
  go_wp2
  exact bodyPost_ret (v := .agg #[.string (strOfNums l), .int .i8 0, .bool ev]) (by simp [results, Tryd.results60, go_sem]) rfl ⟨rfl, ((Below.refl _ _).alloc (Nat.le_refl _) _).drew⟩
end Go.Proofs.YthgdofcamjkdpaaDoor
namespace Go.Proofs.YthgdofcamjkdpaaDoor
open Go.RowKit Go.Maps

theorem pend_turn {D : DataW Unit} {l : List BSt} {k : Nat} {x x' : BSt} (h : Pend D l) (hx : l[k]? = some x) (hp : x'.pend = x.pend) (hn : x.pend = true → x'.next = x.next ∧ x'.ever = x.ever) : Pend D (l.set k x') := by
  have hk : k < l.length := (List.getElem?_eq_some_iff.1 hx).1
  have hget : ∀ (i : Nat) (y : BSt), (l.set k x')[i]? = some y → ∃ z, l[i]? = some z ∧ y.pend = z.pend ∧ (z.pend = true → y.next = z.next ∧ y.ever = z.ever) := by
    intro i y hy
    rw [List.getElem?_set] at hy
    by_cases e : k = i
    · subst e
      simp [hk] at hy
      subst hy
      exact ⟨x, hx, hp, hn⟩
    · simp [e] at hy
      exact ⟨y, hy, rfl, fun _ => ⟨rfl, rfl⟩⟩
  refine ⟨fun i y hy => ?_, fun i y hy hyp z => ?_, fun z hz => ?_, ?_⟩
  · obtain ⟨z, hz, h1, _⟩ := hget i y hy
    rw [h1]; exact h.has i z hz
  · obtain ⟨u, hu, h1, h2⟩ := hget i y hy
    obtain ⟨h3, h4⟩ := h2 (by rw [← h1]; exact hyp)
    rw [h3, h4]
    exact h.val i u hu (by rw [← h1]; exact hyp) z
  · obtain ⟨i, hi, he⟩ := h.key z hz
    exact ⟨i, by simpa using hi, he⟩
  · rw [h.size]
    have e1 : l = l.take k ++ x :: l.drop (k + 1) := by
      have e0 : l.drop k = x :: l.drop (k + 1) := by rw [List.drop_eq_getElem_cons hk, (List.getElem?_eq_some_iff.1 hx).2]
      rw [← e0, List.take_append_drop]
    have e2 : l.set k x' = l.take k ++ x' :: l.drop (k + 1) := by rw [List.set_eq_take_append_cons_drop, if_pos hk]
    rw [e2]
    conv => lhs; rw [e1]
    simp [List.countP_append, List.countP_cons, hp]
/-- three stores into a block of the row -/
theorem DvIn.put_row {w : World} {b : DB} {D : DataW Unit} {s : DSt} {arm : Int} (h : DvIn w b D s arm) {k j : Nat} {x x' : BSt} {u : Value} (hx : s.blks[k]? = some x) (hj : j < 3) (e : (cells3 x).set j u = cells3 x') (hp : x'.pend = x.pend) (hn : x.pend = true → x'.next = x.next ∧ x'.ever = x.ever) (hb : x'.fail = true → x'.fault = true) : DvIn (w.setCell ⟨b.g, k * 3 + j, none⟩ u) b D { s with blks := s.blks.set k x' } arm :=
  ⟨(by show Blk _ b.p _ (b.cells (s.blks.set k x').length s.calls arm s.down); rw [List.length_set]; exact h.box.far h.nd.1 _), (by show (w.setCell ⟨b.g, k * 3 + j, none⟩ u).ownsRow 0 _ 3 (.slice _ (s.blks.set k x').length b.c) (s.blks.set k x').length (cellsOf (s.blks.set k x')); rw [List.length_set]; exact row_put h.row hx hj e), ownsMap_same h.map (Below.heap_setCell w ⟨b.g, k * 3 + j, none⟩ u b.m (Ne.symm h.nd.2.2)), h.nd, pend_turn h.pend hx hp hn, h.arm, fun y hy => by
    rcases List.mem_or_eq_of_mem_set hy with h' | rfl
    · exact h.bad y h'
    · exact hb⟩
theorem turn_set {s : DSt} {j : Nat} {x : BSt} (f : BSt → BSt) (hx : s.blks[j]? = some x) : s.turn (j : Int) f = { s with blks := s.blks.set j (f x) } := by
  unfold DSt.turn
  rw [Int.toNat_natCast]
  congr 1
  apply List.ext_getElem?
  intro i
  rw [List.getElem?_modify, List.getElem?_set]
  have hj : j < s.blks.length := (List.getElem?_eq_some_iff.1 hx).1
  by_cases e : j = i
  · subst e
    rw [hx]
    simp [hj]
  · simp [e]
def BoolDv (w : World) (p : Nat) (r : Bool × DSt) (F : Nat → Prop) (e : Ending) (w' : World) : Prop := e = .returned (.bool r.1) ∧ RealUpd DvReal w p r.2 F w'
theorem BoolDv.no {w w' : World} {p : Nat} {s : DSt} {F : Nat → Prop} (h : DvReal w p s F) (hb : Below w.heap.size w w') : BoolDv w p (false, s) F (.returned (.bool false)) w' :=
  ⟨rfl, F, h.kept (Kept.of_below hb h.lt), Only.of_below hb, fun _ h => .inl h⟩
/-- the device, behind what only laid -/
theorem DvIn.below {w w' : World} {b : DB} {D : DataW Unit} {s : DSt} {arm : Int} (h : DvIn w b D s arm) (hb : Below w.heap.size w w') : DvIn w' b D s arm := h.same (fun k hk => hb.block k (h.lt k hk))
end Go.Proofs.YthgdofcamjkdpaaDoor
