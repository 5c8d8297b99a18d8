/- Put together out of 1 texts. Package dev's device in memory; its small calls. -/
import Derived.Test.YtkhdgacjgccnnaaGreatDoorProg
import Derived.Shelf.SlIterI.Nil
import Derived.Shelf.SortM.Plain
import Derived.Shelf.SortM.SortNone
import Derived.Shelf.SlMaps.Clone
import Derived.Test.YtkhdgacjgccnnaaGreatDoorGXaa
import Derived.Test.YtkhdgacjgccnnaaGreatDoorGXac
import Derived.Maps.OwnSet
import Derived.Maps.RangeWalk
namespace Go.Proofs.YtkhdgacjgccnnaaGreatDoor
open Go.RowKit Go.Maps Go.Sort Go.Shelf

def Tryz.sortedA_ren : Go.Shelf.Ren := ⟨fun | 6 => 81 | 8 => 116 | 9 => 117 | 11 => 150 | 13 => 113 | 12 => 151 | 23 => 147 | 24 => 148 | 14 => 165 | 15 => 166 | 16 => 167 | 17 => 168 | 18 => 169 | 19 => 170 | 20 => 122 | 21 => 171 | 22 => 172 | 25 => 177 | 26 => 161 | 27 => 162 | 28 => 178 | 29 => 179 | 30 => 155 | 31 => 180 | n => n, fun | 26 => 3 | 28 => 162 | 24 => 108 | 0 => 0 | 3 => 3 | 37 => 28 | 48 => 89 | 50 => 153 | 4 => 4 | 40 => 219 | 39 => 218 | 45 => 45 | 5 => 5 | 9 => 9 | 51 => 240 | 55 => 244 | 57 => 255 | 58 => 256 | 33 => 157 | n => n, fun | n => n⟩
theorem Tryz.sortedA : Go.Proofs.SlLaysZI.n6 Tryz.prog Tryz.sortedA_ren := {
    mixed := by kernel_rfl,
    f6 := ⟨Tryz.f81.name, by decide, Tryz.func81.trans (congrArg some (by kernel_rfl))⟩,
    f8 := ⟨Tryz.f116.name, by decide, Tryz.func116.trans (congrArg some (by kernel_rfl))⟩,
    f11 := ⟨Tryz.f150.name, by decide, Tryz.func150.trans (congrArg some (by kernel_rfl))⟩,
    t0 := Tryz.underlying0,
    a0 := Tryz.isAgg0,
    z0 := Tryz.sizeOf0,
    v0 := Tryz.zeroValue0,
    t24 := Tryz.underlying108,
    a24 := Tryz.isAgg108,
    z24 := Tryz.sizeOf108,
    v24 := Tryz.zeroValue108,
    t26 := Tryz.underlying3,
    a26 := Tryz.isAgg3,
    z26 := Tryz.sizeOf3,
    v26 := Tryz.zeroValue3,
    t28 := Tryz.underlying162,
    a28 := Tryz.isAgg162,
    z28 := Tryz.sizeOf162,
    v28 := Tryz.zeroValue162,
    i26 := by kernel_rfl }
def Tryz.sortA_ren : Go.Shelf.Ren := ⟨fun | 5 => 117 | 8 => 113 | 7 => 151 | 19 => 147 | 20 => 148 | 10 => 165 | 11 => 166 | 12 => 167 | 13 => 168 | 14 => 169 | 15 => 170 | 16 => 122 | 17 => 171 | 18 => 172 | 30 => 177 | 31 => 161 | 32 => 162 | 33 => 178 | 34 => 179 | 35 => 155 | 40 => 180 | n => n, fun | 23 => 108 | 25 => 3 | 3 => 3 | 32 => 28 | 22 => 108 | 0 => 0 | 44 => 89 | 46 => 153 | 4 => 4 | 36 => 219 | 35 => 218 | 41 => 45 | 5 => 5 | 9 => 9 | 53 => 240 | 57 => 244 | 63 => 255 | 64 => 256 | n => n, fun | n => n⟩
theorem Tryz.sortA : Go.Proofs.SlLaysM.n5 Tryz.prog Tryz.sortA_ren := {
    mixed := by kernel_rfl,
    f5 := ⟨Tryz.f117.name, by decide, Tryz.func117.trans (congrArg some (by kernel_rfl))⟩,
    f7 := ⟨Tryz.f151.name, by decide, Tryz.func151.trans (congrArg some (by kernel_rfl))⟩,
    f8 := Tryz.func113.trans (congrArg some (by kernel_rfl)),
    f10 := ⟨Tryz.f165.name, by decide, Tryz.func165.trans (congrArg some (by kernel_rfl))⟩,
    f11 := ⟨Tryz.f166.name, by decide, Tryz.func166.trans (congrArg some (by kernel_rfl))⟩,
    f12 := ⟨Tryz.f167.name, by decide, Tryz.func167.trans (congrArg some (by kernel_rfl))⟩,
    f13 := ⟨Tryz.f168.name, by decide, Tryz.func168.trans (congrArg some (by kernel_rfl))⟩,
    f14 := ⟨Tryz.f169.name, by decide, Tryz.func169.trans (congrArg some (by kernel_rfl))⟩,
    f15 := ⟨Tryz.f170.name, by decide, Tryz.func170.trans (congrArg some (by kernel_rfl))⟩,
    f16 := ⟨Tryz.f122.name, by decide, Tryz.func122.trans (congrArg some (by kernel_rfl))⟩,
    f17 := ⟨Tryz.f171.name, by decide, Tryz.func171.trans (congrArg some (by kernel_rfl))⟩,
    f18 := ⟨Tryz.f172.name, by decide, Tryz.func172.trans (congrArg some (by kernel_rfl))⟩,
    f19 := Tryz.func147.trans (congrArg some (by kernel_rfl)),
    f20 := Tryz.func148.trans (congrArg some (by kernel_rfl)),
    f30 := ⟨Tryz.f177.name, by decide, Tryz.func177.trans (congrArg some (by kernel_rfl))⟩,
    f31 := Tryz.func161.trans (congrArg some (by kernel_rfl)),
    f32 := Tryz.func162.trans (congrArg some (by kernel_rfl)),
    f33 := ⟨Tryz.f178.name, by decide, Tryz.func178.trans (congrArg some (by kernel_rfl))⟩,
    f34 := ⟨Tryz.f179.name, by decide, Tryz.func179.trans (congrArg some (by kernel_rfl))⟩,
    f35 := ⟨Tryz.f155.name, by decide, Tryz.func155.trans (congrArg some (by kernel_rfl))⟩,
    f40 := ⟨Tryz.f180.name, by decide, Tryz.func180.trans (congrArg some (by kernel_rfl))⟩,
    t0 := Tryz.underlying0,
    a0 := Tryz.isAgg0,
    z0 := Tryz.sizeOf0,
    v0 := Tryz.zeroValue0,
    t3 := Tryz.underlying3,
    a3 := Tryz.isAgg3,
    z3 := Tryz.sizeOf3,
    v3 := Tryz.zeroValue3,
    t4 := Tryz.underlying4,
    a4 := Tryz.isAgg4,
    z4 := Tryz.sizeOf4,
    v4 := Tryz.zeroValue4,
    t5 := Tryz.underlying5,
    a5 := Tryz.isAgg5,
    z5 := Tryz.sizeOf5,
    v5 := Tryz.zeroValue5,
    t9 := Tryz.underlying9,
    a9 := Tryz.isAgg9,
    z9 := Tryz.sizeOf9,
    v9 := Tryz.zeroValue9,
    t22 := Tryz.underlying108,
    a22 := Tryz.isAgg108,
    z22 := Tryz.sizeOf108,
    v22 := Tryz.zeroValue108,
    t23 := Tryz.underlying108,
    a23 := Tryz.isAgg108,
    z23 := Tryz.sizeOf108,
    v23 := Tryz.zeroValue108,
    t25 := Tryz.underlying3,
    a25 := Tryz.isAgg3,
    z25 := Tryz.sizeOf3,
    v25 := Tryz.zeroValue3,
    t32 := Tryz.underlying28,
    a32 := Tryz.isAgg28,
    z32 := Tryz.sizeOf28,
    v32 := Tryz.zeroValue28,
    t35 := Tryz.underlying218,
    a35 := Tryz.isAgg218,
    z35 := Tryz.sizeOf218,
    v35 := Tryz.zeroValue218,
    t36 := Tryz.underlying219,
    a36 := Tryz.isAgg219,
    z36 := Tryz.sizeOf219,
    v36 := Tryz.zeroValue219,
    t41 := Tryz.underlying45,
    a41 := Tryz.isAgg45,
    z41 := Tryz.sizeOf45,
    v41 := Tryz.zeroValue45,
    t44 := Tryz.underlying89,
    a44 := Tryz.isAgg89,
    z44 := Tryz.sizeOf89,
    v44 := Tryz.zeroValue89,
    t46 := Tryz.underlying153,
    a46 := Tryz.isAgg153,
    z46 := Tryz.sizeOf153,
    v46 := Tryz.zeroValue153,
    t53 := Tryz.underlying240,
    a53 := Tryz.isAgg240,
    z53 := Tryz.sizeOf240,
    v53 := Tryz.zeroValue240,
    t57 := Tryz.underlying244,
    a57 := Tryz.isAgg244,
    z57 := Tryz.sizeOf244,
    v57 := Tryz.zeroValue244,
    t63 := Tryz.underlying255,
    a63 := Tryz.isAgg255,
    z63 := Tryz.sizeOf255,
    v63 := Tryz.zeroValue255,
    t64 := Tryz.underlying256,
    a64 := Tryz.isAgg256,
    z64 := Tryz.sizeOf256,
    v64 := Tryz.zeroValue256 }
end Go.Proofs.YtkhdgacjgccnnaaGreatDoor
namespace Go.Proofs.YtkhdgacjgccnnaaGreatDoor
open Go.RowKit Go.Maps Go.Sort Go.Shelf

theorem sortsA (m : Nat) : AnyZI.SortsIn Tryz.prog Tryz.sortedA_ren Fence.wide m :=
  ⟨fun blk off cap ss W hH hblk hsz => callsIn_wide.2 (AnyM.slices_Sort_int Tryz.sortA blk off cap ss W hH hblk hsz),
   fun p cap W => callsIn_wide.2 (AnyM.slices_Sort_int_none Tryz.sortA p cap W)⟩
/-- a new slice of the keys, rising -/
def SortedKeys {H : Type} (D : DataW H) (w : World) (e : Ending) (w' : World) : Prop := ∃ (v : Value) (ss : List Int), e = .returned v ∧ ss.Perm (intKeys D) ∧ OwnN w' w.heap.size v (ss.mergeSort (fun x y => decide (x ≤ y))) ∧ Below w.heap.size w w'
end Go.Proofs.YtkhdgacjgccnnaaGreatDoor
namespace Go.Proofs.YtkhdgacjgccnnaaGreatDoor
open Go.RowKit Go.Maps

/-- a block's three cells -/
def faultN (x : BSt) : Int := if x.fail = true then 2 else if x.fault = true then 1 else 0
def cells3 (x : BSt) : List Value := [.string (strOfNums x.has), .int .i8 (faultN x), .bool x.ever]
def cellsOf (l : List BSt) : List Value := l.flatMap cells3
theorem cellsOf_len (l : List BSt) : (cellsOf l).length = l.length * 3 := by
  induction l with
  | nil => rfl
  | cons x l ih => simp only [cellsOf, List.flatMap_cons, List.length_append, List.length_cons] at ih ⊢; rw [ih]; simp [cells3]; omega
theorem cellsOf_get {l : List BSt} {k : Nat} {x : BSt} (h : l[k]? = some x) {j : Nat} (hj : j < 3) : (cellsOf l)[k * 3 + j]? = (cells3 x)[j]? := by
  induction l generalizing k with
  | nil => simp at h
  | cons y l ih =>
    rcases k with _ | k
    · simp at h
      subst h
      simp only [cellsOf, List.flatMap_cons]
      rw [List.getElem?_append_left (by simp [cells3]; omega)]
      congr 1
      omega
    · simp at h
      simp only [cellsOf, List.flatMap_cons]
      rw [List.getElem?_append_right (by simp [cells3]; omega)]
      have e : (k + 1) * 3 + j - (cells3 y).length = k * 3 + j := by simp [cells3]; omega
      rw [e]
      exact ih h
/-- how a pending block reads -/
def blkD (x : ByteArray) (c : Int) (e : Bool) : DataW Unit := .agg [.lit (.string x.data.toList), .lit (.int .i8 c), .lit (.bool e)]
def blkV (x : ByteArray) (c : Int) (e : Bool) : Value := .agg #[.string x, .int .i8 c, .bool e]
def blkL : List Value → Option (DataW Unit × List MemPlace)
  | [.string x, .int .i8 c, .bool e] => some (blkD x c e, [])
  | _ => none
def blkR : Value → Option (DataW Unit × List MemPlace)
  | .agg cs => blkL cs.toList
  | _ => none
theorem blkR_mk (x : ByteArray) (c : Int) (e : Bool) : blkR (blkV x c e) = some (blkD x c e, []) := rfl
theorem blkR_inv {v : Value} {y : DataW Unit × List MemPlace} (h : blkR v = some y) : ∃ x c e, v = .agg #[.string x, .int .i8 c, .bool e] ∧ y = (blkD x c e, []) := by
  unfold blkR at h
  split at h
  · rename_i cs
    obtain ⟨l⟩ := cs
    simp only at h
    unfold blkL at h
    split at h
    · cases h
      exact ⟨_, _, _, rfl, rfl⟩
    · cases h
  · cases h
theorem blkD_inj {x x' : ByteArray} {c c' : Int} {e e' : Bool} (h : blkD x c e = blkD x' c' e') : x = x' ∧ c = c' ∧ e = e' := by
  simp only [blkD, DataW.agg.injEq, List.cons.injEq, DataW.lit.injEq, Lit.string.injEq, Lit.int.injEq, Lit.bool.injEq, and_true, true_and] at h
  obtain ⟨h1, h2, h3⟩ := h
  exact ⟨by obtain ⟨⟨a⟩⟩ := x; obtain ⟨⟨b⟩⟩ := x'; simp at h1; rw [h1], h2, h3⟩
/-- an int's key -/
abbrev kl (i : Nat) : Lit := .int .i64 (i : Int)
theorem law : Keyed Tryz.prog 3 := int_keyed Tryz.underlying3
theorem key_of {i : Nat} (h : i ≤ 100000) : keyOf Tryz.prog 3 (.int .i64 (i : Int)) = some (kl i) := keyOf_int_mk Tryz.underlying3 (WalkArith.wf_i64 (by omega))
theorem Tryz.zeroBlk (w : World) : (zeroValue 66).run Tryz.prog w = .ok (blkV ⟨#[]⟩ 0 false) w := by kernel_rfl
/-- what is pending of these blocks -/
structure Pend (D : DataW Unit) (l : List BSt) : Prop where
  has : ∀ (k : Nat) (x : BSt), l[k]? = some x → Maps.has D (kl k) = x.pend
  val : ∀ (k : Nat) (x : BSt), l[k]? = some x → x.pend = true → ∀ z, D.atKey (kl k) z = blkD (strOfNums x.next) 0 x.ever
  key : ∀ z, Maps.has D z = true → ∃ k, k < l.length ∧ z = kl k
  size : Maps.size D = l.countP BSt.pend
structure DB where
  p : Nat
  g : Nat
  c : Nat
  m : Nat
def DB.all (b : DB) : List Nat := [b.p, b.g, b.m]
def DB.cells (b : DB) (n calls : Nat) (arm : Int) (down : Bool) : Array Value := #[.slice (some ⟨b.g, 0, none⟩) n b.c, .map (some b.m), .int .i64 (calls : Int), .int .i64 arm, .bool down]
/-- the device's memory -/
structure DvIn (w : World) (b : DB) (D : DataW Unit) (s : DSt) (arm : Int) : Prop where
  box : Blk w b.p 71 (b.cells s.blks.length s.calls arm s.down)
  row : w.ownsRow 0 66 3 (.slice (some ⟨b.g, 0, none⟩) s.blks.length b.c) s.blks.length (cellsOf s.blks)
  map : w.ownsMap Tryz.prog 3 blkR b.m (Maps.size D) D
  nd : b.p ≠ b.g ∧ b.p ≠ b.m ∧ b.g ≠ b.m
  pend : Pend D s.blks
  arm : s.down = false → arm.toNat = s.arm
  bad : ∀ x, x ∈ s.blks → x.fail = true → x.fault = true
/-- the device at p is s, in the blocks F -/
def DvReal (w : World) (p : Nat) (s : DSt) (F : Nat → Prop) : Prop := ∃ b D arm, b.p = p ∧ DvIn w b D s arm ∧ (∀ k, k ∈ b.all → F k) ∧ ∀ k, F k → k < w.heap.size
theorem ownsMap_size {w : World} {b n : Nat} {D : DataW Unit} (h : w.ownsMap Tryz.prog 3 blkR b n D) : w.ownsMap Tryz.prog 3 blkR b (Maps.size D) D := by
  obtain ⟨es, clock, hb, F, hs, rfl⟩ := h
  exact ⟨es, clock, hb, F, by rw [size_eq, length_sorted]; simp, rfl⟩
theorem ownsMap_same {w w' : World} {b n : Nat} {D : DataW Unit} (h : w.ownsMap Tryz.prog 3 blkR b n D) (hk : w'.heap[b]? = w.heap[b]?) : w'.ownsMap Tryz.prog 3 blkR b n D := by
  obtain ⟨es, clock, hb, F, hs, hD⟩ := h
  exact ⟨es, clock, hk.trans hb, F, hs, hD⟩
theorem ownsRow_same {w w' : World} {e : TypeId} {z n c g B : Nat} {xs : List Value} (h : w.ownsRow B e z (.slice (some ⟨g, 0, none⟩) n c) n xs) (hk : w'.heap[g]? = w.heap[g]?) : w'.ownsRow B e z (.slice (some ⟨g, 0, none⟩) n c) n xs := by
  refine ⟨h.1, ?_⟩
  rcases h.2 with ⟨h', _⟩ | ⟨g', cap', cur, h', hb, hg, hr⟩
  · cases h'
  · cases h'
    exact .inr ⟨g, _, cur, rfl, hb, hk.trans hg, hr⟩
theorem DvIn.same {w w' : World} {b : DB} {D : DataW Unit} {s : DSt} {arm : Int} (h : DvIn w b D s arm) (hk : ∀ k, k ∈ b.all → w'.heap[k]? = w.heap[k]?) : DvIn w' b D s arm :=
  ⟨h.box.same (hk _ (by simp [DB.all])), ownsRow_same h.row (hk _ (by simp [DB.all])), ownsMap_same h.map (hk _ (by simp [DB.all])), h.nd, h.pend, h.arm, h.bad⟩
theorem DvIn.lt {w : World} {b : DB} {D : DataW Unit} {s : DSt} {arm : Int} (h : DvIn w b D s arm) : ∀ k, k ∈ b.all → k < w.heap.size := by
  intro k hk
  simp only [DB.all, List.mem_cons, List.not_mem_nil, or_false] at hk
  rcases hk with rfl | rfl | rfl
  · exact h.box.lt
  · exact (h.row.lt b.g rfl).2
  · exact h.map.lt
theorem DvReal.kept {w w' : World} {p : Nat} {s : DSt} {F : Nat → Prop} (h : DvReal w p s F) (hk : Kept F w w') : DvReal w' p s F := by
  obtain ⟨b, D, arm, hp, hi, hF, hl⟩ := h
  exact ⟨b, D, arm, hp, hi.same (fun k hk' => hk.1 k (hF k hk')), hF, fun k h' => Nat.lt_of_lt_of_le (hl k h') hk.2⟩
theorem DvReal.lt {w : World} {p : Nat} {s : DSt} {F : Nat → Prop} (h : DvReal w p s F) : ∀ k, F k → k < w.heap.size := by
  obtain ⟨b, D, arm, hp, hi, hF, hl⟩ := h
  exact hl
/-- a store into the struct -/
theorem DvIn.put_box {w : World} {b : DB} {D : DataW Unit} {s t : DSt} {arm arm' : Int} (h : DvIn w b D s arm) (k : Nat) (u : Value) (hc : (b.cells s.blks.length s.calls arm s.down).setIfInBounds k u = b.cells t.blks.length t.calls arm' t.down) (hb : t.blks = s.blks) (ha : t.down = false → arm'.toNat = t.arm) : DvIn (w.setCell ⟨b.p, k, none⟩ u) b D t arm' :=
  ⟨(by rw [← hc]; exact h.box.put k u), (by rw [hb]; exact ownsRow_same h.row (Below.heap_setCell w ⟨b.p, k, none⟩ u b.g (Ne.symm h.nd.1))), ownsMap_same h.map (Below.heap_setCell w ⟨b.p, k, none⟩ u b.m (Ne.symm h.nd.2.1)), h.nd, (by rw [hb]; exact h.pend), ha, (by rw [hb]; exact h.bad)⟩
theorem DvIn.cell {w : World} {b : DB} {D : DataW Unit} {s : DSt} {arm : Int} (h : DvIn w b D s arm) {k j : Nat} {x : BSt} {u : Value} (hx : s.blks[k]? = some x) (hj : j < 3) (hu : (cells3 x)[j]? = some u) : w.cell? ⟨b.g, k * 3 + j, none⟩ = some u := by
  have hk : k < s.blks.length := (List.getElem?_eq_some_iff.1 hx).1
  rw [h.row.cellAt (k * 3 + j) (by omega), cellsOf_get hx hj, hu]
theorem DvIn.free {w : World} {b : DB} {D : DataW Unit} {s : DSt} {arm : Int} (h : DvIn w b D s arm) (k : Nat) : w.frozen? ⟨b.g, k, none⟩ = false := h.row.frozenAt k
end Go.Proofs.YtkhdgacjgccnnaaGreatDoor
namespace Go.Proofs.YtkhdgacjgccnnaaGreatDoor
open Go.RowKit Go.Maps

theorem DvReal.in_ {w : World} {p : Nat} {s : DSt} {F : Nat → Prop} (h : DvReal w p s F) : ∃ b D arm, b.p = p ∧ DvIn w b D s arm := by
  obtain ⟨b, D, arm, hp, hi, _⟩ := h
  exact ⟨b, D, arm, hp, hi⟩
set_option maxRecDepth 100000 in
set_option maxHeartbeats 1000000 in
theorem dvThere_any (p : Nat) (s : DSt) (F : Nat → Prop) (i : Int) (w : World) (h : DvReal w p s F) :
    Calls Tryz.prog 104 #[.pointer (some ⟨p, 0, none⟩), .int .i64 i] w fun e w' => e = .returned (.bool (s.inB i)) ∧ w = w' := by
  obtain ⟨b, D, arm, rfl, hin⟩ := h.in_
  have c0 := hin.box.cell 0
  simp [DB.cells] at c0
  obtain ⟨N, hN⟩ : ∃ N, s.blks.length = N := ⟨_, rfl⟩
  have hI : s.inB i = (decide (0 ≤ i) && decide (i < (N : Int))) := by rw [← hN]; rfl
  rw [hI]
  rw [hN] at c0
  clear hin h hI hN
  by_cases h0 : 0 ≤ i
  · by_cases h1 : i < (N : Int)
    · rw [show (decide (0 ≤ i) && decide (i < (N : Int))) = true by simp [h0, h1]]
      go_enter Tryz.func104, Tryz.ntmps104
      go_wp2
      go_ret
      exact ⟨rfl, rfl⟩
    · rw [show (decide (0 ≤ i) && decide (i < (N : Int))) = false by simp [h1]]
      go_enter Tryz.func104, Tryz.ntmps104
      go_wp2
      go_ret
      exact ⟨rfl, rfl⟩
  · rw [show (decide (0 ≤ i) && decide (i < (N : Int))) = false by simp [h0]]
    go_enter Tryz.func104, Tryz.ntmps104
    go_wp2
    go_ret
    exact ⟨rfl, rfl⟩
set_option maxRecDepth 100000 in
set_option maxHeartbeats 1000000 in
theorem dvBlocks_any (p : Nat) (s : DSt) (F : Nat → Prop) (w : World) (h : DvReal w p s F) : Calls Tryz.prog 58 #[.pointer (some ⟨p, 0, none⟩)] w (Quiet w (.int .i64 (s.blks.length : Int))) := by
  obtain ⟨b, D, arm, rfl, hin⟩ := h.in_
  have c0 := hin.box.cell 0
  simp [DB.cells] at c0
  clear hin h
  go_enter Tryz.func58, Tryz.ntmps58
  go_wp2
  go_ret
  exact ⟨rfl, 0, rfl⟩
end Go.Proofs.YtkhdgacjgccnnaaGreatDoor
namespace Go.Proofs.YtkhdgacjgccnnaaGreatDoor
open Go.RowKit Go.Maps

/-- the power is found gone: the device behind it -/
def PowerDv (w : World) (p : Nat) (s : DSt) (F : Nat → Prop) (e : Ending) (w' : World) : Prop := e = .returned (.bool (s.power.1 != 0)) ∧ DvReal w' p s.power.2 F ∧ Only (fun k => k = p) w w'
theorem dvPower_end {w : World} {b : DB} {D : DataW Unit} {s t : DSt} {arm' : Int} {F : Nat → Prop} {x : Int} {y : Bool} {v : Value} {u : Value} (hs : s.power = (x, t)) (hy : (x != 0) = y) (hF : ∀ k, k ∈ b.all → F k) (hl : ∀ k, F k → k < w.heap.size) (h : DvIn ((w.setCell ⟨b.p, 3, none⟩ v).setCell ⟨b.p, 4, none⟩ u) b D t arm') : PowerDv w b.p s F (.returned (.bool y)) ((w.setCell ⟨b.p, 3, none⟩ v).setCell ⟨b.p, 4, none⟩ u) := by
  unfold PowerDv
  rw [hs, hy]
  exact ⟨rfl, ⟨b, D, arm', rfl, h, hF, fun k hk => by simpa using hl k hk⟩, ((Only.refl (fun k => k = b.p) w).put (p := ⟨b.p, 3, none⟩) rfl _).put (p := ⟨b.p, 4, none⟩) rfl _⟩
set_option maxRecDepth 100000 in
set_option maxHeartbeats 1000000 in
theorem dvPower_any (p : Nat) (s : DSt) (F : Nat → Prop) (w : World) (h : DvReal w p s F) (hok : s.arm ≤ 9223372036854775807) :
    Calls Tryz.prog 93 #[.pointer (some ⟨p, 0, none⟩)] w (PowerDv w p s F) := by
  have hself := h
  obtain ⟨b, D, arm, rfl, hin, hF, hl⟩ := h
  have c3 := hin.box.cell 3
  have c4 := hin.box.cell 4
  have f3 := hin.box.free 3
  have f4 := hin.box.free 4
  simp [DB.cells] at c3 c4
  have HIN := hid hin
  have HF := hid hF
  have HL := hid hl
  have a1 := hin.arm
  have HS := hid hself
  clear hin hF hl hself
  by_cases h0 : 0 < arm
  · rcases hd : s.down with _ | _
    · have ea : s.arm = arm.toNat := (a1 hd).symm
      have a2 : arm ≤ 9223372036854775807 := by omega
      by_cases h1 : arm = 1
      · subst h1
        have hs : s.power = (106, { s with arm := 0, down := true }) := by unfold DSt.power; rw [hd, ea]; rfl
        have i1 := HIN.out.put_box (t := { s with arm := 0 }) (arm' := 0) 3 (.int .i64 0) (by rfl) rfl (fun _ => rfl)
        have i2 := i1.put_box (t := { s with arm := 0, down := true }) (arm' := 0) 4 (.bool true) (by rfl) rfl (fun _ => rfl)
        have HE := hid (dvPower_end hs rfl HF.out HL.out i2)
        rw [hd] at c4
        clear i1 i2 hs hd ea a1 a2 hok
        go_enter Tryz.func93, Tryz.ntmps93
        go_wp2
        go_ret
        exact HE.out
      · have hs : s.power = (0, { s with arm := s.arm - 1 }) := by unfold DSt.power; rw [hd, ea, if_neg (by decide), if_neg (by omega), if_neg (by omega)]
        have i1 := HIN.out.put_box (t := { s with arm := s.arm - 1 }) (arm' := arm - 1) 3 (.int .i64 (arm - 1)) (by rfl) rfl (fun _ => by show (arm - 1).toNat = s.arm - 1; omega)
        have i2 := i1.put_box (t := { s with arm := s.arm - 1 }) (arm' := arm - 1) 4 (.bool false) (by rw [show (DSt.down { s with arm := s.arm - 1 }) = false from hd]; rfl) rfl (fun _ => by show (arm - 1).toNat = s.arm - 1; omega)
        have HE := hid (dvPower_end hs rfl HF.out HL.out i2)
        have hne : (arm - 1 == 0) = false := by rw [beq_eq_false_iff_ne]; omega
        rw [hd] at c4
        clear i1 i2 hs hd ea a1 hok
        go_enter Tryz.func93, Tryz.ntmps93
        go_wp2
        go_ret
        exact HE.out
    · have hs : s.power = (106, s) := by unfold DSt.power; rw [hd]; rfl
      have i1 := HIN.out.put_box (t := s) (arm' := wrap64 (arm - 1)) 3 (.int .i64 (wrap64 (arm - 1))) (by rfl) rfl (fun h => absurd (h.symm.trans hd) (by decide))
      have i2 := i1.put_box (t := s) (arm' := wrap64 (arm - 1)) 4 (.bool true) (by rw [hd]; rfl) rfl (fun h => absurd (h.symm.trans hd) (by decide))
      have HE := hid (dvPower_end hs rfl HF.out HL.out i2)
      rw [hd] at c4
      clear i1 i2 hs hd a1 hok
      go_enter Tryz.func93, Tryz.ntmps93
      go_wp2
      go_ret
      exact HE.out
  · have HE := hid (show PowerDv w b.p s F (.returned (.bool s.down)) w by
      unfold PowerDv
      have e : s.power = (if s.down = true then 106 else 0, s) := by
        unfold DSt.power
        rcases hd : s.down with _ | _
        · rw [if_neg (by decide), if_pos (by have := a1 hd; omega)]; rfl
        · rfl
      rw [e]
      refine ⟨?_, HS.out, Only.refl _ _⟩
      rcases hd : s.down with _ | _ <;> rfl)
    clear a1 hok
    go_enter Tryz.func93, Tryz.ntmps93
    go_wp2
    go_ret
    exact HE.out
theorem PowerDv.more {w w' : World} {p : Nat} {s : DSt} {F : Nat → Prop} {e : Ending} (h : PowerDv w p s F e w') (hp : F p) : Only F w w' := h.2.2.mono (fun i hi => .inl (by rw [hi]; exact hp))
/-- the errors lie elsewhere -/
theorem Sent5.only {w w' : World} {S : Nat → Addr} {p : Nat} {t : TypeId} {cs : Array Value} (h : Sent5 w S) (hb : Blk w p t cs) (h0 : ∃ a n c, cs[0]? = some (.slice a n c)) (ho : Only (fun k => k = p) w w') : Sent5 w' S := fun i hi => by
  have hc := h i hi
  refine (World.cell?_of_block (ho.block _ (World.block_lt_of_cell? w _ hc) ?_)).trans hc
  intro e
  obtain ⟨a, n, c, h0⟩ := h0
  have e' : (⟨glo.getD i 0, 0, none⟩ : Addr) = ⟨p, 0, none⟩ := by rw [show glo.getD i 0 = p from e]
  rw [e', hb.cell 0, h0] at hc
  cases hc
theorem DvReal.sent {w w' : World} {S : Nat → Addr} {p : Nat} {s : DSt} {F : Nat → Prop} (h : DvReal w p s F) (hS : Sent5 w S) (ho : Only (fun k => k = p) w w') : Sent5 w' S := by
  obtain ⟨b, D, arm, rfl, hin⟩ := h.in_
  exact hS.only hin.box ⟨_, _, _, rfl⟩ ho
theorem DSt.power_ok {s : DSt} (h : s.power.1 ≠ 0) : s.power.1 = 106 := by
  unfold DSt.power at h ⊢
  split at h <;> rename_i h1
  · rw [if_pos h1]
  · rw [if_neg h1]
    split at h <;> rename_i h2
    · exact absurd rfl h
    · rw [if_neg h2]
      split at h <;> rename_i h3
      · rw [if_pos h3]
      · exact absurd rfl h
end Go.Proofs.YtkhdgacjgccnnaaGreatDoor
namespace Go.Proofs.YtkhdgacjgccnnaaGreatDoor
open Go.RowKit Go.Maps

set_option maxRecDepth 100000 in
set_option maxHeartbeats 1000000 in
theorem dvAnew_any (p g N cc : Nat) (ev : Bool) (j : Nat) (A : Option Addr) (n c : Nat) (l : List Int) (w : World) (c0 : w.cell? ⟨p, 0, none⟩ = some (.slice (some ⟨g, 0, none⟩) N cc)) (c2 : w.cell? ⟨g, j * 3 + 2, none⟩ = some (.bool ev)) (hj : (j : Int) < N) (hs : Sl w w.heap.size A n c l) :
    Calls Tryz.prog 156 #[.pointer (some ⟨p, 0, none⟩), .int .i64 (j : Int), .slice A n c] w fun e w' => e = .returned (.agg #[.string (strOfNums l), .int .i8 0, .bool ev]) ∧ Below w.heap.size w w' := by
  have hp : p < w.heap.size := World.block_lt_of_cell? w _ c0
  have hg : g < w.heap.size := World.block_lt_of_cell? w _ c2
  have hs1 := hs.alloc (Nat.le_refl _) (.cells #[.string ⟨#[]⟩, .int .i8 0, .bool false] 66)
  have hq : (convert 29 9 (.slice A n c)).run Tryz.prog (w.alloc (.cells #[.string ⟨#[]⟩, .int .i8 0, .bool false] 66)).drew = .ok (.string (strOfNums l)) (w.alloc (.cells #[.string ⟨#[]⟩, .int .i8 0, .bool false] 66)).drew := conv_any hs1.drew
  clear hs1 hs
  go_enter Tryz.func156, Tryz.ntmps156
  go_wp2
  go_region
  go_wp2
  exact bodyPost_ret (v := .agg #[.string (strOfNums l), .int .i8 0, .bool ev]) (by simp [results, Tryz.results156, go_sem]) rfl ⟨rfl, ((Below.refl _ _).alloc (Nat.le_refl _) _).drew⟩
end Go.Proofs.YtkhdgacjgccnnaaGreatDoor
namespace Go.Proofs.YtkhdgacjgccnnaaGreatDoor
open Go.RowKit Go.Maps

theorem turn_set {s : DSt} {j : Nat} {x : BSt} (f : BSt → BSt) (hx : s.blks[j]? = some x) : s.turn (j : Int) f = { s with blks := s.blks.set j (f x) } := by
  unfold DSt.turn
  rw [Int.toNat_natCast]
  congr 1
  apply List.ext_getElem?
  intro i
  rw [List.getElem?_modify, List.getElem?_set]
  have hj : j < s.blks.length := (List.getElem?_eq_some_iff.1 hx).1
  by_cases e : j = i
  · subst e
    rw [hx]
    simp [hj]
  · simp [e]
def BoolDv (w : World) (p : Nat) (r : Bool × DSt) (F : Nat → Prop) (e : Ending) (w' : World) : Prop := e = .returned (.bool r.1) ∧ RealUpd DvReal w p r.2 F w'
theorem BoolDv.no {w w' : World} {p : Nat} {s : DSt} {F : Nat → Prop} (h : DvReal w p s F) (hb : Below w.heap.size w w') : BoolDv w p (false, s) F (.returned (.bool false)) w' :=
  ⟨rfl, F, h.kept (Kept.of_below hb h.lt), Only.of_below hb, fun _ h => .inl h⟩
/-- the device, behind what only laid -/
theorem DvIn.below {w w' : World} {b : DB} {D : DataW Unit} {s : DSt} {arm : Int} (h : DvIn w b D s arm) (hb : Below w.heap.size w w') : DvIn w' b D s arm := h.same (fun k hk => hb.block k (h.lt k hk))
end Go.Proofs.YtkhdgacjgccnnaaGreatDoor
