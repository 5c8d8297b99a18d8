/- Put together out of 1 texts. Package dev's device in memory; its small calls. -/
import Derived.Test.YtajcfhhnmjcmjaaGreatDoorProg
import Derived.Shelf.SlIterI.Nil
import Derived.Shelf.SortM.Plain
import Derived.Shelf.SortM.SortNone
import Derived.Shelf.SlMaps.Clone
import Derived.Test.YtajcfhhnmjcmjaaGreatDoorGXaa
import Derived.Test.YtajcfhhnmjcmjaaGreatDoorGXac
import Derived.Maps.OwnSet
import Derived.Maps.RangeWalk
namespace Go.Proofs.YtajcfhhnmjcmjaaGreatDoor
open Go.RowKit Go.Maps Go.Sort Go.Shelf

def Tryz.sortedA_ren : Go.Shelf.Ren := ⟨fun | 6 => 89 | 8 => 123 | 9 => 124 | 11 => 157 | 13 => 120 | 12 => 158 | 23 => 154 | 24 => 155 | 14 => 172 | 15 => 173 | 16 => 174 | 17 => 175 | 18 => 176 | 19 => 177 | 20 => 129 | 21 => 178 | 22 => 179 | 25 => 184 | 26 => 168 | 27 => 169 | 28 => 185 | 29 => 186 | 30 => 162 | 31 => 187 | n => n, fun | 26 => 3 | 28 => 168 | 24 => 37 | 0 => 0 | 3 => 3 | 37 => 28 | 48 => 38 | 50 => 160 | 4 => 4 | 40 => 222 | 39 => 221 | 45 => 53 | 5 => 5 | 9 => 9 | 51 => 243 | 55 => 247 | 57 => 258 | 58 => 259 | 33 => 39 | n => n, fun | n => n⟩
theorem Tryz.sortedA : Go.Proofs.SlLaysZI.n6 Tryz.prog Tryz.sortedA_ren := {
    mixed := by kernel_rfl,
    f6 := ⟨Tryz.f89.name, by decide, Tryz.func89.trans (congrArg some (by kernel_rfl))⟩,
    f8 := ⟨Tryz.f123.name, by decide, Tryz.func123.trans (congrArg some (by kernel_rfl))⟩,
    f11 := ⟨Tryz.f157.name, by decide, Tryz.func157.trans (congrArg some (by kernel_rfl))⟩,
    t0 := Tryz.underlying0,
    a0 := Tryz.isAgg0,
    z0 := Tryz.sizeOf0,
    v0 := Tryz.zeroValue0,
    t24 := Tryz.underlying37,
    a24 := Tryz.isAgg37,
    z24 := Tryz.sizeOf37,
    v24 := Tryz.zeroValue37,
    t26 := Tryz.underlying3,
    a26 := Tryz.isAgg3,
    z26 := Tryz.sizeOf3,
    v26 := Tryz.zeroValue3,
    t28 := Tryz.underlying168,
    a28 := Tryz.isAgg168,
    z28 := Tryz.sizeOf168,
    v28 := Tryz.zeroValue168,
    i26 := by kernel_rfl }
def Tryz.sortA_ren : Go.Shelf.Ren := ⟨fun | 5 => 124 | 8 => 120 | 7 => 158 | 19 => 154 | 20 => 155 | 10 => 172 | 11 => 173 | 12 => 174 | 13 => 175 | 14 => 176 | 15 => 177 | 16 => 129 | 17 => 178 | 18 => 179 | 30 => 184 | 31 => 168 | 32 => 169 | 33 => 185 | 34 => 186 | 35 => 162 | 40 => 187 | n => n, fun | 23 => 37 | 25 => 3 | 3 => 3 | 32 => 28 | 22 => 37 | 0 => 0 | 44 => 38 | 46 => 160 | 4 => 4 | 36 => 222 | 35 => 221 | 41 => 53 | 5 => 5 | 9 => 9 | 53 => 243 | 57 => 247 | 63 => 258 | 64 => 259 | n => n, fun | n => n⟩
theorem Tryz.sortA : Go.Proofs.SlLaysM.n5 Tryz.prog Tryz.sortA_ren := {
    mixed := by kernel_rfl,
    f5 := ⟨Tryz.f124.name, by decide, Tryz.func124.trans (congrArg some (by kernel_rfl))⟩,
    f7 := ⟨Tryz.f158.name, by decide, Tryz.func158.trans (congrArg some (by kernel_rfl))⟩,
    f8 := Tryz.func120.trans (congrArg some (by kernel_rfl)),
    f10 := ⟨Tryz.f172.name, by decide, Tryz.func172.trans (congrArg some (by kernel_rfl))⟩,
    f11 := ⟨Tryz.f173.name, by decide, Tryz.func173.trans (congrArg some (by kernel_rfl))⟩,
    f12 := ⟨Tryz.f174.name, by decide, Tryz.func174.trans (congrArg some (by kernel_rfl))⟩,
    f13 := ⟨Tryz.f175.name, by decide, Tryz.func175.trans (congrArg some (by kernel_rfl))⟩,
    f14 := ⟨Tryz.f176.name, by decide, Tryz.func176.trans (congrArg some (by kernel_rfl))⟩,
    f15 := ⟨Tryz.f177.name, by decide, Tryz.func177.trans (congrArg some (by kernel_rfl))⟩,
    f16 := ⟨Tryz.f129.name, by decide, Tryz.func129.trans (congrArg some (by kernel_rfl))⟩,
    f17 := ⟨Tryz.f178.name, by decide, Tryz.func178.trans (congrArg some (by kernel_rfl))⟩,
    f18 := ⟨Tryz.f179.name, by decide, Tryz.func179.trans (congrArg some (by kernel_rfl))⟩,
    f19 := Tryz.func154.trans (congrArg some (by kernel_rfl)),
    f20 := Tryz.func155.trans (congrArg some (by kernel_rfl)),
    f30 := ⟨Tryz.f184.name, by decide, Tryz.func184.trans (congrArg some (by kernel_rfl))⟩,
    f31 := Tryz.func168.trans (congrArg some (by kernel_rfl)),
    f32 := Tryz.func169.trans (congrArg some (by kernel_rfl)),
    f33 := ⟨Tryz.f185.name, by decide, Tryz.func185.trans (congrArg some (by kernel_rfl))⟩,
    f34 := ⟨Tryz.f186.name, by decide, Tryz.func186.trans (congrArg some (by kernel_rfl))⟩,
    f35 := ⟨Tryz.f162.name, by decide, Tryz.func162.trans (congrArg some (by kernel_rfl))⟩,
    f40 := ⟨Tryz.f187.name, by decide, Tryz.func187.trans (congrArg some (by kernel_rfl))⟩,
    t0 := Tryz.underlying0,
    a0 := Tryz.isAgg0,
    z0 := Tryz.sizeOf0,
    v0 := Tryz.zeroValue0,
    t3 := Tryz.underlying3,
    a3 := Tryz.isAgg3,
    z3 := Tryz.sizeOf3,
    v3 := Tryz.zeroValue3,
    t4 := Tryz.underlying4,
    a4 := Tryz.isAgg4,
    z4 := Tryz.sizeOf4,
    v4 := Tryz.zeroValue4,
    t5 := Tryz.underlying5,
    a5 := Tryz.isAgg5,
    z5 := Tryz.sizeOf5,
    v5 := Tryz.zeroValue5,
    t9 := Tryz.underlying9,
    a9 := Tryz.isAgg9,
    z9 := Tryz.sizeOf9,
    v9 := Tryz.zeroValue9,
    t22 := Tryz.underlying37,
    a22 := Tryz.isAgg37,
    z22 := Tryz.sizeOf37,
    v22 := Tryz.zeroValue37,
    t23 := Tryz.underlying37,
    a23 := Tryz.isAgg37,
    z23 := Tryz.sizeOf37,
    v23 := Tryz.zeroValue37,
    t25 := Tryz.underlying3,
    a25 := Tryz.isAgg3,
    z25 := Tryz.sizeOf3,
    v25 := Tryz.zeroValue3,
    t32 := Tryz.underlying28,
    a32 := Tryz.isAgg28,
    z32 := Tryz.sizeOf28,
    v32 := Tryz.zeroValue28,
    t35 := Tryz.underlying221,
    a35 := Tryz.isAgg221,
    z35 := Tryz.sizeOf221,
    v35 := Tryz.zeroValue221,
    t36 := Tryz.underlying222,
    a36 := Tryz.isAgg222,
    z36 := Tryz.sizeOf222,
    v36 := Tryz.zeroValue222,
    t41 := Tryz.underlying53,
    a41 := Tryz.isAgg53,
    z41 := Tryz.sizeOf53,
    v41 := Tryz.zeroValue53,
    t44 := Tryz.underlying38,
    a44 := Tryz.isAgg38,
    z44 := Tryz.sizeOf38,
    v44 := Tryz.zeroValue38,
    t46 := Tryz.underlying160,
    a46 := Tryz.isAgg160,
    z46 := Tryz.sizeOf160,
    v46 := Tryz.zeroValue160,
    t53 := Tryz.underlying243,
    a53 := Tryz.isAgg243,
    z53 := Tryz.sizeOf243,
    v53 := Tryz.zeroValue243,
    t57 := Tryz.underlying247,
    a57 := Tryz.isAgg247,
    z57 := Tryz.sizeOf247,
    v57 := Tryz.zeroValue247,
    t63 := Tryz.underlying258,
    a63 := Tryz.isAgg258,
    z63 := Tryz.sizeOf258,
    v63 := Tryz.zeroValue258,
    t64 := Tryz.underlying259,
    a64 := Tryz.isAgg259,
    z64 := Tryz.sizeOf259,
    v64 := Tryz.zeroValue259 }
end Go.Proofs.YtajcfhhnmjcmjaaGreatDoor
namespace Go.Proofs.YtajcfhhnmjcmjaaGreatDoor
open Go.RowKit Go.Maps Go.Sort Go.Shelf

theorem sortsA (m : Nat) : AnyZI.SortsIn Tryz.prog Tryz.sortedA_ren Fence.wide m :=
  ⟨fun blk off cap ss W hH hblk hsz => callsIn_wide.2 (AnyM.slices_Sort_int Tryz.sortA blk off cap ss W hH hblk hsz),
   fun p cap W => callsIn_wide.2 (AnyM.slices_Sort_int_none Tryz.sortA p cap W)⟩
/-- a new slice of the keys, rising -/
def SortedKeys {H : Type} (D : DataW H) (w : World) (e : Ending) (w' : World) : Prop := ∃ (v : Value) (ss : List Int), e = .returned v ∧ ss.Perm (intKeys D) ∧ OwnN w' w.heap.size v (ss.mergeSort (fun x y => decide (x ≤ y))) ∧ Below w.heap.size w w'
end Go.Proofs.YtajcfhhnmjcmjaaGreatDoor
namespace Go.Proofs.YtajcfhhnmjcmjaaGreatDoor
open Go.RowKit Go.Maps

/-- a block's three cells -/
def faultN (x : BSt) : Int := if x.fail = true then 2 else if x.fault = true then 1 else 0
def cells3 (x : BSt) : List Value := [.string (strOfNums x.has), .int .i8 (faultN x), .bool x.ever]
def cellsOf (l : List BSt) : List Value := l.flatMap cells3
theorem cellsOf_len (l : List BSt) : (cellsOf l).length = l.length * 3 := by
  induction l with
  | nil => rfl
  | cons x l ih => simp only [cellsOf, List.flatMap_cons, List.length_append, List.length_cons] at ih ⊢; rw [ih]; simp [cells3]; omega
theorem cellsOf_get {l : List BSt} {k : Nat} {x : BSt} (h : l[k]? = some x) {j : Nat} (hj : j < 3) : (cellsOf l)[k * 3 + j]? = (cells3 x)[j]? := by
  induction l generalizing k with
  | nil => simp at h
  | cons y l ih =>
    rcases k with _ | k
    · simp at h
      subst h
      simp only [cellsOf, List.flatMap_cons]
      rw [List.getElem?_append_left (by simp [cells3]; omega)]
      congr 1
      omega
    · simp at h
      simp only [cellsOf, List.flatMap_cons]
      rw [List.getElem?_append_right (by simp [cells3]; omega)]
      have e : (k + 1) * 3 + j - (cells3 y).length = k * 3 + j := by simp [cells3]; omega
      rw [e]
      exact ih h
/-- its j-th cell set, in the k-th block -/
theorem cellsOf_set {l : List BSt} {k : Nat} {x x' : BSt} {j : Nat} {u : Value} (h : l[k]? = some x) (hj : j < 3) (e : (cells3 x).set j u = cells3 x') : (cellsOf l).set (k * 3 + j) u = cellsOf (l.set k x') := by
  induction l generalizing k with
  | nil => simp at h
  | cons y l ih =>
    rcases k with _ | k
    · simp at h
      subst h
      simp only [cellsOf, List.flatMap_cons, List.set_cons_zero]
      rw [List.set_append_left _ _ (by simp [cells3]; omega), ← e]
      congr 2
      omega
    · simp at h
      simp only [cellsOf, List.flatMap_cons, List.set_cons_succ]
      rw [List.set_append_right _ _ (by simp [cells3]; omega)]
      have e2 : (k + 1) * 3 + j - (cells3 y).length = k * 3 + j := by simp [cells3]; omega
      rw [e2]
      congr 1
      exact ih h
/-- how a pending block reads -/
def blkD (x : ByteArray) (c : Int) (e : Bool) : DataW Unit := .agg [.lit (.string x.data.toList), .lit (.int .i8 c), .lit (.bool e)]
def blkV (x : ByteArray) (c : Int) (e : Bool) : Value := .agg #[.string x, .int .i8 c, .bool e]
def blkL : List Value → Option (DataW Unit × List MemPlace)
  | [.string x, .int .i8 c, .bool e] => some (blkD x c e, [])
  | _ => none
def blkR : Value → Option (DataW Unit × List MemPlace)
  | .agg cs => blkL cs.toList
  | _ => none
theorem blkR_mk (x : ByteArray) (c : Int) (e : Bool) : blkR (blkV x c e) = some (blkD x c e, []) := rfl
theorem blkR_inv {v : Value} {y : DataW Unit × List MemPlace} (h : blkR v = some y) : ∃ x c e, v = .agg #[.string x, .int .i8 c, .bool e] ∧ y = (blkD x c e, []) := by
  unfold blkR at h
  split at h
  · rename_i cs
    obtain ⟨l⟩ := cs
    simp only at h
    unfold blkL at h
    split at h
    · cases h
      exact ⟨_, _, _, rfl, rfl⟩
    · cases h
  · cases h
theorem blkD_inj {x x' : ByteArray} {c c' : Int} {e e' : Bool} (h : blkD x c e = blkD x' c' e') : x = x' ∧ c = c' ∧ e = e' := by
  simp only [blkD, DataW.agg.injEq, List.cons.injEq, DataW.lit.injEq, Lit.string.injEq, Lit.int.injEq, Lit.bool.injEq, and_true, true_and] at h
  obtain ⟨h1, h2, h3⟩ := h
  exact ⟨by obtain ⟨⟨a⟩⟩ := x; obtain ⟨⟨b⟩⟩ := x'; simp at h1; rw [h1], h2, h3⟩
/-- an int's key -/
abbrev kl (i : Nat) : Lit := .int .i64 (i : Int)
theorem law : Keyed Tryz.prog 3 := int_keyed Tryz.underlying3
theorem key_of {i : Nat} (h : i ≤ 100000) : keyOf Tryz.prog 3 (.int .i64 (i : Int)) = some (kl i) := keyOf_int_mk Tryz.underlying3 (WalkArith.wf_i64 (by omega))
theorem Tryz.zeroBlk (w : World) : (zeroValue 74).run Tryz.prog w = .ok (blkV ⟨#[]⟩ 0 false) w := by kernel_rfl
/-- what is pending of these blocks -/
structure Pend (D : DataW Unit) (l : List BSt) : Prop where
  has : ∀ (k : Nat) (x : BSt), l[k]? = some x → Maps.has D (kl k) = x.pend
  val : ∀ (k : Nat) (x : BSt), l[k]? = some x → x.pend = true → ∀ z, D.atKey (kl k) z = blkD (strOfNums x.next) 0 x.ever
  key : ∀ z, Maps.has D z = true → ∃ k, k < l.length ∧ z = kl k
  size : Maps.size D = l.countP BSt.pend
structure DB where
  p : Nat
  g : Nat
  c : Nat
  m : Nat
def DB.all (b : DB) : List Nat := [b.p, b.g, b.m]
def DB.cells (b : DB) (n calls : Nat) (arm : Int) (down : Bool) : Array Value := #[.slice (some ⟨b.g, 0, none⟩) n b.c, .map (some b.m), .int .i64 (calls : Int), .int .i64 arm, .bool down]
/-- the device's memory -/
structure DvIn (w : World) (b : DB) (D : DataW Unit) (s : DSt) (arm : Int) : Prop where
  box : Blk w b.p 78 (b.cells s.blks.length s.calls arm s.down)
  row : w.ownsRow 0 74 3 (.slice (some ⟨b.g, 0, none⟩) s.blks.length b.c) s.blks.length (cellsOf s.blks)
  map : w.ownsMap Tryz.prog 3 blkR b.m (Maps.size D) D
  nd : b.p ≠ b.g ∧ b.p ≠ b.m ∧ b.g ≠ b.m
  pend : Pend D s.blks
  arm : s.down = false → arm.toNat = s.arm
  bad : ∀ x, x ∈ s.blks → x.fail = true → x.fault = true
/-- the device at p is s, in the blocks F -/
def DvReal (w : World) (p : Nat) (s : DSt) (F : Nat → Prop) : Prop := ∃ b D arm, b.p = p ∧ DvIn w b D s arm ∧ (∀ k, k ∈ b.all → F k) ∧ ∀ k, F k → k < w.heap.size
theorem ownsMap_size {w : World} {b n : Nat} {D : DataW Unit} (h : w.ownsMap Tryz.prog 3 blkR b n D) : w.ownsMap Tryz.prog 3 blkR b (Maps.size D) D := by
  obtain ⟨es, clock, hb, F, hs, rfl⟩ := h
  exact ⟨es, clock, hb, F, by rw [size_eq, length_sorted]; simp, rfl⟩
theorem ownsMap_same {w w' : World} {b n : Nat} {D : DataW Unit} (h : w.ownsMap Tryz.prog 3 blkR b n D) (hk : w'.heap[b]? = w.heap[b]?) : w'.ownsMap Tryz.prog 3 blkR b n D := by
  obtain ⟨es, clock, hb, F, hs, hD⟩ := h
  exact ⟨es, clock, hk.trans hb, F, hs, hD⟩
theorem ownsRow_same {w w' : World} {e : TypeId} {z n c g B : Nat} {xs : List Value} (h : w.ownsRow B e z (.slice (some ⟨g, 0, none⟩) n c) n xs) (hk : w'.heap[g]? = w.heap[g]?) : w'.ownsRow B e z (.slice (some ⟨g, 0, none⟩) n c) n xs := by
  refine ⟨h.1, ?_⟩
  rcases h.2 with ⟨h', _⟩ | ⟨g', cap', cur, h', hb, hg, hr⟩
  · cases h'
  · cases h'
    exact .inr ⟨g, _, cur, rfl, hb, hk.trans hg, hr⟩
theorem DvIn.same {w w' : World} {b : DB} {D : DataW Unit} {s : DSt} {arm : Int} (h : DvIn w b D s arm) (hk : ∀ k, k ∈ b.all → w'.heap[k]? = w.heap[k]?) : DvIn w' b D s arm :=
  ⟨h.box.same (hk _ (by simp [DB.all])), ownsRow_same h.row (hk _ (by simp [DB.all])), ownsMap_same h.map (hk _ (by simp [DB.all])), h.nd, h.pend, h.arm, h.bad⟩
theorem DvIn.lt {w : World} {b : DB} {D : DataW Unit} {s : DSt} {arm : Int} (h : DvIn w b D s arm) : ∀ k, k ∈ b.all → k < w.heap.size := by
  intro k hk
  simp only [DB.all, List.mem_cons, List.not_mem_nil, or_false] at hk
  rcases hk with rfl | rfl | rfl
  · exact h.box.lt
  · exact (h.row.lt b.g rfl).2
  · exact h.map.lt
theorem DvReal.kept {w w' : World} {p : Nat} {s : DSt} {F : Nat → Prop} (h : DvReal w p s F) (hk : Kept F w w') : DvReal w' p s F := by
  obtain ⟨b, D, arm, hp, hi, hF, hl⟩ := h
  exact ⟨b, D, arm, hp, hi.same (fun k hk' => hk.1 k (hF k hk')), hF, fun k h' => Nat.lt_of_lt_of_le (hl k h') hk.2⟩
theorem DvReal.lt {w : World} {p : Nat} {s : DSt} {F : Nat → Prop} (h : DvReal w p s F) : ∀ k, F k → k < w.heap.size := by
  obtain ⟨b, D, arm, hp, hi, hF, hl⟩ := h
  exact hl
theorem upd_of {w w' : World} {b : DB} {D : DataW Unit} {s : DSt} {arm : Int} {F : Nat → Prop} (hF : ∀ k, k ∈ b.all → F k) (hl : ∀ k, F k → k < w.heap.size) (h : DvIn w' b D s arm) (ho : Only F w w') : RealUpd DvReal w b.p s F w' :=
  ⟨F, ⟨b, D, arm, rfl, h, hF, fun k hk => Nat.lt_of_lt_of_le (hl k hk) ho.size⟩, ho, fun _ h => .inl h⟩
/-- a store into the struct -/
theorem DvIn.put_box {w : World} {b : DB} {D : DataW Unit} {s t : DSt} {arm arm' : Int} (h : DvIn w b D s arm) (k : Nat) (u : Value) (hc : (b.cells s.blks.length s.calls arm s.down).setIfInBounds k u = b.cells t.blks.length t.calls arm' t.down) (hb : t.blks = s.blks) (ha : t.down = false → arm'.toNat = t.arm) : DvIn (w.setCell ⟨b.p, k, none⟩ u) b D t arm' :=
  ⟨(by rw [← hc]; exact h.box.put k u), (by rw [hb]; exact ownsRow_same h.row (Below.heap_setCell w ⟨b.p, k, none⟩ u b.g (Ne.symm h.nd.1))), ownsMap_same h.map (Below.heap_setCell w ⟨b.p, k, none⟩ u b.m (Ne.symm h.nd.2.1)), h.nd, (by rw [hb]; exact h.pend), ha, (by rw [hb]; exact h.bad)⟩
/-- a store into the row of blocks, that leaves blocks again -/
theorem row_put {w : World} {g c n : Nat} {l : List BSt} {k j : Nat} {x x' : BSt} {u : Value} (h : w.ownsRow 0 74 3 (.slice (some ⟨g, 0, none⟩) n c) n (cellsOf l)) (hx : l[k]? = some x) (hj : j < 3) (e : (cells3 x).set j u = cells3 x') : (w.setCell ⟨g, k * 3 + j, none⟩ u).ownsRow 0 74 3 (.slice (some ⟨g, 0, none⟩) n c) n (cellsOf (l.set k x')) := by
  have := (h.stored (k * 3 + j) u).1
  rwa [cellsOf_set hx hj e] at this
theorem DvIn.cell {w : World} {b : DB} {D : DataW Unit} {s : DSt} {arm : Int} (h : DvIn w b D s arm) {k j : Nat} {x : BSt} {u : Value} (hx : s.blks[k]? = some x) (hj : j < 3) (hu : (cells3 x)[j]? = some u) : w.cell? ⟨b.g, k * 3 + j, none⟩ = some u := by
  have hk : k < s.blks.length := (List.getElem?_eq_some_iff.1 hx).1
  rw [h.row.cellAt (k * 3 + j) (by omega), cellsOf_get hx hj, hu]
theorem DvIn.free {w : World} {b : DB} {D : DataW Unit} {s : DSt} {arm : Int} (h : DvIn w b D s arm) (k : Nat) : w.frozen? ⟨b.g, k, none⟩ = false := h.row.frozenAt k
end Go.Proofs.YtajcfhhnmjcmjaaGreatDoor
namespace Go.Proofs.YtajcfhhnmjcmjaaGreatDoor
open Go.RowKit Go.Maps

theorem DvReal.in_ {w : World} {p : Nat} {s : DSt} {F : Nat → Prop} (h : DvReal w p s F) : ∃ b D arm, b.p = p ∧ DvIn w b D s arm := by
  obtain ⟨b, D, arm, hp, hi, _⟩ := h
  exact ⟨b, D, arm, hp, hi⟩
set_option maxRecDepth 100000 in
set_option maxHeartbeats 1000000 in
theorem dvThere_any (p : Nat) (s : DSt) (F : Nat → Prop) (i : Int) (w : World) (h : DvReal w p s F) :
    Calls Tryz.prog 29 #[.pointer (some ⟨p, 0, none⟩), .int .i64 i] w fun e w' => e = .returned (.bool (s.inB i)) ∧ w = w' := by
  obtain ⟨b, D, arm, rfl, hin⟩ := h.in_
  have c0 := hin.box.cell 0
  simp [DB.cells] at c0
  obtain ⟨N, hN⟩ : ∃ N, s.blks.length = N := ⟨_, rfl⟩
  have hI : s.inB i = (decide (0 ≤ i) && decide (i < (N : Int))) := by rw [← hN]; rfl
  rw [hI]
  rw [hN] at c0
  clear hin h hI hN
  by_cases h0 : 0 ≤ i
  · by_cases h1 : i < (N : Int)
    · rw [show (decide (0 ≤ i) && decide (i < (N : Int))) = true by simp [h0, h1]]
      go_enter Tryz.func29, Tryz.ntmps29
      go_wp2
      go_ret
      exact ⟨rfl, rfl⟩
    · rw [show (decide (0 ≤ i) && decide (i < (N : Int))) = false by simp [h1]]
      go_enter Tryz.func29, Tryz.ntmps29
      go_wp2
      go_ret
      exact ⟨rfl, rfl⟩
  · rw [show (decide (0 ≤ i) && decide (i < (N : Int))) = false by simp [h0]]
    go_enter Tryz.func29, Tryz.ntmps29
    go_wp2
    go_ret
    exact ⟨rfl, rfl⟩
set_option maxRecDepth 100000 in
set_option maxHeartbeats 1000000 in
theorem dvBlocks_any (p : Nat) (s : DSt) (F : Nat → Prop) (w : World) (h : DvReal w p s F) : Calls Tryz.prog 66 #[.pointer (some ⟨p, 0, none⟩)] w (Quiet w (.int .i64 (s.blks.length : Int))) := by
  obtain ⟨b, D, arm, rfl, hin⟩ := h.in_
  have c0 := hin.box.cell 0
  simp [DB.cells] at c0
  clear hin h
  go_enter Tryz.func66, Tryz.ntmps66
  go_wp2
  go_ret
  exact ⟨rfl, 0, rfl⟩
set_option maxRecDepth 100000 in
set_option maxHeartbeats 1000000 in
theorem dvFaulted_any (p : Nat) (s : DSt) (F : Nat → Prop) (i : Int) (w : World) (h : DvReal w p s F) :
    Calls Tryz.prog 12 #[.pointer (some ⟨p, 0, none⟩), .int .i64 i] w fun e w' => e = .returned (.bool (s.faulted i)) ∧ w = w' := by
  have HD := hid h
  by_cases hn : s.inB i = true
  · obtain ⟨hi0, hi1⟩ := DSt.in_iff.1 hn
    obtain ⟨j, rfl⟩ : ∃ j : Nat, i = (j : Int) := ⟨i.toNat, by omega⟩
    obtain ⟨x, hx⟩ : ∃ x, s.blks[j]? = some x := ⟨_, List.getElem?_eq_getElem (by omega)⟩
    have HE : s.faulted (j : Int) = x.fault := by unfold DSt.faulted; rw [hn, Int.toNat_natCast, hx]; rfl
    obtain ⟨b, D, arm, rfl, hin⟩ := h.in_
    have c0 := hin.box.cell 0
    simp [DB.cells] at c0
    have c1 := hin.cell hx (j := 1) (by omega) (u := .int .i8 (faultN x)) rfl
    have hq : (faultN x != 0) = x.fault := by
      have := hin.bad x (List.mem_of_getElem? hx)
      unfold faultN
      rcases hf : x.fail with _ | _ <;> rcases hg : x.fault with _ | _ <;> simp_all
    obtain ⟨q, hfq⟩ : ∃ q, faultN x = q := ⟨_, rfl⟩
    rw [hfq] at c1 hq
    obtain ⟨N, hN⟩ : ∃ N, s.blks.length = N := ⟨_, rfl⟩
    rw [hN] at c0 hi1
    have HN := hid hn
    rw [HE]
    clear hin h hn hfq hN hx HE
    rcases hf : x.fault with _ | _
    · rw [hf] at hq
      have hq' := hq
      go_enter Tryz.func12, Tryz.ntmps12
      go_wp2_with fail
      refine (dvThere_any b.p s F _ w HD.out).mono ?_
      rintro e w' ⟨rfl, rfl⟩
      rw [HN.out]
      go_wp2
      go_ret
      exact ⟨rfl, rfl⟩
    · rw [hf] at hq
      go_enter Tryz.func12, Tryz.ntmps12
      go_wp2_with fail
      refine (dvThere_any b.p s F _ w HD.out).mono ?_
      rintro e w' ⟨rfl, rfl⟩
      rw [HN.out]
      go_wp2
      go_ret
      exact ⟨rfl, rfl⟩
  · have hn' : s.inB i = false := Bool.not_eq_true _ ▸ hn
    have HB := hid hn'
    rw [show s.faulted i = false by unfold DSt.faulted; rw [hn']; rfl]
    clear hn hn' h
    go_enter Tryz.func12, Tryz.ntmps12
    go_wp2_with fail
    refine (dvThere_any p s F _ w HD.out).mono ?_
    rintro e w' ⟨rfl, rfl⟩
    rw [HB.out]
    go_wp2
    go_ret
    exact ⟨rfl, rfl⟩
end Go.Proofs.YtajcfhhnmjcmjaaGreatDoor
namespace Go.Proofs.YtajcfhhnmjcmjaaGreatDoor
open Go.RowKit Go.Maps

/-- the power is found gone: the device behind it -/
def PowerDv (w : World) (p : Nat) (s : DSt) (F : Nat → Prop) (e : Ending) (w' : World) : Prop := e = .returned (.bool (s.power.1 != 0)) ∧ DvReal w' p s.power.2 F ∧ Only (fun k => k = p) w w'
theorem dvPower_end {w : World} {b : DB} {D : DataW Unit} {s t : DSt} {arm' : Int} {F : Nat → Prop} {x : Int} {y : Bool} {v : Value} {u : Value} (hs : s.power = (x, t)) (hy : (x != 0) = y) (hF : ∀ k, k ∈ b.all → F k) (hl : ∀ k, F k → k < w.heap.size) (h : DvIn ((w.setCell ⟨b.p, 3, none⟩ v).setCell ⟨b.p, 4, none⟩ u) b D t arm') : PowerDv w b.p s F (.returned (.bool y)) ((w.setCell ⟨b.p, 3, none⟩ v).setCell ⟨b.p, 4, none⟩ u) := by
  unfold PowerDv
  rw [hs, hy]
  exact ⟨rfl, ⟨b, D, arm', rfl, h, hF, fun k hk => by simpa using hl k hk⟩, ((Only.refl (fun k => k = b.p) w).put (p := ⟨b.p, 3, none⟩) rfl _).put (p := ⟨b.p, 4, none⟩) rfl _⟩
set_option maxRecDepth 100000 in
set_option maxHeartbeats 1000000 in
theorem dvPower_any (p : Nat) (s : DSt) (F : Nat → Prop) (w : World) (h : DvReal w p s F) (hok : s.arm ≤ 9223372036854775807) :
    Calls Tryz.prog 101 #[.pointer (some ⟨p, 0, none⟩)] w (PowerDv w p s F) := by
  have hself := h
  obtain ⟨b, D, arm, rfl, hin, hF, hl⟩ := h
  have c3 := hin.box.cell 3
  have c4 := hin.box.cell 4
  have f3 := hin.box.free 3
  have f4 := hin.box.free 4
  simp [DB.cells] at c3 c4
  have HIN := hid hin
  have HF := hid hF
  have HL := hid hl
  have a1 := hin.arm
  have HS := hid hself
  clear hin hF hl hself
  by_cases h0 : 0 < arm
  · rcases hd : s.down with _ | _
    · have ea : s.arm = arm.toNat := (a1 hd).symm
      have a2 : arm ≤ 9223372036854775807 := by omega
      by_cases h1 : arm = 1
      · subst h1
        have hs : s.power = (106, { s with arm := 0, down := true }) := by unfold DSt.power; rw [hd, ea]; rfl
        have i1 := HIN.out.put_box (t := { s with arm := 0 }) (arm' := 0) 3 (.int .i64 0) (by rfl) rfl (fun _ => rfl)
        have i2 := i1.put_box (t := { s with arm := 0, down := true }) (arm' := 0) 4 (.bool true) (by rfl) rfl (fun _ => rfl)
        have HE := hid (dvPower_end hs rfl HF.out HL.out i2)
        rw [hd] at c4
        clear i1 i2 hs hd ea a1 a2 hok
        go_enter Tryz.func101, Tryz.ntmps101
        go_wp2
        go_ret
        exact HE.out
      · have hs : s.power = (0, { s with arm := s.arm - 1 }) := by unfold DSt.power; rw [hd, ea, if_neg (by decide), if_neg (by omega), if_neg (by omega)]
        have i1 := HIN.out.put_box (t := { s with arm := s.arm - 1 }) (arm' := arm - 1) 3 (.int .i64 (arm - 1)) (by rfl) rfl (fun _ => by show (arm - 1).toNat = s.arm - 1; omega)
        have i2 := i1.put_box (t := { s with arm := s.arm - 1 }) (arm' := arm - 1) 4 (.bool false) (by rw [show (DSt.down { s with arm := s.arm - 1 }) = false from hd]; rfl) rfl (fun _ => by show (arm - 1).toNat = s.arm - 1; omega)
        have HE := hid (dvPower_end hs rfl HF.out HL.out i2)
        have hne : (arm - 1 == 0) = false := by rw [beq_eq_false_iff_ne]; omega
        rw [hd] at c4
        clear i1 i2 hs hd ea a1 hok
        go_enter Tryz.func101, Tryz.ntmps101
        go_wp2
        go_ret
        exact HE.out
    · have hs : s.power = (106, s) := by unfold DSt.power; rw [hd]; rfl
      have i1 := HIN.out.put_box (t := s) (arm' := wrap64 (arm - 1)) 3 (.int .i64 (wrap64 (arm - 1))) (by rfl) rfl (fun h => absurd (h.symm.trans hd) (by decide))
      have i2 := i1.put_box (t := s) (arm' := wrap64 (arm - 1)) 4 (.bool true) (by rw [hd]; rfl) rfl (fun h => absurd (h.symm.trans hd) (by decide))
      have HE := hid (dvPower_end hs rfl HF.out HL.out i2)
      rw [hd] at c4
      clear i1 i2 hs hd a1 hok
      go_enter Tryz.func101, Tryz.ntmps101
      go_wp2
      go_ret
      exact HE.out
  · have HE := hid (show PowerDv w b.p s F (.returned (.bool s.down)) w by
      unfold PowerDv
      have e : s.power = (if s.down = true then 106 else 0, s) := by
        unfold DSt.power
        rcases hd : s.down with _ | _
        · rw [if_neg (by decide), if_pos (by have := a1 hd; omega)]; rfl
        · rfl
      rw [e]
      refine ⟨?_, HS.out, Only.refl _ _⟩
      rcases hd : s.down with _ | _ <;> rfl)
    clear a1 hok
    go_enter Tryz.func101, Tryz.ntmps101
    go_wp2
    go_ret
    exact HE.out
theorem PowerDv.more {w w' : World} {p : Nat} {s : DSt} {F : Nat → Prop} {e : Ending} (h : PowerDv w p s F e w') (hp : F p) : Only F w w' := h.2.2.mono (fun i hi => .inl (by rw [hi]; exact hp))
/-- the errors lie elsewhere -/
theorem Sent5.only {w w' : World} {S : Nat → Addr} {p : Nat} {t : TypeId} {cs : Array Value} (h : Sent5 w S) (hb : Blk w p t cs) (h0 : ∃ a n c, cs[0]? = some (.slice a n c)) (ho : Only (fun k => k = p) w w') : Sent5 w' S := fun i hi => by
  have hc := h i hi
  refine (World.cell?_of_block (ho.block _ (World.block_lt_of_cell? w _ hc) ?_)).trans hc
  intro e
  obtain ⟨a, n, c, h0⟩ := h0
  have e' : (⟨glo.getD i 0, 0, none⟩ : Addr) = ⟨p, 0, none⟩ := by rw [show glo.getD i 0 = p from e]
  rw [e', hb.cell 0, h0] at hc
  cases hc
theorem DvReal.sent {w w' : World} {S : Nat → Addr} {p : Nat} {s : DSt} {F : Nat → Prop} (h : DvReal w p s F) (hS : Sent5 w S) (ho : Only (fun k => k = p) w w') : Sent5 w' S := by
  obtain ⟨b, D, arm, rfl, hin⟩ := h.in_
  exact hS.only hin.box ⟨_, _, _, rfl⟩ ho
theorem DSt.power_ok {s : DSt} (h : s.power.1 ≠ 0) : s.power.1 = 106 := by
  unfold DSt.power at h ⊢
  split at h <;> rename_i h1
  · rw [if_pos h1]
  · rw [if_neg h1]
    split at h <;> rename_i h2
    · exact absurd rfl h
    · rw [if_neg h2]
      split at h <;> rename_i h3
      · rw [if_pos h3]
      · exact absurd rfl h
end Go.Proofs.YtajcfhhnmjcmjaaGreatDoor
namespace Go.Proofs.YtajcfhhnmjcmjaaGreatDoor
open Go.RowKit Go.Maps

set_option maxRecDepth 100000 in
set_option maxHeartbeats 1000000 in
theorem dvAnew_any (p g N cc : Nat) (ev : Bool) (j : Nat) (A : Option Addr) (n c : Nat) (l : List Int) (w : World) (c0 : w.cell? ⟨p, 0, none⟩ = some (.slice (some ⟨g, 0, none⟩) N cc)) (c2 : w.cell? ⟨g, j * 3 + 2, none⟩ = some (.bool ev)) (hj : (j : Int) < N) (hs : Sl w w.heap.size A n c l) :
    Calls Tryz.prog 163 #[.pointer (some ⟨p, 0, none⟩), .int .i64 (j : Int), .slice A n c] w fun e w' => e = .returned (.agg #[.string (strOfNums l), .int .i8 0, .bool ev]) ∧ Below w.heap.size w w' := by
  have hp : p < w.heap.size := World.block_lt_of_cell? w _ c0
  have hg : g < w.heap.size := World.block_lt_of_cell? w _ c2
  have hs1 := hs.alloc (Nat.le_refl _) (.cells #[.string ⟨#[]⟩, .int .i8 0, .bool false] 74)
  have hq : (convert 29 9 (.slice A n c)).run Tryz.prog (w.alloc (.cells #[.string ⟨#[]⟩, .int .i8 0, .bool false] 74)).drew = .ok (.string (strOfNums l)) (w.alloc (.cells #[.string ⟨#[]⟩, .int .i8 0, .bool false] 74)).drew := conv_any hs1.drew
  clear hs1 hs
  go_enter Tryz.func163, Tryz.ntmps163
  go_wp2
  go_region
  go_wp2
  exact bodyPost_ret (v := .agg #[.string (strOfNums l), .int .i8 0, .bool ev]) (by simp [results, Tryz.results163, go_sem]) rfl ⟨rfl, ((Below.refl _ _).alloc (Nat.le_refl _) _).drew⟩
set_option maxRecDepth 100000 in
set_option maxHeartbeats 2000000 in
theorem dvHealthy_any (p : Nat) (s : DSt) (F : Nat → Prop) (i : Int) (w : World) (h : DvReal w p s F) (hok : s.ok) :
    Calls Tryz.prog 30 #[.pointer (some ⟨p, 0, none⟩), .int .i64 i] w fun e w' => e = .returned (.bool (s.free i)) ∧ Below w.heap.size w w' := by
  have HD := hid h
  by_cases hn : s.inB i = true
  · obtain ⟨hi0, hi1⟩ := DSt.in_iff.1 hn
    obtain ⟨j, rfl⟩ : ∃ j : Nat, i = (j : Int) := ⟨i.toNat, by omega⟩
    obtain ⟨x, hx⟩ : ∃ x, s.blks[j]? = some x := ⟨_, List.getElem?_eq_getElem (by omega)⟩
    have hfr := DSt.free_at hx
    have hfa : s.faulted (j : Int) = x.fault := by unfold DSt.faulted; rw [hn, Int.toNat_natCast, hx]; rfl
    rw [hfr]
    have HB := hid hn
    have HFa := hid hfa
    have HK := hid (key_of (i := j) (by have := hok.2.2.2; omega))
    obtain ⟨b, D, arm, rfl, hin⟩ := h.in_
    have HM := hid hin.map
    have HH := hid (hin.pend.has j x hx)
    have c1 := hin.box.cell 1
    simp [DB.cells] at c1
    clear hin h hn hfa hfr hx hok
    rcases hf : x.fault with _ | _
    · rw [hf] at HFa
      go_enter Tryz.func30, Tryz.ntmps30
      go_wp2_with fail
      refine (dvThere_any b.p s F _ w HD.out).mono ?_
      rintro e w' ⟨rfl, rfl⟩
      rw [HB.out]
      go_wp2_with fail
      refine (dvFaulted_any b.p s F _ w HD.out).mono ?_
      rintro e w' ⟨rfl, rfl⟩
      rw [HFa.out]
      go_wp2_with (at_lookup; refine wpList_lookup_own_ok _ rfl _ _ 76 rfl 3 74 law Tryz.underlying76 blkR (Tryz.zeroBlk _) _ _ rfl b.m _ D rfl HM.out _ _ rfl HK.out ?_)
      intro v ps hv
      rw [HH.out]
      obtain ⟨a, c, e, rfl, _⟩ := blkR_inv hv
      clear hv
      rcases hp : x.pend with _ | _
      · go_wp2
        go_ret
        exact ⟨by rw [hp]; rfl, (Below.refl _ _).alloc (Nat.le_refl _) _⟩
      · go_wp2
        go_ret
        exact ⟨by rw [hp]; rfl, (Below.refl _ _).alloc (Nat.le_refl _) _⟩
    · rw [hf] at HFa
      rw [show (!x.pend && !true) = false by simp]
      go_enter Tryz.func30, Tryz.ntmps30
      go_wp2_with fail
      refine (dvThere_any b.p s F _ w HD.out).mono ?_
      rintro e w' ⟨rfl, rfl⟩
      rw [HB.out]
      go_wp2_with fail
      refine (dvFaulted_any b.p s F _ w HD.out).mono ?_
      rintro e w' ⟨rfl, rfl⟩
      rw [HFa.out]
      go_wp2
      go_ret
      exact ⟨rfl, Below.refl _ _⟩
  · have hn' : s.inB i = false := Bool.not_eq_true _ ▸ hn
    have HB := hid hn'
    rw [DSt.free_out hn']
    clear hn hn' h hok
    go_enter Tryz.func30, Tryz.ntmps30
    go_wp2_with fail
    refine (dvThere_any p s F _ w HD.out).mono ?_
    rintro e w' ⟨rfl, rfl⟩
    rw [HB.out]
    go_wp2
    go_ret
    exact ⟨rfl, Below.refl _ _⟩
end Go.Proofs.YtajcfhhnmjcmjaaGreatDoor
namespace Go.Proofs.YtajcfhhnmjcmjaaGreatDoor
open Go.RowKit Go.Maps

theorem pend_turn {D : DataW Unit} {l : List BSt} {k : Nat} {x x' : BSt} (h : Pend D l) (hx : l[k]? = some x) (hp : x'.pend = x.pend) (hn : x.pend = true → x'.next = x.next ∧ x'.ever = x.ever) : Pend D (l.set k x') := by
  have hk : k < l.length := (List.getElem?_eq_some_iff.1 hx).1
  have hget : ∀ (i : Nat) (y : BSt), (l.set k x')[i]? = some y → ∃ z, l[i]? = some z ∧ y.pend = z.pend ∧ (z.pend = true → y.next = z.next ∧ y.ever = z.ever) := by
    intro i y hy
    rw [List.getElem?_set] at hy
    by_cases e : k = i
    · subst e
      simp [hk] at hy
      subst hy
      exact ⟨x, hx, hp, hn⟩
    · simp [e] at hy
      exact ⟨y, hy, rfl, fun _ => ⟨rfl, rfl⟩⟩
  refine ⟨fun i y hy => ?_, fun i y hy hyp z => ?_, fun z hz => ?_, ?_⟩
  · obtain ⟨z, hz, h1, _⟩ := hget i y hy
    rw [h1]; exact h.has i z hz
  · obtain ⟨u, hu, h1, h2⟩ := hget i y hy
    obtain ⟨h3, h4⟩ := h2 (by rw [← h1]; exact hyp)
    rw [h3, h4]
    exact h.val i u hu (by rw [← h1]; exact hyp) z
  · obtain ⟨i, hi, he⟩ := h.key z hz
    exact ⟨i, by simpa using hi, he⟩
  · rw [h.size]
    have e1 : l = l.take k ++ x :: l.drop (k + 1) := by
      have e0 : l.drop k = x :: l.drop (k + 1) := by rw [List.drop_eq_getElem_cons hk, (List.getElem?_eq_some_iff.1 hx).2]
      rw [← e0, List.take_append_drop]
    have e2 : l.set k x' = l.take k ++ x' :: l.drop (k + 1) := by rw [List.set_eq_take_append_cons_drop, if_pos hk]
    rw [e2]
    conv => lhs; rw [e1]
    simp [List.countP_append, List.countP_cons, hp]
/-- three stores into a block of the row -/
theorem DvIn.put_row {w : World} {b : DB} {D : DataW Unit} {s : DSt} {arm : Int} (h : DvIn w b D s arm) {k j : Nat} {x x' : BSt} {u : Value} (hx : s.blks[k]? = some x) (hj : j < 3) (e : (cells3 x).set j u = cells3 x') (hp : x'.pend = x.pend) (hn : x.pend = true → x'.next = x.next ∧ x'.ever = x.ever) (hb : x'.fail = true → x'.fault = true) : DvIn (w.setCell ⟨b.g, k * 3 + j, none⟩ u) b D { s with blks := s.blks.set k x' } arm :=
  ⟨(by show Blk _ b.p _ (b.cells (s.blks.set k x').length s.calls arm s.down); rw [List.length_set]; exact h.box.far h.nd.1 _), (by show (w.setCell ⟨b.g, k * 3 + j, none⟩ u).ownsRow 0 _ 3 (.slice _ (s.blks.set k x').length b.c) (s.blks.set k x').length (cellsOf (s.blks.set k x')); rw [List.length_set]; exact row_put h.row hx hj e), ownsMap_same h.map (Below.heap_setCell w ⟨b.g, k * 3 + j, none⟩ u b.m (Ne.symm h.nd.2.2)), h.nd, pend_turn h.pend hx hp hn, h.arm, fun y hy => by
    rcases List.mem_or_eq_of_mem_set hy with h' | rfl
    · exact h.bad y h'
    · exact hb⟩
theorem turn_set {s : DSt} {j : Nat} {x : BSt} (f : BSt → BSt) (hx : s.blks[j]? = some x) : s.turn (j : Int) f = { s with blks := s.blks.set j (f x) } := by
  unfold DSt.turn
  rw [Int.toNat_natCast]
  congr 1
  apply List.ext_getElem?
  intro i
  rw [List.getElem?_modify, List.getElem?_set]
  have hj : j < s.blks.length := (List.getElem?_eq_some_iff.1 hx).1
  by_cases e : j = i
  · subst e
    rw [hx]
    simp [hj]
  · simp [e]
def BoolDv (w : World) (p : Nat) (r : Bool × DSt) (F : Nat → Prop) (e : Ending) (w' : World) : Prop := e = .returned (.bool r.1) ∧ RealUpd DvReal w p r.2 F w'
theorem BoolDv.no {w w' : World} {p : Nat} {s : DSt} {F : Nat → Prop} (h : DvReal w p s F) (hb : Below w.heap.size w w') : BoolDv w p (false, s) F (.returned (.bool false)) w' :=
  ⟨rfl, F, h.kept (Kept.of_below hb h.lt), Only.of_below hb, fun _ h => .inl h⟩
/-- the device, behind what only laid -/
theorem DvIn.below {w w' : World} {b : DB} {D : DataW Unit} {s : DSt} {arm : Int} (h : DvIn w b D s arm) (hb : Below w.heap.size w w') : DvIn w' b D s arm := h.same (fun k hk => hb.block k (h.lt k hk))
set_option maxRecDepth 100000 in
set_option maxHeartbeats 2000000 in
theorem dvFail_any (p : Nat) (s : DSt) (F : Nat → Prop) (i : Int) (w : World) (h : DvReal w p s F) (hok : s.ok) :
    Calls Tryz.prog 13 #[.pointer (some ⟨p, 0, none⟩), .int .i64 i] w (BoolDv w p (s.fail i) F) := by
  have HD := hid h
  have HO := hid hok
  rcases hfr : s.free i with _ | _
  · have HE := hid (show s.fail i = (false, s) by unfold DSt.fail; rw [hfr]; rfl)
    rw [HE.out]
    have HFR := hid hfr
    clear hfr h hok
    go_enter Tryz.func13, Tryz.ntmps13
    go_wp2_with fail
    refine (dvHealthy_any p s F i w HD.out HO.out).mono ?_
    rintro e w1 ⟨rfl, hb⟩
    rw [HFR.out]
    have HF := hid (BoolDv.no HD.out hb)
    clear hb
    go_wp2
    go_ret
    exact HF.out
  · have HE := hid (show s.fail i = (true, s.turn i BSt.failed) by unfold DSt.fail; rw [hfr]; rfl)
    rw [HE.out]
    have hn : s.inB i = true := by
      rcases hi : s.inB i with _ | _
      · rw [DSt.free_out hi] at hfr; cases hfr
      · rfl
    obtain ⟨hi0, hi1⟩ := DSt.in_iff.1 hn
    obtain ⟨j, rfl⟩ : ∃ j : Nat, i = (j : Int) := ⟨i.toNat, by omega⟩
    obtain ⟨x, hx⟩ : ∃ x, s.blks[j]? = some x := ⟨_, List.getElem?_eq_getElem (by omega)⟩
    have hpf : x.pend = false ∧ x.fault = false := by
      rw [DSt.free_at hx] at hfr
      rcases hp : x.pend with _ | _ <;> rcases hf : x.fault with _ | _ <;> simp_all
    have HFR := hid hfr
    have HX := hid hx
    have HPF := hid hpf
    obtain ⟨b, D, arm, rfl, hin, hF, hl⟩ := h
    have HIN := hid hin
    have HFF := hid hF
    have HLL := hid hl
    have hjN : (j : Int) < s.blks.length := by omega
    obtain ⟨N, hN⟩ : ∃ N, s.blks.length = N := ⟨_, rfl⟩
    rw [hN] at hjN
    have HN := hid hN
    clear hfr hok hin hF hl hn hx hpf hN hi1
    go_enter Tryz.func13, Tryz.ntmps13
    go_wp2_with fail
    refine (dvHealthy_any b.p s F _ w HD.out HO.out).mono ?_
    rintro e w1 ⟨rfl, hb⟩
    rw [HFR.out]
    have i1 := HIN.out.below hb
    have hbad := HIN.out.bad x (List.mem_of_getElem? HX.out)
    have i2 := i1.put_row (x' := { x with fail := true, fault := true }) HX.out (j := 1) (u := .int .i8 2) (by omega) rfl rfl (fun _ => ⟨rfl, rfl⟩) (fun _ => rfl)
    have hx2 : (s.blks.set j { x with fail := true, fault := true })[j]? = some { x with fail := true, fault := true } := by rw [List.getElem?_set]; simp [(List.getElem?_eq_some_iff.1 HX.out).1]
    have i3 := i2.put_row (x' := x.failed) hx2 (j := 2) (u := .bool true) (by omega) rfl rfl (fun h => absurd (show x.pend = true from h) (by rw [HPF.out.1]; decide)) (fun _ => rfl)
    have c0 := i1.box.cell 0
    simp [DB.cells] at c0
    rw [HN.out] at c0
    have c1 := i1.cell HX.out (j := 1) (by omega) rfl
    have f1 := i1.free (j * 3 + 1)
    have c2 := i1.cell HX.out (j := 2) (by omega) rfl
    have f2 := i1.free (j * 3 + 2)
    have HF := hid (show ∀ k, BoolDv w b.p (true, s.turn (j : Int) BSt.failed) F (.returned (.bool true)) (((w1.setCell ⟨b.g, j * 3 + 1, none⟩ (.int .i8 2)).setCell ⟨b.g, j * 3 + 2, none⟩ (.bool true)).drewN k) from fun k => ⟨rfl, upd_of HFF.out HLL.out ((by
        rw [turn_set _ HX.out]
        have : DvIn _ b D { s with blks := (s.blks.set j { x with fail := true, fault := true }).set j x.failed } arm := i3
        rw [List.set_set] at this
        exact this.same (fun _ _ => rfl)) : DvIn (((w1.setCell ⟨b.g, j * 3 + 1, none⟩ (.int .i8 2)).setCell ⟨b.g, j * 3 + 2, none⟩ (.bool true)).drewN k) b D (s.turn (j : Int) BSt.failed) arm) ((((Only.of_below hb).put (HFF.out b.g (by simp [DB.all])) _).put (HFF.out b.g (by simp [DB.all])) _).drewN k)⟩)
    clear hb i1 i2 i3 hx2 hbad
    go_wp2
    go_region
    go_wp2
    go_ret
    exact HF.out 1
end Go.Proofs.YtajcfhhnmjcmjaaGreatDoor
