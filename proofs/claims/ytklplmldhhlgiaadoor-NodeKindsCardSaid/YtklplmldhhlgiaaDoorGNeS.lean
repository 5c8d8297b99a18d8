/- The shelf's functions that package node calls: maps.Keys, slices.Sorted, maps.Clone, laid. -/
import Derived.Test.YtklplmldhhlgiaaDoorProg
import Derived.Shelf.SlIterI.Nil
import Derived.Shelf.SortM.Plain
import Derived.Shelf.SortM.SortNone
import Derived.Shelf.SlMaps.Clone
import Derived.Test.YtklplmldhhlgiaaDoorGBase
import Derived.Maps.OwnSet
import Derived.Maps.RangeWalk
namespace Go.Proofs.YtklplmldhhlgiaaDoor
open Go.RowKit Go.Maps Go.Sort Go.Shelf

def Tryd.keysA_ren : Go.Shelf.Ren := ⟨fun | 7 => 28 | 10 => 38 | n => n, fun | 23 => 25 | 26 => 3 | 3 => 30 | 28 => 62 | 0 => 0 | 27 => 61 | 33 => 44 | 4 => 4 | n => n, fun | n => n⟩
theorem Tryd.keysA : Go.Proofs.SlLaysZI.n7 Tryd.prog Tryd.keysA_ren := {
    mixed := by kernel_rfl,
    f7 := ⟨Tryd.f28.name, by decide, Tryd.func28.trans (congrArg some (by kernel_rfl))⟩,
    f10 := ⟨Tryd.f38.name, by decide, Tryd.func38.trans (congrArg some (by kernel_rfl))⟩,
    t0 := Tryd.underlying0,
    a0 := Tryd.isAgg0,
    z0 := Tryd.sizeOf0,
    v0 := Tryd.zeroValue0,
    t4 := Tryd.underlying4,
    a4 := Tryd.isAgg4,
    z4 := Tryd.sizeOf4,
    v4 := Tryd.zeroValue4,
    t23 := Tryd.underlying25,
    a23 := Tryd.isAgg25,
    z23 := Tryd.sizeOf25,
    v23 := Tryd.zeroValue25,
    t26 := Tryd.underlying3,
    a26 := Tryd.isAgg3,
    z26 := Tryd.sizeOf3,
    v26 := Tryd.zeroValue3,
    t27 := Tryd.underlying61,
    a27 := Tryd.isAgg61,
    z27 := Tryd.sizeOf61,
    v27 := Tryd.zeroValue61,
    t28 := Tryd.underlying62,
    a28 := Tryd.isAgg62,
    z28 := Tryd.sizeOf62,
    v28 := Tryd.zeroValue62,
    t33 := Tryd.underlying44,
    a33 := Tryd.isAgg44,
    z33 := Tryd.sizeOf44,
    v33 := Tryd.zeroValue44 }
def Tryd.sortedA_ren : Go.Shelf.Ren := ⟨fun | 6 => 27 | 8 => 36 | 9 => 37 | 11 => 42 | 13 => 44 | 12 => 43 | 23 => 56 | 24 => 57 | 14 => 47 | 15 => 48 | 16 => 49 | 17 => 50 | 18 => 51 | 19 => 52 | 20 => 53 | 21 => 54 | 22 => 55 | 25 => 58 | 26 => 59 | 27 => 60 | 28 => 61 | 29 => 62 | 30 => 63 | 31 => 64 | n => n, fun | 26 => 3 | 28 => 62 | 24 => 47 | 0 => 0 | 3 => 3 | 37 => 78 | 48 => 92 | 50 => 94 | 4 => 4 | 40 => 84 | 39 => 83 | 45 => 89 | 5 => 5 | 9 => 9 | 51 => 95 | 55 => 99 | 57 => 101 | 58 => 102 | 33 => 44 | n => n, fun | n => n⟩
theorem Tryd.sortedA : Go.Proofs.SlLaysZI.n6 Tryd.prog Tryd.sortedA_ren := {
    mixed := by kernel_rfl,
    f6 := ⟨Tryd.f27.name, by decide, Tryd.func27.trans (congrArg some (by kernel_rfl))⟩,
    f8 := ⟨Tryd.f36.name, by decide, Tryd.func36.trans (congrArg some (by kernel_rfl))⟩,
    f11 := ⟨Tryd.f42.name, by decide, Tryd.func42.trans (congrArg some (by kernel_rfl))⟩,
    t0 := Tryd.underlying0,
    a0 := Tryd.isAgg0,
    z0 := Tryd.sizeOf0,
    v0 := Tryd.zeroValue0,
    t24 := Tryd.underlying47,
    a24 := Tryd.isAgg47,
    z24 := Tryd.sizeOf47,
    v24 := Tryd.zeroValue47,
    t26 := Tryd.underlying3,
    a26 := Tryd.isAgg3,
    z26 := Tryd.sizeOf3,
    v26 := Tryd.zeroValue3,
    t28 := Tryd.underlying62,
    a28 := Tryd.isAgg62,
    z28 := Tryd.sizeOf62,
    v28 := Tryd.zeroValue62,
    i26 := by kernel_rfl }
def Tryd.sortA_ren : Go.Shelf.Ren := ⟨fun | 5 => 37 | 8 => 44 | 7 => 43 | 19 => 56 | 20 => 57 | 10 => 47 | 11 => 48 | 12 => 49 | 13 => 50 | 14 => 51 | 15 => 52 | 16 => 53 | 17 => 54 | 18 => 55 | 30 => 58 | 31 => 59 | 32 => 60 | 33 => 61 | 34 => 62 | 35 => 63 | 40 => 64 | n => n, fun | 23 => 47 | 25 => 3 | 3 => 3 | 32 => 78 | 22 => 47 | 0 => 0 | 44 => 92 | 46 => 94 | 4 => 4 | 36 => 84 | 35 => 83 | 41 => 89 | 5 => 5 | 9 => 9 | 53 => 95 | 57 => 99 | 63 => 101 | 64 => 102 | n => n, fun | n => n⟩
theorem Tryd.sortA : Go.Proofs.SlLaysM.n5 Tryd.prog Tryd.sortA_ren := {
    mixed := by kernel_rfl,
    f5 := ⟨Tryd.f37.name, by decide, Tryd.func37.trans (congrArg some (by kernel_rfl))⟩,
    f7 := ⟨Tryd.f43.name, by decide, Tryd.func43.trans (congrArg some (by kernel_rfl))⟩,
    f8 := Tryd.func44.trans (congrArg some (by kernel_rfl)),
    f10 := ⟨Tryd.f47.name, by decide, Tryd.func47.trans (congrArg some (by kernel_rfl))⟩,
    f11 := ⟨Tryd.f48.name, by decide, Tryd.func48.trans (congrArg some (by kernel_rfl))⟩,
    f12 := ⟨Tryd.f49.name, by decide, Tryd.func49.trans (congrArg some (by kernel_rfl))⟩,
    f13 := ⟨Tryd.f50.name, by decide, Tryd.func50.trans (congrArg some (by kernel_rfl))⟩,
    f14 := ⟨Tryd.f51.name, by decide, Tryd.func51.trans (congrArg some (by kernel_rfl))⟩,
    f15 := ⟨Tryd.f52.name, by decide, Tryd.func52.trans (congrArg some (by kernel_rfl))⟩,
    f16 := ⟨Tryd.f53.name, by decide, Tryd.func53.trans (congrArg some (by kernel_rfl))⟩,
    f17 := ⟨Tryd.f54.name, by decide, Tryd.func54.trans (congrArg some (by kernel_rfl))⟩,
    f18 := ⟨Tryd.f55.name, by decide, Tryd.func55.trans (congrArg some (by kernel_rfl))⟩,
    f19 := Tryd.func56.trans (congrArg some (by kernel_rfl)),
    f20 := Tryd.func57.trans (congrArg some (by kernel_rfl)),
    f30 := ⟨Tryd.f58.name, by decide, Tryd.func58.trans (congrArg some (by kernel_rfl))⟩,
    f31 := Tryd.func59.trans (congrArg some (by kernel_rfl)),
    f32 := Tryd.func60.trans (congrArg some (by kernel_rfl)),
    f33 := ⟨Tryd.f61.name, by decide, Tryd.func61.trans (congrArg some (by kernel_rfl))⟩,
    f34 := ⟨Tryd.f62.name, by decide, Tryd.func62.trans (congrArg some (by kernel_rfl))⟩,
    f35 := ⟨Tryd.f63.name, by decide, Tryd.func63.trans (congrArg some (by kernel_rfl))⟩,
    f40 := ⟨Tryd.f64.name, by decide, Tryd.func64.trans (congrArg some (by kernel_rfl))⟩,
    t0 := Tryd.underlying0,
    a0 := Tryd.isAgg0,
    z0 := Tryd.sizeOf0,
    v0 := Tryd.zeroValue0,
    t3 := Tryd.underlying3,
    a3 := Tryd.isAgg3,
    z3 := Tryd.sizeOf3,
    v3 := Tryd.zeroValue3,
    t4 := Tryd.underlying4,
    a4 := Tryd.isAgg4,
    z4 := Tryd.sizeOf4,
    v4 := Tryd.zeroValue4,
    t5 := Tryd.underlying5,
    a5 := Tryd.isAgg5,
    z5 := Tryd.sizeOf5,
    v5 := Tryd.zeroValue5,
    t9 := Tryd.underlying9,
    a9 := Tryd.isAgg9,
    z9 := Tryd.sizeOf9,
    v9 := Tryd.zeroValue9,
    t22 := Tryd.underlying47,
    a22 := Tryd.isAgg47,
    z22 := Tryd.sizeOf47,
    v22 := Tryd.zeroValue47,
    t23 := Tryd.underlying47,
    a23 := Tryd.isAgg47,
    z23 := Tryd.sizeOf47,
    v23 := Tryd.zeroValue47,
    t25 := Tryd.underlying3,
    a25 := Tryd.isAgg3,
    z25 := Tryd.sizeOf3,
    v25 := Tryd.zeroValue3,
    t32 := Tryd.underlying78,
    a32 := Tryd.isAgg78,
    z32 := Tryd.sizeOf78,
    v32 := Tryd.zeroValue78,
    t35 := Tryd.underlying83,
    a35 := Tryd.isAgg83,
    z35 := Tryd.sizeOf83,
    v35 := Tryd.zeroValue83,
    t36 := Tryd.underlying84,
    a36 := Tryd.isAgg84,
    z36 := Tryd.sizeOf84,
    v36 := Tryd.zeroValue84,
    t41 := Tryd.underlying89,
    a41 := Tryd.isAgg89,
    z41 := Tryd.sizeOf89,
    v41 := Tryd.zeroValue89,
    t44 := Tryd.underlying92,
    a44 := Tryd.isAgg92,
    z44 := Tryd.sizeOf92,
    v44 := Tryd.zeroValue92,
    t46 := Tryd.underlying94,
    a46 := Tryd.isAgg94,
    z46 := Tryd.sizeOf94,
    v46 := Tryd.zeroValue94,
    t53 := Tryd.underlying95,
    a53 := Tryd.isAgg95,
    z53 := Tryd.sizeOf95,
    v53 := Tryd.zeroValue95,
    t57 := Tryd.underlying99,
    a57 := Tryd.isAgg99,
    z57 := Tryd.sizeOf99,
    v57 := Tryd.zeroValue99,
    t63 := Tryd.underlying101,
    a63 := Tryd.isAgg101,
    z63 := Tryd.sizeOf101,
    v63 := Tryd.zeroValue101,
    t64 := Tryd.underlying102,
    a64 := Tryd.isAgg102,
    z64 := Tryd.sizeOf102,
    v64 := Tryd.zeroValue102 }
def Tryd.cloneM_ren : Go.Shelf.Ren := ⟨fun | 5 => 20 | 7 => 29 | n => n, fun | 23 => 25 | 25 => 3 | 3 => 30 | 4 => 4 | 20 => 20 | n => n, fun | n => n⟩
theorem Tryd.cloneM : Go.Proofs.SlLaysW.n5 Tryd.prog Tryd.cloneM_ren := {
    mixed := by kernel_rfl,
    f5 := ⟨Tryd.f20.name, by decide, Tryd.func20.trans (congrArg some (by kernel_rfl))⟩,
    f7 := Tryd.func29.trans (congrArg some (by kernel_rfl)),
    t4 := Tryd.underlying4,
    a4 := Tryd.isAgg4,
    z4 := Tryd.sizeOf4,
    v4 := Tryd.zeroValue4,
    t20 := Tryd.underlying20,
    a20 := Tryd.isAgg20,
    z20 := Tryd.sizeOf20,
    v20 := Tryd.zeroValue20,
    t23 := Tryd.underlying25,
    a23 := Tryd.isAgg25,
    z23 := Tryd.sizeOf25,
    v23 := Tryd.zeroValue25 }
end Go.Proofs.YtklplmldhhlgiaaDoor
namespace Go.Proofs.YtklplmldhhlgiaaDoor
open Go.RowKit Go.Maps Go.Sort Go.Shelf

theorem keys_any (mb : Option Nat) (w : World) : Calls Tryd.prog 28 #[.map mb] w fun e w' => e = .returned (.func (.func 38) #[] #[.pointer (some ⟨w.heap.size, 0, none⟩)]) ∧ w' = w.alloc (.cells #[.map mb] 25) :=
  (callsIn_wide (n := 6)).1 (AnyZI.keys_in Tryd.keysA Fence.wide 6 trivial rfl mb w)
theorem sortsA (m : Nat) : AnyZI.SortsIn Tryd.prog Tryd.sortedA_ren Fence.wide m :=
  ⟨fun blk off cap ss W hH hblk hsz => callsIn_wide.2 (AnyM.slices_Sort_int Tryd.sortA blk off cap ss W hH hblk hsz),
   fun p cap W => callsIn_wide.2 (AnyM.slices_Sort_int_none Tryd.sortA p cap W)⟩
/-- a new slice of the keys, rising -/
def SortedKeys {H : Type} (D : DataW H) (w : World) (e : Ending) (w' : World) : Prop := ∃ (v : Value) (ss : List Int), e = .returned v ∧ ss.Perm (intKeys D) ∧ OwnN w' w.heap.size v (ss.mergeSort (fun x y => decide (x ≤ y))) ∧ Below w.heap.size w w'
set_option maxHeartbeats 1000000 in
theorem sorted_any {H : Type} (g b nn : Nat) (D : DataW H) (R : Value → Option (DataW H × List MemPlace)) (w : World) (hg : w.cell? ⟨g, 0, none⟩ = some (.map (some b))) (hown : w.ownsMap Tryd.prog 3 R b nn D) (hmax : Maps.size D ≤ 100000) :
    Calls Tryd.prog 27 #[.func (.func 38) #[] #[.pointer (some ⟨g, 0, none⟩)]] w (SortedKeys D w) := by
  refine (callsIn_wide (n := 6)).1 ?_
  have hseq : SeqGives Fence.wide (6 - 1 - 1 - 1) Tryd.prog 38 #[.pointer (some ⟨g, 0, none⟩)] encZ (fun ss => ss.Perm (intKeys D)) (Maps.size D) w :=
    AnyZI.keys_gives (ρ := Tryd.keysA_ren) { Tryd.keysA with } Fence.wide _ trivial rfl (by omega) g b nn D w (World.block_lt_of_cell? w _ hg) hg hown
  refine (AnyZI.sorted_in Tryd.sortedA Fence.wide 6 trivial trivial trivial trivial rfl (by omega) (sortsA _) (enters_of Tryd.func37 (by kernel_rfl) rfl) 38 #[.pointer (some ⟨g, 0, none⟩)] trivial (enters_of Tryd.func38 (by kernel_rfl) rfl) _ (Maps.size D) (by unfold maxLen; omega) (by omega) w hseq).mono ?_
  rintro e w' ⟨v, ss, he, hp, hr, _, hb⟩
  refine ⟨v, ss, he, hp, ?_, hb⟩
  unfold OwnN
  rw [List.length_mergeSort]
  exact hr
set_option maxHeartbeats 1000000 in
theorem sortedNil_any (g : Nat) (w : World) (hg : w.cell? ⟨g, 0, none⟩ = some (.map none)) :
    Calls Tryd.prog 27 #[.func (.func 38) #[] #[.pointer (some ⟨g, 0, none⟩)]] w fun e w' => ∃ v, e = .returned v ∧ OwnN w' w.heap.size v [] ∧ Below w.heap.size w w' := by
  refine (callsIn_wide (n := 6)).1 ?_
  have hseq : SeqGives Fence.wide (6 - 1 - 1 - 1) Tryd.prog 38 #[.pointer (some ⟨g, 0, none⟩)] encZ (fun ss => ss = []) 0 w :=
    AnyZI.keys_gives_nil (ρ := Tryd.keysA_ren) { Tryd.keysA with } Fence.wide _ trivial rfl g w (World.block_lt_of_cell? w _ hg) hg
  refine (AnyZI.sorted_in Tryd.sortedA Fence.wide 6 trivial trivial trivial trivial rfl (by omega) (sortsA _) (enters_of Tryd.func37 (by kernel_rfl) rfl) 38 #[.pointer (some ⟨g, 0, none⟩)] trivial (enters_of Tryd.func38 (by kernel_rfl) rfl) _ 0 (by unfold maxLen; omega) (by omega) w hseq).mono ?_
  rintro e w' ⟨v, ss, he, hp, hr, _, hb⟩
  subst hp
  refine ⟨v, he, ?_, hb⟩
  rw [List.mergeSort_nil] at hr
  exact hr
theorem cloneN_any {H : Type} (R : Value → Option (DataW H × List MemPlace)) (b n : Nat) (D : DataW H) (w : World) (h : w.ownsMap Tryd.prog 3 R b n D) :
    Calls Tryd.prog 20 #[.map (some b)] w fun e w' => e = .returned (.map (some w.heap.size)) ∧ w'.ownsMap Tryd.prog 3 R w.heap.size n D ∧ Below w.heap.size w w' :=
  (AnyW.maps_Clone_owns Tryd.cloneM 3 R b n D w h).mono fun _ _ ⟨h1, h2, _, h4⟩ => ⟨h1, h2, h4⟩
theorem cloneNil_any (w : World) :
    Calls Tryd.prog 20 #[.map none] w fun e w' => e = .returned (.map none) ∧ w' = w :=
  AnyW.maps_Clone_nil Tryd.cloneM w
end Go.Proofs.YtklplmldhhlgiaaDoor
