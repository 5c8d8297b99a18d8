/- RootBytes and RootSaves at package dev's own device. -/
import Derived.Test.YthgdofcamjkdpaaDoorGDvD
import Derived.Test.YthgdofcamjkdpaaDoorGAll
import Derived.Test.YthgdofcamjkdpaaDoorGRootBytesW
import Derived.Test.YthgdofcamjkdpaaDoorGRootSavesW
namespace Go.Proofs.YthgdofcamjkdpaaDoor
open Go.ChangeShapes Go.WideShapes Go.ChangeAt Go.RowKit

set_option maxRecDepth 100000 in
set_option maxHeartbeats 4000000 in
theorem rootSaves_long {Real : World → Nat → DSt → (Nat → Prop) → Prop} (D : DevOk Real) (S : Nat → Addr) (n0 arm0 : Int) (P : Option Addr) (np cp : Nat) (A : Option Addr) (la ca : Nat) (w : World) (hS : Sent w S) (hl : 6 < np ∨ 20 < la) :
    Calls Tryd.prog 4 #[.int .i64 n0, .int .i64 arm0, .slice P np cp, .slice A la ca] w (Yes w) := by
  have HF := hid (fun w' (hb : Below w.heap.size w w') => first6_any D S w' (hS.on hb).six)
  have HBg := hid (show Below w.heap.size w (w.alloc (.cells #[.slice A la ca] 22)) from (Below.refl _ _).alloc (Nat.le_refl _) _)
  have HKg := hid (Blk.new w 22 #[.slice A la ca])
  obtain ⟨m, hm⟩ : ∃ m : Nat, n0 % 20 = (m : Int) := ⟨(n0 % 20).toNat, by omega⟩
  have HM := hid hm
  by_cases h6 : 6 < np
  · have g6 : decide ((6 : Int) < (np : Int)) = true := by simp; omega
    clear hS D hl hm h6
    go_enter Tryd.func4, Tryd.ntmps4
    go_wp2_with fail
    refine (HF.out _ HBg.out).mono ?_
    rintro e w1 ⟨rfl, hb1⟩
    have HB1 := hid (HBg.out.trans (hb1.mono HBg.out.size))
    clear hb1
    go_wp2_with fail
    refine (number_any n0 20 _ (by omega) (by omega)).mono ?_
    rw [HM.out]
    rintro e w2 ⟨rfl, rfl⟩
    go_wp2
    go_ret
    exact ⟨rfl, HB1.out⟩
  · have g6 : decide ((6 : Int) < (np : Int)) = false := by simp; omega
    have g20 : decide ((20 : Int) < (la : Int)) = true := by simp; omega
    clear hS D hl hm h6
    go_enter Tryd.func4, Tryd.ntmps4
    go_wp2_with fail
    refine (HF.out _ HBg.out).mono ?_
    rintro e w1 ⟨rfl, hb1⟩
    have HB1 := hid (HBg.out.trans (hb1.mono HBg.out.size))
    have hk0 := (HKg.out.below hb1 HKg.out.lt).cell 0
    simp at hk0
    clear hb1
    go_wp2_with fail
    refine (number_any n0 20 _ (by omega) (by omega)).mono ?_
    rw [HM.out]
    rintro e w2 ⟨rfl, rfl⟩
    go_wp2
    go_ret
    exact ⟨rfl, HB1.out⟩
theorem rootSaves_all (n0 arm0 : Int) (P : Option Addr) (np cp : Nat) (ps : List Int) (A : Option Addr) (la ca : Nat) (zs : List Int) (w : World) (_ : (Lit.int .i64 n0).wf = true) (_ : (Lit.int .i64 arm0).wf = true) (hp : IsRow .i64 w P np cp ps) (hr : IsRow .i64 w A la ca zs) (hL : laidMetH Tryd.prog laid24 w) :
    Calls Tryd.prog 4 #[.int .i64 n0, .int .i64 arm0, .slice P np cp, .slice A la ca] w (Yes w) := by
  obtain ⟨S, hS⟩ := sent_of_laid hL
  by_cases h : 6 < np ∨ 20 < la
  · exact rootSaves_long dvOk S n0 arm0 P np cp A la ca w hS h
  · exact rootSaves_any dvOk S n0 arm0 P np cp _ A la ca _ w hS (sn_of_row hp).1 (sn_of_row hr).1 (by omega) (by omega)
theorem rootBytes_all (a : Int) (A : Option Addr) (la ca : Nat) (zs : List Int) (cut : Int) (w : World) (ha : (Lit.int .i64 a).wf = true) (hr : IsRow .i64 w A la ca zs) (_ : (Lit.int .i64 cut).wf = true) (hL : laidMetH Tryd.prog laid24 w) :
    Calls Tryd.prog 3 #[.int .i64 a, .slice A la ca, .int .i64 cut] w (Yes w) := by
  obtain ⟨S, hS⟩ := sent_of_laid hL
  have hb := bounds_i64 ha
  by_cases h : 30 < la
  · exact rootBytes_long dvOk S a A la ca cut w hS h
  · exact rootBytes_few dvOk S a A la ca _ cut w hS (sn_of_row hr).1 (by omega) hb.1 hb.2
end Go.Proofs.YthgdofcamjkdpaaDoor
