/- Put together out of 3 texts. Arguments, opened: a slice of integers that came in reads as a list. -/
import Derived.Test.YtaonhbmimaiiiaaGreatDoorRows
import Derived.Test.YtaonhbmimaiiiaaGreatDoorGXaa
import Derived.ProofKit
import Derived.LaidMore
import Derived.LaidLaws
import Derived.OpenShut
import Derived.ShutString
import Derived.ChangeOld
import Derived.Stop.Joined
import Derived.MakeChecks
import Derived.LaidEql
import Derived.Deep.RegionHeld3
import Derived.IntWalk
import Derived.BigQuiet
import Derived.Deep.QuietTactic
namespace Go.Proofs.YtaonhbmimaiiiaaGreatDoor
open Go.ChangeShapes Go.WideShapes Go.ChangeAt Go.RowKit

theorem Tryz.own : ownKnob Tryz.prog.godebug = none := by kernel_rfl
theorem Tryz.laidOut : laidOutB Tryz.prog = true := by kernel_rfl
/-- a slice of integers that came in: nil, or a row of cells: the first 'len' are its elements -/
def IsRow (k : IntKind) (w : World) (a : Option Addr) (len cap : Nat) (zs : List Int) : Prop :=
  (a = none ∧ len = 0 ∧ cap = 0 ∧ zs = []) ∨
  ∃ x, a = some x ∧ len ≤ cap ∧ cap ≤ maxLen ∧ zs.length = cap ∧ (∀ i, i < zs.length → w.cell? (x.add i) = some (.int k (zs.getD i 0))) ∧ ∀ n ∈ zs, (Lit.int k n).wf = true
theorem sl_of_row {w : World} {a : Option Addr} {len cap : Nat} {zs : List Int} (h : IsRow .u8 w a len cap zs) : Sl w w.heap.size a len cap (zs.take len) := by
  rcases h with ⟨rfl, rfl, rfl, rfl⟩ | ⟨x, rfl, hl, hm, hz, hc, _⟩
  · exact Sl.empty _ _
  · refine ⟨by rw [List.length_take]; omega, hl, hm, (fun h => by cases h), fun ad ha hn => ?_⟩
    cases ha
    have h0 := hc 0 (by omega)
    refine ⟨by have := World.block_lt_of_cell? w _ h0; rwa [add_block] at this, fun j y hy => ?_⟩
    have hj : j < (zs.take len).length := (List.getElem?_eq_some_iff.1 hy).1
    rw [List.length_take] at hj
    rw [hc j (by omega)]
    rw [List.getElem?_take, if_pos (by omega)] at hy
    simp [List.getD, hy]
theorem sn_of_row {w : World} {a : Option Addr} {len cap : Nat} {zs : List Int} (h : IsRow .i64 w a len cap zs) : Sn w w.heap.size a len cap (zs.take len) ∧ Wide (zs.take len) := by
  rcases h with ⟨rfl, rfl, rfl, rfl⟩ | ⟨x, rfl, hl, hm, hz, hc, hw⟩
  · exact ⟨⟨rfl, Nat.le_refl _, by unfold maxLen; omega, fun _ => rfl, fun _ h => by cases h⟩, fun _ h => by cases h⟩
  · refine ⟨⟨by rw [List.length_take]; omega, hl, hm, (fun h => by cases h), fun ad ha hn => ?_⟩, fun y hy => ?_⟩
    · cases ha
      have h0 := hc 0 (by omega)
      refine ⟨by have := World.block_lt_of_cell? w _ h0; rwa [add_block] at this, fun j y hy => ?_⟩
      have hj : j < (zs.take len).length := (List.getElem?_eq_some_iff.1 hy).1
      rw [List.length_take] at hj
      rw [hc j (by omega)]
      rw [List.getElem?_take, if_pos (by omega)] at hy
      simp [List.getD, hy]
    · have := bounds_i64 (hw y (List.mem_of_mem_take hy))
      omega

theorem byt_of_row {w : World} {a : Option Addr} {len cap : Nat} {zs : List Int} (h : IsRow .u8 w a len cap zs) : Byt (zs.take len) := by
  rcases h with ⟨rfl, rfl, rfl, rfl⟩ | ⟨x, rfl, hl, hm, hz, hc, hw⟩
  · exact Byt.nil
  · intro y hy
    exact bounds_u8 (hw y (List.mem_of_mem_take hy))
end Go.Proofs.YtaonhbmimaiiiaaGreatDoor
namespace Go.Proofs.YtaonhbmimaiiiaaGreatDoor
open Go.RowKit

/-- the errors' variables, by their places -/
def glo : List Nat := [8, 3, 1, 6, 0, 2, 5, 9, 4, 10, 11, 12, 13, 14, 15, 16, 17, 18, 19, 20, 21, 22, 23, 24]
/-- the errors of package api, in their order, S their pointers -/
structure Sent (w : World) (S : Nat → Addr) : Prop where
  at_ : ∀ i, i < 24 → w.cell? ⟨glo.getD i 0, 0, none⟩ = some (.iface 307 (.pointer (some (S i))))
  ne : ∀ i j, i < 24 → j < 24 → i ≠ j → S i ≠ S j
  blk : ∀ i, i < 24 → ∃ c t, w.heap[(S i).block]? = some (.cells c t (0, 0))
theorem Sent.on {w w' : World} {S : Nat → Addr} (h : Sent w S) (hb : Below w.heap.size w w') : Sent w' S := by
  refine ⟨fun i hi => (hb.cell (World.block_lt_of_cell? w _ (h.at_ i hi))).trans (h.at_ i hi), h.ne, fun i hi => ?_⟩
  obtain ⟨c, t, hc⟩ := h.blk i hi
  exact ⟨c, t, (hb.block _ (Array.getElem?_eq_some_iff.1 hc).1).trans hc⟩
theorem Sent.drewN {w : World} {S : Nat → Addr} (h : Sent w S) (k : Nat) : Sent (w.drewN k) S := ⟨h.at_, h.ne, h.blk⟩
theorem Sent.drew {w : World} {S : Nat → Addr} (h : Sent w S) : Sent w.drew S := ⟨h.at_, h.ne, h.blk⟩
/-- some of them (by their places) lie in their variables -/
def SentL (L : List Nat) (w : World) (S : Nat → Addr) : Prop := ∀ i, i ∈ L → w.cell? ⟨glo.getD i 0, 0, none⟩ = some (.iface 307 (.pointer (some (S i))))
theorem SentL.on {L : List Nat} {w w' : World} {S : Nat → Addr} (h : SentL L w S) (hb : Below w.heap.size w w') : SentL L w' S := fun i hi => (hb.cell (World.block_lt_of_cell? w _ (h i hi))).trans (h i hi)
theorem SentL.drewN {L : List Nat} {w : World} {S : Nat → Addr} (h : SentL L w S) (k : Nat) : SentL L (w.drewN k) S := h
theorem SentL.drew {L : List Nat} {w : World} {S : Nat → Addr} (h : SentL L w S) : SentL L w.drew S := h
theorem Sent.some {L : List Nat} {w : World} {S : Nat → Addr} (h : Sent w S) (hL : ∀ i, i ∈ L → i < 24) : SentL L w S := fun i hi => h.at_ i (hL i hi)
/-- those that package dev answers -/
abbrev Sent5 : World → (Nat → Addr) → Prop := SentL [1, 2, 4, 5, 6]
theorem Sent.five {w : World} {S : Nat → Addr} (h : Sent w S) : Sent5 w S := h.some (by decide)

theorem Tryz.comp71 : (Tryz.prog.info? 307).map (·.comparable) = some true := by kernel_rfl
theorem Tryz.size88 : (Tryz.prog.info? 323).map (·.size) = some 1 := by kernel_rfl
theorem alike_yes (a : Addr) (w : World) : Calls Tryz.prog 182 #[.iface 307 (.pointer (some a)), .iface 307 (.pointer (some a))] w fun e w' => e = .returned (.bool true) ∧ w = w' := by
  obtain ⟨i, hi, hcomp⟩ := Option.map_eq_some_iff.1 Tryz.comp71
  obtain ⟨j, hj, _⟩ := Option.map_eq_some_iff.1 Tryz.size88
  have hq := run_eql_iface_ptr_same (P := Tryz.prog) w a Tryz.underlying38 Tryz.underlying307 hi hcomp hj
  clear hcomp hi hj
  go_enter Tryz.func182, Tryz.ntmps182
  go_wp2
  go_ret
  exact ⟨rfl, rfl⟩
theorem alike_no {a b : Addr} {w : World} (hne : a ≠ b) (ha : ∃ c t, w.heap[a.block]? = some (.cells c t (0, 0))) (hb : ∃ c t, w.heap[b.block]? = some (.cells c t (0, 0))) :
    Calls Tryz.prog 182 #[.iface 307 (.pointer (some a)), .iface 307 (.pointer (some b))] w fun e w' => e = .returned (.bool false) ∧ w = w' := by
  obtain ⟨i, hi, hcomp⟩ := Option.map_eq_some_iff.1 Tryz.comp71
  obtain ⟨j, hj, hsz⟩ := Option.map_eq_some_iff.1 Tryz.size88
  obtain ⟨ca, ta, ha⟩ := ha
  obtain ⟨cb, tb, hb⟩ := hb
  have hq := run_eql_iface_ptr_other (P := Tryz.prog) w Tryz.underlying38 Tryz.underlying307 hi hcomp hj (by rw [hsz]; decide) hne ha hb
  clear hcomp hi hj hsz ha hb hne
  go_enter Tryz.func182, Tryz.ntmps182
  go_wp2
  go_ret
  exact ⟨rfl, rfl⟩
/-- the list of them, made anew -/
def Listed (w : World) (S : Nat → Addr) (e : Ending) (w' : World) : Prop :=
  e = .returned (.slice (some ⟨w.heap.size, 0, none⟩) 24 24) ∧ Below w.heap.size w w' ∧ ∀ k, k < 24 → w'.cell? ⟨w.heap.size, k, none⟩ = some (.iface 307 (.pointer (some (S k))))
theorem lit24 (S : Nat → Addr) : ∀ k, k < 24 → (#[(.iface 307 (.pointer (some (S 0)))), (.iface 307 (.pointer (some (S 1)))), (.iface 307 (.pointer (some (S 2)))), (.iface 307 (.pointer (some (S 3)))), (.iface 307 (.pointer (some (S 4)))), (.iface 307 (.pointer (some (S 5)))), (.iface 307 (.pointer (some (S 6)))), (.iface 307 (.pointer (some (S 7)))), (.iface 307 (.pointer (some (S 8)))), (.iface 307 (.pointer (some (S 9)))), (.iface 307 (.pointer (some (S 10)))), (.iface 307 (.pointer (some (S 11)))), (.iface 307 (.pointer (some (S 12)))), (.iface 307 (.pointer (some (S 13)))), (.iface 307 (.pointer (some (S 14)))), (.iface 307 (.pointer (some (S 15)))), (.iface 307 (.pointer (some (S 16)))), (.iface 307 (.pointer (some (S 17)))), (.iface 307 (.pointer (some (S 18)))), (.iface 307 (.pointer (some (S 19)))), (.iface 307 (.pointer (some (S 20)))), (.iface 307 (.pointer (some (S 21)))), (.iface 307 (.pointer (some (S 22)))), (.iface 307 (.pointer (some (S 23))))] : Array Value)[k]? = some (.iface 307 (.pointer (some (S k))))
  | k, hk => match k, hk with | 0, _ => rfl | 1, _ => rfl | 2, _ => rfl | 3, _ => rfl | 4, _ => rfl | 5, _ => rfl | 6, _ => rfl | 7, _ => rfl | 8, _ => rfl | 9, _ => rfl | 10, _ => rfl | 11, _ => rfl | 12, _ => rfl | 13, _ => rfl | 14, _ => rfl | 15, _ => rfl | 16, _ => rfl | 17, _ => rfl | 18, _ => rfl | 19, _ => rfl | 20, _ => rfl | 21, _ => rfl | 22, _ => rfl | 23, _ => rfl | j + 24, hj => absurd hj (by omega)

set_option maxRecDepth 100000 in
set_option maxHeartbeats 4000000 in
theorem sentinels_any (S : Nat → Addr) (w : World) (h : Sent w S) : Calls Tryz.prog 181 #[] w (Listed w S) := by
  have g0 : w.cell? ⟨8, 0, none⟩ = some (.iface 307 (.pointer (some (S 0)))) := h.at_ 0 (by decide)
  have g1 : w.cell? ⟨3, 0, none⟩ = some (.iface 307 (.pointer (some (S 1)))) := h.at_ 1 (by decide)
  have g2 : w.cell? ⟨1, 0, none⟩ = some (.iface 307 (.pointer (some (S 2)))) := h.at_ 2 (by decide)
  have g3 : w.cell? ⟨6, 0, none⟩ = some (.iface 307 (.pointer (some (S 3)))) := h.at_ 3 (by decide)
  have g4 : w.cell? ⟨0, 0, none⟩ = some (.iface 307 (.pointer (some (S 4)))) := h.at_ 4 (by decide)
  have g5 : w.cell? ⟨2, 0, none⟩ = some (.iface 307 (.pointer (some (S 5)))) := h.at_ 5 (by decide)
  have g6 : w.cell? ⟨5, 0, none⟩ = some (.iface 307 (.pointer (some (S 6)))) := h.at_ 6 (by decide)
  have g7 : w.cell? ⟨9, 0, none⟩ = some (.iface 307 (.pointer (some (S 7)))) := h.at_ 7 (by decide)
  have g8 : w.cell? ⟨4, 0, none⟩ = some (.iface 307 (.pointer (some (S 8)))) := h.at_ 8 (by decide)
  have g9 : w.cell? ⟨10, 0, none⟩ = some (.iface 307 (.pointer (some (S 9)))) := h.at_ 9 (by decide)
  have g10 : w.cell? ⟨11, 0, none⟩ = some (.iface 307 (.pointer (some (S 10)))) := h.at_ 10 (by decide)
  have g11 : w.cell? ⟨12, 0, none⟩ = some (.iface 307 (.pointer (some (S 11)))) := h.at_ 11 (by decide)
  have g12 : w.cell? ⟨13, 0, none⟩ = some (.iface 307 (.pointer (some (S 12)))) := h.at_ 12 (by decide)
  have g13 : w.cell? ⟨14, 0, none⟩ = some (.iface 307 (.pointer (some (S 13)))) := h.at_ 13 (by decide)
  have g14 : w.cell? ⟨15, 0, none⟩ = some (.iface 307 (.pointer (some (S 14)))) := h.at_ 14 (by decide)
  have g15 : w.cell? ⟨16, 0, none⟩ = some (.iface 307 (.pointer (some (S 15)))) := h.at_ 15 (by decide)
  have g16 : w.cell? ⟨17, 0, none⟩ = some (.iface 307 (.pointer (some (S 16)))) := h.at_ 16 (by decide)
  have g17 : w.cell? ⟨18, 0, none⟩ = some (.iface 307 (.pointer (some (S 17)))) := h.at_ 17 (by decide)
  have g18 : w.cell? ⟨19, 0, none⟩ = some (.iface 307 (.pointer (some (S 18)))) := h.at_ 18 (by decide)
  have g19 : w.cell? ⟨20, 0, none⟩ = some (.iface 307 (.pointer (some (S 19)))) := h.at_ 19 (by decide)
  have g20 : w.cell? ⟨21, 0, none⟩ = some (.iface 307 (.pointer (some (S 20)))) := h.at_ 20 (by decide)
  have g21 : w.cell? ⟨22, 0, none⟩ = some (.iface 307 (.pointer (some (S 21)))) := h.at_ 21 (by decide)
  have g22 : w.cell? ⟨23, 0, none⟩ = some (.iface 307 (.pointer (some (S 22)))) := h.at_ 22 (by decide)
  have g23 : w.cell? ⟨24, 0, none⟩ = some (.iface 307 (.pointer (some (S 23)))) := h.at_ 23 (by decide)
  have HF := hid (show Listed w S (.returned (.slice (some ⟨w.heap.size, 0, none⟩) 24 24)) (w.alloc (.cells #[(.iface 307 (.pointer (some (S 0)))), (.iface 307 (.pointer (some (S 1)))), (.iface 307 (.pointer (some (S 2)))), (.iface 307 (.pointer (some (S 3)))), (.iface 307 (.pointer (some (S 4)))), (.iface 307 (.pointer (some (S 5)))), (.iface 307 (.pointer (some (S 6)))), (.iface 307 (.pointer (some (S 7)))), (.iface 307 (.pointer (some (S 8)))), (.iface 307 (.pointer (some (S 9)))), (.iface 307 (.pointer (some (S 10)))), (.iface 307 (.pointer (some (S 11)))), (.iface 307 (.pointer (some (S 12)))), (.iface 307 (.pointer (some (S 13)))), (.iface 307 (.pointer (some (S 14)))), (.iface 307 (.pointer (some (S 15)))), (.iface 307 (.pointer (some (S 16)))), (.iface 307 (.pointer (some (S 17)))), (.iface 307 (.pointer (some (S 18)))), (.iface 307 (.pointer (some (S 19)))), (.iface 307 (.pointer (some (S 20)))), (.iface 307 (.pointer (some (S 21)))), (.iface 307 (.pointer (some (S 22)))), (.iface 307 (.pointer (some (S 23))))] 38)) from
    ⟨rfl, (Below.refl _ _).alloc (Nat.le_refl _) _, fun k hk => by rw [(Blk.new w 38 #[(.iface 307 (.pointer (some (S 0)))), (.iface 307 (.pointer (some (S 1)))), (.iface 307 (.pointer (some (S 2)))), (.iface 307 (.pointer (some (S 3)))), (.iface 307 (.pointer (some (S 4)))), (.iface 307 (.pointer (some (S 5)))), (.iface 307 (.pointer (some (S 6)))), (.iface 307 (.pointer (some (S 7)))), (.iface 307 (.pointer (some (S 8)))), (.iface 307 (.pointer (some (S 9)))), (.iface 307 (.pointer (some (S 10)))), (.iface 307 (.pointer (some (S 11)))), (.iface 307 (.pointer (some (S 12)))), (.iface 307 (.pointer (some (S 13)))), (.iface 307 (.pointer (some (S 14)))), (.iface 307 (.pointer (some (S 15)))), (.iface 307 (.pointer (some (S 16)))), (.iface 307 (.pointer (some (S 17)))), (.iface 307 (.pointer (some (S 18)))), (.iface 307 (.pointer (some (S 19)))), (.iface 307 (.pointer (some (S 20)))), (.iface 307 (.pointer (some (S 21)))), (.iface 307 (.pointer (some (S 22)))), (.iface 307 (.pointer (some (S 23))))]).cell k]; exact lit24 S k hk⟩)
  clear h
  go_enter Tryz.func181, Tryz.ntmps181
  go_wp2
  go_ret
  exact HF.out

set_option maxRecDepth 100000 in
set_option maxHeartbeats 2000000 in
theorem sentinel_any (S : Nat → Addr) (j : Nat) (w : World) (h : Sent w S) (hj : j < 24) :
    Calls Tryz.prog 152 #[.iface 307 (.pointer (some (S j)))] w fun e w' => e = .returned (.int .i64 (101 + (j : Int))) ∧ Below w.heap.size w w' := by
  have HS := hid h
  clear h
  go_enter Tryz.func152, Tryz.ntmps152
  go_wp2_with fail
  refine (sentinels_any S w HS.out).mono ?_
  rintro e w1 ⟨rfl, hb, hc⟩
  have HS1 := hid (HS.out.on hb)
  have HB := hid hb
  have HC := hid hc
  clear hb hc
  go_wp2_with fail
  go_loop [4] (fun i => ∃ k : Nat, k ≤ j ∧ i = .int .i64 (k : Int)) (fun i => 24 - (intOf i).toNat)
  case atStart => exact ⟨0, Nat.zero_le _, rfl⟩
  case round =>
    obtain ⟨k, hk, rfl⟩ := hrel
    have hck := HC.out k (by omega)
    rcases Nat.lt_or_ge k j with hlt | hge
    · have HN := hid (HS1.out.ne j k (by omega) (by omega) (by omega))
      go_wp2_with fail
      refine (alike_no HN.out (HS1.out.blk j (by omega)) (HS1.out.blk k (by omega))).mono ?_
      rintro e w2 ⟨rfl, rfl⟩
      go_wp2
      go_round
      case rel => exact ⟨k + 1, by omega, by go_num⟩
      case measure => simp [intOf]; omega
    · obtain rfl : j = k := by omega
      go_wp2_with fail
      refine (alike_yes _ _).mono ?_
      rintro e w2 ⟨rfl, rfl⟩
      go_wp2
      go_ret
      exact ⟨rfl, HB.out⟩
end Go.Proofs.YtaonhbmimaiiiaaGreatDoor
namespace Go.Proofs.YtaonhbmimaiiiaaGreatDoor
open Go.RowKit

/-- an error's value, by its number: 0 none, 101 + j the j-th of package api -/
inductive EV (S : Nat → Addr) : Int → Value → Prop
  | fine : EV S 0 .nilIface
  | err (j : Nat) (h : j < 24) : EV S (101 + (j : Int)) (.iface 307 (.pointer (some (S j))))
set_option maxRecDepth 100000 in
set_option maxHeartbeats 1000000 in
theorem bare_any (c : Int) (w : World) : Calls Tryz.prog 64 #[.int .i64 c] w fun e w' => e = .returned (.agg #[.int .i64 c, .bool false, .int .i64 0]) ∧ Below w.heap.size w w' := by
  go_enter Tryz.func64, Tryz.ntmps64
  go_wp2
  exact bodyPost_ret (v := .agg #[.int .i64 c, .bool false, .int .i64 0]) (by simp [results, Tryz.results64, go_sem]) rfl ⟨rfl, by repeat (first | exact Below.refl _ _ | refine Below.setCell ?_ (by simp) _ | refine Below.alloc ?_ (by simp) _)⟩
set_option maxRecDepth 100000 in
set_option maxHeartbeats 1000000 in
theorem none_any (w : World) : Calls Tryz.prog 151 #[] w fun e w' => e = .returned (.agg #[.int .i64 0, .bool false, .int .i64 0]) ∧ Below w.heap.size w w' := by
  go_enter Tryz.func151, Tryz.ntmps151
  go_wp2
  exact bodyPost_ret (v := .agg #[.int .i64 0, .bool false, .int .i64 0]) (by simp [results, Tryz.results151, go_sem]) rfl ⟨rfl, by repeat (first | exact Below.refl _ _ | refine Below.setCell ?_ (by simp) _ | refine Below.alloc ?_ (by simp) _)⟩
set_option maxRecDepth 100000 in
set_option maxHeartbeats 2000000 in
theorem sameBare_any (c c' : Int) (w : World) : Calls Tryz.prog 111 #[.agg #[.int .i64 c, .bool false, .int .i64 0], .agg #[.int .i64 c', .bool false, .int .i64 0]] w fun e w' => e = .returned (.bool (c == c')) ∧ Below w.heap.size w w' := by
  rcases hcc : (c == c') with _ | _
  · go_enter Tryz.func111, Tryz.ntmps111
    go_wp2
    go_ret
    exact ⟨rfl, ((Below.refl _ _).alloc (Nat.le_refl _) _).alloc (by simp) _⟩
  · go_enter Tryz.func111, Tryz.ntmps111
    go_wp2
    go_ret
    exact ⟨rfl, ((Below.refl _ _).alloc (Nat.le_refl _) _).alloc (by simp) _⟩

theorem Tryz.asNot (v : Value) (w : World) : (Instr.typeAssert (.iface 307 v) 38 221 true).run Tryz.prog w = .ok (.tuple #[.pointer none, .bool false]) w := by kernel_rfl
set_option maxRecDepth 100000 in
set_option maxHeartbeats 2000000 in
theorem fault_bare (S : Nat → Addr) (c : Int) (v : Value) (w : World) (hS : Sent w S) (hv : EV S c v) :
    Calls Tryz.prog 112 #[v] w fun e w' => e = .returned (.agg #[.int .i64 c, .bool false, .int .i64 0]) ∧ Below w.heap.size w w' := by
  have HS := hid hS
  clear hS
  rcases hv with _ | ⟨j, hj⟩
  · go_enter Tryz.func112, Tryz.ntmps112
    go_wp2_with fail
    have HB1 := hid (show Below w.heap.size w (w.alloc (.cells #[.int .i64 0, .bool false, .int .i64 0] 124)) from (Below.refl _ _).alloc (Nat.le_refl _) _)
    have HK1 := hid (Blk.new w 124 #[.int .i64 0, .bool false, .int .i64 0])
    generalize w.alloc (.cells #[.int .i64 0, .bool false, .int .i64 0] 124) = W1 at *
    refine (none_any _).mono ?_
    rintro e w3 ⟨rfl, hb⟩
    have HB3 := hid (HB1.out.trans (hb.mono HB1.out.size))
    have HK3 := hid (HK1.out.below hb HK1.out.lt)
    clear hb
    have c0 := HK3.out.cell 0
    have c1 := HK3.out.cell 1
    have c2 := HK3.out.cell 2
    have fr := fun i => HK3.out.free i
    simp at c0 c1 c2
    have HF := hid (show Below w.heap.size w (((w3.setCell ⟨w.heap.size, 0, none⟩ (.int .i64 0)).setCell ⟨w.heap.size, 1, none⟩ (.bool false)).setCell ⟨w.heap.size, 2, none⟩ (.int .i64 0)) from ((HB3.out.setCell (p := ⟨w.heap.size, 0, none⟩) (by simp) _).setCell (p := ⟨w.heap.size, 1, none⟩) (by simp) _).setCell (p := ⟨w.heap.size, 2, none⟩) (by simp) _)
    have HK4 := ((HK3.out.put 0 (.int .i64 0)).put 1 (.bool false)).put 2 (.int .i64 0)
    have m0 := HK4.cell 0
    have m1 := HK4.cell 1
    have m2 := HK4.cell 2
    simp at m0 m1 m2
    clear HK4
    go_wp2
    exact bodyPost_ret (v := .agg #[.int .i64 0, .bool false, .int .i64 0]) (by simp [results, Tryz.results112, go_sem, m0, m1, m2]) rfl ⟨rfl, HF.out⟩
  · have has := fun W => Tryz.asNot (.pointer (some (S j))) W
    go_enter Tryz.func112, Tryz.ntmps112
    go_wp2_with fail
    have HB1 := hid (show Below w.heap.size w (w.alloc (.cells #[.int .i64 0, .bool false, .int .i64 0] 124)) from (Below.refl _ _).alloc (Nat.le_refl _) _)
    have HK1 := hid (Blk.new w 124 #[.int .i64 0, .bool false, .int .i64 0])
    generalize w.alloc (.cells #[.int .i64 0, .bool false, .int .i64 0] 124) = W1 at *
    have HS1 := hid (HS.out.on HB1.out)
    refine (sentinel_any S j _ HS1.out hj).mono ?_
    rintro e w2 ⟨rfl, hb⟩
    have HB2 := hid (HB1.out.trans (hb.mono HB1.out.size))
    have HK2 := hid (HK1.out.below hb HK1.out.lt)
    clear hb
    go_wp2_with fail
    refine (bare_any _ _).mono ?_
    rintro e w3 ⟨rfl, hb⟩
    have HB3 := hid (HB2.out.trans (hb.mono HB2.out.size))
    have HK3 := hid (HK2.out.below hb HK2.out.lt)
    clear hb
    have c0 := HK3.out.cell 0
    have c1 := HK3.out.cell 1
    have c2 := HK3.out.cell 2
    have fr := fun i => HK3.out.free i
    simp at c0 c1 c2
    have HF := hid (show Below w.heap.size w (((w3.setCell ⟨w.heap.size, 0, none⟩ (.int .i64 (101 + (j : Int)))).setCell ⟨w.heap.size, 1, none⟩ (.bool false)).setCell ⟨w.heap.size, 2, none⟩ (.int .i64 0)) from ((HB3.out.setCell (p := ⟨w.heap.size, 0, none⟩) (by simp) _).setCell (p := ⟨w.heap.size, 1, none⟩) (by simp) _).setCell (p := ⟨w.heap.size, 2, none⟩) (by simp) _)
    have HK4 := ((HK3.out.put 0 (.int .i64 (101 + (j : Int)))).put 1 (.bool false)).put 2 (.int .i64 0)
    have m0 := HK4.cell 0
    have m1 := HK4.cell 1
    have m2 := HK4.cell 2
    simp at m0 m1 m2
    clear HK4
    go_wp2
    exact bodyPost_ret (v := .agg #[.int .i64 (101 + (j : Int)), .bool false, .int .i64 0]) (by simp [results, Tryz.results112, go_sem, m0, m1, m2]) rfl ⟨rfl, HF.out⟩

set_option maxRecDepth 100000 in
set_option maxHeartbeats 2000000 in
theorem same_bare (S : Nat → Addr) (c c' : Int) (v : Value) (w : World) (hS : Sent w S) (hv : EV S c v) :
    Calls Tryz.prog 63 #[v, .agg #[.int .i64 c', .bool false, .int .i64 0]] w fun e w' => e = .returned (.bool (c == c')) ∧ Below w.heap.size w w' := by
  have HS := hid hS
  have HV := hid hv
  obtain ⟨b, hb⟩ : ∃ b, (c == c') = b := ⟨_, rfl⟩
  have HB := hid hb
  rw [hb]
  clear hS hv hb
  go_enter Tryz.func63, Tryz.ntmps63
  go_wp2_with fail
  have HB1 := hid (show Below w.heap.size w (w.alloc (.cells #[.int .i64 c', .bool false, .int .i64 0] 124)) from (Below.refl _ _).alloc (Nat.le_refl _) _)
  have HK1 := hid (Blk.new w 124 #[.int .i64 c', .bool false, .int .i64 0])
  generalize w.alloc (.cells #[.int .i64 c', .bool false, .int .i64 0] 124) = W1 at *
  have HS1 := hid (HS.out.on HB1.out)
  have k0 := HK1.out.cell 0
  have k1 := HK1.out.cell 1
  have k2 := HK1.out.cell 2
  simp at k0 k1 k2
  go_region_held3 (fun w' => w'.cell? ⟨w.heap.size, 0, none⟩ = some (.int .i64 c') ∧ w'.cell? ⟨w.heap.size, 1, none⟩ = some (.bool false) ∧ w'.cell? ⟨w.heap.size, 2, none⟩ = some (.int .i64 0)) (first | exact ⟨d0, d1, d2⟩ | exact ⟨e0, e1, e2⟩ | go_keep)
    ((first | (go_at_call 112; refine (fault_bare S c v _ HS1.out.drew HV.out).mono ?_; rintro e w2 ⟨rfl, hb2⟩; have d0 := (HK1.out.drew.below hb2 HK1.out.lt).cell 0; have d1 := (HK1.out.drew.below hb2 HK1.out.lt).cell 1; have d2 := (HK1.out.drew.below hb2 HK1.out.lt).cell 2; simp at d0 d1 d2; have HK2 := hid (HK1.out.drew.below hb2 HK1.out.lt); have HB2 := hid (HB1.out.drew.trans (hb2.mono HB1.out.size)); clear hb2) | (go_at_call 111; refine (sameBare_any _ _ _).mono ?_; rintro e w3 ⟨rfl, hb3⟩; have e0 := (HK2.out.below hb3 HK2.out.lt).cell 0; have e1 := (HK2.out.below hb3 HK2.out.lt).cell 1; have e2 := (HK2.out.below hb3 HK2.out.lt).cell 2; simp at e0 e1 e2; have HB3 := hid (HB2.out.trans (hb3.mono HB2.out.size)); clear hb3)))
  go_wp2
  go_ret
  rw [← HB.out]
  exact ⟨rfl, HB3.out⟩
theorem is_any (S : Nat → Addr) (c c' : Int) (v : Value) (w : World) (hS : Sent w S) (hv : EV S c v) :
    Calls Tryz.prog 23 #[v, .int .i64 c'] w fun e w' => e = .returned (.bool (c == c')) ∧ Below w.heap.size w w' := by
  have HS := hid hS
  have HV := hid hv
  obtain ⟨b, hb⟩ : ∃ b, (c == c') = b := ⟨_, rfl⟩
  have HB := hid hb
  rw [hb]
  clear hS hv hb
  go_enter Tryz.func23, Tryz.ntmps23
  go_wp2_with fail
  refine (bare_any _ _).mono ?_
  rintro e w1 ⟨rfl, hb⟩
  have HB1 := hid hb
  have HS1 := hid (HS.out.on hb)
  clear hb
  go_wp2_with fail
  refine (same_bare S c c' v _ HS1.out HV.out).mono ?_
  rw [HB.out]
  rintro e w2 ⟨rfl, hb⟩
  have HB2 := hid (HB1.out.trans (hb.mono HB1.out.size))
  clear hb
  go_wp2
  go_ret
  exact ⟨rfl, HB2.out⟩
end Go.Proofs.YtaonhbmimaiiiaaGreatDoor
namespace Go.Proofs.YtaonhbmimaiiiaaGreatDoor
open Go.RowKit

set_option maxRecDepth 100000 in
set_option maxHeartbeats 1000000 in
theorem bytes_any (A : Option Addr) (n c : Nat) (l : List Int) (w : World) (h : Sl w w.heap.size A n c l) (hn : n ≤ 100000) :
    Calls Tryz.prog 54 #[.slice A n c] w (Made w l) := by
  obtain ⟨i0, hi, hz0, hz1, hz2⟩ := info_parts Tryz.info5
  have HS := hid h
  clear h
  go_enter Tryz.func54, Tryz.ntmps54
  go_wp2_with (at_make; refine wpList_make_own _ rfl _ _ 30 rfl w.heap.size 5 i0 (.int .u8 0) 1 Tryz.underlying30 hi hz0 hz1 _ _ _ n rfl rfl ?hC ?b2 ?b3 ?b4 ?_)
  case hC => rfl
  case b2 => rw [hz2]; omega
  case b3 => unfold maxLen; omega
  case b4 => exact Nat.le_refl _
  intro w1 hown hgrow
  have HO := hid (show Own w1 w.heap.size (.slice (some ⟨w.heap.size, 0, none⟩) 0 n) (l.take 0) from hown)
  have HB := hid (show Below w.heap.size w w1 from (Below.refl _ _).grown hgrow (Nat.le_refl _) (fun _ h => by cases h))
  clear hown hgrow
  go_wp2
  go_loopw [3, 4] (fun v i wr => ∃ k : Nat, k ≤ n ∧ i = .int .i64 (k : Int) ∧ Own wr w.heap.size v (l.take k) ∧ Below w.heap.size w wr) (fun _ i _ => n - (intOf i).toNat)
  case atStart => exact ⟨0, Nat.zero_le _, rfl, HO.out, HB.out⟩
  case round =>
    obtain ⟨k, hk, rfl, hown, hb⟩ := hrel
    have HO1 := hid hown
    have HB1 := hid hb
    clear hown hb
    by_cases hlt : k < n
    · obtain ⟨ad, x, rfl, hbl, hx, hc⟩ := (HS.out.below HB1.out).get hlt
      have HX := hid hx
      have HBl := hid hbl
      clear hx hbl
      go_wp2_with (at_builtin; refine wpList_append_own _ rfl _ _ 30 rfl w.heap.size 5 i0 (.int .u8 0) 1 1 Tryz.underlying30 hi hz0 hz1 hz2 rfl (by decide) _ _ _ rfl (World.ownsRow.alloc HO1.out _) ⟨wr.heap.size, 0, none⟩ 1 1 [.int .u8 x] rfl rfl ?c1 ?c2 ?c3 ?c4 ?c5 ?_)
      case c1 => exact cell_one_new _ _ _
      case c2 => intro u hu; simp at hu; subst hu; rfl
      case c3 => rw [List.length_take]; unfold maxLen; omega
      case c4 => rw [List.length_take]; omega
      case c5 => have := HB1.out.size; simp; omega
      intro v' w2 hown' hgrow _
      have R1 := hid (show Own w2 w.heap.size v' (l.take (k + 1)) by
        rw [take_next HX.out]
        unfold Own
        rw [I_append]
        simpa [I] using hown')
      have R2 := hid (show Below w.heap.size w w2 from (HB1.out.alloc HB1.out.size _).grown hgrow (by have := HB1.out.size; simp; omega) (fun k hk => (HO1.out.lt k hk).1))
      clear hown' hgrow
      go_wp2
      go_roundw
      case rel => exact ⟨k + 1, by omega, by go_num, R1.out, R2.out⟩
      case measure => simp [intOf]; omega
    · go_wp2
      go_ret
      exact ⟨_, rfl, by have := HO1.out; rwa [List.take_of_length_le (by have := HS.out.len; omega)] at this, HB1.out⟩

set_option maxRecDepth 100000 in
set_option maxHeartbeats 1000000 in
theorem same_any (A A' : Option Addr) (n c n' c' : Nat) (l m : List Int) (B B' : Nat) (w : World) (h : Sl w B A n c l) (h' : Sl w B' A' n' c' m) :
    Calls Tryz.prog 34 #[.slice A n c, .slice A' n' c'] w (Quiet w (.bool (sameB l m))) := by
  have HS := hid h
  have HS' := hid h'
  clear h h'
  have hmx : n ≤ 9223372036854775807 := by have := HS.out.cap; have := HS.out.max; unfold maxLen at this; omega
  by_cases hne : n = n'
  · subst hne
    go_enter Tryz.func34, Tryz.ntmps34
    go_wp2
    go_loopw [5] (fun i wr => ∃ k q : Nat, k ≤ n ∧ i = .int .i64 (k : Int) ∧ l.take k = m.take k ∧ wr = w.drewN q) (fun i _ => n - (intOf i).toNat)
    case atStart => exact ⟨0, 0, Nat.zero_le _, rfl, rfl, rfl⟩
    case round =>
      obtain ⟨k, q, hk, rfl, ht, rfl⟩ := hrel
      have HT := hid ht
      clear ht
      by_cases hlt : k < n
      · obtain ⟨ad, x, rfl, hbl, hx, hc⟩ := HS.out.get hlt
        obtain ⟨ad', y, rfl, hbl', hy, hc'⟩ := HS'.out.get hlt
        have HX := hid hx
        have HY := hid hy
        clear hx hy hbl hbl'
        by_cases hxy : x = y
        · have hb : (x == y) = true := by rw [beq_iff_eq]; exact hxy
          have HXY := hid hxy
          clear hxy
          go_wp2_with fail
          go_quiet (fail)
          go_wp2
          go_roundw
          case rel => exact ⟨k + 1, _, by omega, by go_num, by rw [take_next HX.out, take_next HY.out, HT.out, HXY.out], rfl⟩
          case measure => simp [intOf]; omega
        · have hb : (x == y) = false := by rw [beq_eq_false_iff_ne]; exact hxy
          have HR := hid (same_not HX.out HY.out hxy)
          clear hxy
          go_wp2_with fail
          go_quiet (fail)
          go_wp2
          go_ret
          rw [HR.out]
          exact ⟨rfl, _, rfl⟩
      · go_wp2
        go_ret
        rw [same_end HS.out.len HS'.out.len hlt HT.out]
        exact ⟨rfl, _, rfl⟩
  · have HR := hid (same_len (l := l) (m := m) (by rw [HS.out.len, HS'.out.len]; exact hne))
    have hb : ((n : Int) != (n' : Int)) = true := by rw [bne_iff_ne]; omega
    clear hne
    go_enter Tryz.func34, Tryz.ntmps34
    go_wp2
    go_ret
    rw [HR.out]
    exact ⟨rfl, 0, rfl⟩
end Go.Proofs.YtaonhbmimaiiiaaGreatDoor
namespace Go.Proofs.YtaonhbmimaiiiaaGreatDoor
open Go.RowKit

set_option maxHeartbeats 400000 in
theorem number_any (n b : Int) (w : World) (hb : 0 < b) (hb1 : b ≤ 100000) :
    Calls Tryz.prog 19 #[.int .i64 n, .int .i64 b] w fun e w' => e = .returned (.int .i64 (n % b)) ∧ w = w' := by
  have h2 : -b < n.tmod b := Int.lt_tmod_of_pos n hb
  have h3 : n.tmod b < b := Int.tmod_lt_of_pos n hb
  rcases Int.lt_or_le (n.tmod b) 0 with h | h
  · have HE := hid (emod_neg n b hb h)
    have hz : ¬ b = 0 := by omega
    go_enter Tryz.func19, Tryz.ntmps19
    go_wp2
    go_ret
    rw [HE.out]
    exact ⟨rfl, rfl⟩
  · have HE := hid (emod_pos n b hb h)
    have hz : ¬ b = 0 := by omega
    go_enter Tryz.func19, Tryz.ntmps19
    go_wp2
    go_ret
    rw [HE.out]
    exact ⟨rfl, rfl⟩
end Go.Proofs.YtaonhbmimaiiiaaGreatDoor
