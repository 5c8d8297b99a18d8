/- An error of the three that a reader tells is known by its place among the errors of package api: what the statements' own helper answers of it. Conditions: the errors lie in their variables, each a pointer of its own. -/
import Derived.Test.YtfggfdmjmebgfaaDoorO
import Derived.LaidEql
namespace Go.Proofs.YtfggfdmjmebgfaaDoor
open Go.RowKit

/-- the errors of package api, in their order, S their pointers -/
structure Sent (w : World) (S : Nat → Addr) : Prop where
  g1 : w.cell? ⟨1, 0, none⟩ = some (.iface 71 (.pointer (some (S 0))))
  g2 : w.cell? ⟨2, 0, none⟩ = some (.iface 71 (.pointer (some (S 1))))
  g0 : w.cell? ⟨0, 0, none⟩ = some (.iface 71 (.pointer (some (S 2))))
  rest : ∀ k, 3 ≤ k → k < 24 → w.cell? ⟨k, 0, none⟩ = some (.iface 71 (.pointer (some (S k))))
  ne : ∀ i j, i < 24 → j < 24 → i ≠ j → S i ≠ S j
  blk : ∀ i, i < 24 → ∃ c t, w.heap[(S i).block]? = some (.cells c t (0, 0))
theorem Sent.on {w w' : World} {S : Nat → Addr} (h : Sent w S) (hb : Below w.heap.size w w') : Sent w' S := by
  have lt : ∀ (k : Nat) (v : Value), w.cell? ⟨k, 0, none⟩ = some v → w'.cell? ⟨k, 0, none⟩ = some v := fun k v hv => (hb.cell (World.block_lt_of_cell? w _ hv)).trans hv
  refine ⟨lt _ _ h.g1, lt _ _ h.g2, lt _ _ h.g0, fun k h3 h24 => lt _ _ (h.rest k h3 h24), h.ne, fun i hi => ?_⟩
  obtain ⟨c, t, hc⟩ := h.blk i hi
  exact ⟨c, t, (hb.block _ (Array.getElem?_eq_some_iff.1 hc).1).trans hc⟩
theorem Sent.errs {w : World} {S : Nat → Addr} (h : Sent w S) : Errs w (S 2) (S 0) (S 1) := ⟨h.g0, h.g1, h.g2⟩
theorem Sent.drewN {w : World} {S : Nat → Addr} (h : Sent w S) (k : Nat) : Sent (w.drewN k) S := ⟨h.g1, h.g2, h.g0, h.rest, h.ne, h.blk⟩
theorem Sent.drew {w : World} {S : Nat → Addr} (h : Sent w S) : Sent w.drew S := ⟨h.g1, h.g2, h.g0, h.rest, h.ne, h.blk⟩

theorem Tryd.comp71 : (Tryd.prog.info? 71).map (·.comparable) = some true := by kernel_rfl
theorem Tryd.size88 : (Tryd.prog.info? 88).map (·.size) = some 1 := by kernel_rfl
theorem alike_yes (a : Addr) (w : World) : Calls Tryd.prog 39 #[.iface 71 (.pointer (some a)), .iface 71 (.pointer (some a))] w fun e w' => e = .returned (.bool true) ∧ w = w' := by
  obtain ⟨i, hi, hcomp⟩ := Option.map_eq_some_iff.1 Tryd.comp71
  obtain ⟨j, hj, _⟩ := Option.map_eq_some_iff.1 Tryd.size88
  have hq := run_eql_iface_ptr_same (P := Tryd.prog) w a Tryd.underlying34 Tryd.underlying71 hi hcomp hj
  clear hcomp hi hj
  go_enter Tryd.func39, Tryd.ntmps39
  go_wp2
  go_ret
  exact ⟨rfl, rfl⟩
theorem alike_no {a b : Addr} {w : World} (hne : a ≠ b) (ha : ∃ c t, w.heap[a.block]? = some (.cells c t (0, 0))) (hb : ∃ c t, w.heap[b.block]? = some (.cells c t (0, 0))) :
    Calls Tryd.prog 39 #[.iface 71 (.pointer (some a)), .iface 71 (.pointer (some b))] w fun e w' => e = .returned (.bool false) ∧ w = w' := by
  obtain ⟨i, hi, hcomp⟩ := Option.map_eq_some_iff.1 Tryd.comp71
  obtain ⟨j, hj, hsz⟩ := Option.map_eq_some_iff.1 Tryd.size88
  obtain ⟨ca, ta, ha⟩ := ha
  obtain ⟨cb, tb, hb⟩ := hb
  have hq := run_eql_iface_ptr_other (P := Tryd.prog) w Tryd.underlying34 Tryd.underlying71 hi hcomp hj (by rw [hsz]; decide) hne ha hb
  clear hcomp hi hj hsz ha hb hne
  go_enter Tryd.func39, Tryd.ntmps39
  go_wp2
  go_ret
  exact ⟨rfl, rfl⟩

/-- the list of them, made anew -/
def Listed (w : World) (S : Nat → Addr) (e : Ending) (w' : World) : Prop :=
  e = .returned (.slice (some ⟨w.heap.size, 0, none⟩) 24 24) ∧ Below w.heap.size w w' ∧ ∀ k, k < 24 → w'.cell? ⟨w.heap.size, k, none⟩ = some (.iface 71 (.pointer (some (S k))))
theorem lit24 (S : Nat → Addr) : ∀ k, k < 24 → (#[(.iface 71 (.pointer (some (S 0)))), (.iface 71 (.pointer (some (S 1)))), (.iface 71 (.pointer (some (S 2)))), (.iface 71 (.pointer (some (S 3)))), (.iface 71 (.pointer (some (S 4)))), (.iface 71 (.pointer (some (S 5)))), (.iface 71 (.pointer (some (S 6)))), (.iface 71 (.pointer (some (S 7)))), (.iface 71 (.pointer (some (S 8)))), (.iface 71 (.pointer (some (S 9)))), (.iface 71 (.pointer (some (S 10)))), (.iface 71 (.pointer (some (S 11)))), (.iface 71 (.pointer (some (S 12)))), (.iface 71 (.pointer (some (S 13)))), (.iface 71 (.pointer (some (S 14)))), (.iface 71 (.pointer (some (S 15)))), (.iface 71 (.pointer (some (S 16)))), (.iface 71 (.pointer (some (S 17)))), (.iface 71 (.pointer (some (S 18)))), (.iface 71 (.pointer (some (S 19)))), (.iface 71 (.pointer (some (S 20)))), (.iface 71 (.pointer (some (S 21)))), (.iface 71 (.pointer (some (S 22)))), (.iface 71 (.pointer (some (S 23))))] : Array Value)[k]? = some (.iface 71 (.pointer (some (S k))))
  | k, hk => match k, hk with | 0, _ => rfl | 1, _ => rfl | 2, _ => rfl | 3, _ => rfl | 4, _ => rfl | 5, _ => rfl | 6, _ => rfl | 7, _ => rfl | 8, _ => rfl | 9, _ => rfl | 10, _ => rfl | 11, _ => rfl | 12, _ => rfl | 13, _ => rfl | 14, _ => rfl | 15, _ => rfl | 16, _ => rfl | 17, _ => rfl | 18, _ => rfl | 19, _ => rfl | 20, _ => rfl | 21, _ => rfl | 22, _ => rfl | 23, _ => rfl | j + 24, hj => absurd hj (by omega)

set_option maxRecDepth 100000 in
set_option maxHeartbeats 4000000 in
theorem sentinels_any (S : Nat → Addr) (w : World) (h : Sent w S) : Calls Tryd.prog 38 #[] w (Listed w S) := by
  have g0 := h.g0
  have g1 := h.g1
  have g2 := h.g2
  have g3 := h.rest 3 (by omega) (by omega)
  have g4 := h.rest 4 (by omega) (by omega)
  have g5 := h.rest 5 (by omega) (by omega)
  have g6 := h.rest 6 (by omega) (by omega)
  have g7 := h.rest 7 (by omega) (by omega)
  have g8 := h.rest 8 (by omega) (by omega)
  have g9 := h.rest 9 (by omega) (by omega)
  have g10 := h.rest 10 (by omega) (by omega)
  have g11 := h.rest 11 (by omega) (by omega)
  have g12 := h.rest 12 (by omega) (by omega)
  have g13 := h.rest 13 (by omega) (by omega)
  have g14 := h.rest 14 (by omega) (by omega)
  have g15 := h.rest 15 (by omega) (by omega)
  have g16 := h.rest 16 (by omega) (by omega)
  have g17 := h.rest 17 (by omega) (by omega)
  have g18 := h.rest 18 (by omega) (by omega)
  have g19 := h.rest 19 (by omega) (by omega)
  have g20 := h.rest 20 (by omega) (by omega)
  have g21 := h.rest 21 (by omega) (by omega)
  have g22 := h.rest 22 (by omega) (by omega)
  have g23 := h.rest 23 (by omega) (by omega)
  have HF := hid (show Listed w S (.returned (.slice (some ⟨w.heap.size, 0, none⟩) 24 24)) (w.alloc (.cells #[(.iface 71 (.pointer (some (S 0)))), (.iface 71 (.pointer (some (S 1)))), (.iface 71 (.pointer (some (S 2)))), (.iface 71 (.pointer (some (S 3)))), (.iface 71 (.pointer (some (S 4)))), (.iface 71 (.pointer (some (S 5)))), (.iface 71 (.pointer (some (S 6)))), (.iface 71 (.pointer (some (S 7)))), (.iface 71 (.pointer (some (S 8)))), (.iface 71 (.pointer (some (S 9)))), (.iface 71 (.pointer (some (S 10)))), (.iface 71 (.pointer (some (S 11)))), (.iface 71 (.pointer (some (S 12)))), (.iface 71 (.pointer (some (S 13)))), (.iface 71 (.pointer (some (S 14)))), (.iface 71 (.pointer (some (S 15)))), (.iface 71 (.pointer (some (S 16)))), (.iface 71 (.pointer (some (S 17)))), (.iface 71 (.pointer (some (S 18)))), (.iface 71 (.pointer (some (S 19)))), (.iface 71 (.pointer (some (S 20)))), (.iface 71 (.pointer (some (S 21)))), (.iface 71 (.pointer (some (S 22)))), (.iface 71 (.pointer (some (S 23))))] 34)) from
    ⟨rfl, (Below.refl _ _).alloc (Nat.le_refl _) _, fun k hk => by rw [(Blk.new w 34 #[(.iface 71 (.pointer (some (S 0)))), (.iface 71 (.pointer (some (S 1)))), (.iface 71 (.pointer (some (S 2)))), (.iface 71 (.pointer (some (S 3)))), (.iface 71 (.pointer (some (S 4)))), (.iface 71 (.pointer (some (S 5)))), (.iface 71 (.pointer (some (S 6)))), (.iface 71 (.pointer (some (S 7)))), (.iface 71 (.pointer (some (S 8)))), (.iface 71 (.pointer (some (S 9)))), (.iface 71 (.pointer (some (S 10)))), (.iface 71 (.pointer (some (S 11)))), (.iface 71 (.pointer (some (S 12)))), (.iface 71 (.pointer (some (S 13)))), (.iface 71 (.pointer (some (S 14)))), (.iface 71 (.pointer (some (S 15)))), (.iface 71 (.pointer (some (S 16)))), (.iface 71 (.pointer (some (S 17)))), (.iface 71 (.pointer (some (S 18)))), (.iface 71 (.pointer (some (S 19)))), (.iface 71 (.pointer (some (S 20)))), (.iface 71 (.pointer (some (S 21)))), (.iface 71 (.pointer (some (S 22)))), (.iface 71 (.pointer (some (S 23))))]).cell k]; exact lit24 S k hk⟩)
  clear h
  go_enter Tryd.func38, Tryd.ntmps38
  go_wp2
  go_ret
  exact HF.out

set_option maxRecDepth 100000 in
set_option maxHeartbeats 2000000 in
theorem sentinel_any (S : Nat → Addr) (j : Nat) (w : World) (h : Sent w S) (hj : j < 24) :
    Calls Tryd.prog 37 #[.iface 71 (.pointer (some (S j)))] w fun e w' => e = .returned (.int .i64 (101 + (j : Int))) ∧ Below w.heap.size w w' := by
  have HS := hid h
  clear h
  go_enter Tryd.func37, Tryd.ntmps37
  go_wp2_with fail
  refine (sentinels_any S w HS.out).mono ?_
  rintro e w1 ⟨rfl, hb, hc⟩
  have HS1 := hid (HS.out.on hb)
  have HB := hid hb
  have HC := hid hc
  clear hb hc
  go_wp2_with fail
  go_loop [4] (fun i => ∃ k : Nat, k ≤ j ∧ i = .int .i64 (k : Int)) (fun i => 24 - (intOf i).toNat)
  case atStart => exact ⟨0, Nat.zero_le _, rfl⟩
  case round =>
    obtain ⟨k, hk, rfl⟩ := hrel
    have hck := HC.out k (by omega)
    rcases Nat.lt_or_ge k j with hlt | hge
    · have HN := hid (HS1.out.ne j k (by omega) (by omega) (by omega))
      go_wp2_with fail
      refine (alike_no HN.out (HS1.out.blk j (by omega)) (HS1.out.blk k (by omega))).mono ?_
      rintro e w2 ⟨rfl, rfl⟩
      go_wp2
      go_round
      case rel => exact ⟨k + 1, by omega, by go_num⟩
      case measure => simp [intOf]; omega
    · obtain rfl : j = k := by omega
      go_wp2_with fail
      refine (alike_yes _ _).mono ?_
      rintro e w2 ⟨rfl, rfl⟩
      go_wp2
      go_ret
      exact ⟨rfl, HB.out⟩

theorem placed_any (c p : Int) (w : World) (hc : c ≠ 0) : Calls Tryd.prog 22 #[.int .i64 c, .int .i64 p] w fun e w' => e = .returned (.agg #[.int .i64 c, .bool true, .int .i64 p]) ∧ Below w.heap.size w w' := by
  have hb : (c == 0) = false := by rw [beq_eq_false_iff_ne]; exact hc
  clear hc
  go_enter Tryd.func22, Tryd.ntmps22
  go_wp2
  exact bodyPost_ret (v := .agg #[.int .i64 c, .bool true, .int .i64 p]) (by simp [results, Tryd.results22, go_sem]) rfl ⟨rfl, (Below.refl _ _).alloc (Nat.le_refl _) _⟩
end Go.Proofs.YtfggfdmjmebgfaaDoor
