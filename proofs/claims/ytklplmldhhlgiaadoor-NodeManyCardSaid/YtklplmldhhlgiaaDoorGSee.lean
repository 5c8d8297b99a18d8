/- What the statements' own helpers say of errors and bytes. -/
import Derived.Test.YtklplmldhhlgiaaDoorGBase
import Derived.LaidEql
import Derived.Deep.RegionHeld3
import Derived.IntWalk
import Derived.BigQuiet
import Derived.Deep.QuietTactic
namespace Go.Proofs.YtklplmldhhlgiaaDoor
open Go.RowKit

/-- the errors' variables, by their places -/
def glo : List Nat := [2, 3, 0, 1, 4, 5, 6, 7, 8, 9, 10, 11, 12, 13, 14, 15, 16, 17, 18, 19, 20, 21, 22, 23]
/-- the errors of package api, in their order, S their pointers -/
structure Sent (w : World) (S : Nat → Addr) : Prop where
  at_ : ∀ i, i < 24 → w.cell? ⟨glo.getD i 0, 0, none⟩ = some (.iface 104 (.pointer (some (S i))))
  ne : ∀ i j, i < 24 → j < 24 → i ≠ j → S i ≠ S j
  blk : ∀ i, i < 24 → ∃ c t, w.heap[(S i).block]? = some (.cells c t (0, 0))
theorem Sent.on {w w' : World} {S : Nat → Addr} (h : Sent w S) (hb : Below w.heap.size w w') : Sent w' S := by
  refine ⟨fun i hi => (hb.cell (World.block_lt_of_cell? w _ (h.at_ i hi))).trans (h.at_ i hi), h.ne, fun i hi => ?_⟩
  obtain ⟨c, t, hc⟩ := h.blk i hi
  exact ⟨c, t, (hb.block _ (Array.getElem?_eq_some_iff.1 hc).1).trans hc⟩
theorem Sent.drewN {w : World} {S : Nat → Addr} (h : Sent w S) (k : Nat) : Sent (w.drewN k) S := ⟨h.at_, h.ne, h.blk⟩
theorem Sent.drew {w : World} {S : Nat → Addr} (h : Sent w S) : Sent w.drew S := ⟨h.at_, h.ne, h.blk⟩
/-- some of them (by their places) lie in their variables -/
def SentL (L : List Nat) (w : World) (S : Nat → Addr) : Prop := ∀ i, i ∈ L → w.cell? ⟨glo.getD i 0, 0, none⟩ = some (.iface 104 (.pointer (some (S i))))
theorem SentL.on {L : List Nat} {w w' : World} {S : Nat → Addr} (h : SentL L w S) (hb : Below w.heap.size w w') : SentL L w' S := fun i hi => (hb.cell (World.block_lt_of_cell? w _ (h i hi))).trans (h i hi)
theorem SentL.drewN {L : List Nat} {w : World} {S : Nat → Addr} (h : SentL L w S) (k : Nat) : SentL L (w.drewN k) S := h
theorem SentL.drew {L : List Nat} {w : World} {S : Nat → Addr} (h : SentL L w S) : SentL L w.drew S := h
theorem Sent.some {L : List Nat} {w : World} {S : Nat → Addr} (h : Sent w S) (hL : ∀ i, i ∈ L → i < 24) : SentL L w S := fun i hi => h.at_ i (hL i hi)
/-- those that package dev answers -/
abbrev Sent5 : World → (Nat → Addr) → Prop := SentL [1, 2, 4, 5, 6]
theorem Sent.five {w : World} {S : Nat → Addr} (h : Sent w S) : Sent5 w S := h.some (by decide)

theorem Tryd.comp71 : (Tryd.prog.info? 104).map (·.comparable) = some true := by kernel_rfl
theorem Tryd.size88 : (Tryd.prog.info? 120).map (·.size) = some 1 := by kernel_rfl
theorem alike_yes (a : Addr) (w : World) : Calls Tryd.prog 46 #[.iface 104 (.pointer (some a)), .iface 104 (.pointer (some a))] w fun e w' => e = .returned (.bool true) ∧ w = w' := by
  obtain ⟨i, hi, hcomp⟩ := Option.map_eq_some_iff.1 Tryd.comp71
  obtain ⟨j, hj, _⟩ := Option.map_eq_some_iff.1 Tryd.size88
  have hq := run_eql_iface_ptr_same (P := Tryd.prog) w a Tryd.underlying36 Tryd.underlying104 hi hcomp hj
  clear hcomp hi hj
  go_enter Tryd.func46, Tryd.ntmps46
  go_wp2
  go_ret
  exact ⟨rfl, rfl⟩
theorem alike_no {a b : Addr} {w : World} (hne : a ≠ b) (ha : ∃ c t, w.heap[a.block]? = some (.cells c t (0, 0))) (hb : ∃ c t, w.heap[b.block]? = some (.cells c t (0, 0))) :
    Calls Tryd.prog 46 #[.iface 104 (.pointer (some a)), .iface 104 (.pointer (some b))] w fun e w' => e = .returned (.bool false) ∧ w = w' := by
  obtain ⟨i, hi, hcomp⟩ := Option.map_eq_some_iff.1 Tryd.comp71
  obtain ⟨j, hj, hsz⟩ := Option.map_eq_some_iff.1 Tryd.size88
  obtain ⟨ca, ta, ha⟩ := ha
  obtain ⟨cb, tb, hb⟩ := hb
  have hq := run_eql_iface_ptr_other (P := Tryd.prog) w Tryd.underlying36 Tryd.underlying104 hi hcomp hj (by rw [hsz]; decide) hne ha hb
  clear hcomp hi hj hsz ha hb hne
  go_enter Tryd.func46, Tryd.ntmps46
  go_wp2
  go_ret
  exact ⟨rfl, rfl⟩
/-- the list of them, made anew -/
def Listed (w : World) (S : Nat → Addr) (e : Ending) (w' : World) : Prop :=
  e = .returned (.slice (some ⟨w.heap.size, 0, none⟩) 24 24) ∧ Below w.heap.size w w' ∧ ∀ k, k < 24 → w'.cell? ⟨w.heap.size, k, none⟩ = some (.iface 104 (.pointer (some (S k))))
theorem lit24 (S : Nat → Addr) : ∀ k, k < 24 → (#[(.iface 104 (.pointer (some (S 0)))), (.iface 104 (.pointer (some (S 1)))), (.iface 104 (.pointer (some (S 2)))), (.iface 104 (.pointer (some (S 3)))), (.iface 104 (.pointer (some (S 4)))), (.iface 104 (.pointer (some (S 5)))), (.iface 104 (.pointer (some (S 6)))), (.iface 104 (.pointer (some (S 7)))), (.iface 104 (.pointer (some (S 8)))), (.iface 104 (.pointer (some (S 9)))), (.iface 104 (.pointer (some (S 10)))), (.iface 104 (.pointer (some (S 11)))), (.iface 104 (.pointer (some (S 12)))), (.iface 104 (.pointer (some (S 13)))), (.iface 104 (.pointer (some (S 14)))), (.iface 104 (.pointer (some (S 15)))), (.iface 104 (.pointer (some (S 16)))), (.iface 104 (.pointer (some (S 17)))), (.iface 104 (.pointer (some (S 18)))), (.iface 104 (.pointer (some (S 19)))), (.iface 104 (.pointer (some (S 20)))), (.iface 104 (.pointer (some (S 21)))), (.iface 104 (.pointer (some (S 22)))), (.iface 104 (.pointer (some (S 23))))] : Array Value)[k]? = some (.iface 104 (.pointer (some (S k))))
  | k, hk => match k, hk with | 0, _ => rfl | 1, _ => rfl | 2, _ => rfl | 3, _ => rfl | 4, _ => rfl | 5, _ => rfl | 6, _ => rfl | 7, _ => rfl | 8, _ => rfl | 9, _ => rfl | 10, _ => rfl | 11, _ => rfl | 12, _ => rfl | 13, _ => rfl | 14, _ => rfl | 15, _ => rfl | 16, _ => rfl | 17, _ => rfl | 18, _ => rfl | 19, _ => rfl | 20, _ => rfl | 21, _ => rfl | 22, _ => rfl | 23, _ => rfl | j + 24, hj => absurd hj (by omega)

set_option maxRecDepth 100000 in
set_option maxHeartbeats 4000000 in
theorem sentinels_any (S : Nat → Addr) (w : World) (h : Sent w S) : Calls Tryd.prog 45 #[] w (Listed w S) := by
  have g0 : w.cell? ⟨2, 0, none⟩ = some (.iface 104 (.pointer (some (S 0)))) := h.at_ 0 (by decide)
  have g1 : w.cell? ⟨3, 0, none⟩ = some (.iface 104 (.pointer (some (S 1)))) := h.at_ 1 (by decide)
  have g2 : w.cell? ⟨0, 0, none⟩ = some (.iface 104 (.pointer (some (S 2)))) := h.at_ 2 (by decide)
  have g3 : w.cell? ⟨1, 0, none⟩ = some (.iface 104 (.pointer (some (S 3)))) := h.at_ 3 (by decide)
  have g4 : w.cell? ⟨4, 0, none⟩ = some (.iface 104 (.pointer (some (S 4)))) := h.at_ 4 (by decide)
  have g5 : w.cell? ⟨5, 0, none⟩ = some (.iface 104 (.pointer (some (S 5)))) := h.at_ 5 (by decide)
  have g6 : w.cell? ⟨6, 0, none⟩ = some (.iface 104 (.pointer (some (S 6)))) := h.at_ 6 (by decide)
  have g7 : w.cell? ⟨7, 0, none⟩ = some (.iface 104 (.pointer (some (S 7)))) := h.at_ 7 (by decide)
  have g8 : w.cell? ⟨8, 0, none⟩ = some (.iface 104 (.pointer (some (S 8)))) := h.at_ 8 (by decide)
  have g9 : w.cell? ⟨9, 0, none⟩ = some (.iface 104 (.pointer (some (S 9)))) := h.at_ 9 (by decide)
  have g10 : w.cell? ⟨10, 0, none⟩ = some (.iface 104 (.pointer (some (S 10)))) := h.at_ 10 (by decide)
  have g11 : w.cell? ⟨11, 0, none⟩ = some (.iface 104 (.pointer (some (S 11)))) := h.at_ 11 (by decide)
  have g12 : w.cell? ⟨12, 0, none⟩ = some (.iface 104 (.pointer (some (S 12)))) := h.at_ 12 (by decide)
  have g13 : w.cell? ⟨13, 0, none⟩ = some (.iface 104 (.pointer (some (S 13)))) := h.at_ 13 (by decide)
  have g14 : w.cell? ⟨14, 0, none⟩ = some (.iface 104 (.pointer (some (S 14)))) := h.at_ 14 (by decide)
  have g15 : w.cell? ⟨15, 0, none⟩ = some (.iface 104 (.pointer (some (S 15)))) := h.at_ 15 (by decide)
  have g16 : w.cell? ⟨16, 0, none⟩ = some (.iface 104 (.pointer (some (S 16)))) := h.at_ 16 (by decide)
  have g17 : w.cell? ⟨17, 0, none⟩ = some (.iface 104 (.pointer (some (S 17)))) := h.at_ 17 (by decide)
  have g18 : w.cell? ⟨18, 0, none⟩ = some (.iface 104 (.pointer (some (S 18)))) := h.at_ 18 (by decide)
  have g19 : w.cell? ⟨19, 0, none⟩ = some (.iface 104 (.pointer (some (S 19)))) := h.at_ 19 (by decide)
  have g20 : w.cell? ⟨20, 0, none⟩ = some (.iface 104 (.pointer (some (S 20)))) := h.at_ 20 (by decide)
  have g21 : w.cell? ⟨21, 0, none⟩ = some (.iface 104 (.pointer (some (S 21)))) := h.at_ 21 (by decide)
  have g22 : w.cell? ⟨22, 0, none⟩ = some (.iface 104 (.pointer (some (S 22)))) := h.at_ 22 (by decide)
  have g23 : w.cell? ⟨23, 0, none⟩ = some (.iface 104 (.pointer (some (S 23)))) := h.at_ 23 (by decide)
  have HF := hid (show Listed w S (.returned (.slice (some ⟨w.heap.size, 0, none⟩) 24 24)) (w.alloc (.cells #[(.iface 104 (.pointer (some (S 0)))), (.iface 104 (.pointer (some (S 1)))), (.iface 104 (.pointer (some (S 2)))), (.iface 104 (.pointer (some (S 3)))), (.iface 104 (.pointer (some (S 4)))), (.iface 104 (.pointer (some (S 5)))), (.iface 104 (.pointer (some (S 6)))), (.iface 104 (.pointer (some (S 7)))), (.iface 104 (.pointer (some (S 8)))), (.iface 104 (.pointer (some (S 9)))), (.iface 104 (.pointer (some (S 10)))), (.iface 104 (.pointer (some (S 11)))), (.iface 104 (.pointer (some (S 12)))), (.iface 104 (.pointer (some (S 13)))), (.iface 104 (.pointer (some (S 14)))), (.iface 104 (.pointer (some (S 15)))), (.iface 104 (.pointer (some (S 16)))), (.iface 104 (.pointer (some (S 17)))), (.iface 104 (.pointer (some (S 18)))), (.iface 104 (.pointer (some (S 19)))), (.iface 104 (.pointer (some (S 20)))), (.iface 104 (.pointer (some (S 21)))), (.iface 104 (.pointer (some (S 22)))), (.iface 104 (.pointer (some (S 23))))] 36)) from
    ⟨rfl, (Below.refl _ _).alloc (Nat.le_refl _) _, fun k hk => by rw [(Blk.new w 36 #[(.iface 104 (.pointer (some (S 0)))), (.iface 104 (.pointer (some (S 1)))), (.iface 104 (.pointer (some (S 2)))), (.iface 104 (.pointer (some (S 3)))), (.iface 104 (.pointer (some (S 4)))), (.iface 104 (.pointer (some (S 5)))), (.iface 104 (.pointer (some (S 6)))), (.iface 104 (.pointer (some (S 7)))), (.iface 104 (.pointer (some (S 8)))), (.iface 104 (.pointer (some (S 9)))), (.iface 104 (.pointer (some (S 10)))), (.iface 104 (.pointer (some (S 11)))), (.iface 104 (.pointer (some (S 12)))), (.iface 104 (.pointer (some (S 13)))), (.iface 104 (.pointer (some (S 14)))), (.iface 104 (.pointer (some (S 15)))), (.iface 104 (.pointer (some (S 16)))), (.iface 104 (.pointer (some (S 17)))), (.iface 104 (.pointer (some (S 18)))), (.iface 104 (.pointer (some (S 19)))), (.iface 104 (.pointer (some (S 20)))), (.iface 104 (.pointer (some (S 21)))), (.iface 104 (.pointer (some (S 22)))), (.iface 104 (.pointer (some (S 23))))]).cell k]; exact lit24 S k hk⟩)
  clear h
  go_enter Tryd.func45, Tryd.ntmps45
  go_wp2
  go_ret
  exact HF.out

set_option maxRecDepth 100000 in
set_option maxHeartbeats 2000000 in
theorem sentinel_any (S : Nat → Addr) (j : Nat) (w : World) (h : Sent w S) (hj : j < 24) :
    Calls Tryd.prog 40 #[.iface 104 (.pointer (some (S j)))] w fun e w' => e = .returned (.int .i64 (101 + (j : Int))) ∧ Below w.heap.size w w' := by
  have HS := hid h
  clear h
  go_enter Tryd.func40, Tryd.ntmps40
  go_wp2_with fail
  refine (sentinels_any S w HS.out).mono ?_
  rintro e w1 ⟨rfl, hb, hc⟩
  have HS1 := hid (HS.out.on hb)
  have HB := hid hb
  have HC := hid hc
  clear hb hc
  go_wp2_with fail
  go_loop [4] (fun i => ∃ k : Nat, k ≤ j ∧ i = .int .i64 (k : Int)) (fun i => 24 - (intOf i).toNat)
  case atStart => exact ⟨0, Nat.zero_le _, rfl⟩
  case round =>
    obtain ⟨k, hk, rfl⟩ := hrel
    have hck := HC.out k (by omega)
    rcases Nat.lt_or_ge k j with hlt | hge
    · have HN := hid (HS1.out.ne j k (by omega) (by omega) (by omega))
      go_wp2_with fail
      refine (alike_no HN.out (HS1.out.blk j (by omega)) (HS1.out.blk k (by omega))).mono ?_
      rintro e w2 ⟨rfl, rfl⟩
      go_wp2
      go_round
      case rel => exact ⟨k + 1, by omega, by go_num⟩
      case measure => simp [intOf]; omega
    · obtain rfl : j = k := by omega
      go_wp2_with fail
      refine (alike_yes _ _).mono ?_
      rintro e w2 ⟨rfl, rfl⟩
      go_wp2
      go_ret
      exact ⟨rfl, HB.out⟩
theorem placed_any (c p : Int) (w : World) (hc : c ≠ 0) : Calls Tryd.prog 41 #[.int .i64 c, .int .i64 p] w fun e w' => e = .returned (.agg #[.int .i64 c, .bool true, .int .i64 p]) ∧ Below w.heap.size w w' := by
  have hb : (c == 0) = false := by rw [beq_eq_false_iff_ne]; exact hc
  clear hc
  go_enter Tryd.func41, Tryd.ntmps41
  go_wp2
  exact bodyPost_ret (v := .agg #[.int .i64 c, .bool true, .int .i64 p]) (by simp [results, Tryd.results41, go_sem]) rfl ⟨rfl, (Below.refl _ _).alloc (Nat.le_refl _) _⟩

set_option maxRecDepth 100000 in
set_option maxHeartbeats 2000000 in
theorem sameFault_any (c c' p : Int) (w : World) : Calls Tryd.prog 30 #[.agg #[.int .i64 c, .bool true, .int .i64 p], .agg #[.int .i64 c', .bool true, .int .i64 p]] w fun e w' => e = .returned (.bool (c == c')) ∧ Below w.heap.size w w' := by
  have hp : (p == p) = true := by simp
  rcases hcc : (c == c') with _ | _
  · go_enter Tryd.func30, Tryd.ntmps30
    go_wp2
    go_ret
    exact ⟨rfl, ((Below.refl _ _).alloc (Nat.le_refl _) _).alloc (by simp) _⟩
  · go_enter Tryd.func30, Tryd.ntmps30
    go_wp2
    go_ret
    exact ⟨rfl, ((Below.refl _ _).alloc (Nat.le_refl _) _).alloc (by simp) _⟩
theorem far3 {w : World} {h g : Nat} {p : Int} {er : Addr} (hb : Blk w h 73 #[.int .i64 p, .iface 104 (.pointer (some er))]) (hne : h ≠ g) (a b c : Value) :
    (((w.setCell ⟨g, 0, none⟩ a).setCell ⟨g, 1, none⟩ b).setCell ⟨g, 2, none⟩ c).cell? ⟨h, 0, none⟩ = some (.int .i64 p) ∧ (((w.setCell ⟨g, 0, none⟩ a).setCell ⟨g, 1, none⟩ b).setCell ⟨g, 2, none⟩ c).cell? ⟨h, 1, none⟩ = some (.iface 104 (.pointer (some er))) := by
  have h3 := ((hb.far (p := ⟨g, 0, none⟩) hne a).far (p := ⟨g, 1, none⟩) hne b).far (p := ⟨g, 2, none⟩) hne c
  have c0 := h3.cell 0
  have c1 := h3.cell 1
  simp at c0 c1
  exact ⟨c0, c1⟩
theorem Tryd.as62 (v : Value) (w : World) : (Instr.typeAssert (.iface 69 v) 36 69 true).run Tryd.prog w = .ok (.tuple #[v, .bool true]) w := by kernel_rfl
set_option maxRecDepth 100000 in
set_option maxHeartbeats 2000000 in
theorem fault_any (S : Nat → Addr) (j : Nat) (h : Nat) (p : Int) (w : World) (hS : Sent w S) (hj : j < 24) (hb : Blk w h 73 #[.int .i64 p, .iface 104 (.pointer (some (S j)))]) :
    Calls Tryd.prog 31 #[.iface 69 (.pointer (some ⟨h, 0, none⟩))] w fun e w' => e = .returned (.agg #[.int .i64 (101 + (j : Int)), .bool true, .int .i64 p]) ∧ Below w.heap.size w w' := by
  have c0 := hb.cell 0
  have c1 := hb.cell 1
  have hlt := hb.lt
  simp at c0 c1
  have HS := hid hS
  have HH := hid hb
  clear hS hb
  have has := fun W => Tryd.as62 (.pointer (some ⟨h, 0, none⟩)) W
  go_enter Tryd.func31, Tryd.ntmps31
  go_wp2_with fail
  have HB1 := hid (show Below w.heap.size w (w.alloc (.cells #[.int .i64 0, .bool false, .int .i64 0] 58)) from (Below.refl _ _).alloc (Nat.le_refl _) _)
  have HK1 := hid (Blk.new w 58 #[.int .i64 0, .bool false, .int .i64 0])
  have HH1 := hid (HH.out.alloc (.cells #[.int .i64 0, .bool false, .int .i64 0] 58))
  clear c0 c1
  generalize w.alloc (.cells #[.int .i64 0, .bool false, .int .i64 0] 58) = W1 at *
  have HS1 := hid (HS.out.on HB1.out)
  have c0 := HH1.out.cell 0
  have c1 := HH1.out.cell 1
  simp at c0 c1
  have hlt1 := HK1.out.lt
  go_region_held3 (fun w' => w'.cell? ⟨h, 0, none⟩ = some (.int .i64 p) ∧ w'.cell? ⟨h, 1, none⟩ = some (.iface 104 (.pointer (some (S j))))) (first | exact ⟨d0, d1⟩ | exact ⟨e0, e1⟩ | exact far3 HH3.out (Nat.ne_of_lt hlt) _ _ _ | go_keep)
    ((first | (go_at_call 40; refine (sentinel_any S j _ HS1.out.drew hj).mono ?_; rintro e w2 ⟨rfl, hb2⟩; have d0 := (HH1.out.drew.below hb2 HH1.out.lt).cell 0; have d1 := (HH1.out.drew.below hb2 HH1.out.lt).cell 1; simp at d0 d1; have HK2 := hid (HK1.out.drew.below hb2 HK1.out.lt); have HH2 := hid (HH1.out.drew.below hb2 HH1.out.lt); have HB2 := hid (HB1.out.drew.trans (hb2.mono HB1.out.size)); clear hb2) | (go_at_call 41; refine (placed_any (101 + (j : Int)) p _ (by omega)).mono ?_; rintro e w3 ⟨rfl, hb3⟩; have e0 := (HH2.out.below hb3 HH2.out.lt).cell 0; have e1 := (HH2.out.below hb3 HH2.out.lt).cell 1; simp at e0 e1; have HK3 := hid (HK2.out.below hb3 HK2.out.lt); have HB3 := hid (HB2.out.trans (hb3.mono HB2.out.size)); have HH3 := hid (HH2.out.below hb3 HH2.out.lt); clear hb3; have k0 := HK3.out.cell 0; have k1 := HK3.out.cell 1; have k2 := HK3.out.cell 2; simp at k0 k1 k2; have f0 := HK3.out.free 0; have f1 := HK3.out.free 1; have f2 := HK3.out.free 2)))
  have HF := hid (show Below w.heap.size w (((w3.setCell ⟨w.heap.size, 0, none⟩ (.int .i64 (101 + (j : Int)))).setCell ⟨w.heap.size, 1, none⟩ (.bool true)).setCell ⟨w.heap.size, 2, none⟩ (.int .i64 p)) from ((HB3.out.setCell (p := ⟨w.heap.size, 0, none⟩) (Nat.le_refl _) _).setCell (p := ⟨w.heap.size, 1, none⟩) (Nat.le_refl _) _).setCell (p := ⟨w.heap.size, 2, none⟩) (Nat.le_refl _) _)
  have HK4 := ((HK3.out.put 0 (.int .i64 (101 + (j : Int)))).put 1 (.bool true)).put 2 (.int .i64 p)
  have m0 := HK4.cell 0
  have m1 := HK4.cell 1
  have m2 := HK4.cell 2
  simp at m0 m1 m2
  clear HK4
  go_wp2
  exact bodyPost_ret (v := .agg #[.int .i64 (101 + (j : Int)), .bool true, .int .i64 p]) (by simp [results, Tryd.results31, go_sem, m0, m1, m2]) rfl ⟨rfl, HF.out⟩
set_option maxRecDepth 100000 in
set_option maxHeartbeats 2000000 in
theorem see_any (S : Nat → Addr) (j : Nat) (h : Nat) (p c : Int) (w : World) (hS : Sent w S) (hj : j < 24) (hb : Blk w h 73 #[.int .i64 p, .iface 104 (.pointer (some (S j)))]) (hc : c = 101 + (j : Int)) :
    Calls Tryd.prog 24 #[.iface 69 (.pointer (some ⟨h, 0, none⟩)), .agg #[.int .i64 c, .bool true, .int .i64 p]] w (Yes w) := by
  have HS := hid hS
  have HH := hid hb
  have HC := hid hc
  clear hS hb hc
  go_enter Tryd.func24, Tryd.ntmps24
  go_wp2_with fail
  have HB1 := hid (show Below w.heap.size w (w.alloc (.cells #[.int .i64 c, .bool true, .int .i64 p] 58)) from (Below.refl _ _).alloc (Nat.le_refl _) _)
  have HK1 := hid (Blk.new w 58 #[.int .i64 c, .bool true, .int .i64 p])
  have HH1 := hid (HH.out.alloc (.cells #[.int .i64 c, .bool true, .int .i64 p] 58))
  generalize w.alloc (.cells #[.int .i64 c, .bool true, .int .i64 p] 58) = W1 at *
  have HS1 := hid (HS.out.on HB1.out)
  have k0 := HK1.out.cell 0
  have k1 := HK1.out.cell 1
  have k2 := HK1.out.cell 2
  simp at k0 k1 k2
  go_region_held3 (fun w' => w'.cell? ⟨w.heap.size, 0, none⟩ = some (.int .i64 c) ∧ w'.cell? ⟨w.heap.size, 1, none⟩ = some (.bool true) ∧ w'.cell? ⟨w.heap.size, 2, none⟩ = some (.int .i64 p)) (first | exact ⟨d0, d1, d2⟩ | exact ⟨e0, e1, e2⟩ | go_keep)
    ((first | (go_at_call 31; refine (fault_any S j h p _ HS1.out.drew hj HH1.out.drew).mono ?_; rintro e w2 ⟨rfl, hb2⟩; have d0 := (HK1.out.drew.below hb2 HK1.out.lt).cell 0; have d1 := (HK1.out.drew.below hb2 HK1.out.lt).cell 1; have d2 := (HK1.out.drew.below hb2 HK1.out.lt).cell 2; simp at d0 d1 d2; have HK2 := hid (HK1.out.drew.below hb2 HK1.out.lt); have HB2 := hid (HB1.out.drew.trans (hb2.mono HB1.out.size)); clear hb2) | (go_at_call 30; refine (sameFault_any _ _ p _).mono ?_; rintro e w3 ⟨rfl, hb3⟩; have e0 := (HK2.out.below hb3 HK2.out.lt).cell 0; have e1 := (HK2.out.below hb3 HK2.out.lt).cell 1; have e2 := (HK2.out.below hb3 HK2.out.lt).cell 2; simp at e0 e1 e2; have HB3 := hid (HB2.out.trans (hb3.mono HB2.out.size)); clear hb3)))
  go_wp2
  go_ret
  refine ⟨?_, HB3.out⟩
  have e : ((101 + (j : Int)) == c) = true := by rw [HC.out]; simp
  exact congrArg (fun b => Ending.returned (.bool b)) e
end Go.Proofs.YtklplmldhhlgiaaDoor
namespace Go.Proofs.YtklplmldhhlgiaaDoor
open Go.RowKit

/-- an error's value, by its number: 0 none, 101 + j the j-th of package api -/
inductive EV (S : Nat → Addr) : Int → Value → Prop
  | fine : EV S 0 .nilIface
  | err (j : Nat) (h : j < 24) : EV S (101 + (j : Int)) (.iface 104 (.pointer (some (S j))))
set_option maxRecDepth 100000 in
set_option maxHeartbeats 1000000 in
theorem bare_any (c : Int) (w : World) : Calls Tryd.prog 25 #[.int .i64 c] w fun e w' => e = .returned (.agg #[.int .i64 c, .bool false, .int .i64 0]) ∧ Below w.heap.size w w' := by
  go_enter Tryd.func25, Tryd.ntmps25
  go_wp2
  exact bodyPost_ret (v := .agg #[.int .i64 c, .bool false, .int .i64 0]) (by simp [results, Tryd.results25, go_sem]) rfl ⟨rfl, by repeat (first | exact Below.refl _ _ | refine Below.setCell ?_ (by simp) _ | refine Below.alloc ?_ (by simp) _)⟩
set_option maxRecDepth 100000 in
set_option maxHeartbeats 1000000 in
theorem none_any (w : World) : Calls Tryd.prog 39 #[] w fun e w' => e = .returned (.agg #[.int .i64 0, .bool false, .int .i64 0]) ∧ Below w.heap.size w w' := by
  go_enter Tryd.func39, Tryd.ntmps39
  go_wp2
  exact bodyPost_ret (v := .agg #[.int .i64 0, .bool false, .int .i64 0]) (by simp [results, Tryd.results39, go_sem]) rfl ⟨rfl, by repeat (first | exact Below.refl _ _ | refine Below.setCell ?_ (by simp) _ | refine Below.alloc ?_ (by simp) _)⟩
set_option maxRecDepth 100000 in
set_option maxHeartbeats 2000000 in
theorem sameBare_any (c c' : Int) (w : World) : Calls Tryd.prog 30 #[.agg #[.int .i64 c, .bool false, .int .i64 0], .agg #[.int .i64 c', .bool false, .int .i64 0]] w fun e w' => e = .returned (.bool (c == c')) ∧ Below w.heap.size w w' := by
  rcases hcc : (c == c') with _ | _
  · go_enter Tryd.func30, Tryd.ntmps30
    go_wp2
    go_ret
    exact ⟨rfl, ((Below.refl _ _).alloc (Nat.le_refl _) _).alloc (by simp) _⟩
  · go_enter Tryd.func30, Tryd.ntmps30
    go_wp2
    go_ret
    exact ⟨rfl, ((Below.refl _ _).alloc (Nat.le_refl _) _).alloc (by simp) _⟩

theorem Tryd.asNot (v : Value) (w : World) : (Instr.typeAssert (.iface 104 v) 36 69 true).run Tryd.prog w = .ok (.tuple #[.pointer none, .bool false]) w := by kernel_rfl
set_option maxRecDepth 100000 in
set_option maxHeartbeats 2000000 in
theorem fault_bare (S : Nat → Addr) (c : Int) (v : Value) (w : World) (hS : Sent w S) (hv : EV S c v) :
    Calls Tryd.prog 31 #[v] w fun e w' => e = .returned (.agg #[.int .i64 c, .bool false, .int .i64 0]) ∧ Below w.heap.size w w' := by
  have HS := hid hS
  clear hS
  rcases hv with _ | ⟨j, hj⟩
  · go_enter Tryd.func31, Tryd.ntmps31
    go_wp2_with fail
    have HB1 := hid (show Below w.heap.size w (w.alloc (.cells #[.int .i64 0, .bool false, .int .i64 0] 58)) from (Below.refl _ _).alloc (Nat.le_refl _) _)
    have HK1 := hid (Blk.new w 58 #[.int .i64 0, .bool false, .int .i64 0])
    generalize w.alloc (.cells #[.int .i64 0, .bool false, .int .i64 0] 58) = W1 at *
    refine (none_any _).mono ?_
    rintro e w3 ⟨rfl, hb⟩
    have HB3 := hid (HB1.out.trans (hb.mono HB1.out.size))
    have HK3 := hid (HK1.out.below hb HK1.out.lt)
    clear hb
    have c0 := HK3.out.cell 0
    have c1 := HK3.out.cell 1
    have c2 := HK3.out.cell 2
    have fr := fun i => HK3.out.free i
    simp at c0 c1 c2
    have HF := hid (show Below w.heap.size w (((w3.setCell ⟨w.heap.size, 0, none⟩ (.int .i64 0)).setCell ⟨w.heap.size, 1, none⟩ (.bool false)).setCell ⟨w.heap.size, 2, none⟩ (.int .i64 0)) from ((HB3.out.setCell (p := ⟨w.heap.size, 0, none⟩) (by simp) _).setCell (p := ⟨w.heap.size, 1, none⟩) (by simp) _).setCell (p := ⟨w.heap.size, 2, none⟩) (by simp) _)
    have HK4 := ((HK3.out.put 0 (.int .i64 0)).put 1 (.bool false)).put 2 (.int .i64 0)
    have m0 := HK4.cell 0
    have m1 := HK4.cell 1
    have m2 := HK4.cell 2
    simp at m0 m1 m2
    clear HK4
    go_wp2
    exact bodyPost_ret (v := .agg #[.int .i64 0, .bool false, .int .i64 0]) (by simp [results, Tryd.results31, go_sem, m0, m1, m2]) rfl ⟨rfl, HF.out⟩
  · have has := fun W => Tryd.asNot (.pointer (some (S j))) W
    go_enter Tryd.func31, Tryd.ntmps31
    go_wp2_with fail
    have HB1 := hid (show Below w.heap.size w (w.alloc (.cells #[.int .i64 0, .bool false, .int .i64 0] 58)) from (Below.refl _ _).alloc (Nat.le_refl _) _)
    have HK1 := hid (Blk.new w 58 #[.int .i64 0, .bool false, .int .i64 0])
    generalize w.alloc (.cells #[.int .i64 0, .bool false, .int .i64 0] 58) = W1 at *
    have HS1 := hid (HS.out.on HB1.out)
    refine (sentinel_any S j _ HS1.out hj).mono ?_
    rintro e w2 ⟨rfl, hb⟩
    have HB2 := hid (HB1.out.trans (hb.mono HB1.out.size))
    have HK2 := hid (HK1.out.below hb HK1.out.lt)
    clear hb
    go_wp2_with fail
    refine (bare_any _ _).mono ?_
    rintro e w3 ⟨rfl, hb⟩
    have HB3 := hid (HB2.out.trans (hb.mono HB2.out.size))
    have HK3 := hid (HK2.out.below hb HK2.out.lt)
    clear hb
    have c0 := HK3.out.cell 0
    have c1 := HK3.out.cell 1
    have c2 := HK3.out.cell 2
    have fr := fun i => HK3.out.free i
    simp at c0 c1 c2
    have HF := hid (show Below w.heap.size w (((w3.setCell ⟨w.heap.size, 0, none⟩ (.int .i64 (101 + (j : Int)))).setCell ⟨w.heap.size, 1, none⟩ (.bool false)).setCell ⟨w.heap.size, 2, none⟩ (.int .i64 0)) from ((HB3.out.setCell (p := ⟨w.heap.size, 0, none⟩) (by simp) _).setCell (p := ⟨w.heap.size, 1, none⟩) (by simp) _).setCell (p := ⟨w.heap.size, 2, none⟩) (by simp) _)
    have HK4 := ((HK3.out.put 0 (.int .i64 (101 + (j : Int)))).put 1 (.bool false)).put 2 (.int .i64 0)
    have m0 := HK4.cell 0
    have m1 := HK4.cell 1
    have m2 := HK4.cell 2
    simp at m0 m1 m2
    clear HK4
    go_wp2
    exact bodyPost_ret (v := .agg #[.int .i64 (101 + (j : Int)), .bool false, .int .i64 0]) (by simp [results, Tryd.results31, go_sem, m0, m1, m2]) rfl ⟨rfl, HF.out⟩

set_option maxRecDepth 100000 in
set_option maxHeartbeats 2000000 in
theorem same_bare (S : Nat → Addr) (c c' : Int) (v : Value) (w : World) (hS : Sent w S) (hv : EV S c v) :
    Calls Tryd.prog 24 #[v, .agg #[.int .i64 c', .bool false, .int .i64 0]] w fun e w' => e = .returned (.bool (c == c')) ∧ Below w.heap.size w w' := by
  have HS := hid hS
  have HV := hid hv
  obtain ⟨b, hb⟩ : ∃ b, (c == c') = b := ⟨_, rfl⟩
  have HB := hid hb
  rw [hb]
  clear hS hv hb
  go_enter Tryd.func24, Tryd.ntmps24
  go_wp2_with fail
  have HB1 := hid (show Below w.heap.size w (w.alloc (.cells #[.int .i64 c', .bool false, .int .i64 0] 58)) from (Below.refl _ _).alloc (Nat.le_refl _) _)
  have HK1 := hid (Blk.new w 58 #[.int .i64 c', .bool false, .int .i64 0])
  generalize w.alloc (.cells #[.int .i64 c', .bool false, .int .i64 0] 58) = W1 at *
  have HS1 := hid (HS.out.on HB1.out)
  have k0 := HK1.out.cell 0
  have k1 := HK1.out.cell 1
  have k2 := HK1.out.cell 2
  simp at k0 k1 k2
  go_region_held3 (fun w' => w'.cell? ⟨w.heap.size, 0, none⟩ = some (.int .i64 c') ∧ w'.cell? ⟨w.heap.size, 1, none⟩ = some (.bool false) ∧ w'.cell? ⟨w.heap.size, 2, none⟩ = some (.int .i64 0)) (first | exact ⟨d0, d1, d2⟩ | exact ⟨e0, e1, e2⟩ | go_keep)
    ((first | (go_at_call 31; refine (fault_bare S c v _ HS1.out.drew HV.out).mono ?_; rintro e w2 ⟨rfl, hb2⟩; have d0 := (HK1.out.drew.below hb2 HK1.out.lt).cell 0; have d1 := (HK1.out.drew.below hb2 HK1.out.lt).cell 1; have d2 := (HK1.out.drew.below hb2 HK1.out.lt).cell 2; simp at d0 d1 d2; have HK2 := hid (HK1.out.drew.below hb2 HK1.out.lt); have HB2 := hid (HB1.out.drew.trans (hb2.mono HB1.out.size)); clear hb2) | (go_at_call 30; refine (sameBare_any _ _ _).mono ?_; rintro e w3 ⟨rfl, hb3⟩; have e0 := (HK2.out.below hb3 HK2.out.lt).cell 0; have e1 := (HK2.out.below hb3 HK2.out.lt).cell 1; have e2 := (HK2.out.below hb3 HK2.out.lt).cell 2; simp at e0 e1 e2; have HB3 := hid (HB2.out.trans (hb3.mono HB2.out.size)); clear hb3)))
  go_wp2
  go_ret
  rw [← HB.out]
  exact ⟨rfl, HB3.out⟩
theorem is_any (S : Nat → Addr) (c c' : Int) (v : Value) (w : World) (hS : Sent w S) (hv : EV S c v) :
    Calls Tryd.prog 10 #[v, .int .i64 c'] w fun e w' => e = .returned (.bool (c == c')) ∧ Below w.heap.size w w' := by
  have HS := hid hS
  have HV := hid hv
  obtain ⟨b, hb⟩ : ∃ b, (c == c') = b := ⟨_, rfl⟩
  have HB := hid hb
  rw [hb]
  clear hS hv hb
  go_enter Tryd.func10, Tryd.ntmps10
  go_wp2_with fail
  refine (bare_any _ _).mono ?_
  rintro e w1 ⟨rfl, hb⟩
  have HB1 := hid hb
  have HS1 := hid (HS.out.on hb)
  clear hb
  go_wp2_with fail
  refine (same_bare S c c' v _ HS1.out HV.out).mono ?_
  rw [HB.out]
  rintro e w2 ⟨rfl, hb⟩
  have HB2 := hid (HB1.out.trans (hb.mono HB1.out.size))
  clear hb
  go_wp2
  go_ret
  exact ⟨rfl, HB2.out⟩
end Go.Proofs.YtklplmldhhlgiaaDoor
namespace Go.Proofs.YtklplmldhhlgiaaDoor
open Go.RowKit

end Go.Proofs.YtklplmldhhlgiaaDoor
