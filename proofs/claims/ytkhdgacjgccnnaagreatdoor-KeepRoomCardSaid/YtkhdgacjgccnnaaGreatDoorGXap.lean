/- Put together out of 4 texts. Package page in memory: a state's cells, a store's, what was changed; its smallest functions. -/
import Derived.Test.YtkhdgacjgccnnaaGreatDoorGXao
import Derived.Test.YtkhdgacjgccnnaaGreatDoorGXag
import Derived.Test.YtkhdgacjgccnnaaGreatDoorGXak
import Derived.Deep.MidRow
import Derived.Test.YtkhdgacjgccnnaaGreatDoorGXaa
import Derived.Test.YtkhdgacjgccnnaaGreatDoorGXan
import Derived.Lib.JoinLaws
namespace Go.Proofs.YtkhdgacjgccnnaaGreatDoor
open Go.RowKit Go.Maps

/-! a state's 527 cells -/
def stL (P : PS) : List Value := .int .i64 P.epoch :: (cellsR P.idx ++ cellsR P.pgs)
theorem stL_len {P : PS} (h : P.Len) : (stL P).length = 527 := by
  simp only [stL, List.length_cons, List.length_append, cellsR_len, h.i, h.p]
theorem stL_epoch (P : PS) : (stL P)[0]? = some (.int .i64 P.epoch) := rfl
theorem cells2_0 (x : Int × Nat) : (cells2 x)[0]? = some (.int .i64 x.1) := rfl
theorem cells2_1 (x : Int × Nat) : (cells2 x)[1]? = some (.int .u32 (x.2 : Int)) := rfl
theorem stL_idx {P : PS} (hL : P.Len) {k j : Nat} {x : Int × Nat} (h : P.idx[k]? = some x) (hj : j < 2) : (stL P)[1 + k * 2 + j]? = (cells2 x)[j]? := by
  have hk := (List.getElem?_eq_some_iff.1 h).1
  rw [hL.i] at hk
  rw [show 1 + k * 2 + j = (k * 2 + j) + 1 by omega, stL, List.getElem?_cons_succ, List.getElem?_append_left (by rw [cellsR_len, hL.i]; omega)]
  exact cellsR_get h hj
theorem stL_pg {P : PS} (hL : P.Len) {p j : Nat} {x : Int × Nat} (h : P.pgs[p]? = some x) (hj : j < 2) : (stL P)[15 + p * 2 + j]? = (cells2 x)[j]? := by
  rw [show 15 + p * 2 + j = (14 + (p * 2 + j)) + 1 by omega, stL, List.getElem?_cons_succ, List.getElem?_append_right (by rw [cellsR_len, hL.i]; omega), cellsR_len, hL.i, Nat.add_sub_cancel_left]
  exact cellsR_get h hj
theorem set_cells (l : List (Int × Nat)) {k : Nat} {x : Int × Nat} (h : l[k]? = some x) (y : Int × Nat) : ((cellsR l).set (k * 2) (.int .i64 y.1)).set (k * 2 + 1) (.int .u32 (y.2 : Int)) = cellsR (l.set k y) := by
  have e1 := cellsR_set (x' := (y.1, x.2)) (u := .int .i64 y.1) (j := 0) h (by omega) rfl
  have h2 : (l.set k (y.1, x.2))[k]? = some (y.1, x.2) := by rw [List.getElem?_set_self (List.getElem?_eq_some_iff.1 h).1]
  have e2 := cellsR_set (x' := y) (u := .int .u32 (y.2 : Int)) (j := 1) h2 (by omega) rfl
  rw [Nat.add_zero] at e1
  rw [e1, e2, List.set_set]
theorem stL_put_pg {P : PS} (hL : P.Len) {p : Nat} {x : Int × Nat} (h : P.pgs[p]? = some x) (y : Int × Nat) : ((stL P).set (15 + p * 2) (.int .i64 y.1)).set (15 + p * 2 + 1) (.int .u32 (y.2 : Int)) = stL ⟨P.epoch, P.idx, P.pgs.set p y⟩ := by
  have hc := cellsR_len P.idx
  rw [hL.i] at hc
  have e1 : 15 + p * 2 = ((cellsR P.idx).length + p * 2) + 1 := by rw [hc]; omega
  rw [e1]
  show ((_ :: (_ ++ _)).set _ _).set (((cellsR P.idx).length + p * 2 + 1) + 1) _ = _
  rw [List.set_cons_succ, List.set_cons_succ, List.set_append_right _ _ (by omega), List.set_append_right _ _ (by omega), Nat.add_sub_cancel_left, show (cellsR P.idx).length + p * 2 + 1 - (cellsR P.idx).length = p * 2 + 1 by omega, set_cells _ h]
  rfl
theorem stL_put_idx {P : PS} {k : Nat} {x : Int × Nat} (h : P.idx[k]? = some x) (y : Int × Nat) : ((stL P).set (1 + k * 2) (.int .i64 y.1)).set (1 + k * 2 + 1) (.int .u32 (y.2 : Int)) = stL ⟨P.epoch, P.idx.set k y, P.pgs⟩ := by
  have hc := cellsR_len P.idx
  have hk := (List.getElem?_eq_some_iff.1 h).1
  rw [show 1 + k * 2 = k * 2 + 1 by omega]
  show ((_ :: (_ ++ _)).set _ _).set ((k * 2 + 1) + 1) _ = _
  rw [List.set_cons_succ, List.set_cons_succ, List.set_append_left _ _ (by omega), List.set_append_left _ _ (by rw [List.length_set]; omega), set_cells _ h]
  rfl
theorem stL_one (P : PS) : ∀ u ∈ stL P, u.oneCell' = true := by
  intro u hu
  rcases List.mem_cons.1 hu with rfl | hu
  · rfl
  · rcases List.mem_append.1 hu with hu | hu
    · exact cellsR_one _ u hu
    · exact cellsR_one _ u hu
/-- a block whose cells are A, a state, B -/
abbrev HoldsP (w : World) (g : Nat) (t : TypeId) (A : List Value) (P : PS) (B : List Value) : Prop := Blk w g t (A ++ (stL P ++ B)).toArray
section
variable {w : World} {g : Nat} {t : TypeId} {A B : List Value} {P : PS}
theorem HoldsP.at_ (h : HoldsP w g t A P B) {j : Nat} {u : Value} (hu : (stL P)[j]? = some u) : w.cell? ⟨g, A.length + j, none⟩ = some u := by
  have hj := (List.getElem?_eq_some_iff.1 hu).1
  rw [Blk.cell h]
  simp only [List.getElem?_toArray]
  rw [List.getElem?_append_right (by omega), Nat.add_sub_cancel_left, List.getElem?_append_left hj, hu]
theorem HoldsP.range (h : HoldsP w g t A P B) : w.rangeAt g A.length (stL P) := by
  intro j v hj
  have hj' := (List.getElem?_eq_some_iff.1 hj).1
  rw [Blk.cell h]
  simp only [List.getElem?_toArray]
  rw [List.getElem?_append_right (by omega), Nat.add_sub_cancel_left, List.getElem?_append_left hj', hj]
theorem HoldsP.epoch (h : HoldsP w g t A P B) : w.cell? ⟨g, A.length, none⟩ = some (.int .i64 P.epoch) := h.at_ (stL_epoch P)
theorem HoldsP.page (h : HoldsP w g t A P B) (hL : P.Len) {p : Nat} {x : Int × Nat} (hx : P.pgs[p]? = some x) : w.cell? ⟨g, A.length + (15 + p * 2), none⟩ = some (.int .i64 x.1) ∧ w.cell? ⟨g, A.length + (15 + p * 2 + 1), none⟩ = some (.int .u32 (x.2 : Int)) :=
  ⟨h.at_ (by have := stL_pg hL hx (j := 0) (by omega); rwa [Nat.add_zero, cells2_0] at this), h.at_ (by have := stL_pg hL hx (j := 1) (by omega); rwa [cells2_1] at this)⟩
theorem HoldsP.index (h : HoldsP w g t A P B) (hL : P.Len) {k : Nat} {x : Int × Nat} (hx : P.idx[k]? = some x) : w.cell? ⟨g, A.length + (1 + k * 2), none⟩ = some (.int .i64 x.1) ∧ w.cell? ⟨g, A.length + (1 + k * 2 + 1), none⟩ = some (.int .u32 (x.2 : Int)) :=
  ⟨h.at_ (by have := stL_idx hL hx (j := 0) (by omega); rwa [Nat.add_zero, cells2_0] at this), h.at_ (by have := stL_idx hL hx (j := 1) (by omega); rwa [cells2_1] at this)⟩
theorem list_set2 {A L B : List Value} {i : Nat} (hi : i + 1 < L.length) (u v : Value) : (((A ++ (L ++ B)).toArray.setIfInBounds (A.length + i) u).setIfInBounds (A.length + (i + 1)) v) = (A ++ ((L.set i u).set (i + 1) v ++ B)).toArray := by
  simp only [List.setIfInBounds_toArray]
  rw [List.set_append_right _ _ (by omega), Nat.add_sub_cancel_left, List.set_append_right _ _ (by omega), Nat.add_sub_cancel_left, List.set_append_left _ _ (by omega), List.set_append_left _ _ (by rw [List.length_set]; omega)]
theorem HoldsP.putPage (h : HoldsP w g t A P B) (hL : P.Len) {p : Nat} {x : Int × Nat} (hx : P.pgs[p]? = some x) (y : Int × Nat) {o1 o2 : Nat} (h1 : o1 = A.length + (15 + p * 2)) (h2 : o2 = A.length + (15 + p * 2 + 1)) :
    HoldsP ((w.setCell ⟨g, o1, none⟩ (.int .i64 y.1)).setCell ⟨g, o2, none⟩ (.int .u32 (y.2 : Int))) g t A ⟨P.epoch, P.idx, P.pgs.set p y⟩ B := by
  have hb := (Blk.put h o1 (.int .i64 y.1)).put o2 (.int .u32 (y.2 : Int))
  have hp := (List.getElem?_eq_some_iff.1 hx).1
  rw [hL.p] at hp
  subst h1 h2
  rw [list_set2 (by rw [stL_len hL]; omega), stL_put_pg hL hx] at hb
  exact hb
theorem HoldsP.putIndex (h : HoldsP w g t A P B) (hL : P.Len) {k : Nat} {x : Int × Nat} (hx : P.idx[k]? = some x) (y : Int × Nat) {o1 o2 : Nat} (h1 : o1 = A.length + (1 + k * 2)) (h2 : o2 = A.length + (1 + k * 2 + 1)) :
    HoldsP ((w.setCell ⟨g, o1, none⟩ (.int .i64 y.1)).setCell ⟨g, o2, none⟩ (.int .u32 (y.2 : Int))) g t A ⟨P.epoch, P.idx.set k y, P.pgs⟩ B := by
  have hb := (Blk.put h o1 (.int .i64 y.1)).put o2 (.int .u32 (y.2 : Int))
  have hp := (List.getElem?_eq_some_iff.1 hx).1
  rw [hL.i] at hp
  subst h1 h2
  rw [list_set2 (by rw [stL_len hL]; omega), stL_put_idx hx] at hb
  exact hb
end
/-! what was changed, in a map of slices -/
def slD (A : Option Addr) (n c : Nat) : DataW Unit := match A with
  | none => .agg [.lit (.int .i64 (n : Int)), .lit (.int .i64 (c : Int))]
  | some a => .agg [.lit (.int .i64 (n : Int)), .lit (.int .i64 (c : Int)), .lit (.int .i64 (a.block : Int)), .lit (.int .i64 (a.off : Int))]
def slR : Value → Option (DataW Unit × List MemPlace)
  | .slice none n c => some (slD none n c, [])
  | .slice (some ⟨b, o, none⟩) n c => some (slD (some ⟨b, o, none⟩) n c, [])
  | _ => none
theorem slR_nil (n c : Nat) : slR (.slice none n c) = some (slD none n c, []) := rfl
theorem slR_mk (b o n c : Nat) : slR (.slice (some ⟨b, o, none⟩) n c) = some (slD (some ⟨b, o, none⟩) n c, []) := rfl
theorem slR_inv {v : Value} {y : DataW Unit × List MemPlace} (h : slR v = some y) : ∃ A n c, v = .slice A n c ∧ (∀ a, A = some a → a.spot = none) ∧ y = (slD A n c, []) := by
  unfold slR at h
  split at h
  · cases h; exact ⟨none, _, _, rfl, (fun _ h => (by cases h)), rfl⟩
  · cases h; exact ⟨_, _, _, rfl, (fun a h => (by cases h; rfl)), rfl⟩
  · cases h
theorem slD_inj {A A' : Option Addr} {n n' c c' : Nat} (hA : ∀ a, A = some a → a.spot = none) (hA' : ∀ a, A' = some a → a.spot = none) (h : slD A n c = slD A' n' c') : A = A' ∧ n = n' ∧ c = c' := by
  rcases A with _ | ⟨b, o, s⟩ <;> rcases A' with _ | ⟨b', o', s'⟩
  · simp only [slD, DataW.agg.injEq, List.cons.injEq, DataW.lit.injEq, Lit.int.injEq, and_true, true_and] at h
    exact ⟨rfl, by omega, by omega⟩
  · simp [slD] at h
  · simp [slD] at h
  · simp only [slD, DataW.agg.injEq, List.cons.injEq, DataW.lit.injEq, Lit.int.injEq, and_true, true_and] at h
    obtain ⟨h1, h2, h3, h4⟩ := h
    have e1 : s = none := hA _ rfl
    have e2 : s' = none := hA' _ rfl
    subst e1 e2
    have : b = b' := by omega
    have : o = o' := by omega
    subst_vars
    exact ⟨rfl, by omega, by omega⟩
theorem Tryz.zeroSl (w : World) : (zeroValue 29).run Tryz.prog w = .ok (.slice none 0 0) w := by kernel_rfl
/-- the map at m is ch; its bytes lie in the blocks C -/
structure Chd (w : World) (m : Nat) (ch : Chg) (D : DataW Unit) (C : Nat → Prop) : Prop where
  map : w.ownsMap Tryz.prog 3 slR m (Maps.size D) D
  has : ∀ p, p < 256 → Maps.has D (kl p) = (ch p).isSome
  val : ∀ p l, p < 256 → ch p = some l → ∃ A n c, (∀ z, D.atKey (kl p) z = slD A n c) ∧ (∀ a, A = some a → a.spot = none) ∧ Sl w w.heap.size A n c l ∧ ∀ a, A = some a → C a.block
  key : ∀ z, Maps.has D z = true → ∃ p, p < 256 ∧ z = kl p
  size : Maps.size D = (keysOf ch).length
  good : ∀ p l, ch p = some l → Byt l ∧ l.length ≤ 248
  off : ∀ p, 256 ≤ p → ch p = none
  lt : ∀ k, C k → k < w.heap.size ∧ k ≠ m
section
variable {w w' : World} {m : Nat} {ch : Chg} {D : DataW Unit} {C : Nat → Prop}
theorem ownsMapS_same {n : Nat} (h : w.ownsMap Tryz.prog 3 slR m n D) (hk : w'.heap[m]? = w.heap[m]?) : w'.ownsMap Tryz.prog 3 slR m n D := by
  obtain ⟨es, clock, hb, F, hs, hD⟩ := h
  exact ⟨es, clock, hk.trans hb, F, hs, hD⟩
theorem sl_same {A : Option Addr} {n c : Nat} {l : List Int} (h : Sl w w.heap.size A n c l) (hs : w.heap.size ≤ w'.heap.size) (hk : ∀ a, A = some a → w'.heap[a.block]? = w.heap[a.block]?) : Sl w' w'.heap.size A n c l :=
  ⟨h.len, h.cap, h.max, h.nil, fun ad ha h0 => ⟨Nat.lt_of_lt_of_le (h.at_ ad ha h0).1 hs, fun j x hx => by
    rw [← (h.at_ ad ha h0).2 j x hx]
    unfold World.cell?
    rw [add_block, hk ad ha]⟩⟩
theorem Chd.same (h : Chd w m ch D C) (hs : w.heap.size ≤ w'.heap.size) (hm : w'.heap[m]? = w.heap[m]?) (hk : ∀ k, C k → w'.heap[k]? = w.heap[k]?) : Chd w' m ch D C :=
  ⟨ownsMapS_same h.map hm, h.has, fun p l hp hl => by
    obtain ⟨A, n, c, h1, h2, h3, h4⟩ := h.val p l hp hl
    exact ⟨A, n, c, h1, h2, sl_same h3 hs (fun a ha => hk _ (h4 a ha)), h4⟩, h.key, h.size, h.good, h.off, fun k hk => ⟨Nat.lt_of_lt_of_le (h.lt k hk).1 hs, (h.lt k hk).2⟩⟩
theorem Chd.below (h : Chd w m ch D C) (hb : Below w.heap.size w w') : Chd w' m ch D C := h.same hb.size (hb.block m h.map.lt) (fun k hk => hb.block k (h.lt k hk).1)
/-- a look at what was changed -/
theorem Chd.look (h : Chd w m ch D C) {p : Nat} {l : List Int} (hp : p < 256) (hl : ch p = some l) :
    ∃ A n c, (Instr.lookup 88 (.map (some m)) (.int .i64 (p : Int)) true).run Tryz.prog w = .ok (.tuple #[.slice A n c, .bool true]) w ∧ (Instr.lookup 88 (.map (some m)) (.int .i64 (p : Int)) false).run Tryz.prog w = .ok (.slice A n c) w ∧ Sl w w.heap.size A n c l ∧ (∀ a, A = some a → C a.block) := by
  obtain ⟨A, n, c, hat, hsp, hsl, hC⟩ := h.val p l hp hl
  obtain ⟨v, ps, hrun, hv⟩ := h.map.look_ok law Tryz.underlying88 (Tryz.zeroSl w) (slR_nil 0 0) (key_of (i := p) (by omega))
  obtain ⟨v2, ps2, hrun2, hv2⟩ := h.map.lookup law Tryz.underlying88 (Tryz.zeroSl w) (slR_nil 0 0) (key_of (i := p) (by omega))
  rw [hat] at hv hv2
  rw [h.has p hp, hl] at hrun
  obtain ⟨A1, n1, c1, rfl, hs1, he1⟩ := slR_inv hv
  obtain ⟨A2, n2, c2, rfl, hs2, he2⟩ := slR_inv hv2
  obtain ⟨rfl, rfl, rfl⟩ := slD_inj hsp hs1 (congrArg Prod.fst he1)
  obtain ⟨rfl, rfl, rfl⟩ := slD_inj hsp hs2 (congrArg Prod.fst he2)
  exact ⟨A, n, c, hrun, hrun2, hsl, hC⟩
theorem Chd.lookNo (h : Chd w m ch D C) {p : Nat} (hp : p < 256) (hl : ch p = none) :
    (Instr.lookup 88 (.map (some m)) (.int .i64 (p : Int)) true).run Tryz.prog w = .ok (.tuple #[.slice none 0 0, .bool false]) w := by
  obtain ⟨v, ps, hrun, hv⟩ := h.map.look_ok law Tryz.underlying88 (Tryz.zeroSl w) (slR_nil 0 0) (key_of (i := p) (by omega))
  have hh := h.has p hp
  rw [hl] at hh
  rw [atKey_of_not_has hh] at hv
  rw [hh] at hrun
  obtain ⟨A1, n1, c1, rfl, hs1, he1⟩ := slR_inv hv
  obtain ⟨rfl, rfl, rfl⟩ := slD_inj (A := none) (fun _ h => (by cases h)) hs1 (congrArg Prod.fst he1)
  exact hrun
end
/-! the smallest functions -/
theorem ret_i {k : IntKind} {a b : Int} (h : a = b) : Ending.returned (.int k a) = .returned (.int k b) := by rw [h]
theorem points_any (x : Int × Nat) (w : World) : Calls Tryz.prog 100 #[rfV x] w fun e w' => e = .returned (.bool (points x)) ∧ Below w.heap.size w w' := by
  obtain ⟨b, hb⟩ : ∃ b, points x = b := ⟨_, rfl⟩
  have hb' : decide (0 < x.1) = b := hb
  rw [hb]
  clear hb
  go_enter Tryz.func100, Tryz.ntmps100
  go_wp2
  go_ret
  exact ⟨rfl, (Below.refl _ _).alloc (Nat.le_refl _) _⟩
def numOk (p : Int) : Bool := decide (0 ≤ p ∧ p < 256)
theorem isNumber_any (p : Int) (w : World) : Calls Tryz.prog 77 #[.int .i64 p] w fun e w' => e = .returned (.bool (numOk p)) ∧ w = w' := by
  have HE := hid (show numOk p = decide (0 ≤ p ∧ p < 256) from rfl)
  by_cases h0 : 0 ≤ p
  · have g : decide (0 ≤ p) = true := by simpa using h0
    have g2 : decide (0 ≤ p ∧ p < 256) = decide (p < 256) := by simp [h0]
    rw [HE.out, g2]
    obtain ⟨b, hb⟩ : ∃ b, decide (p < 256) = b := ⟨_, rfl⟩
    rw [hb]
    clear g2
    go_enter Tryz.func77, Tryz.ntmps77
    go_wp2
    go_ret
    exact ⟨rfl, rfl⟩
  · have g : decide (0 ≤ p) = false := by simpa using h0
    have g2 : decide (0 ≤ p ∧ p < 256) = false := by simp [h0]
    rw [HE.out, g2]
    clear g2 h0
    go_enter Tryz.func77, Tryz.ntmps77
    go_wp2
    go_ret
    exact ⟨rfl, rfl⟩
theorem endOf_any (k : Nat) (w : World) (h : k ≤ 1000) : Calls Tryz.prog 120 #[.int .i64 (k : Int)] w fun e w' => e = .returned (.int .i64 (endK k : Int)) ∧ w = w' := by
  by_cases h6 : k < 6
  · have he : endK k = (k + 1) * 42 := by unfold endK; omega
    rw [he]
    have hk : (k : Int) < 6 := by omega
    have g : decide (((k : Int) + 1) * 42 ≤ 256) = true := by simp; omega
    clear he
    go_enter Tryz.func120, Tryz.ntmps120
    go_wp2
    go_ret
    exact ⟨ret_i (by omega), rfl⟩
  · have he : endK k = 256 := by unfold endK; omega
    rw [he]
    have hk : 6 ≤ (k : Int) := by omega
    have hk2 : (k : Int) ≤ 1000 := by omega
    clear he
    go_enter Tryz.func120, Tryz.ntmps120
    go_wp2
    go_ret
    exact ⟨ret_i (by omega), rfl⟩
end Go.Proofs.YtkhdgacjgccnnaaGreatDoor
namespace Go.Proofs.YtkhdgacjgccnnaaGreatDoor
open Go.RowKit Go.Maps

theorem HoldsP.back {w : World} {g : Nat} {t : TypeId} {A B : List Value} {P : PS} (h : HoldsP w g t A P B) (hL : P.Len) (j : Nat) : w.cell? ⟨g, A.length + (527 + j), none⟩ = B[j]? := by
  rw [Blk.cell h]
  simp only [List.getElem?_toArray]
  rw [List.getElem?_append_right (by omega), Nat.add_sub_cancel_left, List.getElem?_append_right (by rw [stL_len hL]; omega), stL_len hL, Nat.add_sub_cancel_left]
theorem HoldsP.front {w : World} {g : Nat} {t : TypeId} {A B : List Value} {P : PS} (h : HoldsP w g t A P B) {j : Nat} (hj : j < A.length) : w.cell? ⟨g, j, none⟩ = A[j]? := by
  rw [Blk.cell h]
  simp only [List.getElem?_toArray]
  rw [List.getElem?_append_left hj]
/-- a store at g: its device at d, its pairs at p, what was changed at m -/
structure Sto (w : World) (g d p m : Nat) (P : PS) (ch : Chg) (D : DataW Unit) (C : Nat → Prop) : Prop where
  box : HoldsP w g 97 [.pointer (some ⟨d, 0, none⟩), .pointer (some ⟨p, 0, none⟩)] P [.map (some m)]
  chd : Chd w m ch D C
  len : P.Len
  ap : g ≠ m ∧ ¬ C g
section
variable {w w' : World} {g d p m : Nat} {P : PS} {ch : Chg} {D : DataW Unit} {C : Nat → Prop}
theorem Sto.same (h : Sto w g d p m P ch D C) (hs : w.heap.size ≤ w'.heap.size) (hg : w'.heap[g]? = w.heap[g]?) (hm : w'.heap[m]? = w.heap[m]?) (hk : ∀ k, C k → w'.heap[k]? = w.heap[k]?) : Sto w' g d p m P ch D C :=
  ⟨hg.trans h.box, h.chd.same hs hm hk, h.len, h.ap⟩
theorem Sto.below (h : Sto w g d p m P ch D C) (hb : Below w.heap.size w w') : Sto w' g d p m P ch D C := ⟨h.box.below hb h.box.lt, h.chd.below hb, h.len, h.ap⟩
theorem Sto.dev (h : Sto w g d p m P ch D C) : w.cell? ⟨g, 0, none⟩ = some (.pointer (some ⟨d, 0, none⟩)) := h.box.front (j := 0) (by simp)
theorem Sto.prs (h : Sto w g d p m P ch D C) : w.cell? ⟨g, 1, none⟩ = some (.pointer (some ⟨p, 0, none⟩)) := h.box.front (j := 1) (by simp)
theorem Sto.mapc (h : Sto w g d p m P ch D C) : w.cell? ⟨g, 529, none⟩ = some (.map (some m)) := h.box.back h.len 0
theorem Sto.page (h : Sto w g d p m P ch D C) {i : Nat} {x : Int × Nat} (hx : P.pgs[i]? = some x) : w.cell? ⟨g, 17 + i * 2, none⟩ = some (.int .i64 x.1) ∧ w.cell? ⟨g, 17 + i * 2 + 1, none⟩ = some (.int .u32 (x.2 : Int)) := by
  have := h.box.page h.len hx
  simp only [List.length_cons, List.length_nil] at this
  rw [show 0 + 1 + 1 + (15 + i * 2) = 17 + i * 2 by omega, show 0 + 1 + 1 + (15 + i * 2 + 1) = 17 + i * 2 + 1 by omega] at this
  exact this
theorem Sto.index (h : Sto w g d p m P ch D C) {i : Nat} {x : Int × Nat} (hx : P.idx[i]? = some x) : w.cell? ⟨g, 3 + i * 2, none⟩ = some (.int .i64 x.1) ∧ w.cell? ⟨g, 3 + i * 2 + 1, none⟩ = some (.int .u32 (x.2 : Int)) := by
  have := h.box.index h.len hx
  simp only [List.length_cons, List.length_nil] at this
  rw [show 0 + 1 + 1 + (1 + i * 2) = 3 + i * 2 by omega, show 0 + 1 + 1 + (1 + i * 2 + 1) = 3 + i * 2 + 1 by omega] at this
  exact this
theorem Sto.epoch (h : Sto w g d p m P ch D C) : w.cell? ⟨g, 2, none⟩ = some (.int .i64 P.epoch) := h.box.epoch
end
set_option maxRecDepth 100000 in
set_option maxHeartbeats 2000000 in
theorem pgThere_any (g d p m : Nat) (P : PS) (ch : Chg) (D : DataW Unit) (C : Nat → Prop) (i : Nat) (w : World) (h : Sto w g d p m P ch D C) (hi : i < 256) :
    Calls Tryz.prog 78 #[.pointer (some ⟨g, 0, none⟩), .int .i64 (i : Int)] w fun e w' => e = .returned (.bool (thereB P ch i)) ∧ Below w.heap.size w w' := by
  have cm := h.mapc
  rcases hc : ch i with _ | l
  · have hl := h.chd.lookNo hi hc
    obtain ⟨x, hx⟩ := h.len.page hi
    obtain ⟨c0, c1⟩ := h.page hx
    have HE := hid (thereB_none hc hx)
    rw [HE.out]
    have hi2 : (i : Int) < 256 := by omega
    clear h hc hx hi
    go_enter Tryz.func78, Tryz.ntmps78
    go_wp2_with fail
    refine (points_any x _).mono ?_
    rintro e w1 ⟨rfl, hb⟩
    have HB := hid hb
    clear hb
    go_wp2
    go_ret
    exact ⟨rfl, HB.out⟩
  · obtain ⟨A, n, c, hl, _, hsl, _⟩ := h.chd.look hi hc
    have HE := hid (show thereB P ch i = decide ((0 : Int) < (n : Int)) from by rw [thereB_some hc, hsl.len]; simp)
    rw [HE.out]
    obtain ⟨b, hb⟩ : ∃ b, decide ((0 : Int) < (n : Int)) = b := ⟨_, rfl⟩
    have hb2 : decide (0 < n) = b := by rw [← hb]; simp
    rw [hb]
    clear h hc hsl hi
    go_enter Tryz.func78, Tryz.ntmps78
    go_wp2
    go_ret
    exact ⟨by first | rfl | (rw [← hb2]; simp) | (rw [← hb]; simp), Below.refl _ _⟩
theorem emptyB_no {P : PS} {ch : Chg} {k i : Nat} (h : thereB P ch (42 * k + i) = true) (hi : i < endK k - 42 * k) : emptyB P ch k = false := by
  unfold emptyB
  rw [List.all_eq_false]
  exact ⟨i, List.mem_range.2 hi, by rw [h]; simp⟩
theorem emptyB_yes {P : PS} {ch : Chg} {k : Nat} (h : ∀ i, i < endK k - 42 * k → thereB P ch (42 * k + i) = false) : emptyB P ch k = true := by
  unfold emptyB
  rw [List.all_eq_true]
  exact fun i hi => by rw [h i (List.mem_range.1 hi)]; rfl
set_option maxRecDepth 100000 in
set_option maxHeartbeats 2000000 in
theorem pgEmpty_any (g d p m : Nat) (P : PS) (ch : Chg) (D : DataW Unit) (C : Nat → Prop) (k : Nat) (w : World) (h : Sto w g d p m P ch D C) (hk : k < 7) :
    Calls Tryz.prog 85 #[.pointer (some ⟨g, 0, none⟩), .int .i64 (k : Int)] w fun e w' => e = .returned (.bool (emptyB P ch k)) ∧ Below w.heap.size w w' := by
  have HS := hid h
  have hk7 : (k : Int) < 7 := by omega
  obtain ⟨E, hE⟩ : ∃ E, endK k = E := ⟨_, rfl⟩
  have HE := hid hE
  have HK := hid (show 42 * k ≤ E ∧ E ≤ 256 from by rw [← hE]; unfold endK; omega)
  have he0 : 42 * (k : Int) ≤ E := by have := HK.out; omega
  have he1 : (E : Int) ≤ 256 := by have := HK.out; omega
  clear h hE
  go_enter Tryz.func85, Tryz.ntmps85
  go_wp2
  go_loopw [5] (fun v wr => ∃ i : Nat, 42 * k + i ≤ E ∧ v = .int .i64 (42 * (k : Int) + (i : Int)) ∧ (∀ j, j < i → thereB P ch (42 * k + j) = false) ∧ Below w.heap.size w wr) (fun v _ => E - (intOf v).toNat)
  case atStart => exact ⟨0, by omega, by first | rfl | (congr 1; omega), fun j hj => by omega, Below.refl _ _⟩
  case round =>
    obtain ⟨i, hi, rfl, hall, hb⟩ := hrel
    have HA := hid hall
    have HB := hid hb
    have hi2 : 42 * (k : Int) + (i : Int) ≤ E := by omega
    clear hall hb
    go_wp2_with fail
    refine (endOf_any k _ (by omega)).mono ?_
    rw [HE.out]
    rintro e w1 ⟨rfl, rfl⟩
    by_cases hlt : 42 * k + i < E
    · have hl2 : 42 * (k : Int) + (i : Int) < E := by omega
      have hg : decide (42 * (k : Int) + (i : Int) < (E : Int)) = true := by simpa using hl2
      obtain ⟨q, hq⟩ : ∃ q : Nat, q = 42 * k + i := ⟨_, rfl⟩
      have HQ := hid (show 42 * (k : Int) + (i : Int) = (q : Int) from by omega)
      have HQ2 := hid hq
      have HS1 := hid (HS.out.below HB.out)
      clear hlt hq
      go_wp2_with fail
      rw [HQ.out]
      refine (pgThere_any g d p m P ch D C q _ HS1.out (by have := HQ.out; omega)).mono ?_
      obtain ⟨b, hb⟩ : ∃ b, thereB P ch q = b := ⟨_, rfl⟩
      have HTb := hid hb
      rw [hb]
      rintro e w2 ⟨rfl, hbw⟩
      have HB2 := hid (HB.out.trans (hbw.mono HB.out.size))
      clear hb hbw
      rw [← HQ.out]
      cases b
      · have HN := hid (show ∀ j, j < i + 1 → thereB P ch (42 * k + j) = false from fun j hj => by
          rcases Nat.lt_or_ge j i with h1 | h1
          · exact HA.out j h1
          · rw [show j = i by omega, ← HQ2.out]; exact HTb.out)
        go_wp2
        go_roundw
        case rel => exact ⟨i + 1, by omega, by go_num, HN.out, HB2.out⟩
        case measure => simp [intOf]; omega
      · have HN := hid (emptyB_no (P := P) (ch := ch) (k := k) (i := i) (by rw [← HQ2.out]; exact HTb.out) (by rw [HE.out]; omega))
        go_wp2
        go_ret
        exact ⟨by rw [HN.out]; rfl, HB2.out⟩
    · have hEi : 42 * k + i = E := by omega
      have HN := hid (emptyB_yes (P := P) (ch := ch) (k := k) (fun j hj => HA.out j (by rw [HE.out] at hj; omega)))
      have hg : decide (42 * (k : Int) + (i : Int) < (E : Int)) = false := by simp; omega
      clear hlt hEi
      go_wp2
      go_ret
      exact ⟨by rw [HN.out]; rfl, HB.out⟩
end Go.Proofs.YtkhdgacjgccnnaaGreatDoor
namespace Go.Proofs.YtkhdgacjgccnnaaGreatDoor
open Go.RowKit

set_option maxRecDepth 100000 in
set_option maxHeartbeats 1000000 in
theorem cloned_any (A : Option Addr) (n c : Nat) (l : List Int) (w : World) (h : Sl w w.heap.size A n c l) (hn : n ≤ 100000) :
    Calls Tryz.prog 79 #[.slice A n c] w (Anew w n l) := by
  obtain ⟨i0, hi, hz0, hz1, hz2⟩ := info_parts Tryz.info5
  have HS := hid h
  clear h
  rcases A with _ | ad
  · obtain rfl : c = 0 := HS.out.nil rfl
    obtain rfl : n = 0 := by have := HS.out.cap; omega
    obtain rfl : l = [] := List.eq_nil_of_length_eq_zero HS.out.len
    have HF := hid (show Anew w 0 [] (.returned (.slice none 0 0)) w from ⟨_, rfl, Own.nil _ _, Below.refl _ _, rfl⟩)
    have hq : ∀ W, (binOp .eql 29 (.slice none 0 0) (.slice none 0 0)).run Tryz.prog W = .ok (.bool true) W := fun W => Lib.run_eql_slice_nil (P := Tryz.prog) W 29 5 none 0 0 0 0 Tryz.underlying29
    go_enter Tryz.func79, Tryz.ntmps79
    go_wp2
    go_ret
    exact HF.out
  · have hq : ∀ W, (binOp .eql 29 (.slice (some ad) n c) (.slice none 0 0)).run Tryz.prog W = .ok (.bool false) W := fun W => Lib.run_eql_slice_nil (P := Tryz.prog) W 29 5 (some ad) n c 0 0 Tryz.underlying29
    have HM := hid (show (w.alloc (.cells #[] 5)).ownsRow w.heap.size 5 1 (.slice (some ⟨w.heap.size, 0, none⟩) 0 0) 0 [] from World.ownsRow_made w #[] 0 (Nat.le_refl _) (by decide) rfl)
    go_enter Tryz.func79, Tryz.ntmps79
    go_wp2_with (at_builtin; refine wpList_append_own _ rfl _ _ 29 rfl w.heap.size 5 i0 (.int .u8 0) 1 1 Tryz.underlying29 hi hz0 hz1 hz2 rfl (by decide) _ _ _ rfl HM.out ad n c (I l) rfl ?c0 ?c1 ?c2 ?c3 ?c4 ?c5 ?_)
    case c0 => rw [I_len, HS.out.len]; omega
    case c1 =>
      intro j u hu
      obtain ⟨x, hx, rfl⟩ := I_get' hu
      have hj : j < l.length := (List.getElem?_eq_some_iff.1 hx).1
      exact ((HS.out.alloc (Nat.le_refl _) _).at_ ad rfl (by have := HS.out.len; omega)).2 j x hx
    case c2 => exact I_one
    case c3 => unfold maxLen; omega
    case c4 => omega
    case c5 => simp
    intro v' w2 hown' hgrow _
    have HF := hid (show Anew w n l (.returned v') w2 from ⟨_, rfl, by
      unfold Own
      rw [HS.out.len]
      simpa using hown', ((Below.refl _ _).alloc (Nat.le_refl _) _).grown hgrow (by simp) (fun k hk => (World.ownsRow.lt HM.out k hk).1), HS.out.len⟩)
    clear hown' hgrow
    go_wp2
    go_ret
    exact HF.out
end Go.Proofs.YtkhdgacjgccnnaaGreatDoor
namespace Go.Proofs.YtkhdgacjgccnnaaGreatDoor
open Go.RowKit

/-! many cells at once -/
theorem blk_setCells {g : Nat} {t : TypeId} {B : List Value} : ∀ (new old A : List Value) (w : World), old.length = new.length → Blk w g t (A ++ (old ++ B)).toArray → Blk (w.setCells g A.length new) g t (A ++ (new ++ B)).toArray
  | [], old, A, w, hl, h => by
    obtain rfl := List.eq_nil_of_length_eq_zero hl
    exact h
  | v :: vs, old, A, w, hl, h => by
    rcases old with _ | ⟨u, us⟩
    · simp at hl
    · have h1 := Blk.put h A.length v
      have e : (A ++ (u :: us ++ B)).toArray.setIfInBounds A.length v = (A ++ [v] ++ (us ++ B)).toArray := by
        simp only [List.setIfInBounds_toArray, List.cons_append]
        rw [List.set_append_right _ _ (Nat.le_refl _), Nat.sub_self, List.set_cons_zero]
        simp
      rw [e] at h1
      have h2 := blk_setCells vs us (A ++ [v]) _ (by simpa using hl) h1
      rw [List.length_append] at h2
      have e2 : A ++ [v] ++ (vs ++ B) = A ++ (v :: vs ++ B) := by simp
      rw [e2] at h2
      exact h2
theorem only_setCells {a w : World} {g : Nat} (h : a.grownBy w (some g)) : ∀ (vs : List Value) (o : Nat), a.grownBy (w.setCells g o vs) (some g) := by
  intro vs
  induction vs generalizing w with
  | nil => intro o; exact h
  | cons v vs ih => intro o; exact ih (only_put h o v) (o + 1)
/-! one number out of a Ref -/
theorem or_upW (u c j : Nat) (hu : u < 2 ^ j) (hc : u + c * 2 ^ j < 18446744073709551616) : bits .or .u64 (u : Int) ((c * 2 ^ j : Nat) : Int) = ((u + c * 2 ^ j : Nat) : Int) := by
  show IntKind.u64.wrap ((BitVec.ofInt 64 (u : Int) ||| BitVec.ofInt 64 ((c * 2 ^ j : Nat) : Int)).toNat : Int) = _
  rw [BitVec.toNat_or, of_u64 u (by omega), of_u64 _ (by omega), IntKind.wrap_u64]
  have : u ||| c * 2 ^ j = c * 2 ^ j + u := by
    rw [Nat.or_comm, Nat.mul_comm c]
    exact (Nat.two_pow_add_eq_or_of_lt (i := j) hu c).symm
  rw [this]; omega
def zerosL (n : Nat) : List Int := List.replicate n 0
theorem zeros_cut {n : Nat} (h : 0 < n) : zerosL n = 0 :: zerosL (n - 1) := by
  unfold zerosL
  obtain ⟨k, rfl⟩ : ∃ k, n = k + 1 := ⟨n - 1, by omega⟩
  rfl
/-- a block of 256 bytes, of which those of l are laid, and 0s behind -/
abbrev Buf (w : World) (g : Nat) (l : List Int) : Prop := Blk w g 5 (I (l ++ zerosL (256 - l.length))).toArray
theorem Buf.push {w : World} {g : Nat} {l : List Int} (h : Buf w g l) (hl : l.length < 256) (x : Int) : Buf (w.setCell ⟨g, l.length, none⟩ (.int .u8 x)) g (l ++ [x]) := by
  have h1 := Blk.put h l.length (.int .u8 x)
  have e : (I (l ++ zerosL (256 - l.length))).toArray.setIfInBounds l.length (.int .u8 x) = (I (l ++ [x] ++ zerosL (256 - (l ++ [x]).length))).toArray := by
    rw [zeros_cut (n := 256 - l.length) (by omega), List.length_append, List.length_singleton]
    simp only [I, List.setIfInBounds_toArray, List.map_append, List.map_cons]
    rw [List.set_append_right _ _ (by simp), List.length_map, Nat.sub_self, List.set_cons_zero]
    simp [show 256 - l.length - 1 = 256 - (l.length + 1) by omega]
  rw [e] at h1
  exact h1
set_option maxRecDepth 100000 in
set_option maxHeartbeats 2000000 in
theorem appendRef_any (x : Int × Nat) (g : Nat) (l : List Int) (w : World) (hb : Buf w g l) (hl : l.length + 6 ≤ 256) (h0 : 0 ≤ x.1) (h1 : x.1 < 65536) (h2 : x.2 < 4294967296) :
    Calls Tryz.prog 128 #[.slice (some ⟨g, 0, none⟩) l.length 256, rfV x] w fun e w' => e = .returned (.slice (some ⟨g, 0, none⟩) (l.length + 6) 256) ∧ Buf w' g (l ++ refB x) ∧ w.grownBy w' (some g) := by
  obtain ⟨a, z⟩ := x
  obtain ⟨n, rfl⟩ : ∃ n : Nat, a = (n : Int) := ⟨a.toNat, by simp at h0; omega⟩
  simp only at h0 h1 h2
  have HB := hid hb
  have HG := hid hb.lt
  obtain ⟨M, hM⟩ : ∃ M, l.length = M := ⟨_, rfl⟩
  have HM := hid hM
  have hm1 : (M : Int) ≤ 250 := by omega
  rw [hM]
  clear hb hM hl
  have hn2 : (n : Int) < 65536 := by omega
  have hz2 : (z : Int) < 4294967296 := by omega
  clear h0 h1 h2
  obtain ⟨N, hN⟩ : ∃ N, refNum ((n : Int), z) = N := ⟨_, rfl⟩
  have hNe : N = n + z * 65536 := by rw [← hN]; simp only [refNum, Int.toNat_natCast]; omega
  have hor : bits .or .u64 (n : Int) ((z : Int) * 65536) = (N : Int) := by
    have := or_upW n z 16 (by omega) (by omega)
    rw [hNe]
    simpa using this
  have HRb := hid (show numB 6 N = refB ((n : Int), z) from by rw [← hN]; exact refNum_bytes (by simp) (by simp; omega))
  have hN64 : (N : Int) < 281474976710656 := by omega
  have HB0 := hid (show Blk (w.alloc (.cells #[.int .i64 (n : Int), .int .u32 (z : Int)] 91)) g 5 (I (l ++ zerosL (256 - l.length))).toArray from HB.out.alloc _)
  have HG0 := hid (show w.grownBy (w.alloc (.cells #[.int .i64 (n : Int), .int .u32 (z : Int)] 91)) (some g) from only_alloc (only_refl w (some g)) _)
  clear hN hNe
  go_enter Tryz.func128, Tryz.ntmps128
  go_wp2
  clear hN64 hz2 hn2 hor
  go_loopw [0, 15] (fun v i wr => ∃ k : Nat, k ≤ 6 ∧ i = .int .i64 (k : Int) ∧ v = .slice (some ⟨g, 0, none⟩) (M + k) 256 ∧ Buf wr g (l ++ numB k N) ∧ w.grownBy wr (some g)) (fun _ i _ => 6 - (intOf i).toNat)
  case atStart => exact ⟨0, by omega, rfl, rfl, by simpa [numB] using HB0.out, HG0.out⟩
  case round =>
    obtain ⟨k, hk, rfl, rfl, hbf, hgr⟩ := hrel
    have HBf := hid hbf
    have HGr := hid hgr
    clear hbf hgr
    by_cases hlt : k < 6
    · have hk5 : (k : Int) ≤ 5 := by omega
      have HW := hid (div_byte N k)
      have HLn := hid (show (l ++ numB k N).length = M + k from by rw [List.length_append, numB_len, HM.out])
      go_wp2_with (at_builtin; refine wpList_append_room1 _ rfl _ _ 29 29 rfl 5 (.int .u8 0) 1 Tryz.underlying29 Tryz.info5 g 0 (M + k) 256 rfl _ rfl 1 [.int .u8 ((N : Int) / 2 ^ (8 * k) % 256)] ?d1 ?d2 ?d3 ?d4 ?_)
      case d1 => exact Src.ofSlice _ Tryz.underlying29 _ _ _ _ rfl (cell_one_new _ _ _) (by intro u hu; simp at hu; subst hu; rfl)
      case d2 => omega
      case d3 =>
        intro j hj
        have hj0 : j = 0 := by simpa using hj
        subst hj0
        rw [Nat.zero_add, Nat.add_zero, Blk.cell (HBf.out.alloc _)]
        simp [I, zerosL]
        omega
      case d4 =>
        intro j hj
        exact Blk.free (HBf.out.alloc _) _
      have HB2 := hid (show Buf ((wr.alloc (.cells #[.int .u8 ((N : Int) / 2 ^ (8 * k) % 256)] 5)).setCell ⟨g, M + k, none⟩ (.int .u8 ((N : Int) / 2 ^ (8 * k) % 256))) g (l ++ numB (k + 1) N) from by
        have h1 := Buf.push (w := wr.alloc (.cells #[.int .u8 ((N : Int) / 2 ^ (8 * k) % 256)] 5)) (HBf.out.alloc _) (by rw [HLn.out]; omega) ((N : Int) / 2 ^ (8 * k) % 256)
        rw [HLn.out] at h1
        rw [numB_succ, ← List.append_assoc, ← HW.out]
        exact h1)
      have HG2 := hid (only_put (only_alloc HGr.out (.cells #[.int .u8 ((N : Int) / 2 ^ (8 * k) % 256)] 5)) (M + k) (.int .u8 ((N : Int) / 2 ^ (8 * k) % 256)))
      go_wp2
      go_roundw
      case rel => exact ⟨k + 1, by omega, by go_num, rfl, HB2.out, HG2.out⟩
      case measure => simp [intOf]; omega
    · obtain rfl : k = 6 := by omega
      have HF := hid (show Buf wr g (l ++ refB ((n : Int), z)) from by rw [← HRb.out]; exact HBf.out)
      go_wp2
      go_ret
      exact ⟨rfl, HF.out, HGr.out⟩
theorem Tryz.madeB256 : (madeCells #[Value.int .u8 0] 256) = (I (zerosL 256)).toArray := by
  apply Array.ext'
  rw [zeros]
  rfl
/-! the Refs of a state, as slices -/
section
variable {w : World} {g : Nat} {t : TypeId} {A B : List Value} {P : PS}
theorem HoldsP.slots (h : HoldsP w g t A P B) (hL : P.Len) (k : Nat) (hk : k < 7) {o q E : Nat} (ho : A.length = o) (hq : q = 42 * k) (hE : endK k = E) : Rf w w.heap.size (some ⟨g, o + 15 + q * 2, none⟩) (E - q) (256 - q) (slotsOf P.pgs k) := by
  subst ho hq hE
  have e42 : endK k - 42 * k = min 42 (256 - 42 * k) := by unfold endK; omega
  refine ⟨by rw [slotsOf_len hL.p, e42], by rw [e42]; omega, by unfold maxLen; omega, (fun h => by cases h), fun ad ha h0 => ?_⟩
  cases ha
  refine ⟨h.lt, fun j x hx => ?_⟩
  have hp : P.pgs[42 * k + j]? = some x := by
    simp only [slotsOf, List.getElem?_take, List.getElem?_drop] at hx
    split at hx
    · exact hx
    · cases hx
  obtain ⟨h1, h2⟩ := h.page hL hp
  have e1 : ∀ i, (⟨g, A.length + 15 + 42 * k * 2, none⟩ : Addr).add i = ⟨g, A.length + 15 + 42 * k * 2 + i, none⟩ := fun i => by unfold Addr.add; split <;> simp_all
  rw [e1, e1]
  exact ⟨by rw [← h1]; congr 2; omega, by rw [← h2]; congr 2; omega⟩
theorem HoldsP.idxs (h : HoldsP w g t A P B) (hL : P.Len) {o : Nat} (ho : A.length = o) : Rf w w.heap.size (some ⟨g, o + 1, none⟩) 7 7 P.idx := by
  subst ho
  refine ⟨hL.i, Nat.le_refl _, by unfold maxLen; omega, (fun h => by cases h), fun ad ha h0 => ?_⟩
  cases ha
  refine ⟨h.lt, fun j x hx => ?_⟩
  obtain ⟨h1, h2⟩ := h.index hL hx
  have e1 : ∀ i, (⟨g, A.length + 1, none⟩ : Addr).add i = ⟨g, A.length + 1 + i, none⟩ := fun i => by unfold Addr.add; split <;> simp_all
  rw [e1, e1]
  exact ⟨by rw [← h1]; congr 2; omega, by rw [← h2]; congr 2; omega⟩
theorem HoldsP.pgsR (h : HoldsP w g t A P B) (hL : P.Len) {o : Nat} (ho : A.length = o) : Rf w w.heap.size (some ⟨g, o + 15, none⟩) 256 256 P.pgs := by
  subst ho
  refine ⟨hL.p, Nat.le_refl _, by unfold maxLen; omega, (fun h => by cases h), fun ad ha h0 => ?_⟩
  cases ha
  refine ⟨h.lt, fun j x hx => ?_⟩
  obtain ⟨h1, h2⟩ := h.page hL hx
  have e1 : ∀ i, (⟨g, A.length + 15, none⟩ : Addr).add i = ⟨g, A.length + 15 + i, none⟩ := fun i => by unfold Addr.add; split <;> simp_all
  rw [e1, e1]
  exact ⟨by rw [← h1]; congr 2; omega, by rw [← h2]; congr 2; omega⟩
end
set_option maxRecDepth 100000 in
set_option maxHeartbeats 2000000 in
theorem indexBlock_any (P : PS) (a o k : Nat) (t : TypeId) (A B : List Value) (w : World) (h : HoldsP w a t A P B) (hL : P.Len) (ho : A.length = o) (hk : k < 7) (hs : Small P.pgs) :
    Calls Tryz.prog 92 #[.pointer (some ⟨a, o, none⟩), .int .i64 (k : Int)] w fun e w' => ∃ g, w.heap.size ≤ g ∧ e = .returned (.slice (some ⟨g, 0, none⟩) 256 256) ∧ Blk w' g 5 (I (indexB P.pgs k)).toArray ∧ Below w.heap.size w w' := by
  have hmk : ∀ W : World, (Instr.makeSlice 29 (.int .i64 0) (.int .i64 256)).run Tryz.prog W = .ok (.slice (some ⟨W.heap.size, 0, none⟩) 0 256) (W.alloc (.cells (I (zerosL 256)).toArray 5)) := fun W => by
    rw [← Tryz.madeB256]
    exact run_make_room (P := Tryz.prog) 29 5 (.int .u8 0) 1 Tryz.underlying29 Tryz.info5 rfl .i64 .i64 256 (by omega) (by omega) W
  have HH := hid h
  obtain ⟨E, hE⟩ : ∃ E, endK k = E := ⟨_, rfl⟩
  have HEo := hid (fun (W : World) => (endOf_any k W (by omega)))
  rw [hE] at HEo
  have HE := hid hE
  obtain ⟨q, hq⟩ : ∃ q, q = 42 * k := ⟨_, rfl⟩
  have HQ := hid hq
  have HK := hid (show q ≤ E ∧ E ≤ 256 from by rw [← hE, hq]; unfold endK; omega)
  have he0 : (q : Int) ≤ E := by have := HK.out; omega
  have he1 : (E : Int) ≤ 256 := by have := HK.out; omega
  have hw : IntKind.i64.wrap ((k : Int) * 42) = (q : Int) := by rw [IntWalk.i64_in _ (by omega)]; omega
  have hqE : q ≤ E := HK.out.1
  have hE2 : E ≤ 256 := HK.out.2
  have HR := hid (h.slots hL k hk ho hq hE)
  have hq256 : ¬ 256 = q := by omega
  obtain ⟨sl, hsl⟩ : ∃ sl, slotsOf P.pgs k = sl := ⟨_, rfl⟩
  have HSl := hid hsl
  have HSm := hid (show Small sl from by rw [← hsl]; exact fun x hx => hs x (List.mem_of_mem_drop (List.mem_of_mem_take hx)))
  rw [hsl] at HR
  clear h hE hq hsl
  go_enter Tryz.func92, Tryz.ntmps92
  go_wp2_with fail
  go_quiet ((go_at_call 120; refine Calls.quiet_of_same ((HEo.out _).mono fun e w' h => ⟨h.1, h.2.symm⟩)))
  obtain ⟨ad, had⟩ : ∃ ad : Addr, (⟨a, o + 15 + q * 2, none⟩ : Addr) = ad := ⟨_, rfl⟩
  have HAd := hid had
  rw [had]
  rw [had] at HR
  obtain ⟨n, hn⟩ : ∃ n, E - q = n := ⟨_, rfl⟩
  obtain ⟨cp, hcp⟩ : ∃ cp, 256 - q = cp := ⟨_, rfl⟩
  have HN := hid (show n ≤ 42 from by rw [← hn, ← HE.out, HQ.out]; unfold endK; omega)
  rw [hn, hcp] at HR
  rw [hn, hcp]
  have HB0 := hid (show Below w.heap.size w ((w.alloc (.cells (I (zerosL 256)).toArray 5)).drewN nq) from below_drewN ((Below.refl _ _).alloc (Nat.le_refl _) _) nq)
  have HK0 := hid (show Buf ((w.alloc (.cells (I (zerosL 256)).toArray 5)).drewN nq) w.heap.size [] from (Blk.new w 5 (I (zerosL 256)).toArray).drewN nq)
  clear had hn hcp he0 he1 hw hqE hE2 hq256
  go_wp2
  go_loopw [18, 5] (fun i v wr => ∃ j : Nat, j ≤ n ∧ i = .int .i64 (j : Int) ∧ v = .slice (some ⟨w.heap.size, 0, none⟩) (6 * j) 256 ∧ Buf wr w.heap.size (refsB (sl.take j)) ∧ Below w.heap.size w wr) (fun i _ _ => n - (intOf i).toNat)
  case atStart => exact ⟨0, Nat.zero_le _, rfl, rfl, by simpa [refsB] using HK0.out, HB0.out⟩
  case round =>
    obtain ⟨j, hj, rfl, rfl, hbf, hb⟩ := hrel
    have HBf := hid hbf
    have HB := hid hb
    clear hbf hb
    by_cases hlt : j < n
    · obtain ⟨ad2, x, had2, hbl, hx, c0, c1⟩ := (HR.out.below HB.out).get hlt
      obtain rfl : ad = ad2 := by injection had2
      have HX := hid hx
      have hjn : (j : Int) < n := by omega
      have hn42 : (n : Int) ≤ 42 := by have := HN.out; omega
      have hsm := HSm.out x (List.mem_of_getElem? hx)
      have HSx := hid hsm
      have HLn := hid (show (refsB (sl.take j)).length = 6 * j from by rw [refsB_len, List.length_take, HR.out.len]; omega)
      have hkw : Buf (wr.alloc (.cells #[.int .i64 x.1, .int .u32 (x.2 : Int)] 91)) w.heap.size (refsB (sl.take j)) := Blk.alloc HBf.out _
      have HKw := hid hkw
      have HBw := hid (HB.out.alloc HB.out.size (.cells #[.int .i64 x.1, .int .u32 (x.2 : Int)] 91))
      clear hx hbl had2 hsm hkw
      go_wp2_with fail
      have hap := appendRef_any x w.heap.size (refsB (sl.take j)) _ HKw.out (by rw [HLn.out]; have := HN.out; omega) HSx.out.1 HSx.out.2.1 HSx.out.2.2
      rw [HLn.out] at hap
      refine hap.mono ?_
      rintro e w2 ⟨rfl, hbf2, hg2⟩
      have HBf2 := hid (show Buf w2 w.heap.size (refsB (sl.take (j + 1))) from by
        rw [takeR_next HX.out, refsB_snoc]; exact hbf2)
      have HB2 := hid (below_only hg2 (Nat.le_refl _) HBw.out.size)
      have HB3 := hid (show Below w.heap.size w w2 from HBw.out.trans HB2.out)
      clear hap hbf2 hg2
      go_wp2
      go_roundw
      case rel => exact ⟨j + 1, by omega, by go_num, by rw [show 6 * (j + 1) = 6 * j + 6 by omega], HBf2.out, HB3.out⟩
      case measure => simp [intOf]; omega
    · have hnlt : decide (j < n) = false := by simpa using hlt
      have hjn : j = n := by omega
      have HF := hid (show Blk wr w.heap.size 5 (I (indexB P.pgs k)).toArray from by
        have := HBf.out
        rw [List.take_of_length_le (by rw [HR.out.len]; omega)] at this
        unfold indexB
        rw [HSl.out]
        have e : 256 - (refsB sl).length = 256 - 6 * sl.length := by rw [refsB_len]
        unfold Buf at this
        rw [e] at this
        exact this)
      clear hjn
      have h6 : 6 * j ≤ 256 := by have := HN.out; omega
      go_wp2
      go_ret
      exact ⟨w.heap.size, Nat.le_refl _, rfl, HF.out, HB.out⟩
end Go.Proofs.YtkhdgacjgccnnaaGreatDoor
