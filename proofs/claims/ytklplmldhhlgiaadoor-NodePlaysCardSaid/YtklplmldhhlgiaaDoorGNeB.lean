/- A table in memory, its nodes in a map: what it is; Len, Get. -/
import Derived.Test.YtklplmldhhlgiaaDoorGNeA
import Derived.Test.YtklplmldhhlgiaaDoorGNeS
namespace Go.Proofs.YtklplmldhhlgiaaDoor
open Go.RowKit Go.Maps Go.Sort
open Go.ChangeMaps (setBlock heap_setBlock_same heap_setBlock_other)

theorem lawN : Keyed Tryd.prog 3 := int_keyed Tryd.underlying3
theorem keyN {i : Int} (h : I64 i) : keyOf Tryd.prog 3 (.int .i64 i) = some (kz i) := keyOf_int_mk Tryd.underlying3 (WalkArith.wf_i64 h)
theorem Tryd.zeroNd (w : World) : (zeroValue 30).run Tryd.prog w = .ok (ndV ⟨0, 0, 0, 0, [], 0⟩) w := by kernel_rfl
theorem ownsN_size {w : World} {b n : Nat} {D : DataW Unit} (h : w.ownsMap Tryd.prog 3 ndR b n D) : w.ownsMap Tryd.prog 3 ndR b (Maps.size D) D := by
  obtain ⟨es, clock, hb, F, hs, rfl⟩ := h
  exact ⟨es, clock, hb, F, by rw [size_eq, length_sorted]; simp, rfl⟩
/-- a map that may be nil -/
def MapAt (w : World) : Option Nat → DataW Unit → Prop
  | none, D => D = .map []
  | some b, D => w.ownsMap Tryd.prog 3 ndR b (Maps.size D) D
theorem MapAt.same {w w' : World} {mb : Option Nat} {D : DataW Unit} (h : MapAt w mb D) (hk : ∀ b, mb = some b → w'.heap[b]? = w.heap[b]?) : MapAt w' mb D := by
  rcases mb with _ | b
  · exact h
  · obtain ⟨es, clock, hb, F, hs, hD⟩ : w.ownsMap Tryd.prog 3 ndR b (Maps.size D) D := h
    exact ⟨es, clock, (hk b rfl).trans hb, F, hs, hD⟩
theorem MapAt.lt {w : World} {mb : Option Nat} {D : DataW Unit} (h : MapAt w mb D) : ∀ b, mb = some b → b < w.heap.size := by
  rintro b rfl
  exact World.ownsMap.lt h
theorem MapAt.on {w w' : World} {mb : Option Nat} {D : DataW Unit} (h : MapAt w mb D) (hb : Below w.heap.size w w') : MapAt w' mb D := h.same fun b e => hb.block b (h.lt b e)
theorem MapAt.tidy {w : World} {mb : Option Nat} {D : DataW Unit} (h : MapAt w mb D) : Tidy D := by
  rcases mb with _ | b
  · obtain rfl : D = .map [] := h
    exact ⟨[], rfl, List.Pairwise.nil⟩
  · exact World.ownsMap.tidy h lawN
theorem MapAt.len {w : World} {mb : Option Nat} {D : DataW Unit} (h : MapAt w mb D) (ty : TypeId) : (Builtin.len_ #[25] ty #[.map mb]).run Tryd.prog w = .ok (.int .i64 (Maps.size D)) w := by
  rcases mb with _ | b
  · obtain rfl : D = .map [] := h
    exact Maps.len_nil Tryd.underlying25 ty
  · exact World.ownsMap.len h Tryd.underlying25 ty
theorem TabM.at_ {D : DataW Unit} {L : List Nd} (hm : TabM D L) (id : Int) : ∃ x : Nd, (∀ e, L[fndN L id]? = some e → x = e) ∧ D.atKey (kz id) (ndD ⟨0, 0, 0, 0, [], 0⟩) = ndD x := by
  by_cases c : fndN L id < L.length
  · obtain ⟨e, he, hi⟩ := fndN_get c
    refine ⟨e, fun e' he' => Option.some.inj (he.symm.trans he'), ?_⟩
    have := hm.val e (List.mem_of_getElem? he) (ndD ⟨0, 0, 0, 0, [], 0⟩)
    rw [hi] at this
    exact this
  · refine ⟨⟨0, 0, 0, 0, [], 0⟩, fun e he => absurd (List.getElem?_eq_some_iff.1 he).1 c, ?_⟩
    exact atKey_of_not_has (by rw [hm.has]; unfold isInN; exact decide_eq_false c) _
/-- a look at a number: the same in whatever world the map is -/
theorem MapAt.look {D : DataW Unit} {L : List Nd} (hm : TabM D L) {id : Int} (hI : I64 id) : ∃ x : Nd, (∀ e, L[fndN L id]? = some e → x = e) ∧ ∀ w mb, MapAt w mb D → (Instr.lookup 25 (.map mb) (.int .i64 id) true).run Tryd.prog w = .ok (.tuple #[ndV x, .bool (isInN L id)]) w := by
  obtain ⟨x, h1, h2⟩ := hm.at_ id
  refine ⟨x, h1, fun w mb h => ?_⟩
  rcases mb with _ | b
  · obtain rfl : D = .map [] := h
    have hx : x = ⟨0, 0, 0, 0, [], 0⟩ := ndD_inj (show ndD x = ndD ⟨0, 0, 0, 0, [], 0⟩ from h2.symm)
    have hi : isInN L id = false := (hm.has id).symm
    rw [Maps.look_nil true lawN Tryd.underlying25 (Tryd.zeroNd w) (keyN hI), hx, hi]
    rfl
  · obtain ⟨v, ps, hrun, hv⟩ := World.ownsMap.look_ok h lawN Tryd.underlying25 (Tryd.zeroNd w) (ndR_mk _) (keyN hI)
    rw [h2] at hv
    rw [hm.has] at hrun
    obtain ⟨y, rfl, hy⟩ := ndR_inv hv
    have : x = y := ndD_inj (congrArg Prod.fst hy)
    subst this
    exact hrun
/-- one taken out -/
theorem MapAt.drop {w : World} {mb : Option Nat} {D : DataW Unit} (h : MapAt w mb D) {id : Int} (hI : I64 id) : ∃ w', (∀ ty, (Builtin.delete_ #[25, 3] ty #[.map mb, .int .i64 id]).run Tryd.prog w = .ok (.tuple #[]) w') ∧ MapAt w' mb (D.del (kz id)) ∧ w.grownBy w' mb := by
  rcases mb with _ | b
  · obtain rfl : D = .map [] := h
    exact ⟨w, fun ty => Maps.drop_nil lawN Tryd.underlying25 (keyN hI) ty, rfl, ⟨rfl, rfl, rfl, Nat.le_refl _, fun _ _ _ => rfl⟩⟩
  · obtain ⟨es, clock, hb, F, hs, rfl⟩ : w.ownsMap Tryd.prog 3 ndR b (Maps.size D) D := h
    obtain ⟨es', hrun, F', hle, hdel, _⟩ := Maps.fit_drop (ty := 0) lawN Tryd.underlying25 hb F (keyN hI)
    refine ⟨_, fun ty => ?_, ownsN_size ⟨es', clock, heap_setBlock_same hb _, F', Nat.le_refl _, by rw [DataW.del_eq, hdel]⟩, ?_⟩
    · exact hrun
    · exact World.mapTurned.grown ⟨es, clock, es', clock, hb, rfl⟩
/-- one put in -/
theorem MapAt.put {w : World} {b : Nat} {D : DataW Unit} (h : MapAt w (some b) D) (hn : Maps.size D < maxLen) {id : Int} (hI : I64 id) (x : Nd) : ∃ w', (Instr.mapUpdate 25 (.map (some b)) (.int .i64 id) (ndV x)).run Tryd.prog w = .ok () w' ∧ MapAt w' (some b) (D.put (kz id) (ndD x)) ∧ w.grownBy w' (some b) := by
  obtain ⟨w', h1, h2, h3⟩ := World.ownsMap.update h lawN Tryd.underlying25 hn (keyN hI) (ndR_mk x)
  exact ⟨w', h1, ownsN_size h2, h3⟩
/-- a table at g, in the blocks F -/
structure TabN (w : World) (g : Nat) (T : Tab) (F : Nat → Prop) : Prop where
  box : ∃ mb D, Blk w g 27 #[.map mb, .int .i64 T.last] ∧ MapAt w mb D ∧ TabM D T.L ∧ ∀ b, mb = some b → b ≠ g ∧ F b
  own : F g
  lt : ∀ k, F k → k < w.heap.size
  is : TabIs T
theorem TabN.stays (g : Nat) (T : Tab) : Stays (fun w F => TabN w g T F) where
  kept := by
    intro w w' F h hk
    obtain ⟨mb, D, h1, h2, h3, h4⟩ := h.box
    exact ⟨⟨mb, D, h1.same (hk.1 g h.own), h2.same (fun b hb => hk.1 b (h4 b hb).2), h3, h4⟩, h.own, fun k hk' => Nat.lt_of_lt_of_le (h.lt k hk') hk.2, h.is⟩
  lt h := h.lt
theorem TabN.on {w w' : World} {g : Nat} {T : Tab} {F : Nat → Prop} (h : TabN w g T F) (hb : Below w.heap.size w w') : TabN w' g T F := (TabN.stays g T).kept h (Kept.of_below hb h.lt)
theorem TabN.zero (w : World) : TabN (w.alloc (.cells tabZ 27)) w.heap.size ⟨[], 0⟩ (fun k => k = w.heap.size) :=
  ⟨⟨none, .map [], Blk.new w _ _, rfl, tabM_nil, fun _ h => (by cases h)⟩, rfl, fun k hk => (by simp; omega), ⟨List.Pairwise.nil, fun _ h => (by cases h), (by show (0 : Int) ≤ 0 ∧ (0 : Int) ≤ 16777215; decide), (by simp)⟩⟩
section
variable {w : World} {g : Nat} {T : Tab} {F : Nat → Prop}
set_option maxRecDepth 100000 in
set_option maxHeartbeats 1000000 in
theorem tabLen_any (h : TabN w g T F) :
    Calls Tryd.prog 8 #[.pointer (some ⟨g, 0, none⟩)] w fun r w' => r = .returned (.int .i64 (T.L.length : Int)) ∧ w = w' := by
  obtain ⟨mb, D, h1, h2, h3, h4⟩ := h.box
  have hl := h2.len
  rw [h3.size] at hl
  have c0 := h1.cell 0
  simp at c0
  clear h1 h2 h3 h4 h
  go_enter Tryd.func8, Tryd.ntmps8
  go_wp2
  go_ret
  exact ⟨rfl, rfl⟩
set_option maxRecDepth 100000 in
set_option maxHeartbeats 1000000 in
theorem tabGet_any (id : Int) (h : TabN w g T F) (hI : I64 id) :
    Calls Tryd.prog 16 #[.pointer (some ⟨g, 0, none⟩), .int .i64 id] w fun r w' => (∃ x, r = .returned (.tuple #[ndV x, .bool (isInN T.L id)]) ∧ ∀ e, T.L[fndN T.L id]? = some e → x = e) ∧ Below w.heap.size w w' := by
  have h0 := h.on (w' := w.alloc (.cells #[.int .i64 0, .int .i64 0, .int .i64 0, .int .i64 0, .string ⟨#[]⟩, .int .i64 0] 30)) ((Below.refl _ _).alloc (Nat.le_refl _) _)
  obtain ⟨mb, D, h1, h2, h3, h4⟩ := h0.box
  obtain ⟨x, hx, hq⟩ := MapAt.look h3 hI
  obtain ⟨x0, x1, x2, x3, x4, x5⟩ := x
  have hl : (Instr.lookup 25 (.map mb) (.int .i64 id) true).run Tryd.prog (w.alloc (.cells #[.int .i64 0, .int .i64 0, .int .i64 0, .int .i64 0, .string ⟨#[]⟩, .int .i64 0] 30)) = .ok (.tuple #[.agg #[.int .i64 x0, .int .i64 x1, .int .i64 x2, .int .i64 x3, encStr x4, .int .i64 x5], .bool (isInN T.L id)]) (w.alloc (.cells #[.int .i64 0, .int .i64 0, .int .i64 0, .int .i64 0, .string ⟨#[]⟩, .int .i64 0] 30)) := hq _ _ h2
  have HX := hid hx
  have c0 := h1.cell 0
  simp at c0
  clear h1 h2 h3 h4 h h0 hq hx
  go_enter Tryd.func16, Tryd.ntmps16
  go_wp2
  refine bodyPost_ret (v := .tuple #[ndV ⟨x0, x1, x2, x3, x4, x5⟩, .bool (isInN T.L id)]) (by simp [results, Tryd.results16, go_sem, *]) rfl ⟨⟨_, rfl, HX.out⟩, ?_⟩
  repeat (first | exact Below.refl _ _ | refine Below.setCell ?_ (by simp) _ | refine Below.alloc ?_ (by simp) _)
end
end Go.Proofs.YtklplmldhhlgiaaDoor
