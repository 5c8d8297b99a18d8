/- Put together out of 1 texts. Package page: stateOf. -/
import Derived.Test.YtkhdgacjgccnnaaGreatDoorGXay
import Derived.Laws.ResultCell
namespace Go.Proofs.YtkhdgacjgccnnaaGreatDoor
open Go.RowKit Go.Maps

theorem results_row_tmp {fn : Func} {p u : Tmp} {ty : TypeId} (h : fn.results = #[.cell p ty, .tmp u]) (tmps : Array Value) (w : World) (g : Nat) (t : TypeId) (cs : Array Value) (fr : Nat × Nat) (d : TypeDesc) (v : Value)
    (hp : tmps.getD p undef = .pointer (some ⟨g, 0, none⟩)) (hg : w.heap[g]? = some (.cells cs t fr)) (hv : tmps.getD u undef = v)
    (hu : Tryz.prog.underlying ty = some d) (hd : d.isRow = true) (hi : (Tryz.prog.info? ty).map (·.size) = some cs.size) :
    (results fn tmps).run Tryz.prog w = .ok (.tuple #[.agg cs, v]) w := by
  rw [results_cell_tmp h, hp, hv]
  simp [asAddr, run_loadVar_row w g t ty cs fr d hg hu (by cases d <;> simp_all [TypeDesc.isRow]) hi, Result.andThen]
theorem len7' {α : Type} {l : List α} (h : l.length = 7) : ∃ a b c d e f g, l = [a, b, c, d, e, f, g] := by
  rcases l with _ | ⟨a, _ | ⟨b, _ | ⟨c, _ | ⟨d, _ | ⟨e, _ | ⟨f, _ | ⟨g, _ | ⟨z, t⟩⟩⟩⟩⟩⟩⟩⟩ <;> simp only [List.length_nil, List.length_cons] at h <;> (try omega)
  exact ⟨a, b, c, d, e, f, g, rfl⟩
theorem Tryz.ix7_0 (a0 a1 a2 a3 a4 a5 a6 a7 a8 a9 a10 a11 a12 a13 : Value) (w : World) : (Instr.index 92 (.agg #[a0, a1, a2, a3, a4, a5, a6, a7, a8, a9, a10, a11, a12, a13]) (.int .i64 0)).run Tryz.prog w = .ok (.agg #[a0, a1]) w := by kernel_rfl
theorem Tryz.ix7_1 (a0 a1 a2 a3 a4 a5 a6 a7 a8 a9 a10 a11 a12 a13 : Value) (w : World) : (Instr.index 92 (.agg #[a0, a1, a2, a3, a4, a5, a6, a7, a8, a9, a10, a11, a12, a13]) (.int .i64 1)).run Tryz.prog w = .ok (.agg #[a2, a3]) w := by kernel_rfl
theorem Tryz.ix7_2 (a0 a1 a2 a3 a4 a5 a6 a7 a8 a9 a10 a11 a12 a13 : Value) (w : World) : (Instr.index 92 (.agg #[a0, a1, a2, a3, a4, a5, a6, a7, a8, a9, a10, a11, a12, a13]) (.int .i64 2)).run Tryz.prog w = .ok (.agg #[a4, a5]) w := by kernel_rfl
theorem Tryz.ix7_3 (a0 a1 a2 a3 a4 a5 a6 a7 a8 a9 a10 a11 a12 a13 : Value) (w : World) : (Instr.index 92 (.agg #[a0, a1, a2, a3, a4, a5, a6, a7, a8, a9, a10, a11, a12, a13]) (.int .i64 3)).run Tryz.prog w = .ok (.agg #[a6, a7]) w := by kernel_rfl
theorem Tryz.ix7_4 (a0 a1 a2 a3 a4 a5 a6 a7 a8 a9 a10 a11 a12 a13 : Value) (w : World) : (Instr.index 92 (.agg #[a0, a1, a2, a3, a4, a5, a6, a7, a8, a9, a10, a11, a12, a13]) (.int .i64 4)).run Tryz.prog w = .ok (.agg #[a8, a9]) w := by kernel_rfl
theorem Tryz.ix7_5 (a0 a1 a2 a3 a4 a5 a6 a7 a8 a9 a10 a11 a12 a13 : Value) (w : World) : (Instr.index 92 (.agg #[a0, a1, a2, a3, a4, a5, a6, a7, a8, a9, a10, a11, a12, a13]) (.int .i64 5)).run Tryz.prog w = .ok (.agg #[a10, a11]) w := by kernel_rfl
theorem Tryz.ix7_6 (a0 a1 a2 a3 a4 a5 a6 a7 a8 a9 a10 a11 a12 a13 : Value) (w : World) : (Instr.index 92 (.agg #[a0, a1, a2, a3, a4, a5, a6, a7, a8, a9, a10, a11, a12, a13]) (.int .i64 6)).run Tryz.prog w = .ok (.agg #[a12, a13]) w := by kernel_rfl
theorem idx7 {l : List (Int × Nat)} (h : l.length = 7) {k : Nat} {x : Int × Nat} (hx : l[k]? = some x) (w : World) : (Instr.index 92 (.agg (cellsR l).toArray) (.int .i64 (k : Int))).run Tryz.prog w = .ok (rfV x) w := by
  obtain ⟨a, b, c, d, e, f, g, rfl⟩ := len7' h
  have hk : k < 7 := by have := (List.getElem?_eq_some_iff.1 hx).1; simpa using this
  rcases (show k = 0 ∨ k = 1 ∨ k = 2 ∨ k = 3 ∨ k = 4 ∨ k = 5 ∨ k = 6 by omega) with rfl | rfl | rfl | rfl | rfl | rfl | rfl
  · have e : x = a := by simpa using hx.symm
    subst e
    exact Tryz.ix7_0 _ _ _ _ _ _ _ _ _ _ _ _ _ _ w
  · have e : x = b := by simpa using hx.symm
    subst e
    exact Tryz.ix7_1 _ _ _ _ _ _ _ _ _ _ _ _ _ _ w
  · have e : x = c := by simpa using hx.symm
    subst e
    exact Tryz.ix7_2 _ _ _ _ _ _ _ _ _ _ _ _ _ _ w
  · have e : x = d := by simpa using hx.symm
    subst e
    exact Tryz.ix7_3 _ _ _ _ _ _ _ _ _ _ _ _ _ _ w
  · have e : x = e := by simpa using hx.symm
    subst e
    exact Tryz.ix7_4 _ _ _ _ _ _ _ _ _ _ _ _ _ _ w
  · have e : x = f := by simpa using hx.symm
    subst e
    exact Tryz.ix7_5 _ _ _ _ _ _ _ _ _ _ _ _ _ _ w
  · have e : x = g := by simpa using hx.symm
    subst e
    exact Tryz.ix7_6 _ _ _ _ _ _ _ _ _ _ _ _ _ _ w
theorem run_copyRf {w : World} (ty : TypeId) (g o dLen dCap : Nat) (a : Addr) (sLen sCap m : Nat) (cur : Array Value) (t : TypeId) (cs : List Value) (hg : w.heap[g]? = some (.cells cur t (0, 0))) (hm : Nat.min sLen dLen = m) (hn : cs.length = m * 2)
    (hsrc : ∀ j v, cs[j]? = some v → w.cell? (a.add j) = some v) (hfit : o + cs.length ≤ cur.size) (h1 : ∀ v ∈ cs, v.oneCell' = true) :
    (Builtin.copy_ #[83, 83] ty #[.slice (some ⟨g, o, none⟩) dLen dCap, .slice (some a) sLen sCap]).run Tryz.prog w = .ok (goInt m) (w.setRow g (cur.toList.take o ++ cs ++ cur.toList.drop (o + cs.length)).toArray) := by
  obtain ⟨i0, hi, hz0, hz1, hz2⟩ := info_parts Tryz.infoRef
  have hl := run_loadCells_list (P := Tryz.prog) w a cs hsrc
  have hst := run_storeCells_at Tryz.prog g o t cs 0 cur w hg (by simpa using hfit) h1
  simp [Builtin.copy_, run_underlying Tryz.underlying83, Builtin.lenOf, Builtin.firstCells, sizeOf, typeInfo, hi, hz1, hm, ← hn, hl, hst]
theorem copy_state {w : World} {g : Nat} {e : Int} {ad : Addr} {c : Nat} {l : List (Int × Nat)} {z : List (Int × Nat)} {pgs : List (Int × Nat)} (h : HoldsP w g 95 [] ⟨e, z, pgs⟩ []) (hz : z.length = 7) (hl : Rf w w.heap.size (some ad) 7 c l) :
    ∃ w', (∀ ty, (Builtin.copy_ #[83, 83] ty #[.slice (some ⟨g, 1, none⟩) 7 7, .slice (some ad) 7 c]).run Tryz.prog w = .ok (goInt 7) w') ∧ HoldsP w' g 95 [] ⟨e, l, pgs⟩ [] ∧ w.grownBy w' (some g) := by
  have hlen := cellsR_len l
  rw [hl.len] at hlen
  have hzl := cellsR_len z
  rw [hz] at hzl
  have hcl := cellsR_len pgs
  have hrun := fun ty => run_copyRf (w := w) ty g 1 7 7 ad 7 c 7 _ _ (cellsR l) h rfl hlen (rf_cells hl) (by
    simp only [List.nil_append, List.append_nil, List.size_toArray, stL, List.length_cons, List.length_append]; omega) (cellsR_one l)
  refine ⟨_, hrun, ?_, only_setRow _ _ _⟩
  have hb := setRow_heap w g _ ((([] ++ (stL ⟨e, z, pgs⟩ ++ [])).toArray.toList.take 1 ++ cellsR l ++ ([] ++ (stL ⟨e, z, pgs⟩ ++ [])).toArray.toList.drop (1 + (cellsR l).length)).toArray) 95 (0, 0) h
  have e1 : (([] ++ (stL ⟨e, z, pgs⟩ ++ [])).toArray.toList.take 1 ++ cellsR l ++ ([] ++ (stL ⟨e, z, pgs⟩ ++ [])).toArray.toList.drop (1 + (cellsR l).length)) = [] ++ (stL ⟨e, l, pgs⟩ ++ []) := by
    simp only [List.nil_append, List.append_nil, stL, List.take_succ_cons, List.take_zero]
    rw [hlen, show 1 + 7 * 2 = 14 + 1 from rfl, List.drop_succ_cons, List.drop_left' hzl]
    rfl
  exact hb.trans (by rw [e1])
section
variable {Real : World → Nat → DSt → (Nat → Prop) → Prop} {PR : World → Nat → Nat → Nat → Nat → (Nat → Prop) → Prop}
/-- while a state is read: device and pairs, the state so far, the result's place -/
def RdAt (Real : World → Nat → DSt → (Nat → Prop) → Prop) (PR : World → Nat → Nat → Nat → Nat → (Nat → Prop) → Prop) (S : Nat → Addr) (w0 w : World) (d p n m q : Nat) (F G : Nat → Prop) (P : PS) (ob rb j i : Nat) (s : DSt) (k : Nat) (wr : World) : Prop :=
  ∃ F' G', Pd Real PR S w0 wr d p s n (m + k) (q + i) F' G' ∧ HoldsP wr ob 95 [] ⟨P.epoch, P.idx, tkTo P.pgs j⟩ [] ∧ Blk wr rb 95 (stL (noPS 0)).toArray ∧ Only (fun k => F k ∨ G k) w wr ∧ (∀ k, F' k → F k ∨ G k ∨ w.heap.size ≤ k) ∧ (∀ k, G' k → F k ∨ G k ∨ w.heap.size ≤ k) ∧ ¬ (F' ob ∨ G' ob) ∧ ¬ (F' rb ∨ G' rb)
theorem RdAt.on (D : DevOk Real) (O : PairOk Real PR) {S : Nat → Addr} {w0 w wr w' : World} {d p n m q ob rb j i k : Nat} {F G : Nat → Prop} {P : PS} {s : DSt} (h : RdAt Real PR S w0 w d p n m q F G P ob rb j i s k wr) (hb : Below wr.heap.size wr w') : RdAt Real PR S w0 w d p n m q F G P ob rb j i s k w' := by
  obtain ⟨F', G', h1, h2, h3, h4, h5⟩ := h
  exact ⟨F', G', h1.on D O hb, h2.below hb h2.lt, h3.below hb h3.lt, h4.then_below hb, h5⟩
theorem RdAt.box {S : Nat → Addr} {w0 w wr : World} {d p n m q ob rb j i k : Nat} {F G : Nat → Prop} {P : PS} {s : DSt} (h : RdAt Real PR S w0 w d p n m q F G P ob rb j i s k wr) : HoldsP wr ob 95 [] ⟨P.epoch, P.idx, tkTo P.pgs j⟩ [] := by
  obtain ⟨F', G', h1, h2, h3, h4, h5⟩ := h
  exact h2
theorem RdAt.later {S : Nat → Addr} {w0 w wr : World} {d p n m q ob rb j i i' k : Nat} {F G : Nat → Prop} {P : PS} {s : DSt} (h : RdAt Real PR S w0 w d p n m q F G P ob rb j i s k wr) (hi : i ≤ i') (hq : q + i' ≤ 900000) : RdAt Real PR S w0 w d p n m q F G P ob rb j i' s k wr := by
  obtain ⟨F', G', h1, h2⟩ := h
  exact ⟨F', G', ⟨h1.real, h1.pr, h1.below, h1.sent0, h1.fn, h1.gn, h1.ap, h1.up.more (by omega), hq, h1.n0, h1.n1⟩, h2⟩
theorem RdAt.lt {S : Nat → Addr} {w0 w wr : World} {d p n m q ob rb j i k : Nat} {F G : Nat → Prop} {P : PS} {s : DSt} (h : RdAt Real PR S w0 w d p n m q F G P ob rb j i s k wr) : ob < wr.heap.size ∧ rb < wr.heap.size ∧ w.heap.size ≤ wr.heap.size := by
  obtain ⟨F', G', h1, h2, h3, h4, h5⟩ := h
  exact ⟨h2.lt, h3.lt, h4.size⟩
/-- an index block is read -/
theorem RdAt.read (O : PairOk Real PR) {S : Nat → Addr} {w0 w wr : World} {d p n m q ob rb j i k f z : Nat} {F G : Nat → Prop} {P : PS} {cont : Cont} {s : DSt} (h : RdAt Real PR S w0 w d p n m q F G P ob rb j i s k wr) (hF : Fine (halN n) P cont) (hd : Held s (halN n) P cont) (hy : P.idx[j]? = some ((f : Int), z)) (hp : points ((f : Int), z) = true) (hq : q + i + 1 ≤ 900000) (hm : m + k ≤ 1000) :
    Calls Tryz.prog 101 #[.pointer (some ⟨p, 0, none⟩), refV f z] wr fun e w' => ∃ A c, e = .returned (.tuple #[.slice A 256 c, .nilIface]) ∧ Sl w' w'.heap.size A 256 c (indexB P.pgs j) ∧ (∀ ad, A = some ad → ad.block ≠ ob) ∧ RdAt Real PR S w0 w d p n m q F G P ob rb j (i + 1) (pRead s (halN n) f z).2.2.1 (k + (pRead s (halN n) f z).2.2.2) w' := by
  obtain ⟨F', G', h1, h2, h3, h4, h5, h6, h7, h8⟩ := h
  have hit : Item P cont ((f : Int), z) (indexB P.pgs j) := .index hy hp
  obtain ⟨⟨f', hf', g2, g3⟩, hz, h256, hby⟩ := hit.fine hF
  obtain rfl : f = f' := by have h9 : (f : Int) = (f' : Int) := hf'; omega
  obtain ⟨r1, r2, _⟩ := hd.read hF hit h1.up halN_two
  simp only [Int.toNat_natCast] at r1 r2
  have hz2 : z < 4294967296 := (hF.small.1 _ (List.mem_of_getElem? hy)).2.2
  refine (pd_read O h1 g3 hz2 (by omega) hm).mono ?_
  rintro e w' ⟨A, l, c, v, rfl, hv, hsl, F2, G2, k1, k2, k3, k4, k5⟩
  rw [r1] at hv hsl k5
  obtain rfl := hv.nil
  have hs := hsl rfl
  rw [r2] at hs
  obtain rfl : 256 = l := by rw [← hs.len, h256]
  have hob := h2.lt
  have hrb := h3.lt
  have hsz := h4.size
  have up : ∀ x, F' x ∨ G' x ∨ wr.heap.size ≤ x → F x ∨ G x ∨ w.heap.size ≤ x := fun x hx => by
    rcases hx with hx | hx | hx
    · exact h5 x hx
    · exact h6 x hx
    · exact .inr (.inr (by omega))
  have out : ∀ x, x < wr.heap.size → ¬ (F' x ∨ G' x) → ¬ (F2 x ∨ G2 x) := fun x hx hn h => by
    rcases h with h | h
    · rcases k3 x h with h | h | h
      · exact hn (.inl h)
      · exact hn (.inr h)
      · omega
    · rcases k4 x h with h | h | h
      · exact hn (.inl h)
      · exact hn (.inr h)
      · omega
  refine ⟨A, c, rfl, hs, fun ad ha => by have := (k5 rfl ad ha).1; omega, F2, G2, ?_, (k2.block ob hob h7).trans h2, (k2.block rb hrb h8).trans h3, h4.trans k2 (fun x hx => ?_), fun x hx => up x (k3 x hx), fun x hx => up x (k4 x hx), out ob hob h7, out rb hrb h8⟩
  · rw [show m + (k + (pRead s (halN n) f z).2.2.2) = m + k + (pRead s (halN n) f z).2.2.2 by omega, show q + (i + 1) = q + i + 1 by omega]; exact k1
  · rcases up x (hx.elim .inl (fun h => .inr (.inl h))) with h | h | h
    · exact .inl (.inl h)
    · exact .inl (.inr h)
    · exact .inr h
/-- .. taken -/
theorem RdAt.turn (D : DevOk Real) (O : PairOk Real PR) {S : Nat → Addr} {w0 w wr w' : World} {d p n m q ob rb j j' i k : Nat} {F G : Nat → Prop} {P : PS} {s : DSt} (h : RdAt Real PR S w0 w d p n m q F G P ob rb j i s k wr) (hob : w.heap.size ≤ ob) (h0 : w0.heap.size ≤ w.heap.size) (hne : ob ≠ rb) (hg : wr.grownBy w' (some ob)) (hb : HoldsP w' ob 95 [] ⟨P.epoch, P.idx, tkTo P.pgs j'⟩ []) : RdAt Real PR S w0 w d p n m q F G P ob rb j' i s k w' := by
  obtain ⟨F', G', h1, h2, h3, h4, h5, h6, h7, h8⟩ := h
  have ho : Only (fun k => k = ob) wr w' := ⟨hg.os, hg.tape, hg.output, hg.size, fun k hk hn => hg.block k hk (fun e => hn (by injection e))⟩
  exact ⟨F', G', h1.beside D O ho (fun k hk e => by subst e; exact h7 (.inl hk)) (fun k hk e => by subst e; exact h7 (.inr hk)) (fun k e => by rw [e]; omega), hb, h3.grown hg (fun e => by injection e with e; exact hne e.symm), h4.trans ho (fun i hi => .inr (by rw [hi]; exact hob)), h5, h6, h7, h8⟩
theorem rdTo_yes {H : Nat} {idx : List (Int × Nat)} {s : DSt} {j f z : Nat} (hy : idx[j]? = some ((f : Int), z)) (hp : points ((f : Int), z) = true) : rdTo H idx s (j + 1) = ((pRead (rdTo H idx s j).1 H f z).2.2.1, (rdTo H idx s j).2 + (pRead (rdTo H idx s j).1 H f z).2.2.2) := by
  have eg : idx.getD j (0, 0) = ((f : Int), z) := by simp [List.getD, hy]
  rw [rdTo, eg, if_pos hp]
  simp only [Int.toNat_natCast]
theorem rdTo_no {H : Nat} {idx : List (Int × Nat)} {s : DSt} {j : Nat} {y : Int × Nat} (hy : idx[j]? = some y) (hp : points y = false) : rdTo H idx s (j + 1) = rdTo H idx s j := by
  have eg : idx.getD j (0, 0) = y := by simp [List.getD, hy]
  rw [rdTo, eg, if_neg (by rw [hp]; decide)]
theorem HoldsP.idxRange {w : World} {g : Nat} {t : TypeId} {P : PS} {B : List Value} (h : HoldsP w g t [] P B) : w.rangeAt g 1 (cellsR P.idx) := fun j v hv => by
  have hj := (List.getElem?_eq_some_iff.1 hv).1
  have h1 := h.at_ (j := 1 + j) (u := v) (by
    unfold stL
    rw [Nat.add_comm, List.getElem?_cons_succ, List.getElem?_append_left hj]; exact hv)
  rw [List.length_nil, Nat.zero_add] at h1
  exact h1
set_option maxRecDepth 100000 in
set_option maxHeartbeats 8000000 in
theorem stateOf_any (DD : DevOk Real) (O : PairOk Real PR) (S : Nat → Addr) (w0 w : World) (d p n m q c : Nat) (F G : Nat → Prop) (A : Option Addr) (P : PS) (cont : Cont) (s : DSt) (hpd : Pd Real PR S w0 w d p s n m q F G) (hm : m + 7 ≤ 1000) (hq : q + 7 ≤ 900000) (hF : Fine (halN n) P cont) (hd : Held s (halN n) P cont) (hrf : Rf w w.heap.size A 7 c P.idx) :
    Calls Tryz.prog 61 #[.pointer (some ⟨p, 0, none⟩), rtV P.epoch A 7 c] w fun e w' => e = .returned (.tuple #[.agg (stL P).toArray, .nilIface]) ∧ Stepped Real PR S w0 w d p (rdTo (halN n) P.idx s 7).1 n (m + (rdTo (halN n) P.idx s 7).2) (q + 7) F G (fun _ _ => True) w' := by
  have hzc := fun W => (zero_of_info Tryz.zeroState).1 W
  have HPd := hid hpd
  have HFn := hid hF
  have HHd := hid hd
  have HRf := hid hrf
  clear hpd hF hd hrf
  go_enter Tryz.func61, Tryz.ntmps61
  go_upto_region 1 with fail
  obtain ⟨W2, hW2⟩ : ∃ W2, ((w.alloc (.cells #[.int .i64 P.epoch, .slice A 7 c] 85)).alloc (.cells (stL (noPS 0)).toArray 95)) = W2 := ⟨_, rfl⟩
  have z0 : (w.alloc (.cells #[.int .i64 P.epoch, .slice A 7 c] 85)).heap.size = w.heap.size + 1 := by simp
  have z1 : W2.heap.size = w.heap.size + 2 := by rw [← hW2]; simp
  have z2 : Below w.heap.size w W2 := by rw [← hW2]; exact ((Below.refl _ _).alloc (Nat.le_refl _) _).alloc (by rw [z0]; omega) _
  have z3 : Blk W2 w.heap.size 85 #[.int .i64 P.epoch, .slice A 7 c] := by rw [← hW2]; exact (Blk.new w _ _).alloc _
  have z4 : Blk W2 (w.heap.size + 1) 95 (stL (noPS 0)).toArray := by
    rw [← hW2]
    have := Blk.new (w.alloc (.cells #[.int .i64 P.epoch, .slice A 7 c] 85)) 95 (stL (noPS 0)).toArray
    rwa [z0] at this
  have HZ1 := hid z1
  have HZ2 := hid z2
  have HZ3 := hid z3
  have HZ4 := hid z4
  have c0 := z3.cell 0
  have c0' : W2.cell? ⟨w.heap.size, 0, none⟩ = some (.int .i64 P.epoch) := c0
  rw [hW2]
  clear z0 z1 z2 z3 z4 hW2 c0
  go_upto_region 2 with (first | (refine wpList_built1 rfl 95 0 (.tmp 12) rfl (.int .i64 P.epoch) rfl (stL (noPS P.epoch)).toArray (Tryz.built_state P.epoch) ?_) | (refine wpList_store_last rfl 95 (.tmp 6) (.tmp 13) rfl W2.heap.size (by simp) (stL (noPS 0)).toArray (stL (noPS P.epoch)).toArray rfl rfl ?b1 ?b2 ?b3 ?_))
  case b1 => rw [List.size_toArray]; exact size_of_state (noPS_len _)
  case b2 => rw [List.size_toArray, List.size_toArray, stL_len (noPS_len _), stL_len (noPS_len _)]
  case b3 => exact stL_one _
  obtain ⟨W3, hW3⟩ : ∃ W3, W2.alloc (.cells (stL (noPS P.epoch)).toArray 95) = W3 := ⟨_, rfl⟩
  have z5 : Below W2.heap.size W2 W3 := by rw [← hW3]; exact (Below.refl _ _).alloc (Nat.le_refl _) _
  have z6 : HoldsP W3 W2.heap.size 95 [] ⟨P.epoch, List.replicate 7 (0, 0), tkTo P.pgs 0⟩ [] := by
    rw [← hW3, tkTo_zero]
    have := Blk.new W2 95 (stL (noPS P.epoch)).toArray
    have e : ([] ++ (stL ⟨P.epoch, List.replicate 7 (0, 0), List.replicate 256 (0, 0)⟩ ++ [])) = stL (noPS P.epoch) := by rw [List.nil_append, List.append_nil]; rfl
    show Blk _ _ _ ([] ++ (stL ⟨P.epoch, List.replicate 7 (0, 0), List.replicate 256 (0, 0)⟩ ++ [])).toArray
    rw [e]; exact this
  have z7 : W3.heap.size = w.heap.size + 3 := by rw [← hW3]; have := HZ1.out; simp; omega
  have z8 := HZ2.out.trans (z5.mono HZ2.out.size)
  have z9 := HZ3.out.below z5 HZ3.out.lt
  have HZ5 := hid z6
  have HZ6 := hid z7
  have HZ7 := hid z8
  have HZ8 := hid (HZ4.out.below z5 HZ4.out.lt)
  have c1 : W3.cell? ⟨w.heap.size, 1, none⟩ = some (.slice A 7 c) := z9.cell 1
  obtain ⟨ad, _, rfl, _⟩ := HRf.out.get (k := 0) (by omega)
  obtain ⟨W4, hcp, hb4, hg4⟩ := copy_state (w := W3.drew) (g := W2.heap.size) (Blk.drew z6) List.length_replicate (HRf.out.on (z8.drew))
  have HZ9 := hid hb4
  have HZ10 := hid (And.intro hg4 trivial)
  rw [hW3]
  clear z5 z6 z7 z8 z9 hW3 c0' hb4 hg4
  go_upto_region 4 with fail
  go_region
  have HB4 := hid (show Below w.heap.size w W4 from (HZ7.out.drew).grown HZ10.out.1 HZ7.out.drew.size (fun k hk => by injection hk with hk; have := HZ1.out; omega))
  have HBk4 := hid (show Blk W4 (w.heap.size + 1) 95 (stL (noPS 0)).toArray from (Blk.drew HZ8.out).grown HZ10.out.1 (fun e => by injection e with e; have := HZ1.out; omega))
  have HLt := hid (And.intro (DD.lt HPd.out.real) (O.lt HPd.out.pr))
  have hr0 : RdAt Real PR S w0 w d p n m q F G P W2.heap.size (w.heap.size + 1) 0 0 (rdTo (halN n) P.idx s 0).1 (rdTo (halN n) P.idx s 0).2 W4 :=
    ⟨F, G, HPd.out.on DD O HB4.out, HZ9.out, HBk4.out, Only.of_below HB4.out, fun k hk => .inl hk, fun k hk => .inr (.inl hk), fun h => by have := HZ1.out; rcases h with h | h; (have := HLt.out.1 _ h; omega); (have := HLt.out.2 _ h; omega), fun h => by rcases h with h | h; (have := HLt.out.1 _ h; omega); (have := HLt.out.2 _ h; omega)⟩
  obtain ⟨ob, hob⟩ : ∃ ob, W2.heap.size = ob := ⟨_, rfl⟩
  obtain ⟨rb, hrb⟩ : ∃ rb, w.heap.size + 1 = rb := ⟨_, rfl⟩
  have HOb := hid (show w.heap.size ≤ ob ∧ w.heap.size ≤ rb ∧ ob ≠ rb from by have := HZ1.out; omega)
  rw [hob, hrb] at hr0
  rw [hob, hrb]
  have HR0 := hid hr0
  clear hr0 hob hrb
  have HO := hid O
  have HD := hid DD
  have HSd := hid (fun j => tk_sound HFn.out P.epoch j)
  have HLn := hid HFn.out.len
  clear O DD HZ1 HZ2 HZ3 HZ4 HZ5 HZ6 HZ7 HZ8 HZ9 HZ10 HBk4 HLt
  go_wp2_with fail
  refine (HO.out.geo p d n m G _ (HPd.out.on HD.out HO.out HB4.out).pr).mono ?_
  rintro e w5 ⟨rfl, hb5⟩
  have hr5 := HR0.out.on HD.out HO.out hb5
  have HR5 := hid hr5
  clear hb5
  go_wp2_with fail
  refine (sound_any ⟨P.epoch, P.idx, tkTo P.pgs 0⟩ ob 0 (halN n) (n : Int) 95 [] [] _ hr5.box ⟨HLn.out.i, tkTo_len HLn.out.p 0⟩ rfl (HSd.out 0)).mono ?_
  rintro e w6 ⟨rfl, hb6⟩
  have HR6 := hid (HR5.out.on HD.out HO.out hb6)
  have HRg := hid (show w6.rangeAt ob 1 (cellsR P.idx) from HR6.out.box.idxRange)
  have HSz7 := hid (show (Tryz.prog.info? 92).map (·.size) = some (cellsR P.idx).length from by rw [cellsR_len, HLn.out.i]; kernel_rfl)
  clear hr5 hb6
  go_wp2_with (refine wpList_load_mid rfl 92 (.tmp 31) rfl ob 1 rfl (cellsR P.idx) _ HRg.out Tryz.underlying92 rfl HSz7.out ?_)
  go_loopw [33] (fun iv wx => ∃ j : Nat, j ≤ 7 ∧ iv = .int .i64 (j : Int) ∧ RdAt Real PR S w0 w d p n m q F G P ob rb j j (rdTo (halN n) P.idx s j).1 (rdTo (halN n) P.idx s j).2 wx) (fun iv _ => 7 - (intOf iv).toNat)
  case atStart => exact ⟨0, Nat.zero_le _, rfl, HR6.out⟩
  case round =>
    rename World => wx
    obtain ⟨j, hj, rfl, hrd⟩ := hrel
    have HRx := hid hrd
    clear hrd
    by_cases hlt : j < 7
    · obtain ⟨⟨y, z⟩, hy⟩ := HLn.out.index hlt
      have hix := fun W => idx7 HLn.out.i hy W
      have HY := hid hy
      have hj7 : (j : Int) < 7 := by omega
      clear hy
      go_upto_region 10 with fail
      obtain ⟨W7, hW7⟩ : ∃ W7, wx.alloc (.cells #[.int .i64 y, .int .u32 (z : Int)] 91) = W7 := ⟨_, rfl⟩
      have z1 : Below wx.heap.size wx W7 := by rw [← hW7]; exact (Below.refl _ _).alloc (Nat.le_refl _) _
      have z2 : Blk W7 wx.heap.size 91 #[.int .i64 y, .int .u32 (z : Int)] := by rw [← hW7]; exact Blk.new wx _ _
      have HR7 := hid (HRx.out.on HD.out HO.out z1)
      have HK7 := hid z2
      have c0 : W7.cell? ⟨wx.heap.size, 0, none⟩ = some (.int .i64 y) := z2.cell 0
      have c1 : W7.cell? ⟨wx.heap.size, 1, none⟩ = some (.int .u32 (z : Int)) := z2.cell 1
      rw [hW7]
      clear hW7 z1 z2 hix
      go_wp2_with fail
      refine (points_any (y, z) _).mono ?_
      obtain ⟨b, hb⟩ : ∃ b, points (y, z) = b := ⟨_, rfl⟩
      have HPt := hid hb
      rw [hb]
      rintro e w8 ⟨rfl, hb8⟩
      have HR8 := hid (HR7.out.on HD.out HO.out hb8)
      have hk8 := HK7.out.below hb8 HK7.out.lt
      have d0 : w8.cell? ⟨wx.heap.size, 0, none⟩ = some (.int .i64 y) := hk8.cell 0
      have d1 : w8.cell? ⟨wx.heap.size, 1, none⟩ = some (.int .u32 (z : Int)) := hk8.cell 1
      clear hb hb8 hk8 c0 c1
      cases b
      · have HN := hid (show RdAt Real PR S w0 w d p n m q F G P ob rb (j + 1) (j + 1) (rdTo (halN n) P.idx s (j + 1)).1 (rdTo (halN n) P.idx s (j + 1)).2 w8 from by
          rw [rdTo_no HY.out HPt.out]
          have h1 := HR8.out.later (Nat.le_succ j) (by omega)
          obtain ⟨F', G', h1, h2, h3⟩ := h1
          rw [← tk_skip HFn.out HY.out HPt.out] at h2
          exact ⟨F', G', h1, h2, h3⟩)
        go_wp2
        go_roundw
        case rel => exact ⟨j + 1, by omega, by go_num, HN.out⟩
        case measure => simp [intOf]; omega
      · obtain ⟨f, rfl⟩ : ∃ f : Nat, y = (f : Int) := ⟨y.toNat, by have := HPt.out; simp [points] at this; omega⟩
        obtain ⟨k1, k2, k3, _, _⟩ := rd_keeps HFn.out HHd.out HPd.out.up halN_two j (by omega)
        have HRd := hid (HR8.out.read HO.out HFn.out k1 HY.out HPt.out (by omega) (by omega))
        clear k1 k2 k3
        go_wp2_with fail
        refine HRd.out.mono ?_
        rintro e w9 ⟨A9, c9, rfl, hs9, hA9, hr9⟩
        have HS9 := hid hs9
        have HA9 := hid hA9
        have HR9 := hid hr9
        clear hs9 hA9 hr9
        go_wp2_with fail
        refine (takeIndex_any ⟨P.epoch, P.idx, tkTo P.pgs j⟩ ob j A9 c9 (indexB P.pgs j) _ HR9.out.box ⟨HLn.out.i, tkTo_len HLn.out.p j⟩ hlt HS9.out (indexB_byt _ _) HA9.out).mono ?_
        rintro e w10 ⟨rfl, hbx, hg⟩
        rw [tk_told HFn.out hlt] at hbx
        have HN := hid (show RdAt Real PR S w0 w d p n m q F G P ob rb (j + 1) (j + 1) (rdTo (halN n) P.idx s (j + 1)).1 (rdTo (halN n) P.idx s (j + 1)).2 w10 from by
          rw [rdTo_yes HY.out HPt.out]
          exact HR9.out.turn HD.out HO.out HOb.out.1 HPd.out.below.size HOb.out.2.2 hg hbx)
        clear hbx hg
        go_wp2
        go_roundw
        case rel => exact ⟨j + 1, by omega, by go_num, HN.out⟩
        case measure => simp [intOf]; omega
    · have hj7 : j = 7 := by omega
      subst hj7
      have hr7 := HRx.out
      have HGe := hid (show Calls Tryz.prog 64 #[.pointer (some ⟨p, 0, none⟩)] wx fun e w' => e = .returned (gv (n : Int) (halN n : Int)) ∧ Below wx.heap.size wx w' from by
        obtain ⟨F', G', h1, _⟩ := hr7
        exact HO.out.geo p d n _ G' _ h1.pr)
      clear hr7
      go_wp2_with fail
      refine HGe.out.mono ?_
      rintro e w8 ⟨rfl, hb8⟩
      have hr8 := HRx.out.on HD.out HO.out hb8
      have HR8 := hid hr8
      clear hb8
      go_wp2_with fail
      refine (sound_any ⟨P.epoch, P.idx, tkTo P.pgs 7⟩ ob 0 (halN n) (n : Int) 95 [] [] _ hr8.box ⟨HLn.out.i, tkTo_len HLn.out.p 7⟩ rfl (HSd.out 7)).mono ?_
      rintro e w9 ⟨rfl, hb9⟩
      have HR9 := hid (HR8.out.on HD.out HO.out hb9)
      have hbx := HR9.out.box
      have ePS : (⟨P.epoch, P.idx, tkTo P.pgs 7⟩ : PS) = P := PS.ext' rfl rfl (tkTo_all HLn.out.p)
      rw [ePS] at hbx
      have HBx := hid hbx
      have HTh := hid (show w9.there rb 0 (stL P).toArray.size from fun i hi => by
        obtain ⟨F', G', _, _, h3, _⟩ := HR9.out
        have hi2 : i < (stL (noPS 0)).length := by rw [stL_len (noPS_len 0)]; rw [List.size_toArray, stL_len HLn.out] at hi; exact hi
        refine ⟨?_, Blk.free h3 _⟩
        rw [Nat.zero_add, Blk.cell h3]
        simp only [List.getElem?_toArray]
        rw [List.getElem?_eq_getElem hi2]; rfl)
      have HSzS := hid (show (Tryz.prog.info? 95).map (·.size) = some (stL P).toArray.size from by rw [List.size_toArray]; exact size_of_state HLn.out)
      have hnew : Blk (w9.setCells rb 0 (stL P)) rb 95 (stL P).toArray := by
        obtain ⟨F', G', _, _, h3, _⟩ := HR9.out
        have h4 : Blk w9 rb 95 ([] ++ (stL (noPS 0) ++ [])).toArray := by rw [List.nil_append, List.append_nil]; exact h3
        have h5 := blk_setCells (stL P) (stL (noPS 0)) [] w9 (by rw [stL_len HLn.out, stL_len (noPS_len 0)]) h4
        rw [List.nil_append, List.append_nil] at h5
        exact h5
      have HFin := hid (show Stepped Real PR S w0 w d p (rdTo (halN n) P.idx s 7).1 n (m + (rdTo (halN n) P.idx s 7).2) (q + 7) F G (fun _ _ => True) (w9.setCells rb 0 (stL P)) from by
        obtain ⟨F', G', h1, h2, h3, h4, h5, h6, h7, h8⟩ := HR9.out
        have hg := only_setCells (only_refl w9 (some rb)) (stL P) 0
        have ho : Only (fun k => k = rb) w9 (w9.setCells rb 0 (stL P)) := ⟨hg.os, hg.tape, hg.output, hg.size, fun k hk hn => hg.block k hk (fun e => hn (by injection e))⟩
        exact ⟨F', G', h1.beside HD.out HO.out ho (fun k hk e => by subst e; exact h8 (.inl hk)) (fun k hk e => by subst e; exact h8 (.inr hk)) (fun k e => by rw [e]; have := HOb.out.2.1; have := HPd.out.below.size; omega), h4.trans ho (fun i hi => .inr (by rw [hi]; exact HOb.out.2.1)), h5, h6, trivial⟩)
      have HNew := hid hnew
      clear hr8 hb9 hbx hnew ePS
      go_wp2_with (first | (refine wpList_load_mid rfl 95 (.tmp 6) rfl ob 0 rfl (stL P) _ HBx.out.range Tryz.underlying95 rfl (size_of_state HLn.out) ?_) | (refine wpList_store_mid rfl 95 (.tmp 4) (.tmp 60) rfl rb 0 (stL P).toArray rfl rfl HTh.out HSzS.out (all_oneCell_toArray (stL_one _)) ?_))
      exact bodyPost_ret_by (results_row_tmp (p := 4) (u := 5) rfl _ _ rb 95 _ (0, 0) _ .nilIface rfl HNew.out rfl Tryz.underlying95 rfl HSzS.out) rfl ⟨rfl, HFin.out⟩
end
end Go.Proofs.YtkhdgacjgccnnaaGreatDoor
