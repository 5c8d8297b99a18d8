/- Put together out of 1 texts. Package dev: New; its device keeps all calls. -/
import Derived.Test.YtkhdgacjgccnnaaGreatDoorGXaa
import Derived.IntWalk
import Derived.Test.YtkhdgacjgccnnaaGreatDoorGXai
import Derived.Laws.CopyOwn
import Derived.Test.YtkhdgacjgccnnaaGreatDoorGXaj
namespace Go.Proofs.YtkhdgacjgccnnaaGreatDoor
open Go.RowKit

theorem u64_and32 (n : Nat) (h : n < 4294967296) : bits .and .u64 (n : Int) 4294967295 = (n : Int) := by
  show IntKind.u64.wrap ((BitVec.ofInt 64 (n : Int) &&& BitVec.ofInt 64 4294967295).toNat : Int) = _
  have h1 : (BitVec.ofInt 64 4294967295).toNat = 2 ^ 32 - 1 := by decide
  rw [BitVec.toNat_and, BitVec.toNat_ofInt, h1, Nat.and_two_pow_sub_one_eq_mod, IntKind.wrap_u64]
  omega
set_option maxRecDepth 100000 in
set_option maxHeartbeats 1000000 in
theorem mul64_any (n : Nat) (w : World) (hn : n ≤ 100000) : Calls Tryz.prog 74 #[.int .u64 1, .int .u64 (n : Int)] w fun e w' => e = .returned (.tuple #[.int .u64 0, .int .u64 (n : Int)]) ∧ w = w' := by
  have a1 : bits .and .u64 1 4294967295 = 1 := by decide
  have a2 := u64_and32 n (by omega)
  have a3 : bits .and .u64 0 4294967295 = 0 := by decide
  have d1 : (n : Int) / 4294967296 = 0 := by omega
  go_enter Tryz.func74, Tryz.ntmps74
  go_wp2
  go_ret2
  exact ⟨rfl, rfl⟩
set_option maxRecDepth 100000 in
set_option maxHeartbeats 1000000 in
theorem mul_any (n : Nat) (w : World) (hn : n ≤ 100000) : Calls Tryz.prog 39 #[.int .u64 1, .int .u64 (n : Int)] w fun e w' => e = .returned (.tuple #[.int .u64 0, .int .u64 (n : Int)]) ∧ w = w' := by
  go_enter Tryz.func39, Tryz.ntmps39
  go_wp2_with fail
  refine (mul64_any n w hn).mono ?_
  rintro e w' ⟨rfl, rfl⟩
  go_wp2
  go_ret2
  exact ⟨rfl, rfl⟩
end Go.Proofs.YtkhdgacjgccnnaaGreatDoor
namespace Go.Proofs.YtkhdgacjgccnnaaGreatDoor
open Go.RowKit

theorem run_copy3 {w : World} (ty : TypeId) (g o dLen dCap : Nat) (a : Addr) (sLen sCap m : Nat) (cur : Array Value) (t : TypeId) (cs : List Value) (hg : w.heap[g]? = some (.cells cur t (0, 0))) (hm : Nat.min sLen dLen = m) (hn : cs.length = m * 3)
    (hsrc : ∀ j v, cs[j]? = some v → w.cell? (a.add j) = some v) (hfit : o + cs.length ≤ cur.size) (h1 : ∀ v ∈ cs, v.oneCell' = true) :
    (Builtin.copy_ #[67, 67] ty #[.slice (some ⟨g, o, none⟩) dLen dCap, .slice (some a) sLen sCap]).run Tryz.prog w = .ok (goInt m) (w.setRow g (cur.toList.take o ++ cs ++ cur.toList.drop (o + cs.length)).toArray) := by
  obtain ⟨i0, hi, hz0, hz1, hz2⟩ := info_parts Tryz.infoBlk
  have hl := run_loadCells_list (P := Tryz.prog) w a cs hsrc
  have hst := run_storeCells_at Tryz.prog g o t cs 0 cur w hg (by simpa using hfit) h1
  simp [Builtin.copy_, run_underlying Tryz.underlying67, Builtin.lenOf, Builtin.firstCells, sizeOf, typeInfo, hi, hz1, hm, ← hn, hl, hst]
theorem setRow_grown {w : World} {g : Nat} (cs : Array Value) : w.grownBy (w.setRow g cs) (some g) := ⟨rfl, rfl, rfl, by simp [World.setRow], fun k _ hn => setRow_other w g k cs (fun e => hn (by rw [e]))⟩
/-- behind it -/
def Copied (w : World) (g : Nat) (t : TypeId) (o : Nat) (cur : Array Value) (cs : List Value) (w' : World) : Prop := w'.heap[g]? = some (.cells (cur.toList.take o ++ cs ++ cur.toList.drop (o + cs.length)).toArray t (0, 0)) ∧ w.grownBy w' (some g)
theorem wpList_copy3 {w : World} {ops : Array Oper} {rest : List Oper} {o : Oper} {a : Act} {Q : Exit → Act → World → Prop} (hgd : o.guard = none) (d s : Operand) (ho : o.op = .call { callee := .builtin .copy, args := #[d, s], argTypes := #[67, 67] })
    (g off dLen dCap : Nat) (ad : Addr) (sLen sCap m : Nat) (hd : a.eval d = .slice (some ⟨g, off, none⟩) dLen dCap) (hs : a.eval s = .slice (some ad) sLen sCap) (cur : Array Value) (t : TypeId) (hg : w.heap[g]? = some (.cells cur t (0, 0))) (cs : List Value) (hm : Nat.min sLen dLen = m) (hn : cs.length = m * 3)
    (hsrc : ∀ j v, cs[j]? = some v → w.cell? (ad.add j) = some v) (hfit : off + cs.length ≤ cur.size) (h1 : ∀ v ∈ cs, v.oneCell' = true)
    (h : ∀ w', Copied w g t off cur cs w' → wpList Tryz.prog ops Q rest (a.put o.dst (goInt m)) w') : wpList Tryz.prog ops Q (o :: rest) a w := by
  refine wpList_plain hgd fun K hK => ?_
  have hrun := run_copy3 (w := w) o.type g off dLen dCap ad sLen sCap m cur t cs hg hm hn hsrc hfit h1
  unfold Oper.wp
  simp [execOp, ho, resolve, invoke, builtin, hd, hs, hrun, Result.andThen]
  exact hK _ _ (h _ ⟨by simpa using setRow_heap w g cur _ t (0, 0) hg, by simpa using setRow_grown _⟩)
theorem step_copy3 {ops : Array Oper} {o : Oper} {a : Act} {w : World} {K : Act → World → Prop} {Q : Exit → Act → World → Prop} {E : Prop} (hgd : o.guard = none) (d s : Operand) (ho : o.op = .call { callee := .builtin .copy, args := #[d, s], argTypes := #[67, 67] })
    (g off dLen dCap : Nat) (ad : Addr) (sLen sCap m : Nat) (hd : a.eval d = .slice (some ⟨g, off, none⟩) dLen dCap) (hs : a.eval s = .slice (some ad) sLen sCap) (cur : Array Value) (t : TypeId) (hg : w.heap[g]? = some (.cells cur t (0, 0))) (cs : List Value) (hm : Nat.min sLen dLen = m) (hn : cs.length = m * 3)
    (hsrc : ∀ j v, cs[j]? = some v → w.cell? (ad.add j) = some v) (hfit : off + cs.length ≤ cur.size) (h1 : ∀ v ∈ cs, v.oneCell' = true)
    (h : ∀ w', Copied w g t off cur cs w' → K (a.put o.dst (goInt m)) w') :
    if Region.wanted o (yielded ops a.tmps) = true then Oper.wp Tryz.prog o a w K Q else E := by
  have hw : Region.wanted o (yielded ops a.tmps) = true := by simp [Region.wanted, hgd]
  rw [if_pos hw]
  have hrun := run_copy3 (w := w) o.type g off dLen dCap ad sLen sCap m cur t cs hg hm hn hsrc hfit h1
  unfold Oper.wp
  simp [execOp, ho, resolve, invoke, builtin, hd, hs, hrun, Result.andThen]
  exact h _ ⟨by simpa using setRow_heap w g cur _ t (0, 0) hg, by simpa using setRow_grown _⟩
/-- more of the same -/
theorem copied_more {L : List Value} {x : BSt} {n k m : Nat} (hL : L.length = n * 3) (hk : L.take (k * 3) = cellsOf (List.replicate k x)) (hkm : k + m ≤ n) :
    (L.take (k * 3) ++ cellsOf (List.replicate m x) ++ L.drop (k * 3 + (cellsOf (List.replicate m x)).length)).length = n * 3 ∧ (L.take (k * 3) ++ cellsOf (List.replicate m x) ++ L.drop (k * 3 + (cellsOf (List.replicate m x)).length)).take ((k + m) * 3) = cellsOf (List.replicate (k + m) x) := by
  have hm : (cellsOf (List.replicate m x)).length = m * 3 := by rw [cellsOf_len, List.length_replicate]
  have hk' : (L.take (k * 3)).length = k * 3 := by rw [List.length_take]; omega
  refine ⟨by rw [List.length_append, List.length_append, List.length_drop, hm, hk', hL]; omega, ?_⟩
  rw [List.take_append_of_le_length (by rw [List.length_append, hm, hk']; omega), List.take_of_length_le (by rw [List.length_append, hm, hk']; omega), hk]
  unfold cellsOf
  rw [← List.flatMap_append, List.replicate_append_replicate]
end Go.Proofs.YtkhdgacjgccnnaaGreatDoor
namespace Go.Proofs.YtkhdgacjgccnnaaGreatDoor
open Go.RowKit Go.Maps

set_option maxRecDepth 100000 in
set_option maxHeartbeats 2000000 in
theorem repeat_any (g n : Nat) (x : BSt) (w : World) (h : Blk w g 66 (cells3 x).toArray) (h0 : 0 < n) (hn : n ≤ 6000) :
    Calls Tryz.prog 23 #[.slice (some ⟨g, 0, none⟩) 1 1, .int .i64 (n : Int)] w fun e w' => ∃ g', e = .returned (.slice (some ⟨g', 0, none⟩) n n) ∧ w'.ownsRow 0 66 3 (.slice (some ⟨g', 0, none⟩) n n) n (cellsOf (List.replicate n x)) ∧ Below w.heap.size w w' ∧ w.heap.size ≤ g' := by
  obtain ⟨i0, hi, hz0, hz1, hz2⟩ := info_parts Tryz.infoBlk
  have HB := hid h
  have hn1 : ¬ (n : Int) < 0 := by omega
  have hnU : IntKind.u64.wrap (n : Int) = (n : Int) := by rw [IntKind.wrap_u64]; omega
  have hnI : IntKind.i64.wrap (n : Int) = (n : Int) := by rw [IntKind.wrap_i64]; omega
  have hgl : g < w.heap.size := h.lt
  clear h
  go_enter Tryz.func23, Tryz.ntmps23
  go_wp2_with fail
  refine (mul_any n w (by omega)).mono ?_
  rintro e w' ⟨rfl, rfl⟩
  go_wp2_with (at_make; refine wpList_make_full _ rfl _ _ 67 rfl w.heap.size 66 i0 (.agg #[.string ⟨#[]⟩, .int .i8 0, .bool false]) 3 Tryz.underlying67 hi hz0 hz1 _ _ _ _ n rfl rfl rfl rfl ?b2 ?b3 ?b4 ?_)
  case b2 => rw [hz2]; omega
  case b3 => unfold maxLen; omega
  case b4 => exact Nat.le_refl _
  intro w1 hown hgrow
  obtain ⟨cur, hg1, hcs⟩ : ∃ cur, w1.heap[w.heap.size]? = some (.cells cur 66 (0, 0)) ∧ cur.size = n * 3 := by
    rcases hown.2 with ⟨hv, _⟩ | ⟨g', cap', cur, hv, _, hg1, _, _, hcs, _⟩
    · cases hv
    · cases hv
      exact ⟨cur, hg1, hcs⟩
  have hB1 : Below w.heap.size w w1 := (Below.refl _ _).grown hgrow (Nat.le_refl _) (fun _ h => by cases h)
  have hb1 := HB.out.on hB1
  have HG1 := hid hg1
  have HC1 := hid hcs
  have HB1 := hid hB1
  have HS1 := hid (show ∀ j v, (cells3 x)[j]? = some v → w1.cell? ((⟨g, 0, none⟩ : Addr).add j) = some v from fun j v hv => by
    have e : (⟨g, 0, none⟩ : Addr).add j = ⟨g, j, none⟩ := by unfold Addr.add; split <;> simp_all
    rw [e, hb1.cell j]
    simpa using hv)
  have hmin1 : Nat.min 1 n = 1 := by simp [Nat.min_def]; omega
  have hfit1 : 0 + (cells3 x).length ≤ cur.size := by rw [hcs]; simp [cells3]; omega
  have hone : ∀ v ∈ cells3 x, v.oneCell' = true := fun v hv => cellsOf_one [x] v (by simpa [cellsOf] using hv)
  clear hown hgrow hg1 hcs hB1 hb1
  go_wp2_with (refine wpList_copy3 rfl _ _ rfl w.heap.size 0 n n ⟨g, 0, none⟩ 1 1 1 rfl rfl cur 66 HG1.out (cells3 x) hmin1 rfl HS1.out hfit1 hone ?_)
  intro w2 hc2
  have HR := hid (show ∃ L : List Value, w2.heap[w.heap.size]? = some (.cells L.toArray 66 (0, 0)) ∧ L.length = n * 3 ∧ L.take (1 * 3) = cellsOf (List.replicate 1 x) ∧ Below w.heap.size w w2 by
    obtain ⟨h1, h2⟩ := hc2
    have hc := copied_more (L := cur.toList) (x := x) (n := n) (k := 0) (m := 1) (by simpa using HC1.out) rfl (by omega)
    have e : cellsOf (List.replicate 1 x) = cells3 x := by simp [cellsOf]
    rw [e] at hc
    refine ⟨_, h1, hc.1, by rw [e]; exact hc.2.trans (by simp), HB1.out.grown h2 HB1.out.size (fun k hk => by injection hk with hk; omega)⟩)
  clear hc2
  go_wp2
  go_loopw [8] (fun i wr => ∃ (k : Nat) (L : List Value), 1 ≤ k ∧ k ≤ n ∧ i = .int .i64 (k : Int) ∧ wr.heap[w.heap.size]? = some (.cells L.toArray 66 (0, 0)) ∧ L.length = n * 3 ∧ L.take (k * 3) = cellsOf (List.replicate k x) ∧ Below w.heap.size w wr) (fun i _ => n - (intOf i).toNat)
  case atStart =>
    obtain ⟨L, h1, h2, h3, h4⟩ := HR.out
    exact ⟨1, L, Nat.le_refl _, h0, rfl, h1, h2, h3, h4⟩
  case round =>
    obtain ⟨k, L, hk1, hkn, rfl, hL, hLn, hLk, hb⟩ := hrel
    have HL := hid hL
    have HLN := hid hLn
    have HLK := hid hLk
    have HBr := hid hb
    clear hL hLn hLk hb
    by_cases hlt : k < n
    · obtain ⟨m, hm⟩ : ∃ m, Nat.min k (n - k) = m := ⟨_, rfl⟩
      have hm1 : 1 ≤ m := by rw [← hm]; show 1 ≤ min k (n - k); omega
      have hm2 : m ≤ k ∧ m ≤ n - k := by rw [← hm]; show min k (n - k) ≤ k ∧ min k (n - k) ≤ n - k; omega
      have HM := hid hm
      have hfit : k * 3 + (cellsOf (List.replicate m x)).length ≤ L.toArray.size := by
        rw [cellsOf_len, List.length_replicate]
        show _ ≤ L.length
        rw [HLN.out]; omega
      have hlen : (cellsOf (List.replicate m x)).length = m * 3 := by rw [cellsOf_len, List.length_replicate]
      have hone' := cellsOf_one (List.replicate m x)
      have HSrc := hid (show ∀ j v, (cellsOf (List.replicate m x))[j]? = some v → wr.drew.cell? ((⟨w.heap.size, 0, none⟩ : Addr).add j) = some v from fun j v hv => by
        have e : (⟨w.heap.size, 0, none⟩ : Addr).add j = ⟨w.heap.size, j, none⟩ := by unfold Addr.add; split <;> simp_all
        have hj : j < m * 3 := by have := (List.getElem?_eq_some_iff.1 hv).1; omega
        rw [e]
        show wr.cell? _ = _
        rw [Blk.cell (show Blk wr w.heap.size 66 L.toArray from HL.out) j]
        rw [List.getElem?_toArray]
        have e1 : L[j]? = (L.take (k * 3))[j]? := by rw [List.getElem?_take_of_lt (by omega)]
        rw [e1, HLK.out, show k = m + (k - m) by omega, ← List.replicate_append_replicate]
        have e2 : cellsOf (List.replicate m x ++ List.replicate (k - m) x) = cellsOf (List.replicate m x) ++ cellsOf (List.replicate (k - m) x) := by unfold cellsOf; rw [List.flatMap_append]
        rw [e2, List.getElem?_append_left (by omega)]
        exact hv)
      have HLd := hid (show wr.drew.heap[w.heap.size]? = some (.cells L.toArray 66 (0, 0)) from HL.out)
      have hw1 : IntKind.i64.wrap ((k : Int) + m) = (k : Int) + m := by rw [IntKind.wrap_i64]; omega
      have hne : ¬ n = k := by omega
      clear hm
      go_wp2_with fail
      go_region_law (refine step_copy3 rfl (.tmp 41) (.tmp 44) rfl w.heap.size (k * 3) (n - k) (n - k) ⟨w.heap.size, 0, none⟩ k n m (by simp [Act.eval, Act.put]) (by simp [Act.eval, Act.put]) L.toArray 66 HLd.out (cellsOf (List.replicate m x)) HM.out hlen HSrc.out hfit hone' ?_; intro w4 hc4)
      have HN4 := hid (show ∃ L' : List Value, w4.heap[w.heap.size]? = some (.cells L'.toArray 66 (0, 0)) ∧ L'.length = n * 3 ∧ L'.take ((k + m) * 3) = cellsOf (List.replicate (k + m) x) ∧ Below w.heap.size w w4 by
        obtain ⟨h1, h2⟩ := hc4
        obtain ⟨h3, h4⟩ := copied_more (x := x) (m := m) HLN.out HLK.out (by omega)
        exact ⟨_, h1, h3, h4, HBr.out.grown ⟨h2.os, h2.tape, h2.output, h2.size, h2.block⟩ HBr.out.size (fun k hk => by injection hk with hk; omega)⟩)
      clear hc4
      simp [Act.put]
      go_wp2
      go_roundw
      case rel =>
        obtain ⟨L', h1, h2, h3, h4⟩ := HN4.out
        exact ⟨k + m, L', by omega, by omega, by go_num, h1, h2, h3, h4⟩
      case measure => simp [intOf]; omega
    · obtain rfl : k = n := by omega
      have HF := hid (show wr.ownsRow 0 66 3 (.slice (some ⟨w.heap.size, 0, none⟩) k k) k (cellsOf (List.replicate k x)) from ⟨by rw [cellsOf_len, List.length_replicate], .inr ⟨w.heap.size, k, L.toArray, rfl, Nat.zero_le _, HL.out, Nat.le_refl _, by unfold maxLen; omega, by simpa using HLN.out, by simpa using HLK.out⟩⟩)
      go_wp2
      go_ret
      exact ⟨w.heap.size, rfl, HF.out, HBr.out, Nat.le_refl _⟩
end Go.Proofs.YtkhdgacjgccnnaaGreatDoor
namespace Go.Proofs.YtkhdgacjgccnnaaGreatDoor
open Go.RowKit Go.Maps

theorem blank_pend (n : Nat) : Pend (.map []) (List.replicate n blank) := pend_none (fun x hx => by rw [List.eq_of_mem_replicate hx]; rfl)
set_option maxRecDepth 100000 in
set_option maxHeartbeats 2000000 in
theorem dvNew_any (n : Nat) (w : World) (h0 : 0 < n) (hn : n ≤ 6000) :
    Calls Tryz.prog 12 #[.int .i64 (n : Int)] w fun e w' => ∃ p F, e = .returned (.tuple #[.pointer (some ⟨p, 0, none⟩), .nilIface]) ∧ DvReal w' p (DSt.new n) F ∧ Below w.heap.size w w' ∧ ∀ k, F k → w.heap.size ≤ k := by
  obtain ⟨i0, hi, hz0, hz1, hz2⟩ := info_parts Tryz.info5
  have hmm := @run_makeMap Tryz.prog
  have hn1 : ¬ (n : Int) < 1 := by omega
  have hn2 : ¬ 6000 < (n : Int) := by omega
  go_enter Tryz.func12, Tryz.ntmps12
  go_wp2_with (at_make; refine wpList_make_full _ rfl _ _ 29 rfl w.heap.size 5 i0 (.int .u8 0) 1 Tryz.underlying29 hi hz0 hz1 _ _ _ _ 256 rfl rfl rfl rfl ?b2 ?b3 ?b4 ?_)
  case b3 => unfold maxLen; omega
  intro w1 hown hgrow
  have hO : Own w1 w.heap.size (.slice (some ⟨w.heap.size, 0, none⟩) 256 256) (List.replicate 256 0) := by
    unfold Own
    rw [List.length_replicate, ← zeros 256]
    exact hown
  have hs := hO.form
  obtain ⟨A', c', hv, hs, _⟩ := hs
  rw [List.length_replicate] at hv hs
  cases hv
  have hq : (convert 29 9 (.slice (some ⟨w.heap.size, 0, none⟩) 256 256)).run Tryz.prog w1 = .ok (.string (strOfNums (List.replicate 256 0))) w1 := conv_any hs
  have HB1 := hid (show Below w.heap.size w w1 from (Below.refl _ _).grown hgrow (Nat.le_refl _) (fun _ h => by cases h))
  obtain ⟨Z, hZ⟩ : ∃ Z, strOfNums (List.replicate 256 0) = Z := ⟨_, rfl⟩
  rw [hZ] at hq
  have HZ := hid hZ
  clear hown hgrow hO hs hZ
  go_wp2_with fail
  have HBk := hid (show Blk ((w1.alloc (.cells #[.string Z, .int .i8 0, .bool false] 66)).alloc (.cells #[.string Z, .int .i8 0, .bool false] 66)) (w1.heap.size + 1) 66 (cells3 blank).toArray by
    have h := Blk.new (w1.alloc (.cells #[.string Z, .int .i8 0, .bool false] 66)) 66 #[.string Z, .int .i8 0, .bool false]
    have e : (cells3 blank).toArray = #[.string Z, .int .i8 0, .bool false] := by
      show [Value.string (strOfNums (List.replicate 256 0)), .int .i8 0, .bool false].toArray = _
      rw [HZ.out]
    rw [e]
    simpa using h)
  refine (repeat_any (w1.heap.size + 1) n blank _ HBk.out h0 hn).mono ?_
  rintro e w2 ⟨g', rfl, hrow, hb2, hg2⟩
  have HRow := hid hrow
  have HB2 := hid hb2
  have hgl : g' < w2.heap.size := (hrow.lt g' rfl).2
  have hgw : w.heap.size ≤ g' := by have := HB1.out.size; have : w1.heap.size + 1 + 1 ≤ g' := (by simpa using hg2); omega
  have hw2 : w.heap.size ≤ w2.heap.size := by have := HB1.out.size; have : w1.heap.size + 1 + 1 ≤ w2.heap.size := (by simpa using hb2.size); omega
  have HE := hid (show ∃ p F, (Value.pointer (some ⟨w2.heap.size + 1, 0, none⟩)) = .pointer (some ⟨p, 0, none⟩) ∧ DvReal ((w2.alloc (.map #[] 0)).alloc (.cells #[.slice (some ⟨g', 0, none⟩) n n, .map (some w2.heap.size), .int .i64 0, .int .i64 0, .bool false] 71)) p (DSt.new n) F ∧ Below w.heap.size w ((w2.alloc (.map #[] 0)).alloc (.cells #[.slice (some ⟨g', 0, none⟩) n n, .map (some w2.heap.size), .int .i64 0, .int .i64 0, .bool false] 71)) ∧ ∀ k, F k → w.heap.size ≤ k by
    have hlen : (DSt.new n).blks.length = n := List.length_replicate
    have hbel : Below w.heap.size w w2 := HB1.out.trans ((((Below.refl w.heap.size w1).alloc HB1.out.size _).alloc (by simp; have := HB1.out.size; omega) _).trans (hb2.mono (by simp; have := HB1.out.size; omega)))
    refine ⟨w2.heap.size + 1, fun k => k = w2.heap.size + 1 ∨ k = g' ∨ k = w2.heap.size, rfl, ⟨⟨w2.heap.size + 1, g', n, w2.heap.size⟩, .map [], 0, rfl, ⟨?_, ?_, ?_, ⟨by show w2.heap.size + 1 ≠ g'; omega, by show w2.heap.size + 1 ≠ w2.heap.size; omega, by show g' ≠ w2.heap.size; omega⟩, blank_pend n, fun _ => rfl, fun x hx => ?_⟩, fun k hk => ?_, fun k hk => ?_⟩, (hbel.alloc hw2 _).alloc (by simp; omega) _, fun k hk => ?_⟩
    · show Blk _ (w2.heap.size + 1) _ (DB.cells ⟨w2.heap.size + 1, g', n, w2.heap.size⟩ (DSt.new n).blks.length 0 0 false)
      rw [hlen]
      have := Blk.new (w2.alloc (.map #[] 0)) 71 (DB.cells ⟨w2.heap.size + 1, g', n, w2.heap.size⟩ n 0 0 false)
      simpa [DB.cells] using this
    · show World.ownsRow _ 0 _ 3 (.slice (some ⟨g', 0, none⟩) (DSt.new n).blks.length n) (DSt.new n).blks.length (cellsOf (List.replicate n blank))
      rw [hlen]
      exact (HRow.out.alloc _).alloc _
    · exact (World.ownsMap_made w2 Tryz.prog 3 blkR).alloc _
    · rw [List.eq_of_mem_replicate hx]; intro h; cases h
    · simpa [DB.all] using hk
    · simp only [World.size_alloc]
      rcases hk with rfl | rfl | rfl <;> omega
    · rcases hk with rfl | rfl | rfl <;> omega)
  clear hrow hb2 hg2
  go_wp2
  go_ret2
  obtain ⟨q, G, e1, e2, e3, e4⟩ := HE.out
  exact ⟨q, G, by rw [← e1]; rfl, e2, e3, e4⟩
set_option maxRecDepth 100000 in
set_option maxHeartbeats 1000000 in
theorem dvNew_bad (S : Nat → Addr) (n : Int) (w : World) (hS : Sent5 w S) (hn : n < 1 ∨ 6000 < n) :
    Calls Tryz.prog 12 #[.int .i64 n] w fun e w' => (∃ v, EV S 103 v ∧ e = .returned (.tuple #[.pointer none, v])) ∧ Below w.heap.size w w' := by
  have hc : w.cell? ⟨0, 0, none⟩ = some (.iface 261 (.pointer (some (S 2)))) := hS 2 (by decide)
  rcases hn with hn | hn
  · go_enter Tryz.func12, Tryz.ntmps12
    go_wp2
    go_region
    all_goals
      go_wp2
      go_ret2
      exact ⟨⟨_, EV.err 2 (by decide), rfl⟩, (Below.refl _ _).drew⟩
  · have h1 : ¬ n < 1 := by omega
    go_enter Tryz.func12, Tryz.ntmps12
    go_wp2
    go_region
    all_goals
      go_wp2
      go_ret2
      exact ⟨⟨_, EV.err 2 (by decide), rfl⟩, (Below.refl _ _).drew⟩
end Go.Proofs.YtkhdgacjgccnnaaGreatDoor
namespace Go.Proofs.YtkhdgacjgccnnaaGreatDoor
open Go.RowKit

theorem dvOk : DevOk DvReal where
  kept := fun h hk => h.kept hk
  lt := fun h => h.lt
  bad := fun S n w hS hn => dvNew_bad S n w hS hn
  new := fun n w h0 hn => dvNew_any n w h0 hn
  read := fun S p s F i w hS h hok => dvRead_any S p s F i w hS h hok
  write := fun S p s F i A n c l w hS h hok hs hA _ _ => dvWrite_any S p s F i A n c l w hS h hok hs hA
  flush := fun S p s F w hS h hok => dvFlush_any S p s F w hS h hok
  blocks := fun p s F w h _ => dvBlocks_any p s F w h
end Go.Proofs.YtkhdgacjgccnnaaGreatDoor
