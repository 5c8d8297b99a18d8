/- Package root: Bytes. -/
import Derived.Test.YthgdofcamjkdpaaDoorGRootC
import Derived.Laws.CopyOwn
namespace Go.Proofs.YthgdofcamjkdpaaDoor
open Go.RowKit

theorem Tryd.infoU8size : (Tryd.prog.info? 5).map (·.size) = some 1 := by kernel_rfl
/-- laid at the beginning, and a second time in the middle -/
theorem twice_eq (r : RSt) (h : r.refs.length ≤ 16) : ((I (laidB r) ++ (I (List.replicate 256 0)).drop (laidB r).length).take 128 ++ (I (laidB r) ++ (I (laidB r) ++ (I (List.replicate 256 0)).drop (laidB r).length).drop (128 + (laidB r).length))) = I (bytesOf r) := by
  have hl := laidB_len r
  obtain ⟨L, hL⟩ : ∃ L, (laidB r).length = L := ⟨_, rfl⟩
  have hi : (I (laidB r)).length = L := by rw [I_len, hL]
  have hz : (I (List.replicate 256 0)).drop L = I (List.replicate (256 - L) 0) := by
    unfold I; rw [← List.map_drop, List.drop_replicate]
  rw [hL, hz]
  have h1 : (I (laidB r) ++ I (List.replicate (256 - L) 0)).take 128 = I (halfB r) := by
    unfold halfB
    rw [List.take_append, hi, List.take_of_length_le (by omega), I_append, hL]
    congr 1
    unfold I; rw [← List.map_take, List.take_replicate]
    congr 2
    omega
  have h2 : (I (laidB r) ++ I (List.replicate (256 - L) 0)).drop (128 + L) = I (List.replicate (128 - L) 0) := by
    rw [List.drop_append, hi, List.drop_eq_nil_of_le (by omega), List.nil_append]
    unfold I; rw [← List.map_drop, List.drop_replicate]
    congr 2
    omega
  rw [h1, h2]
  unfold bytesOf
  rw [I_append]
  congr 1
  unfold halfB
  rw [I_append, hL]
theorem setRow_grownR {w : World} {g : Nat} (cs : Array Value) : w.grownBy (w.setRow g cs) (some g) := ⟨rfl, rfl, rfl, by simp [World.setRow], fun k _ hn => setRow_other w g k cs (fun e => hn (by rw [e]))⟩
/-- copy of bytes: only block g turns -/
theorem wpList_copyR {w : World} {ops : Array Oper} {rest : List Oper} {o : Oper} {a : Act} {Q : Exit → Act → World → Prop} (hgd : o.guard = none) (d s : Operand)
    (ho : o.op = .call { callee := .builtin .copy, args := #[d, s], argTypes := #[24, 24] }) (g off dLen dCap : Nat) (ad : Addr) (sLen sCap : Nat) (hd : a.eval d = .slice (some ⟨g, off, none⟩) dLen dCap) (hs : a.eval s = .slice (some ad) sLen sCap)
    (cur : List Value) (t : TypeId) (hg : w.heap[g]? = some (.cells cur.toArray t (0, 0))) (cs : List Value) (hn : cs.length = Nat.min sLen dLen)
    (hsrc : ∀ j v, cs[j]? = some v → w.cell? (ad.add j) = some v) (hfit : off + cs.length ≤ cur.length) (h1 : ∀ v ∈ cs, v.oneCell' = true)
    (h : ∀ w', w'.heap[g]? = some (.cells (cur.take off ++ (cs ++ cur.drop (off + cs.length))).toArray t (0, 0)) → w.grownBy w' (some g) → wpList Tryd.prog ops Q rest (a.put o.dst (goInt cs.length)) w') : wpList Tryd.prog ops Q (o :: rest) a w :=
  wpList_copy_own hgd d s _ _ ho 5 Tryd.underlying24 Tryd.infoU8size g off dLen dCap ad sLen sCap hd hs cur.toArray t hg cs hn hsrc (by simpa using hfit) h1 (h _ (by simpa using setRow_heap w g cur.toArray _ t (0, 0) hg) (by simpa using setRow_grownR _))
/-- what Bytes answers -/
def BytesOut (S : Nat → Addr) (w : World) (r : RSt) (e : Ending) (w' : World) : Prop :=
  ((r.code = 0 ∧ ∃ A c, e = .returned (.tuple #[.slice A 256 c, .nilIface]) ∧ Sl w' w'.heap.size A 256 c (bytesOf r) ∧ ∀ ad, A = some ad → w.heap.size ≤ ad.block) ∨
   (r.code ≠ 0 ∧ ∃ v, e = .returned (.tuple #[.slice none 0 0, v]) ∧ EV S r.code v)) ∧ Below w.heap.size w w'
set_option maxRecDepth 100000 in
set_option maxHeartbeats 2000000 in
theorem rootBytes_any (S : Nat → Addr) (r : RSt) (A : Option Addr) (n c : Nat) (w : World) (hS : Sent6 w S) (hr : Rf w w.heap.size A n c r.refs) (hs : Sums r.refs) (h0 : -9223372036854775808 ≤ r.epoch) (h1 : r.epoch ≤ 9223372036854775807) :
    Calls Tryd.prog 6 #[rtV r.epoch A n c] w (BytesOut S w r) := by
  obtain ⟨i0, hi, hz0, hz1, hz2⟩ := info_parts Tryd.info5
  have hb1 : Below w.heap.size w (w.alloc (.cells #[.int .i64 r.epoch, .slice A n c] 31)) := (Below.refl _ _).alloc (Nat.le_refl _) _
  have HB1 := hid hb1
  have HK1 := hid (Blk.new w 31 #[.int .i64 r.epoch, .slice A n c])
  have HR := hid hr
  have HS := hid hs
  have HCk := hid (check_any S r A n c _ (hS.on hb1) (hr.on hb1) h0 h1)
  have c0 := HK1.out.cell 0
  have c1 := HK1.out.cell 1
  simp at c0 c1
  clear hS hr hs hb1 h0 h1
  go_enter Tryd.func6, Tryd.ntmps6
  go_wp2_with fail
  refine HCk.out.mono ?_
  rintro e w1 ⟨⟨v, rfl, hv⟩, hb⟩
  have HB2 := hid (HB1.out.trans (hb.mono HB1.out.size))
  have HK2 := hid (HK1.out.below hb HK1.out.lt)
  clear hb c0 c1
  have c0 := HK2.out.cell 0
  have c1 := HK2.out.cell 1
  simp at c0 c1
  by_cases hc : r.code = 0
  · have HC := hid hc
    have hv2 : v = .nilIface := by rw [hc] at hv; exact hv.nil
    subst hv2
    clear hv hc
    go_wp2_with (at_make; refine wpList_make_full _ rfl _ _ 24 rfl w1.heap.size 5 i0 (.int .u8 0) 1 Tryd.underlying24 hi hz0 hz1 _ _ _ _ 256 rfl rfl rfl rfl ?b2 ?b3 ?b4 ?_)
    case b2 => rw [hz2]; omega
    case b3 => unfold maxLen; omega
    case b4 => exact Nat.le_refl _
    intro w2 hown hgrow
    have hbm : Below w1.heap.size w1 w2 := (Below.refl _ _).grown hgrow (Nat.le_refl _) (fun _ h => by cases h)
    obtain ⟨cur, hg1, hcs, htk⟩ : ∃ cur, w2.heap[w1.heap.size]? = some (.cells cur 5 (0, 0)) ∧ cur.size = 256 ∧ cur.toList = I (List.replicate 256 0) := by
      rcases hown.2 with ⟨hv, _⟩ | ⟨g', cap', cur, hv, _, hg1, _, _, hcs, ht⟩
      · cases hv
      · cases hv
        refine ⟨cur, hg1, by omega, ?_⟩
        rw [zeros, List.take_of_length_le (by rw [Array.length_toList]; omega)] at ht
        exact ht
    have HG1 := hid hg1
    have HC1 := hid hcs
    have HT1 := hid htk
    have HB3 := hid (HB2.out.trans (hbm.mono HB2.out.size))
    have HK3 := hid (HK2.out.below hbm HK2.out.lt)
    have HGn := hid (show w1.heap.size < w2.heap.size from (Array.getElem?_eq_some_iff.1 hg1).1)
    have HLd := hid (laid_any r A n c w2 (HR.out.on HB3.out) HC.out HS.out)
    clear hown hgrow hbm hg1 hcs htk c0 c1
    have c0 := HK3.out.cell 0
    have c1 := HK3.out.cell 1
    simp at c0 c1
    go_wp2_with fail
    refine HLd.out.mono ?_
    rintro e w3 hm
    obtain ⟨A3, n3, c3, rfl, hsl, hb, hn⟩ := hm.fresh
    have HL3 := hid hsl
    have HN3 := hid hn
    have HB4 := hid (HB3.out.trans (hb.mono HB3.out.size))
    have HG3 := hid (show w3.heap[w1.heap.size]? = some (.cells cur 5 (0, 0)) from (hb.block _ HGn.out).trans HG1.out)
    have hlen := laidB_len r
    have h16 := (RSt.fine HC.out).2.2.2
    have hn3 := hsl.len
    obtain ⟨ad, rfl⟩ : ∃ ad, A3 = some ad := by
      rcases A3 with _ | ad
      · have := hsl.nil rfl; have := hsl.cap; omega
      · exact ⟨ad, rfl⟩
    have HSrc := hid (show ∀ j v, (I (laidB r))[j]? = some v → w3.cell? (ad.add j) = some v from fun j v hj => by
      obtain ⟨x, hx, rfl⟩ := I_get' hj
      exact (hsl.at_ ad rfl (by omega)).2 j x hx)
    have HN := hid (show n3 = (laidB r).length ∧ 7 ≤ (laidB r).length ∧ (laidB r).length ≤ 103 by omega)
    have HAd := hid (show w2.heap.size ≤ ad.block from hn ad rfl)
    clear hm hsl hb hn hlen h16 hn3
    have HG3' := hid (show w3.heap[w1.heap.size]? = some (.cells (I (List.replicate 256 0)).toArray 5 (0, 0)) from by rw [← HT1.out, Array.toArray_toList]; exact HG3.out)
    have HZl := hid (show (I (List.replicate 256 0)).length = 256 by rw [I_len, List.length_replicate])
    obtain ⟨L, hL⟩ : ∃ L, I (laidB r) = L := ⟨_, rfl⟩
    have HLL := hid (show n3 = L.length ∧ 7 ≤ L.length ∧ L.length ≤ 103 from by rw [← hL, I_len]; exact HN.out)
    have HLe := hid (show (L ++ (I (List.replicate 256 0)).drop L.length).take 128 ++ (L ++ (L ++ (I (List.replicate 256 0)).drop L.length).drop (128 + L.length)) = I (bytesOf r) from by
      have := twice_eq r (RSt.fine HC.out).2.2.2
      rw [hL, ← I_len, hL] at this
      exact this)
    have HL1 := hid (show ∀ u ∈ L, u.oneCell' = true from by rw [← hL]; exact I_one)
    rw [hL] at HSrc
    clear hL
    go_wp2_with (refine wpList_copyR rfl _ _ rfl w1.heap.size 0 256 256 ad n3 c3 rfl rfl (I (List.replicate 256 0)) 5 HG3'.out L ?e1 HSrc.out ?e2 HL1.out ?_)
    case e1 => have := HLL.out; simp only [Nat.min_def]; split <;> omega
    case e2 => have := HLL.out; have := HZl.out; omega
    intro w4 hg4 hb4
    have hadn : ad.block < w3.heap.size := (HL3.out.at_ ad rfl (by have := HLL.out; omega)).1
    have HB5 := hid (show Below w.heap.size w w4 from HB4.out.grown hb4 HB4.out.size (fun k hk => by injection hk with hk; have := HB2.out.size; omega))
    have HG4 := hid (show w4.heap[w1.heap.size]? = some (.cells (L ++ (I (List.replicate 256 0)).drop L.length).toArray 5 (0, 0)) from by simpa using hg4)
    have HSr4 := hid (show ∀ j v, L[j]? = some v → w4.cell? (ad.add j) = some v from fun j v hj => hb4.cell (HSrc.out j v hj) (by rw [add_block]; simp; have := HAd.out; have := HGn.out; omega))
    clear hg4 hb4 hadn
    go_wp2_with (refine wpList_copyR rfl _ _ rfl w1.heap.size 128 128 128 ad n3 c3 rfl rfl (L ++ (I (List.replicate 256 0)).drop L.length) 5 HG4.out L ?e3 HSr4.out ?e4 HL1.out ?_)
    case e3 => have := HLL.out; simp only [Nat.min_def]; split <;> omega
    case e4 => have := HLL.out; have := HZl.out; rw [List.length_append, List.length_drop]; omega
    intro w5 hg5 hb5
    replace hg5 : w5.heap[w1.heap.size]? = some (.cells (I (bytesOf r)).toArray 5 (0, 0)) := by rw [← HLe.out]; exact hg5
    have HF := hid (show Sl w5 w5.heap.size (some ⟨w1.heap.size, 0, none⟩) 256 256 (bytesOf r) from by
      have hlt := (Array.getElem?_eq_some_iff.1 hg5).1
      refine ⟨bytesOf_len (RSt.fine HC.out).2.2.2, Nat.le_refl _, by unfold maxLen; omega, fun h => (by cases h), fun ad ha _ => ?_⟩
      cases ha
      refine ⟨hlt, fun j x hx => ?_⟩
      have e : (⟨w1.heap.size, 0, none⟩ : Addr).add j = ⟨w1.heap.size, j, none⟩ := by unfold Addr.add; split <;> simp_all
      rw [e, (show Blk w5 w1.heap.size 5 (I (bytesOf r)).toArray from hg5).cell j]
      simpa using I_get hx)
    have HB6 := hid (show Below w.heap.size w w5 from HB5.out.grown hb5 HB5.out.size (fun k hk => by injection hk with hk; have := HB2.out.size; omega))
    have HN1 := hid (show w.heap.size ≤ w1.heap.size from HB2.out.size)
    clear hg5 hb5
    go_wp2
    go_ret2
    exact ⟨.inl ⟨HC.out, _, _, rfl, HF.out, fun ad ha => by cases ha; exact HN1.out⟩, HB6.out⟩
  · have HV := hid hv
    have HC := hid hc
    obtain ⟨j, rfl⟩ := hv.is hc
    clear hv hc
    go_wp2
    go_ret2
    exact ⟨.inr ⟨HC.out, _, rfl, HV.out⟩, HB2.out⟩
end Go.Proofs.YthgdofcamjkdpaaDoor
