/- Put together out of 4 texts. Package root: firstNum. -/
import Derived.Test.YtajcfhhnmjcmjaaGreatDoorGXaf
import Derived.Laws.CopyOwn
namespace Go.Proofs.YtajcfhhnmjcmjaaGreatDoor
open Go.RowKit

theorem of_i64 (a : Nat) (ha : a < 9223372036854775808) : (BitVec.ofInt 64 (a : Int)).toNat = a := of_u64 a (by omega)
theorem or_upI (u c k : Nat) (hu : u < 256 ^ k) (hc : u + c * 256 ^ k < 9223372036854775808) : bits .or .i64 (u : Int) ((c * 256 ^ k : Nat) : Int) = ((u + c * 256 ^ k : Nat) : Int) := by
  show IntKind.i64.wrap ((BitVec.ofInt 64 (u : Int) ||| BitVec.ofInt 64 ((c * 256 ^ k : Nat) : Int)).toNat : Int) = _
  rw [BitVec.toNat_or, of_i64 u (by omega), of_i64 _ (by omega), IntKind.wrap_i64]
  have e : (256 : Nat) ^ k = 2 ^ (8 * k) := by rw [Nat.pow_mul]
  have : u ||| c * 256 ^ k = c * 256 ^ k + u := by
    rw [Nat.or_comm, e, Nat.mul_comm c]
    exact (Nat.two_pow_add_eq_or_of_lt (by rw [← e]; exact hu) c).symm
  rw [this]; omega
theorem pow_le6 {k : Nat} (h : k ≤ 5) : (256 : Nat) ^ k ≤ 1099511627776 := by
  have : (256 : Nat) ^ k ≤ 256 ^ 5 := Nat.pow_le_pow_right (by omega) h
  have e : (256 : Nat) ^ 5 = 1099511627776 := by decide
  omega
theorem numOf_next {l : List Int} {k : Nat} {x : Nat} (h : l[k]? = some (x : Int)) : numOf (l.take (k + 1)) = numOf (l.take k) + x * 256 ^ k := by
  have hk : k < l.length := (List.getElem?_eq_some_iff.1 h).1
  rw [take_next h, numOf_snoc, List.length_take, Nat.min_eq_left (by omega), Int.toNat_natCast, Nat.mul_comm]
set_option maxRecDepth 100000 in
set_option maxHeartbeats 2000000 in
theorem firstNum_any (B : Nat) (A : Option Addr) (n c size : Nat) (z : Int) (l : List Int) (w : World) (hz : z = (size : Int)) (h : Sl w B A n c l) (hy : Byt l) (hs : size ≤ 6) (hn : size ≤ n) :
    Calls Tryz.prog 165 #[.slice A n c, .int .i64 z] w fun e w' => (∃ A', e = .returned (.tuple #[.int .i64 ((numOf (l.take size) : Nat) : Int), .slice A' (n - size) (c - size)]) ∧ Sl w B A' (n - size) (c - size) (l.drop size)) ∧ ∃ q, w' = w.drewN q := by
  subst hz
  have HS := hid h
  have HY := hid hy
  have hcap := h.cap
  have hmx := h.max
  have hlen := h.len
  have HC := hid (h.cut (k := size) hn)
  clear h hy
  unfold maxLen at hmx
  go_enter Tryz.func165, Tryz.ntmps165
  go_wp2
  go_loopw [6, 13] (fun v i wr => ∃ k : Nat, k ≤ size ∧ i = .int .i64 (k : Int) ∧ v = .int .i64 ((numOf (l.take k) : Nat) : Int) ∧ wr = w) (fun _ i _ => size - (intOf i).toNat)
  case atStart => exact ⟨0, Nat.zero_le _, rfl, rfl, rfl⟩
  case round =>
    obtain ⟨k, hk, rfl, rfl, rfl⟩ := hrel
    by_cases hlt : k < size
    · obtain ⟨ad, x, rfl, hbl, hx, hcx⟩ := HS.out.get (k := k) (by omega)
      have hv := HY.out.at_ hx
      obtain ⟨xn, rfl⟩ : ∃ xn : Nat, x = (xn : Int) := ⟨x.toNat, by omega⟩
      have HNx := hid (numOf_next hx)
      have hN := numOf_lt (HY.out.take k)
      rw [List.length_take, Nat.min_eq_left (by omega)] at hN
      obtain ⟨u, hu⟩ : ∃ u, numOf (l.take k) = u := ⟨_, rfl⟩
      rw [hu] at HNx hN ⊢
      have hp := pow_le6 (k := k) (by omega)
      have hprod : xn * 256 ^ k ≤ 255 * 1099511627776 := Nat.mul_le_mul (by omega) hp
      have HOr := hid (or_upI u xn k hN (by omega))
      have hxi : (xn : Int) ≤ 255 := by omega
      have hk5 : (k : Int) ≤ 5 := by omega
      have hks : (k : Int) < size := by omega
      have hs6 : (size : Int) ≤ 6 := by omega
      have HR := hid (show bits .or .i64 (u : Int) (wrap64 ((xn : Int) * 2 ^ (8 * k))) = ((numOf (l.take (k + 1)) : Nat) : Int) by
        have e : ((xn : Int) * 2 ^ (8 * k)) = ((xn * 256 ^ k : Nat) : Int) := by
          rw [show (256 : Nat) ^ k = 2 ^ (8 * k) by rw [Nat.pow_mul]]
          simp
        have e2 : wrap64 ((xn * 256 ^ k : Nat) : Int) = ((xn * 256 ^ k : Nat) : Int) := by unfold wrap64; omega
        rw [e, e2, HOr.out, HNx.out])
      clear hN hp hprod hx hv hbl HC HOr
      go_wp2
      exact ⟨⟨k + 1, by omega, by go_num, by rw [HR.out], trivial⟩, by simp [intOf]; omega⟩
    · obtain rfl : k = size := by omega
      have hnlt : decide (k < k) = false := by simp
      have hkc : (k : Int) ≤ n := by omega
      have hnc : (n : Int) ≤ c := by omega
      have hc63 : (c : Int) ≤ 9223372036854775807 := by omega
      go_wp2_with fail
      go_quiet (fail)
      generalize (if c = k then A else A.map (fun x => x.add k)) = A' at *
      go_wp2
      go_ret2
      exact ⟨⟨A', rfl, HC.out⟩, _, rfl⟩
/- bytes.Equal -/
theorem strOfNums_inj {l m : List Int} (hl : Byt l) (hm : Byt m) (h : strOfNums l = strOfNums m) : l = m := by
  have e : ∀ l : List Int, Byt l → str (strOfNums l) = l := by
    intro l hl
    simp only [str, strOfNums]
    rw [List.map_map]
    conv => rhs; rw [← List.map_id l]
    apply List.map_congr_left
    intro x hx
    have := hl x hx
    simp
    omega
  rw [← e l hl, ← e m hm, h]
set_option maxRecDepth 100000 in
set_option maxHeartbeats 2000000 in
theorem bytesEqual_any (A A' : Option Addr) (n c n' c' : Nat) (l m : List Int) (B B' : Nat) (w : World) (h : Sl w B A n c l) (h' : Sl w B' A' n' c' m) (hl : Byt l) (hm : Byt m) :
    Calls Tryz.prog 139 #[.slice A n c, .slice A' n' c'] w (Quiet w (.bool (sameB l m))) := by
  have k1 := conv_any h
  have k2 := conv_any h'
  have HE := hid (show ((strOfNums l).toList == (strOfNums m).toList) = sameB l m by
    unfold sameB
    by_cases e : l = m
    · subst e; rw [beq_self_eq_true]; simp
    · have hne : (strOfNums l).toList ≠ (strOfNums m).toList := fun h => e (strOfNums_inj hl hm (by
        rw [ByteArray.toList_eq, ByteArray.toList_eq] at h
        exact Go.WideShapes.bytes_inj h))
      rw [beq_eq_false_iff_ne.2 hne]; simp [e])
  clear h h' hl hm
  generalize strOfNums l = s at *
  generalize strOfNums m = t at *
  generalize sameB l m = b at *
  go_enter Tryz.func139, Tryz.ntmps139
  go_wp2
  go_ret
  exact ⟨by rw [← HE.out]; rfl, 0, rfl⟩
end Go.Proofs.YtajcfhhnmjcmjaaGreatDoor
namespace Go.Proofs.YtajcfhhnmjcmjaaGreatDoor
open Go.RowKit

theorem Tryz.infoU8size : (Tryz.prog.info? 5).map (·.size) = some 1 := by kernel_rfl
/-- laid at the beginning, and a second time in the middle -/
theorem twice_eq (r : RSt) (h : r.refs.length ≤ 16) : ((I (laidB r) ++ (I (List.replicate 256 0)).drop (laidB r).length).take 128 ++ (I (laidB r) ++ (I (laidB r) ++ (I (List.replicate 256 0)).drop (laidB r).length).drop (128 + (laidB r).length))) = I (bytesOf r) := by
  have hl := laidB_len r
  obtain ⟨L, hL⟩ : ∃ L, (laidB r).length = L := ⟨_, rfl⟩
  have hi : (I (laidB r)).length = L := by rw [I_len, hL]
  have hz : (I (List.replicate 256 0)).drop L = I (List.replicate (256 - L) 0) := by
    unfold I; rw [← List.map_drop, List.drop_replicate]
  rw [hL, hz]
  have h1 : (I (laidB r) ++ I (List.replicate (256 - L) 0)).take 128 = I (halfB r) := by
    unfold halfB
    rw [List.take_append, hi, List.take_of_length_le (by omega), I_append, hL]
    congr 1
    unfold I; rw [← List.map_take, List.take_replicate]
    congr 2
    omega
  have h2 : (I (laidB r) ++ I (List.replicate (256 - L) 0)).drop (128 + L) = I (List.replicate (128 - L) 0) := by
    rw [List.drop_append, hi, List.drop_eq_nil_of_le (by omega), List.nil_append]
    unfold I; rw [← List.map_drop, List.drop_replicate]
    congr 2
    omega
  rw [h1, h2]
  unfold bytesOf
  rw [I_append]
  congr 1
  unfold halfB
  rw [I_append, hL]
theorem setRow_grownR {w : World} {g : Nat} (cs : Array Value) : w.grownBy (w.setRow g cs) (some g) := ⟨rfl, rfl, rfl, by simp [World.setRow], fun k _ hn => setRow_other w g k cs (fun e => hn (by rw [e]))⟩
/-- copy of bytes: only block g turns -/
theorem wpList_copyR {w : World} {ops : Array Oper} {rest : List Oper} {o : Oper} {a : Act} {Q : Exit → Act → World → Prop} (hgd : o.guard = none) (d s : Operand)
    (ho : o.op = .call { callee := .builtin .copy, args := #[d, s], argTypes := #[29, 29] }) (g off dLen dCap : Nat) (ad : Addr) (sLen sCap : Nat) (hd : a.eval d = .slice (some ⟨g, off, none⟩) dLen dCap) (hs : a.eval s = .slice (some ad) sLen sCap)
    (cur : List Value) (t : TypeId) (hg : w.heap[g]? = some (.cells cur.toArray t (0, 0))) (cs : List Value) (hn : cs.length = Nat.min sLen dLen)
    (hsrc : ∀ j v, cs[j]? = some v → w.cell? (ad.add j) = some v) (hfit : off + cs.length ≤ cur.length) (h1 : ∀ v ∈ cs, v.oneCell' = true)
    (h : ∀ w', w'.heap[g]? = some (.cells (cur.take off ++ (cs ++ cur.drop (off + cs.length))).toArray t (0, 0)) → w.grownBy w' (some g) → wpList Tryz.prog ops Q rest (a.put o.dst (goInt cs.length)) w') : wpList Tryz.prog ops Q (o :: rest) a w :=
  wpList_copy_own hgd d s _ _ ho 5 Tryz.underlying29 Tryz.infoU8size g off dLen dCap ad sLen sCap hd hs cur.toArray t hg cs hn hsrc (by simpa using hfit) h1 (h _ (by simpa using setRow_heap w g cur.toArray _ t (0, 0) hg) (by simpa using setRow_grownR _))
/-- what Bytes answers -/
def BytesOut (S : Nat → Addr) (w : World) (r : RSt) (e : Ending) (w' : World) : Prop :=
  ((r.code = 0 ∧ ∃ A c, e = .returned (.tuple #[.slice A 256 c, .nilIface]) ∧ Sl w' w'.heap.size A 256 c (bytesOf r) ∧ ∀ ad, A = some ad → w.heap.size ≤ ad.block) ∨
   (r.code ≠ 0 ∧ ∃ v, e = .returned (.tuple #[.slice none 0 0, v]) ∧ EV S r.code v)) ∧ Below w.heap.size w w'
set_option maxRecDepth 100000 in
set_option maxHeartbeats 2000000 in
theorem rootBytes_any (S : Nat → Addr) (r : RSt) (A : Option Addr) (n c : Nat) (w : World) (hS : Sent6 w S) (hr : Rf w w.heap.size A n c r.refs) (hs : Sums r.refs) (h0 : -9223372036854775808 ≤ r.epoch) (h1 : r.epoch ≤ 9223372036854775807) :
    Calls Tryz.prog 57 #[rtV r.epoch A n c] w (BytesOut S w r) := by
  obtain ⟨i0, hi, hz0, hz1, hz2⟩ := info_parts Tryz.info5
  have hb1 : Below w.heap.size w (w.alloc (.cells #[.int .i64 r.epoch, .slice A n c] 93)) := (Below.refl _ _).alloc (Nat.le_refl _) _
  have HB1 := hid hb1
  have HK1 := hid (Blk.new w 93 #[.int .i64 r.epoch, .slice A n c])
  have HR := hid hr
  have HS := hid hs
  have HCk := hid (check_any S r A n c _ (hS.on hb1) (hr.on hb1) h0 h1)
  have c0 := HK1.out.cell 0
  have c1 := HK1.out.cell 1
  simp at c0 c1
  clear hS hr hs hb1 h0 h1
  go_enter Tryz.func57, Tryz.ntmps57
  go_wp2_with fail
  refine HCk.out.mono ?_
  rintro e w1 ⟨⟨v, rfl, hv⟩, hb⟩
  have HB2 := hid (HB1.out.trans (hb.mono HB1.out.size))
  have HK2 := hid (HK1.out.below hb HK1.out.lt)
  clear hb c0 c1
  have c0 := HK2.out.cell 0
  have c1 := HK2.out.cell 1
  simp at c0 c1
  by_cases hc : r.code = 0
  · have HC := hid hc
    have hv2 : v = .nilIface := by rw [hc] at hv; exact hv.nil
    subst hv2
    clear hv hc
    go_wp2_with (at_make; refine wpList_make_full _ rfl _ _ 29 rfl w1.heap.size 5 i0 (.int .u8 0) 1 Tryz.underlying29 hi hz0 hz1 _ _ _ _ 256 rfl rfl rfl rfl ?b2 ?b3 ?b4 ?_)
    case b2 => rw [hz2]; omega
    case b3 => unfold maxLen; omega
    case b4 => exact Nat.le_refl _
    intro w2 hown hgrow
    have hbm : Below w1.heap.size w1 w2 := (Below.refl _ _).grown hgrow (Nat.le_refl _) (fun _ h => by cases h)
    obtain ⟨cur, hg1, hcs, htk⟩ : ∃ cur, w2.heap[w1.heap.size]? = some (.cells cur 5 (0, 0)) ∧ cur.size = 256 ∧ cur.toList = I (List.replicate 256 0) := by
      rcases hown.2 with ⟨hv, _⟩ | ⟨g', cap', cur, hv, _, hg1, _, _, hcs, ht⟩
      · cases hv
      · cases hv
        refine ⟨cur, hg1, by omega, ?_⟩
        rw [zeros, List.take_of_length_le (by rw [Array.length_toList]; omega)] at ht
        exact ht
    have HG1 := hid hg1
    have HC1 := hid hcs
    have HT1 := hid htk
    have HB3 := hid (HB2.out.trans (hbm.mono HB2.out.size))
    have HK3 := hid (HK2.out.below hbm HK2.out.lt)
    have HGn := hid (show w1.heap.size < w2.heap.size from (Array.getElem?_eq_some_iff.1 hg1).1)
    have HLd := hid (laid_any r A n c w2 (HR.out.on HB3.out) HC.out HS.out)
    clear hown hgrow hbm hg1 hcs htk c0 c1
    have c0 := HK3.out.cell 0
    have c1 := HK3.out.cell 1
    simp at c0 c1
    go_wp2_with fail
    refine HLd.out.mono ?_
    rintro e w3 hm
    obtain ⟨A3, n3, c3, rfl, hsl, hb, hn⟩ := hm.fresh
    have HL3 := hid hsl
    have HN3 := hid hn
    have HB4 := hid (HB3.out.trans (hb.mono HB3.out.size))
    have HG3 := hid (show w3.heap[w1.heap.size]? = some (.cells cur 5 (0, 0)) from (hb.block _ HGn.out).trans HG1.out)
    have hlen := laidB_len r
    have h16 := (RSt.fine HC.out).2.2.2
    have hn3 := hsl.len
    obtain ⟨ad, rfl⟩ : ∃ ad, A3 = some ad := by
      rcases A3 with _ | ad
      · have := hsl.nil rfl; have := hsl.cap; omega
      · exact ⟨ad, rfl⟩
    have HSrc := hid (show ∀ j v, (I (laidB r))[j]? = some v → w3.cell? (ad.add j) = some v from fun j v hj => by
      obtain ⟨x, hx, rfl⟩ := I_get' hj
      exact (hsl.at_ ad rfl (by omega)).2 j x hx)
    have HN := hid (show n3 = (laidB r).length ∧ 7 ≤ (laidB r).length ∧ (laidB r).length ≤ 103 by omega)
    have HAd := hid (show w2.heap.size ≤ ad.block from hn ad rfl)
    clear hm hsl hb hn hlen h16 hn3
    have HG3' := hid (show w3.heap[w1.heap.size]? = some (.cells (I (List.replicate 256 0)).toArray 5 (0, 0)) from by rw [← HT1.out, Array.toArray_toList]; exact HG3.out)
    have HZl := hid (show (I (List.replicate 256 0)).length = 256 by rw [I_len, List.length_replicate])
    obtain ⟨L, hL⟩ : ∃ L, I (laidB r) = L := ⟨_, rfl⟩
    have HLL := hid (show n3 = L.length ∧ 7 ≤ L.length ∧ L.length ≤ 103 from by rw [← hL, I_len]; exact HN.out)
    have HLe := hid (show (L ++ (I (List.replicate 256 0)).drop L.length).take 128 ++ (L ++ (L ++ (I (List.replicate 256 0)).drop L.length).drop (128 + L.length)) = I (bytesOf r) from by
      have := twice_eq r (RSt.fine HC.out).2.2.2
      rw [hL, ← I_len, hL] at this
      exact this)
    have HL1 := hid (show ∀ u ∈ L, u.oneCell' = true from by rw [← hL]; exact I_one)
    rw [hL] at HSrc
    clear hL
    go_wp2_with (refine wpList_copyR rfl _ _ rfl w1.heap.size 0 256 256 ad n3 c3 rfl rfl (I (List.replicate 256 0)) 5 HG3'.out L ?e1 HSrc.out ?e2 HL1.out ?_)
    case e1 => have := HLL.out; simp only [Nat.min_def]; split <;> omega
    case e2 => have := HLL.out; have := HZl.out; omega
    intro w4 hg4 hb4
    have hadn : ad.block < w3.heap.size := (HL3.out.at_ ad rfl (by have := HLL.out; omega)).1
    have HB5 := hid (show Below w.heap.size w w4 from HB4.out.grown hb4 HB4.out.size (fun k hk => by injection hk with hk; have := HB2.out.size; omega))
    have HG4 := hid (show w4.heap[w1.heap.size]? = some (.cells (L ++ (I (List.replicate 256 0)).drop L.length).toArray 5 (0, 0)) from by simpa using hg4)
    have HSr4 := hid (show ∀ j v, L[j]? = some v → w4.cell? (ad.add j) = some v from fun j v hj => hb4.cell (HSrc.out j v hj) (by rw [add_block]; simp; have := HAd.out; have := HGn.out; omega))
    clear hg4 hb4 hadn
    go_wp2_with (refine wpList_copyR rfl _ _ rfl w1.heap.size 128 128 128 ad n3 c3 rfl rfl (L ++ (I (List.replicate 256 0)).drop L.length) 5 HG4.out L ?e3 HSr4.out ?e4 HL1.out ?_)
    case e3 => have := HLL.out; simp only [Nat.min_def]; split <;> omega
    case e4 => have := HLL.out; have := HZl.out; rw [List.length_append, List.length_drop]; omega
    intro w5 hg5 hb5
    replace hg5 : w5.heap[w1.heap.size]? = some (.cells (I (bytesOf r)).toArray 5 (0, 0)) := by rw [← HLe.out]; exact hg5
    have HF := hid (show Sl w5 w5.heap.size (some ⟨w1.heap.size, 0, none⟩) 256 256 (bytesOf r) from by
      have hlt := (Array.getElem?_eq_some_iff.1 hg5).1
      refine ⟨bytesOf_len (RSt.fine HC.out).2.2.2, Nat.le_refl _, by unfold maxLen; omega, fun h => (by cases h), fun ad ha _ => ?_⟩
      cases ha
      refine ⟨hlt, fun j x hx => ?_⟩
      have e : (⟨w1.heap.size, 0, none⟩ : Addr).add j = ⟨w1.heap.size, j, none⟩ := by unfold Addr.add; split <;> simp_all
      rw [e, (show Blk w5 w1.heap.size 5 (I (bytesOf r)).toArray from hg5).cell j]
      simpa using I_get hx)
    have HB6 := hid (show Below w.heap.size w w5 from HB5.out.grown hb5 HB5.out.size (fun k hk => by injection hk with hk; have := HB2.out.size; omega))
    have HN1 := hid (show w.heap.size ≤ w1.heap.size from HB2.out.size)
    clear hg5 hb5
    go_wp2
    go_ret2
    exact ⟨.inl ⟨HC.out, _, _, rfl, HF.out, fun ad ha => by cases ha; exact HN1.out⟩, HB6.out⟩
  · have HV := hid hv
    have HC := hid hc
    obtain ⟨j, rfl⟩ := hv.is hc
    clear hv hc
    go_wp2
    go_ret2
    exact ⟨.inr ⟨HC.out, _, rfl, HV.out⟩, HB2.out⟩
end Go.Proofs.YtajcfhhnmjcmjaaGreatDoor
namespace Go.Proofs.YtajcfhhnmjcmjaaGreatDoor
open Go.RowKit

theorem Tryz.infoRef : (Tryz.prog.info? 98).map (fun i => (i.zero, i.size, i.bytes)) = some (some (.agg #[.int .i64 0, .int .u32 0]), 2, 16) := by kernel_rfl
theorem made_refs (N : Nat) : (madeCells (Value.agg #[.int .i64 0, .int .u32 0]).cells (N * 2)).toList = cellsR (List.replicate N (0, 0)) := by
  have hc : (Value.agg #[.int .i64 0, .int .u32 0]).cells = #[.int .i64 0, .int .u32 0] := rfl
  rw [hc]
  apply List.ext_getElem?
  intro k
  by_cases hk : k < N * 2
  · have h1 := cellsR_get (l := List.replicate N ((0 : Int), 0)) (k := k / 2) (x := (0, 0)) (by rw [List.getElem?_replicate, if_pos (by omega)]) (j := k % 2) (by omega)
    rw [show k / 2 * 2 + k % 2 = k by omega] at h1
    rw [h1]
    rcases (show k % 2 = 0 ∨ k % 2 = 1 by omega) with h | h
    · simp [madeCells, hk, h, cells2]
    · simp [madeCells, hk, h, cells2]
  · rw [List.getElem?_eq_none (by simp [madeCells]; omega), List.getElem?_eq_none (by rw [cellsR_len, List.length_replicate]; omega)]
/-- the refs told so far, the others empty -/
def toldTo (b : List Int) (N k : Nat) : List (Int × Nat) := (List.range k).map (toldRef b) ++ List.replicate (N - k) (0, 0)
theorem toldTo_len {b : List Int} {N k : Nat} (h : k ≤ N) : (toldTo b N k).length = N := by simp [toldTo]; omega
theorem toldTo_at {b : List Int} {N k : Nat} (h : k < N) : (toldTo b N k)[k]? = some (0, 0) := by
  unfold toldTo
  rw [List.getElem?_append_right (by simp), List.length_map, List.length_range, Nat.sub_self, List.getElem?_replicate, if_pos (by omega)]
theorem toldTo_set {b : List Int} {N k : Nat} (h : k < N) : (toldTo b N k).set k (toldRef b k) = toldTo b N (k + 1) := by
  unfold toldTo
  rw [List.set_append_right _ _ (by simp), List.range_succ, List.map_append, List.append_assoc]
  congr 1
  simp only [List.length_map, List.length_range, Nat.sub_self]
  rw [show N - k = (N - (k + 1)) + 1 by omega, List.replicate_succ]
  simp
theorem toldTo_all (b : List Int) (N : Nat) : toldTo b N N = (List.range N).map (toldRef b) := by simp [toldTo]
/-- a ref is stored at its place -/
theorem refs_put {w : World} {g k : Nat} {l : List (Int × Nat)} {x x' : Int × Nat} (h : Blk w g 98 (cellsR l).toArray) (hx : l[k]? = some x) : Blk ((w.setCell ⟨g, k * 2, none⟩ (.int .i64 x'.1)).setCell ⟨g, k * 2 + 1, none⟩ (.int .u32 (x'.2 : Int))) g 98 (cellsR (l.set k x')).toArray := by
  have h1 := (h.put (k * 2) (.int .i64 x'.1)).put (k * 2 + 1) (.int .u32 (x'.2 : Int))
  have e1 := cellsR_set (x' := (x'.1, x.2)) hx (j := 0) (u := .int .i64 x'.1) (by omega) rfl
  have hx1 : (l.set k (x'.1, x.2))[k]? = some (x'.1, x.2) := by
    rw [List.getElem?_set_self ((List.getElem?_eq_some_iff.1 hx).1)]
  have e2 := cellsR_set (x' := x') hx1 (j := 1) (u := .int .u32 (x'.2 : Int)) (by omega) rfl
  rw [List.set_set] at e2
  rw [Nat.add_zero] at e1
  have e : (((cellsR l).toArray.setIfInBounds (k * 2) (Value.int .i64 x'.1)).setIfInBounds (k * 2 + 1) (Value.int .u32 (x'.2 : Int))) = (cellsR (l.set k x')).toArray := by rw [← e2, ← e1]; simp
  rw [e] at h1
  exact h1
theorem refs_rf {w : World} {g N : Nat} {l : List (Int × Nat)} (h : Blk w g 98 (cellsR l).toArray) (hl : l.length = N) (hN : N ≤ 16) : Rf w w.heap.size (some ⟨g, 0, none⟩) N N l := by
  refine ⟨hl, Nat.le_refl _, by unfold maxLen; omega, fun h => (by cases h), fun ad ha _ => ?_⟩
  cases ha
  have e : ∀ j, (⟨g, 0, none⟩ : Addr).add j = ⟨g, j, none⟩ := fun j => by unfold Addr.add; split <;> simp_all
  refine ⟨h.lt, fun j x hx => ⟨?_, ?_⟩⟩
  · have := cellsR_get hx (j := 0) (by omega)
    rw [e, h.cell]; simpa [cells2] using this
  · have := cellsR_get hx (j := 1) (by omega)
    rw [e, h.cell]; simpa [cells2] using this
set_option maxRecDepth 100000 in
set_option maxHeartbeats 2000000 in
theorem told_any (A : Option Addr) (c : Nat) (b : List Int) (w : World) (h : Sl w w.heap.size A 256 c b) (hy : Byt b) :
    Calls Tryz.prog 138 #[.slice A 256 c] w fun e w' => ∃ A' n' c', e = .returned (rtV (told b).epoch A' n' c') ∧ Rf w' w'.heap.size A' n' c' (told b).refs ∧ Below w.heap.size w w' ∧ ∀ ad, A' = some ad → w.heap.size ≤ ad.block := by
  obtain ⟨i0, hi, hz0, hz1, hz2⟩ := info_parts Tryz.infoRef
  have HH := hid h
  have HY := hid hy
  have HB1 := hid (show Below w.heap.size w (w.alloc (.cells #[.int .i64 0, .slice none 0 0] 93)) from (Below.refl _ _).alloc (Nat.le_refl _) _)
  have HK1 := hid (Blk.new w 93 #[.int .i64 0, .slice none 0 0])
  clear h hy
  go_enter Tryz.func138, Tryz.ntmps138
  go_wp2_with fail
  refine (firstNum_any _ A 256 c 6 _ b _ rfl (HH.out.on HB1.out) HY.out (by omega) (by omega)).mono ?_
  rintro e w1 ⟨⟨A1, rfl, hs⟩, q, rfl⟩
  have HH1 := hid hs
  have HB2 := hid (below_drewN HB1.out q)
  have HK2 := hid (HK1.out.drewN q)
  have HE6 := hid (show numOf (b.take 6) < 281474976710656 from by
    have := numOf_lt (HY.out.take 6)
    rw [List.length_take, HH.out.len] at this
    exact this)
  clear hs
  obtain ⟨ep, hep⟩ : ∃ ep, numOf (b.take 6) = ep := ⟨_, rfl⟩
  rw [hep] at HE6 ⊢
  go_wp2_with fail
  refine (firstNum_any _ A1 _ _ 1 _ _ _ rfl (HH1.out.drewN q) (HY.out.drop 6) (by omega) (by omega)).mono ?_
  rintro e w1 ⟨⟨A2, rfl, hs⟩, q2, rfl⟩
  have HB3 := hid (below_drewN HB2.out q2)
  have HK3 := hid (HK2.out.drewN q2)
  rw [List.drop_drop] at hs
  obtain ⟨n2, hn2⟩ : ∃ n2, 256 - 6 - 1 = n2 := ⟨_, rfl⟩
  obtain ⟨c2, hc2⟩ : ∃ c2, c - 6 - 1 = c2 := ⟨_, rfl⟩
  rw [hn2, hc2] at hs ⊢
  have HS2 := hid (Sl.on hs (below_drewN (Below.refl _ _) q2))
  have HN2 := hid (show n2 = 249 by omega)
  obtain ⟨cnt, hcnt⟩ : ∃ cnt, numOf ((b.drop 6).take 1) = cnt := ⟨_, rfl⟩
  obtain ⟨N, hN⟩ : ∃ N, min cnt 16 = N := ⟨_, rfl⟩
  have HTn := hid (show toldN b = N from by unfold toldN; rw [hcnt]; exact hN)
  have HCnt := hid (show cnt < 256 from by
    have := numOf_lt ((HY.out.drop 6).take 1)
    rw [List.length_take, List.length_drop, HH.out.len, hcnt] at this
    exact this)
  have HN16 := hid (show N ≤ 16 by omega)
  have HEp := hid (show (told b).epoch = (ep : Int) from by unfold told; simp only; rw [hep])
  rw [hcnt] at ⊢
  have hways : (cnt ≤ 16 ∧ N = cnt) ∨ (16 < cnt ∧ N = 16) := by omega
  clear hs hn2 hc2 hcnt hN hep
  generalize ((w.alloc (.cells #[.int .i64 0, .slice none 0 0] 93)).drewN q).drewN q2 = w1 at *
  have hcI : ((cnt : Int) ≤ 16 ∧ (cnt : Int) = N) ∨ (16 < (cnt : Int) ∧ (16 : Int) = N) := by omega
  have hc0 : (cnt : Int) ≤ 255 := by have := HCnt.out; omega
  clear hways
  rcases hcI with ⟨hw1, hw2⟩ | ⟨hw1, hw2⟩
  all_goals
    have HW := hid hw2
    clear hw2
    go_wp2_with (at_make; refine wpList_make_full _ rfl _ _ 91 rfl w1.heap.size 98 i0 (.agg #[.int .i64 0, .int .u32 0]) 2 Tryz.underlying91 hi hz0 hz1 _ _ _ _ N rfl rfl ?a0 ?a1 ?b2 ?b3 ?b4 ?_)
    case a0 => exact HW.out
    case a1 => exact HW.out
    case b2 => rw [hz2]; have := HN16.out; omega
    case b3 => have := HN16.out; unfold maxLen; omega
    case b4 => exact Nat.le_refl _
    intro w2 hown hgrow
    have hbm : Below w1.heap.size w1 w2 := (Below.refl _ _).grown hgrow (Nat.le_refl _) (fun _ h => by cases h)
    have HG := hid (show Blk w2 w1.heap.size 98 (cellsR (toldTo b N 0)).toArray from by
      have e : toldTo b N 0 = List.replicate N (0, 0) := by simp [toldTo]
      rw [e, ← made_refs N, Array.toArray_toList]
      rcases hown.2 with ⟨hv, _⟩ | ⟨g', cap', cur, hv, _, hg1, _, _, hcs, ht⟩
      · cases hv
      · cases hv
        rw [List.take_of_length_le (by rw [Array.length_toList]; omega)] at ht
        have : cur = madeCells (Value.agg #[.int .i64 0, .int .u32 0]).cells (N * 2) := Array.toList_inj.1 ht
        rw [← this]
        exact hg1)
    have HB4 := hid (HB3.out.trans (hbm.mono HB3.out.size))
    have HK4 := hid (HK3.out.below hbm HK3.out.lt)
    have HS4 := hid (HS2.out.below hbm)
    have HG0 := hid (show w.heap.size < w1.heap.size from HK3.out.lt)
    clear hown hgrow hbm hw1
    go_wp2
    go_loopw [0, 24] (fun v i wr => ∃ (k : Nat) (A' : Option Addr) (m' c' : Nat), k ≤ N ∧ i = .int .i64 (k : Int) ∧ v = .slice A' m' c' ∧ m' + 6 * k = 249 ∧ Sl wr w1.heap.size A' m' c' (b.drop (7 + 6 * k)) ∧ Blk wr w1.heap.size 98 (cellsR (toldTo b N k)).toArray ∧ Below w.heap.size w wr ∧ Blk wr w.heap.size 93 #[.int .i64 0, .slice none 0 0]) (fun _ i _ => N - (intOf i).toNat)
    case atStart => exact ⟨0, A2, n2, c2, Nat.zero_le _, rfl, rfl, by have := HN2.out; omega, HS4.out, HG.out, HB4.out, HK4.out⟩
    case round =>
      obtain ⟨k, A', m', c', hk, rfl, rfl, hm', hs', hg', hb', hk'⟩ := hrel
      have HSr := hid hs'
      have HGr := hid hg'
      have HBr := hid hb'
      have HKr := hid hk'
      have HMr := hid hm'
      clear hs' hb' hk' hm'
      by_cases hlt : k < N
      · have hkN : (k : Int) < N := by omega
        have hN16 : (N : Int) ≤ 16 := by have := HN16.out; omega
        clear hg'
        go_wp2_with fail
        refine (firstNum_any _ A' m' c' 2 _ _ _ rfl HSr.out (HY.out.drop _) (by omega) (by have := HMr.out; have := HN16.out; omega)).mono ?_
        rintro e w3 ⟨⟨A3, rfl, hs⟩, q3, rfl⟩
        rw [List.drop_drop] at hs
        have HS3 := hid (hs.drewN q3)
        have HB5 := hid (below_drewN HBr.out q3)
        have HG5 := hid (HGr.out.drewN q3)
        have HK5 := hid (HKr.out.drewN q3)
        obtain ⟨m3, hm3⟩ : ∃ m3, m' - 2 = m3 := ⟨_, rfl⟩
        obtain ⟨c3, hc3⟩ : ∃ c3, c' - 2 = c3 := ⟨_, rfl⟩
        rw [hm3, hc3] at HS3 ⊢
        have HM3 := hid (show m3 + 6 * k = 247 by have := HMr.out; have := HN16.out; omega)
        obtain ⟨x1, hx1⟩ : ∃ x1, numOf ((b.drop (7 + 6 * k)).take 2) = x1 := ⟨_, rfl⟩
        have HX1 := hid hx1
        rw [hx1]
        clear hs hm3 hc3 hx1
        generalize wr.drewN q3 = w3 at *
        go_wp2_with fail
        refine (firstNum_any _ A3 m3 c3 4 _ _ _ rfl HS3.out (HY.out.drop _) (by omega) (by have := HM3.out; have := HN16.out; omega)).mono ?_
        rintro e w4 ⟨⟨A4, rfl, hs⟩, q4, rfl⟩
        rw [List.drop_drop] at hs
        have HS4' := hid (hs.drewN q4)
        have HB6 := hid (below_drewN HB5.out q4)
        have hg6 := HG5.out.drewN q4
        have HG6 := hid hg6
        have HK6 := hid (HK5.out.drewN q4)
        obtain ⟨m4, hm4⟩ : ∃ m4, m3 - 4 = m4 := ⟨_, rfl⟩
        obtain ⟨c4, hc4⟩ : ∃ c4, c3 - 4 = c4 := ⟨_, rfl⟩
        rw [hm4, hc4] at HS4' ⊢
        have HM4 := hid (show m4 + 6 * (k + 1) = 249 by have := HM3.out; have := HN16.out; omega)
        have e9 : 7 + 6 * k + 2 = 9 + 6 * k := by omega
        rw [e9]
        obtain ⟨x2, hx2⟩ : ∃ x2, numOf ((b.drop (9 + 6 * k)).take 4) = x2 := ⟨_, rfl⟩
        have HX2 := hid (show x2 < 4294967296 from by
          have := numOf_lt ((HY.out.drop (9 + 6 * k)).take 4)
          have h2 : ((b.drop (9 + 6 * k)).take 4).length ≤ 4 := by rw [List.length_take]; omega
          have h3 : (256 : Nat) ^ ((b.drop (9 + 6 * k)).take 4).length ≤ 256 ^ 4 := Nat.pow_le_pow_right (by omega) h2
          have h4 : (256 : Nat) ^ 4 = 4294967296 := by decide
          omega)
        have HR := hid (show toldRef b k = ((x1 : Int), x2) from by unfold toldRef; rw [HX1.out, hx2])
        rw [hx2]
        have hxw : (x2 : Int) % 4294967296 = (x2 : Int) := by have := HX2.out; omega
        clear hs hm4 hc4 hx2 e9
        generalize w3.drewN q4 = w4 at *
        have q0 := cellsR_get (toldTo_at (b := b) hlt) (j := 0) (by omega)
        have q1 := cellsR_get (toldTo_at (b := b) hlt) (j := 1) (by omega)
        have b0 : w4.cell? ⟨w1.heap.size, k * 2, none⟩ = some (.int .i64 0) := by rw [HG6.out.cell]; simpa [cells2] using q0
        have b1 : w4.cell? ⟨w1.heap.size, k * 2 + 1, none⟩ = some (.int .u32 0) := by rw [HG6.out.cell]; simpa [cells2] using q1
        have fr := fun i => HG6.out.free i
        have HG7 := hid (show Blk ((w4.setCell ⟨w1.heap.size, k * 2, none⟩ (.int .i64 (x1 : Int))).setCell ⟨w1.heap.size, k * 2 + 1, none⟩ (.int .u32 (x2 : Int))) w1.heap.size 98 (cellsR (toldTo b N (k + 1))).toArray from by
          have := refs_put (x' := ((x1 : Int), x2)) HG6.out (toldTo_at (b := b) hlt)
          have e : (toldTo b N k).set k ((x1 : Int), x2) = toldTo b N (k + 1) := by rw [← HR.out]; exact toldTo_set hlt
          rw [e] at this
          exact this)
        have HS8 := hid ((HS4'.out.put (Nat.le_refl _) (k * 2) (.int .i64 (x1 : Int))).put (Nat.le_refl _) (k * 2 + 1) (.int .u32 (x2 : Int)))
        rw [show 7 + 6 * k + 2 + 4 = 7 + 6 * (k + 1) by omega] at HS8
        have HB8 := hid (show Below w.heap.size w ((w4.setCell ⟨w1.heap.size, k * 2, none⟩ (.int .i64 (x1 : Int))).setCell ⟨w1.heap.size, k * 2 + 1, none⟩ (.int .u32 (x2 : Int))) from (HB6.out.setCell (p := ⟨w1.heap.size, k * 2, none⟩) (Nat.le_of_lt HG0.out) _).setCell (p := ⟨w1.heap.size, k * 2 + 1, none⟩) (Nat.le_of_lt HG0.out) _)
        have HK8 := hid ((HK6.out.far (p := ⟨w1.heap.size, k * 2, none⟩) (Nat.ne_of_lt HG0.out) (.int .i64 (x1 : Int))).far (p := ⟨w1.heap.size, k * 2 + 1, none⟩) (Nat.ne_of_lt HG0.out) (.int .u32 (x2 : Int)))
        clear q0 q1 hg6
        go_wp2
        exact ⟨⟨k + 1, A4, m4, c4, by omega, by go_num, rfl, HM4.out, HS8.out, HG7.out, HB8.out, HK8.out⟩, by simp [intOf]; omega⟩
      · obtain rfl : k = N := by omega
        have hnlt : decide (k < k) = false := by simp
        have HRf := hid (show Rf wr wr.heap.size (some ⟨w1.heap.size, 0, none⟩) k k (told b).refs from by
          have := refs_rf HGr.out (toldTo_len (Nat.le_refl _)) HN16.out
          rw [toldTo_all] at this
          unfold told
          simp only
          rw [HTn.out]
          exact this)
        have k0 := HKr.out.cell 0
        have k1 := HKr.out.cell 1
        have fr := fun i => HKr.out.free i
        simp at k0 k1
        have HK4' := (HKr.out.put 0 (.int .i64 (ep : Int))).put 1 (.slice (some ⟨w1.heap.size, 0, none⟩) k k)
        have m0 := HK4'.cell 0
        have m1 := HK4'.cell 1
        simp at m0 m1
        have HF := hid (show Below w.heap.size w ((wr.setCell ⟨w.heap.size, 0, none⟩ (.int .i64 (ep : Int))).setCell ⟨w.heap.size, 1, none⟩ (.slice (some ⟨w1.heap.size, 0, none⟩) k k)) from (HBr.out.setCell (p := ⟨w.heap.size, 0, none⟩) (Nat.le_refl _) _).setCell (p := ⟨w.heap.size, 1, none⟩) (Nat.le_refl _) _)
        have HR2 := hid (show Rf ((wr.setCell ⟨w.heap.size, 0, none⟩ (.int .i64 (ep : Int))).setCell ⟨w.heap.size, 1, none⟩ (.slice (some ⟨w1.heap.size, 0, none⟩) k k)) ((wr.setCell ⟨w.heap.size, 0, none⟩ (.int .i64 (ep : Int))).setCell ⟨w.heap.size, 1, none⟩ (.slice (some ⟨w1.heap.size, 0, none⟩) k k)).heap.size (some ⟨w1.heap.size, 0, none⟩) k k (told b).refs from
          HRf.out.same (by simp [World.setCell]) (fun ad ha _ => by
            cases ha
            have hne : w1.heap.size ≠ w.heap.size := by have := HG0.out; omega
            exact (Below.heap_setCell _ ⟨w.heap.size, 1, none⟩ _ w1.heap.size hne).trans (Below.heap_setCell _ ⟨w.heap.size, 0, none⟩ _ w1.heap.size hne)))
        clear HK4'
        go_wp2
        exact bodyPost_ret (v := rtV (ep : Int) (some ⟨w1.heap.size, 0, none⟩) k k) (by simp [results, Tryz.results138, go_sem, m0, m1]) rfl ⟨_, _, _, by rw [HEp.out], HR2.out, HF.out, fun ad ha => by cases ha; exact Nat.le_of_lt HG0.out⟩
end Go.Proofs.YtajcfhhnmjcmjaaGreatDoor
namespace Go.Proofs.YtajcfhhnmjcmjaaGreatDoor
open Go.RowKit

/-- the root that bytes are, or the empty one -/
def rootOr (b : List Int) : RSt := (readR b).getD noRoot
theorem rootOr_none {b : List Int} (h : readR b = none) : rootOr b = noRoot := by unfold rootOr; rw [h]; rfl
theorem rootOr_told {b : List Int} (h1 : b.length = 256) (h2 : (told b).code = 0) (h3 : bytesOf (told b) = b) : readR b = some (told b) := by
  unfold readR; rw [if_pos ⟨h1, h2, h3⟩]
theorem read_not {b : List Int} (h : ¬ (b.length = 256 ∧ (told b).code = 0 ∧ bytesOf (told b) = b)) : readR b = none := by
  unfold readR; rw [if_neg h]
theorem told_epoch (b : List Int) : -9223372036854775808 ≤ (told b).epoch := by
  show -9223372036854775808 ≤ ((numOf (b.take 6) : Nat) : Int); omega
theorem told_epoch' {b : List Int} (h : Byt b) : (told b).epoch ≤ 9223372036854775807 := by
  have h1 := numOf_lt (h.take 6)
  have h2 : (b.take 6).length ≤ 6 := by rw [List.length_take]; omega
  have h3 : (256 : Nat) ^ (b.take 6).length ≤ 256 ^ 6 := Nat.pow_le_pow_right (by omega) h2
  have h4 : (256 : Nat) ^ 6 = 281474976710656 := by decide
  show ((numOf (b.take 6) : Nat) : Int) ≤ 9223372036854775807
  omega
/-- what Read answers -/
def ReadR (w : World) (b : List Int) (e : Ending) (w' : World) : Prop := ∃ A n c, e = .returned (.tuple #[rtV (rootOr b).epoch A n c, .bool (readR b).isSome]) ∧ Rf w' w'.heap.size A n c (rootOr b).refs ∧ Below w.heap.size w w' ∧ ∀ ad, A = some ad → w.heap.size ≤ ad.block
/-- a root's box, written over -/
theorem box_put {w : World} {g : Nat} {cs : Array Value} (h : Blk w g 93 cs) (hs : cs.size = 2) (u v : Value) : Blk ((w.setCell ⟨g, 0, none⟩ u).setCell ⟨g, 1, none⟩ v) g 93 #[u, v] := by
  have := (h.put 0 u).put 1 v
  have e : (cs.setIfInBounds 0 u).setIfInBounds 1 v = #[u, v] := by
    rcases cs with ⟨l⟩
    match l, hs with
    | [a, b], _ => rfl
  rwa [e] at this
theorem below_box {B g : Nat} {w0 w : World} (h : Below B w0 w) (hg : B ≤ g) (u v : Value) : Below B w0 ((w.setCell ⟨g, 0, none⟩ u).setCell ⟨g, 1, none⟩ v) := (h.setCell (p := ⟨g, 0, none⟩) hg _).setCell (p := ⟨g, 1, none⟩) hg _
theorem rf_box {w : World} {n c g : Nat} {A : Option Addr} {l : List (Int × Nat)} (h : Rf w w.heap.size A n c l) (hn : ∀ ad, A = some ad → 0 < n → ad.block ≠ g) (u v : Value) : Rf ((w.setCell ⟨g, 0, none⟩ u).setCell ⟨g, 1, none⟩ v) ((w.setCell ⟨g, 0, none⟩ u).setCell ⟨g, 1, none⟩ v).heap.size A n c l :=
  h.same (by simp [World.setCell]) fun ad ha h0 => (Below.heap_setCell _ ⟨g, 1, none⟩ _ ad.block (hn ad ha h0)).trans (Below.heap_setCell _ ⟨g, 0, none⟩ _ ad.block (hn ad ha h0))
set_option maxRecDepth 100000 in
set_option maxHeartbeats 2000000 in
theorem readR_short_any (A : Option Addr) (n c : Nat) (b : List Int) (w : World) (h : Sl w w.heap.size A n c b) (hn : n ≠ 256) :
    Calls Tryz.prog 106 #[.slice A n c] w (ReadR w b) := by
  have hr := read_not (b := b) (fun h1 => hn (by rw [← h.len]; exact h1.1))
  have hq : ((n : Int) != 256) = true := by simp; omega
  have HR := hid hr
  unfold ReadR
  rw [rootOr_none hr, hr]
  have HK1 := hid (Blk.new w 93 #[.int .i64 0, .slice none 0 0])
  have HB1 := hid (show Below w.heap.size w (w.alloc (.cells #[.int .i64 0, .slice none 0 0] 93)) from (Below.refl _ _).alloc (Nat.le_refl _) _)
  have c0 := HK1.out.cell 0
  have c1 := HK1.out.cell 1
  have fr := fun i => HK1.out.free i
  simp at c0 c1
  clear h hr
  go_enter Tryz.func106, Tryz.ntmps106
  go_wp2
  exact bodyPost_ret (v := .tuple #[rtV 0 none 0 0, .bool false]) (by simp [results, Tryz.results106, go_sem]) rfl ⟨none, 0, 0, rfl, Rf.empty _ _, HB1.out, fun _ h => by cases h⟩
set_option maxRecDepth 100000 in
set_option maxHeartbeats 4000000 in
theorem readR_long_any (S : Nat → Addr) (A : Option Addr) (c : Nat) (b : List Int) (w : World) (hS : Sent6 w S) (h : Sl w w.heap.size A 256 c b) (hy : Byt b) :
    Calls Tryz.prog 106 #[.slice A 256 c] w (ReadR w b) := by
  have HS := hid hS
  have HL := hid h
  have HY := hid hy
  have HB1 := hid (show Below w.heap.size w (w.alloc (.cells #[.int .i64 0, .slice none 0 0] 93)) from (Below.refl _ _).alloc (Nat.le_refl _) _)
  have HK1 := hid (Blk.new w 93 #[.int .i64 0, .slice none 0 0])
  clear hS h hy
  go_enter Tryz.func106, Tryz.ntmps106
  go_wp2_with fail
  refine (told_any A c b _ (HL.out.on HB1.out) HY.out).mono ?_
  rintro e w1 ⟨A1, n1, c1, rfl, hrf, hb, hn⟩
  have HR1 := hid hrf
  have HN1 := hid (show ∀ ad, A1 = some ad → w.heap.size < ad.block from fun ad ha => by have := hn ad ha; simp at this; omega)
  have HB2 := hid (HB1.out.trans (hb.mono HB1.out.size))
  have HK2 := hid (HK1.out.below hb HK1.out.lt)
  clear hrf hb hn
  obtain ⟨ep, hep⟩ : ∃ ep, (told b).epoch = ep := ⟨_, rfl⟩
  rw [hep]
  have HEp := hid hep
  clear hep
  have hbA : Below w.heap.size w (w1.alloc (.cells #[.int .i64 ep, .slice A1 n1 c1] 93)) := HB2.out.alloc HB2.out.size _
  have HBA := hid hbA
  have HKA := hid (Blk.new w1 93 #[.int .i64 ep, .slice A1 n1 c1])
  have HKo := hid (HK2.out.alloc (.cells #[.int .i64 ep, .slice A1 n1 c1] 93))
  have HRA := hid (HR1.out.on ((Below.refl _ _).alloc (Nat.le_refl _) (.cells #[.int .i64 ep, .slice A1 n1 c1] 93)))
  have HBy := hid (rootBytes_any S (told b) A1 n1 c1 _ (HS.out.on hbA) HRA.out (told_sums HY.out) (told_epoch b) (told_epoch' HY.out))
  rw [HEp.out] at HBy
  have c0 := HKA.out.cell 0
  have c1' := HKA.out.cell 1
  simp at c0 c1'
  clear hbA
  go_wp2_with fail
  refine HBy.out.mono ?_
  rintro e w2 ⟨ho, hb⟩
  have HB3 := hid (HBA.out.trans (hb.mono HBA.out.size))
  have HK3 := hid (HKA.out.below hb HKA.out.lt)
  have HKo3 := hid (HKo.out.below hb HKo.out.lt)
  have HR3 := hid (HRA.out.on hb)
  have HL3 := hid (HL.out.on HB3.out)
  clear hb c0 c1'
  have c0 := HK3.out.cell 0
  have c1' := HK3.out.cell 1
  have k0 := HKo3.out.cell 0
  have k1 := HKo3.out.cell 1
  have fr := fun i => HKo3.out.free i
  simp at c0 c1' k0 k1
  rcases ho with ⟨hc, A2, c2, rfl, hsl, _⟩ | ⟨hc, v, rfl, hv⟩
  · have HC := hid hc
    have HS2 := hid hsl
    clear hc hsl
    go_wp2_with fail
    refine (bytesEqual_any A2 A 256 c2 256 c _ _ _ _ w2 HS2.out HL3.out (bytesOf_byt _) HY.out).mono ?_
    rintro e w3 ⟨rfl, q, rfl⟩
    have HB4 := hid (below_drewN HB3.out q)
    have HK4 := hid (HK3.out.drewN q)
    have HKo4 := hid (HKo3.out.drewN q)
    have HR4 := hid (Rf.on HR3.out (below_drewN (Below.refl _ _) q))
    clear c0 c1' k0 k1 fr
    generalize w2.drewN q = w4 at *
    have c0 := HK4.out.cell 0
    have c1' := HK4.out.cell 1
    have k0 := HKo4.out.cell 0
    have k1 := HKo4.out.cell 1
    have fr := fun i => HKo4.out.free i
    simp at c0 c1' k0 k1
    by_cases he : bytesOf (told b) = b
    · have hsm : sameB (bytesOf (told b)) b = true := by simp [sameB, he]
      have HE := hid (rootOr_told HL.out.len HC.out he)
      rw [hsm]
      have HKn := box_put HKo4.out rfl (.int .i64 ep) (.slice A1 n1 c1)
      have m0 := HKn.cell 0
      have m1 := HKn.cell 1
      simp at m0 m1
      have HRn := hid (rf_box HR4.out (g := w.heap.size) (fun ad ha _ => by have := HN1.out ad ha; omega) (.int .i64 ep) (.slice A1 n1 c1))
      have HBn := hid (below_box HB4.out (Nat.le_refl _) (.int .i64 ep) (.slice A1 n1 c1))
      clear he hsm HKn
      go_wp2
      refine bodyPost_ret (v := .tuple #[rtV ep A1 n1 c1, .bool true]) (by simp [results, Tryz.results106, go_sem, m0, m1]) rfl ⟨A1, n1, c1, ?_, ?_, HBn.out, fun ad ha => Nat.le_of_lt (HN1.out ad ha)⟩
      · unfold rootOr; rw [HE.out]; simp only [Option.getD_some, Option.isSome_some]; rw [HEp.out]
      · unfold rootOr; rw [HE.out]; exact HRn.out
    · have hsm : sameB (bytesOf (told b)) b = false := by simp [sameB, he]
      have HE := hid (read_not (b := b) (fun h => he h.2.2))
      rw [hsm]
      clear he hsm
      go_wp2
      refine bodyPost_ret (v := .tuple #[rtV 0 none 0 0, .bool false]) (by simp [results, Tryz.results106, go_sem, k0, k1]) rfl ⟨none, 0, 0, ?_, ?_, below_box HB4.out (Nat.le_refl _) _ _, fun _ h => by cases h⟩
      · rw [rootOr_none HE.out, HE.out]; rfl
      · rw [rootOr_none HE.out]; exact Rf.empty _ _
  · have HE := hid (read_not (b := b) (fun h => hc h.2.1))
    obtain ⟨j, rfl⟩ := hv.is hc
    clear hv hc
    go_wp2
    refine bodyPost_ret (v := .tuple #[rtV 0 none 0 0, .bool false]) (by simp [results, Tryz.results106, go_sem, k0, k1]) rfl ⟨none, 0, 0, ?_, ?_, below_box HB3.out (Nat.le_refl _) _ _, fun _ h => by cases h⟩
    · rw [rootOr_none HE.out, HE.out]; rfl
    · rw [rootOr_none HE.out]; exact Rf.empty _ _
theorem read_any (S : Nat → Addr) (A : Option Addr) (n c : Nat) (b : List Int) (w : World) (hS : Sent6 w S) (h : Sl w w.heap.size A n c b) (hy : Byt b) :
    Calls Tryz.prog 106 #[.slice A n c] w (ReadR w b) := by
  by_cases hn : n = 256
  · subst hn; exact readR_long_any S A c b w hS h hy
  · exact readR_short_any A n c b w h hn
end Go.Proofs.YtajcfhhnmjcmjaaGreatDoor
