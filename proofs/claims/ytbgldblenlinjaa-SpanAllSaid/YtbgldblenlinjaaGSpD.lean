/- Package span: Cut, Lay. -/
import Derived.Test.YtbgldblenlinjaaGSpA
import Derived.Laws.CopyOwn
namespace Go.Proofs.Ytbgldblenlinjaa
open Go.RowKit

theorem Try.infoU8size : (Try.prog.info? 5).map (·.size) = some 1 := by kernel_rfl
theorem setRow_grownR {w : World} {g : Nat} (cs : Array Value) : w.grownBy (w.setRow g cs) (some g) := ⟨rfl, rfl, rfl, by simp [World.setRow], fun k _ hn => setRow_other w g k cs (fun e => hn (by rw [e]))⟩
/-- copy of bytes: only block g turns -/
theorem wpList_copyR {w : World} {ops : Array Oper} {rest : List Oper} {o : Oper} {a : Act} {Q : Exit → Act → World → Prop} (hgd : o.guard = none) (d s : Operand)
    (ho : o.op = .call { callee := .builtin .copy, args := #[d, s], argTypes := #[29, 29] }) (g off dLen dCap : Nat) (ad : Addr) (sLen sCap : Nat) (hd : a.eval d = .slice (some ⟨g, off, none⟩) dLen dCap) (hs : a.eval s = .slice (some ad) sLen sCap)
    (cur : List Value) (t : TypeId) (hg : w.heap[g]? = some (.cells cur.toArray t (0, 0))) (cs : List Value) (hn : cs.length = Nat.min sLen dLen)
    (hsrc : ∀ j v, cs[j]? = some v → w.cell? (ad.add j) = some v) (hfit : off + cs.length ≤ cur.length) (h1 : ∀ v ∈ cs, v.oneCell' = true)
    (h : ∀ w', w'.heap[g]? = some (.cells (cur.take off ++ (cs ++ cur.drop (off + cs.length))).toArray t (0, 0)) → w.grownBy w' (some g) → wpList Try.prog ops Q rest (a.put o.dst (goInt cs.length)) w') : wpList Try.prog ops Q (o :: rest) a w :=
  wpList_copy_own hgd d s _ _ ho 5 Try.underlying29 Try.infoU8size g off dLen dCap ad sLen sCap hd hs cur.toArray t hg cs hn hsrc (by simpa using hfit) h1 (h _ (by simpa using setRow_heap w g cur.toArray _ t (0, 0) hg) (by simpa using setRow_grownR _))
theorem some_of_sl {w : World} {B n c : Nat} {A : Option Addr} {l : List Int} (h : Sl w B A n c l) (hn : 0 < n) : ∃ ad, A = some ad := by
  rcases A with _ | ad
  · have := h.nil rfl; have := h.cap; omega
  · exact ⟨ad, rfl⟩
theorem Sl.src {w : World} {B n c : Nat} {ad : Addr} {l : List Int} (h : Sl w B (some ad) n c l) : ∀ j v, (I l)[j]? = some v → w.cell? (ad.add j) = some v := fun j v hj => by
  obtain ⟨x, hx, rfl⟩ := I_get' hj
  have := (List.getElem?_eq_some_iff.1 hx).1
  have h2 := h.len
  exact (h.at_ ad rfl (by omega)).2 j x hx
theorem I_layB (l m : List Int) (f : Nat) : I (layB l m f) = (I l).take f ++ (I m ++ (I l).drop (f + (I m).length)) := by
  unfold layB
  rw [I_append, I_append, I_len]
  unfold I
  rw [List.map_take, List.map_drop]
set_option maxRecDepth 100000 in
set_option maxHeartbeats 1000000 in
theorem lay_any (A : Option Addr) (c : Nat) (l : List Int) (i f t : Nat) (A2 : Option Addr) (n2 k2 : Nat) (m : List Int) (w : World) (hf : f < t) (ht : t ≤ 256) (hl : Sl w w.heap.size A 256 c l) (hm : Sl w w.heap.size A2 n2 k2 m) (hn2 : n2 = t - f) :
    Calls Try.prog 10 #[.slice A 256 c, .agg #[.int .i64 (i : Int), .int .i64 (f : Int), .int .i64 (t : Int)], .slice A2 n2 k2] w (Made w (layB l m f)) := by
  obtain ⟨i0, hi, hz0, hz1, hz2⟩ := info_parts Try.info5
  obtain ⟨ad, rfl⟩ := some_of_sl hl (by omega)
  obtain ⟨ad2, rfl⟩ := some_of_sl hm (by omega)
  have hb1 : Below w.heap.size w (w.alloc (.cells #[.int .i64 (i : Int), .int .i64 (f : Int), .int .i64 (t : Int)] 27)) := (Below.refl _ _).alloc (Nat.le_refl _) _
  have HL := hid hl
  have HM := hid hm
  have HLl := hid (show l.length = 256 from hl.len)
  have HMl := hid (show m.length = t - f from hm.len.trans hn2)
  have HB1 := hid hb1
  have HN := hid hn2
  have HK1 := hid (Blk.new w 27 #[.int .i64 (i : Int), .int .i64 (f : Int), .int .i64 (t : Int)])
  have c0 := HK1.out.cell 0
  have c1 := HK1.out.cell 1
  have c2 := HK1.out.cell 2
  simp at c0 c1 c2
  clear hl hm hb1 hn2
  go_enter Try.func10, Try.ntmps10
  go_wp2_with (at_make; refine wpList_make_full _ rfl _ _ 29 rfl (w.heap.size + 1) 5 i0 (.int .u8 0) 1 Try.underlying29 hi hz0 hz1 _ _ _ _ 256 rfl rfl rfl rfl ?b2 ?b3 ?b4 ?_)
  case b2 => rw [hz2]; omega
  case b3 => unfold maxLen; omega
  case b4 => simp
  intro w2 hown hgrow
  obtain ⟨cur, hg1, hcs, htk⟩ : ∃ cur, w2.heap[w.heap.size + 1]? = some (.cells cur 5 (0, 0)) ∧ cur.size = 256 ∧ cur.toList = I (List.replicate 256 0) := by
    rcases hown.2 with ⟨hv, _⟩ | ⟨g', cap', cur, hv, _, hg1, _, _, hcs, ht⟩
    · cases hv
    · simp at hv
      obtain ⟨rfl, rfl⟩ := hv
      refine ⟨cur, hg1, by omega, ?_⟩
      rw [zeros, List.take_of_length_le (by rw [Array.length_toList]; omega)] at ht
      exact ht
  have hb0 : Below w.heap.size w w2 := ((Below.refl _ _).alloc (Nat.le_refl _) _).grown hgrow (by simp) (fun _ h => by cases h)
  have HB2 := hid hb0
  have HK2 := hid (HK1.out.grown hgrow (by simp))
  have HG1 := hid (show w2.heap[w.heap.size + 1]? = some (.cells (I (List.replicate 256 0)).toArray 5 (0, 0)) from by rw [← htk, Array.toArray_toList]; exact hg1)
  have HS1 := hid ((HL.out.on hb0).src)
  have HZl := hid (show (I (List.replicate 256 0)).length = 256 by rw [I_len, List.length_replicate])
  have HIl := hid (show (I l).length = 256 by rw [I_len, HLl.out])
  clear hown hgrow hg1 hcs htk hb0 c0 c1 c2
  obtain ⟨Z, hZ⟩ : ∃ Z, I (List.replicate 256 0) = Z := ⟨_, rfl⟩
  obtain ⟨K, hK⟩ : ∃ K, I l = K := ⟨_, rfl⟩
  have HEq := hid hK
  rw [hZ] at HZl HG1
  rw [hK] at HIl HS1
  have HI1 := hid (show ∀ u ∈ K, u.oneCell' = true from by rw [← hK]; exact I_one)
  have HZe := hid (show K ++ Z.drop K.length = K by rw [List.drop_eq_nil_of_le (by rw [HZl.out, HIl.out]; omega), List.append_nil])
  clear hZ hK
  go_wp2_with (refine wpList_copyR rfl _ _ rfl (w.heap.size + 1) 0 256 256 ad 256 c rfl rfl Z 5 HG1.out K ?e1 HS1.out ?e2 HI1.out ?_)
  case e1 => rw [HIl.out]; rfl
  case e2 => rw [HIl.out, HZl.out]; omega
  intro w3 hg3 hb3
  have HG3 := hid (show w3.heap[w.heap.size + 1]? = some (.cells K.toArray 5 (0, 0)) from by
    have e := HZe.out
    rw [e] at hg3
    exact hg3)
  have HB3 := hid (show Below w.heap.size w w3 from HB2.out.grown hb3 HB2.out.size (fun k hk => by injection hk with hk; omega))
  have HK3 := hid (HK2.out.grown hb3 (by simp))
  have HS3 := hid ((HM.out.on HB3.out).src)
  have HJl := hid (show (I m).length = t - f by rw [I_len, HMl.out])
  have c0 := HK3.out.cell 0
  have c1 := HK3.out.cell 1
  have c2 := HK3.out.cell 2
  simp at c0 c1 c2
  clear hg3 hb3
  go_wp2_with (refine wpList_copyR rfl _ _ rfl (w.heap.size + 1) f (t - f) (256 - f) ad2 n2 k2 rfl rfl K 5 HG3.out (I m) ?e3 HS3.out ?e4 I_one ?_)
  case e3 => have := HJl.out; have := HN.out; simp only [Nat.min_def]; split <;> omega
  case e4 => have := HJl.out; have := HIl.out; omega
  intro w4 hg4 hb4
  have hlay : (layB l m f).length = 256 := by rw [layB_len (by have := HMl.out; have := HLl.out; omega)]; exact HLl.out
  have HO := hid (show Own w4 w.heap.size (.slice (some ⟨w.heap.size + 1, 0, none⟩) 256 256) (layB l m f) from by
    unfold Own
    rw [hlay]
    refine ⟨by rw [I_len, hlay], .inr ⟨w.heap.size + 1, 256, (I (layB l m f)).toArray, rfl, by omega, ?_, Nat.le_refl _, by unfold maxLen; omega, by simp [I_len, hlay], ?_⟩⟩
    · rw [I_layB, HEq.out]
      exact hg4
    · rw [List.take_of_length_le (by simp [I_len, hlay])])
  have HB4 := hid (show Below w.heap.size w w4 from HB3.out.grown hb4 HB3.out.size (fun k hk => by injection hk with hk; omega))
  clear hg4 hb4 hlay
  go_wp2
  go_ret
  exact ⟨_, rfl, HO.out, HB4.out⟩
set_option maxRecDepth 100000 in
set_option maxHeartbeats 1000000 in
theorem cut_any (A : Option Addr) (n c : Nat) (l : List Int) (a s : Nat) (w : World) (ha : a ≤ 1000000) (hs : s ≤ 1000000) (hn : n ≤ 1000) (h : Sl w w.heap.size A n c l) :
    Calls Try.prog 12 #[.slice A n c, .int .i64 (a : Int), .int .i64 (s : Int)] w (Made w (l.take (s - a))) := by
  have HS := hid h
  clear h
  by_cases hle : s ≤ a
  · go_enter Try.func12, Try.ntmps12
    go_wp2
    go_ret
    refine ⟨_, rfl, ?_, Below.refl _ _⟩
    rw [show s - a = 0 by omega, List.take_zero]
    exact Own.nil _ _
  · have hsc := HS.out.cap
    have hsm := HS.out.max
    rcases Nat.lt_or_ge (s - a) n with hm | hm
    · have HT := hid (HS.out.head (k := s - a) (by omega))
      have e : ((s : Int) - (a : Int)) = ((s - a : Nat) : Int) := by omega
      go_enter Try.func12, Try.ntmps12
      go_wp2_with (at_builtin; refine wpList_append_sl rfl _ _ rfl w.heap.size w.heap.size _ [] (l.take (s - a)) rfl (Own.nil _ _) A (s - a) c ?d1 HT.out (by simp; omega) (Nat.le_refl _) ?_)
      case d1 => rfl
      intro v' w2 hown hb
      have HO := hid hown
      have HB := hid hb
      clear hown hb
      go_wp2
      go_ret
      exact ⟨_, rfl, HO.out, HB.out⟩
    · have HT := hid (show Sl w w.heap.size A n c (l.take (s - a)) from by rw [List.take_of_length_le (by have := HS.out.len; omega)]; exact HS.out)
      rcases A with _ | ad
      · obtain rfl : c = 0 := HS.out.nil rfl
        obtain rfl : n = 0 := by omega
        have HZ := hid (show l.take (s - a) = [] from by rw [List.eq_nil_of_length_eq_zero HS.out.len, List.take_nil])
        go_enter Try.func12, Try.ntmps12
        go_wp2
        go_ret
        exact ⟨_, rfl, by rw [HZ.out]; exact Own.nil _ _, Below.refl _ _⟩
      · rcases Nat.eq_zero_or_pos n with h0 | h0
        · subst h0
          have HZ := hid (show l.take (s - a) = [] from by rw [List.eq_nil_of_length_eq_zero HS.out.len, List.take_nil])
          go_enter Try.func12, Try.ntmps12
          go_wp2
          go_ret
          exact ⟨_, rfl, by rw [HZ.out]; exact Own.nil _ _, Below.refl _ _⟩
        · have hn0 : ¬ n = 0 := by omega
          go_enter Try.func12, Try.ntmps12
          go_wp2_with (at_builtin; refine wpList_append_sl rfl _ _ rfl w.heap.size w.heap.size _ [] (l.take (s - a)) rfl (Own.nil _ _) (some ad) n c ?d1 HT.out (by simp; omega) (Nat.le_refl _) ?_)
          case d1 => rfl
          intro v' w2 hown hb
          have HO := hid hown
          have HB := hid hb
          clear hown hb
          go_wp2
          go_ret
          exact ⟨_, rfl, HO.out, HB.out⟩
end Go.Proofs.Ytbgldblenlinjaa
