/- Slices of texts: appended to, copied, compared; package name's Sort and After. -/
import Derived.Test.YtjoajjndopfbmaaDoorGNmD
import Derived.Lib.OwnBridge
import Derived.Sort.OwnSorted
import Derived.Sort.Grow
namespace Go.Proofs.YtjoajjndopfbmaaDoor
open Go.RowKit Go.Shelf Go.Sort

def Tx (l : List Nam) : List Value := l.map encStr
theorem Tx_len (l : List Nam) : (Tx l).length = l.length := by simp [Tx]
theorem Tx_append (l m : List Nam) : Tx (l ++ m) = Tx l ++ Tx m := by simp [Tx]
theorem Tx_get {l : List Nam} {k : Nat} {x : Nam} (h : l[k]? = some x) : (Tx l)[k]? = some (encStr x) := by simp [Tx, h]
theorem Tx_take (l : List Nam) (k : Nat) : Tx (l.take k) = (Tx l).take k := by simp [Tx]
theorem Tx_drop (l : List Nam) (k : Nat) : Tx (l.drop k) = (Tx l).drop k := by simp [Tx]
theorem Tx_one {l : List Nam} : ∀ u ∈ Tx l, u.oneCell' = true := by
  intro u hu
  obtain ⟨x, _, rfl⟩ := List.mem_map.1 hu
  rfl
theorem Tx_get' {l : List Nam} {k : Nat} {u : Value} (h : (Tx l)[k]? = some u) : ∃ x, l[k]? = some x ∧ u = encStr x := by
  simp only [Tx, List.getElem?_map, Option.map_eq_some_iff] at h
  obtain ⟨x, h1, h2⟩ := h
  exact ⟨x, h1, h2.symm⟩
theorem takeN {l : List Nam} {k : Nat} {x : Nam} (h : l[k]? = some x) : l.take (k + 1) = l.take k ++ [x] := by rw [List.take_add_one, h]; rfl
/-- a slice of texts -/
abbrev St (w : World) (B : Nat) (A : Option Addr) (n c : Nat) (l : List Nam) : Prop := Sv w B A n c (Tx l)
theorem St.size {w : World} {B n c : Nat} {A : Option Addr} {l : List Nam} (h : St w B A n c l) : l.length = n := by have := h.len; rwa [Tx_len] at this
theorem St.at {w : World} {B n c k : Nat} {A : Option Addr} {l : List Nam} (h : St w B A n c l) (hk : k < n) : ∃ ad x, A = some ad ∧ ad.block < B ∧ l[k]? = some x ∧ w.cell? (ad.add k) = some (encStr x) := by
  obtain ⟨x, hx⟩ : ∃ x, l[k]? = some x := ⟨l[k]'(by rw [h.size]; exact hk), List.getElem?_eq_getElem _⟩
  obtain ⟨ad, h1, h2, h3⟩ := Sv.get h (Tx_get hx)
  exact ⟨ad, x, h1, h2, hx, h3⟩
abbrev Ot (w : World) (B : Nat) (v : Value) (l : List Nam) : Prop := OwnV 9 w B v (Tx l)
theorem Ot.is {w : World} {B : Nat} {v : Value} {l : List Nam} (h : Ot w B v l) : ∃ A c, v = .slice A l.length c ∧ St w w.heap.size A l.length c l ∧ (∀ ad, A = some ad → B ≤ ad.block) := by
  obtain ⟨A, c, h1, h2, h3⟩ := OwnV.form h
  rw [Tx_len] at h1 h2
  exact ⟨A, c, h1, h2, h3⟩
theorem Tryd.infoS : (Tryd.prog.info? 9).map (fun i => (i.zero, i.size, i.bytes)) = some (some (.string ⟨#[]⟩), 1, 16) := by kernel_rfl

theorem wpList_append_tx {w : World} {ops : Array Oper} {rest : List Oper} {o : Oper} {a : Act} {Q : Exit → Act → World → Prop} (hgd : o.guard = none) (s x : Operand)
    (ho : o.op = .call { callee := .builtin .append, args := #[s, x], argTypes := #[22, 22] }) (B B' : Nat) (v : Value) (l m : List Nam) (hs : a.eval s = v) (hown : Ot w B v l) (A : Option Addr) (n c : Nat) (hx : a.eval x = .slice A n c)
    (hsl : St w B' A n c m) (hlen : l.length + n ≤ 1000000) (hB : B ≤ w.heap.size) (h : ∀ v' w', Ot w' B v' (l ++ m) → Below B w w' → wpList Tryd.prog ops Q rest (a.put o.dst v') w') : wpList Tryd.prog ops Q (o :: rest) a w := by
  obtain ⟨i0, hi, hz0, hz1, hz2⟩ := info_parts Tryd.infoS
  rcases A with _ | ad
  · obtain rfl : c = 0 := hsl.nil rfl
    obtain rfl : n = 0 := by have := hsl.cap; omega
    obtain rfl : m = [] := List.eq_nil_of_length_eq_zero hsl.size
    exact wpList_append_own_none hgd s x 22 ho B 9 i0 1 Tryd.underlying22 hi v _ _ hs hown hx (h v w (by simpa using hown) (Below.refl _ _))
  · refine wpList_append_own w hgd s x 22 ho B 9 i0 (.string ⟨#[]⟩) 1 16 Tryd.underlying22 hi hz0 hz1 hz2 rfl (by decide) v _ _ hs hown ad n c (Tx m) hx (by rw [Tx_len, hsl.size]; omega) ?_ Tx_one (by rw [Tx_len]; unfold maxLen; omega) (by rw [Tx_len]; omega) hB ?_
    · intro j u hu
      have hj : j < (Tx m).length := (List.getElem?_eq_some_iff.1 hu).1
      exact (hsl.at_ ad rfl (by have := hsl.len; omega)).2 j u hu
    · intro v' w' h1 h2 _
      refine h v' w' ?_ ((Below.refl _ _).grown h2 hB (fun k hk => (hown.lt k hk).1))
      unfold Ot OwnV
      rw [Tx_append, List.length_append, Tx_len m, hsl.size]
      exact h1
/-- one text, just made -/
theorem st_one (w : World) (x : Nam) : St (w.alloc (.cells #[encStr x] 9)) (w.heap.size + 1) (some ⟨w.heap.size, 0, none⟩) 1 1 [x] :=
  ⟨rfl, Nat.le_refl _, by unfold maxLen; omega, fun h => (by cases h), fun ad ha _ => by
    cases ha
    refine ⟨Nat.lt_succ_self _, fun j u hu => ?_⟩
    rcases j with _ | j
    · simp only [Tx, List.map_cons, List.map_nil, List.getElem?_cons_zero, Option.some.injEq] at hu
      subst hu
      exact cell_one_new _ _ _ 0 _ rfl
    · simp [Tx] at hu⟩

set_option maxHeartbeats 1000000 in
theorem texts_any (A : Option Addr) (n c B : Nat) (l : List Nam) (w : World) (h : St w B A n c l) (hB : B ≤ w.heap.size) (hn : n ≤ 100000) :
    Calls Tryd.prog 24 #[.slice A n c] w (MadeV 9 w (Tx l)) := by
  obtain ⟨i0, hi, hz0, hz1, hz2⟩ := info_parts Tryd.infoS
  have HS := hid h
  have HBB := hid hB
  clear h hB
  go_enter Tryd.func24, Tryd.ntmps24
  go_wp2_with (at_make; refine wpList_make_own _ rfl _ _ 22 rfl w.heap.size 9 i0 (.string ⟨#[]⟩) 1 Tryd.underlying22 hi hz0 hz1 _ _ _ n rfl rfl ?hC ?b2 ?b3 ?b4 ?_)
  case hC => rfl
  case b2 => rw [hz2]; omega
  case b3 => unfold maxLen; omega
  case b4 => exact Nat.le_refl _
  intro w1 hown hgrow
  have HO := hid (show Ot w1 w.heap.size (.slice (some ⟨w.heap.size, 0, none⟩) 0 n) (l.take 0) from hown)
  have HB := hid (show Below w.heap.size w w1 from (Below.refl _ _).grown hgrow (Nat.le_refl _) (fun _ h => by cases h))
  clear hown hgrow
  go_wp2
  go_loopw [3, 4] (fun v i wr => ∃ k : Nat, k ≤ n ∧ i = .int .i64 (k : Int) ∧ Hid (Ot wr w.heap.size v (l.take k)) ∧ Hid (Below w.heap.size w wr)) (fun _ i _ => n - (intOf i).toNat)
  case atStart => exact ⟨0, Nat.zero_le _, rfl, HO, HB⟩
  case round =>
    obtain ⟨k, hk, rfl, HO1, HB1⟩ := hrel
    by_cases hlt : k < n
    · obtain ⟨ad, x, rfl, hbl, hx, hc⟩ := St.at (Sv.below HS.out (HB1.out.mono HBB.out)) hlt
      have HX := hid hx
      clear hx hbl
      go_wp2_with (at_builtin; refine wpList_append_tx rfl _ _ rfl w.heap.size (wr.heap.size + 1) _ (l.take k) [x] rfl (World.ownsRow.alloc HO1.out _) (some ⟨wr.heap.size, 0, none⟩) 1 1 rfl (st_one wr x) ?c1 ?c2 ?_)
      case c1 => rw [List.length_take]; omega
      case c2 => have := HB1.out.size; simp; omega
      intro v' w2 hown' hb2
      have R1 := hid (show Ot w2 w.heap.size v' (l.take (k + 1)) by rw [takeN HX.out]; exact hown')
      have R2 := hid (show Below w.heap.size w w2 from (HB1.out.alloc HB1.out.size _).trans hb2)
      clear hown' hb2
      go_wp2
      go_roundw
      case rel => exact ⟨k + 1, by omega, by go_num, R1, R2⟩
      case measure => simp [intOf]; omega
    · go_wp2
      go_ret
      exact ⟨_, rfl, by have := HO1.out; rwa [List.take_of_length_le (by have := HS.out.size; omega)] at this, HB1.out⟩

set_option maxRecDepth 100000 in
set_option maxHeartbeats 1000000 in
theorem sameTexts_any (A A' : Option Addr) (n c n' c' : Nat) (l m : List Nam) (B B' : Nat) (w : World) (h : St w B A n c l) (h' : St w B' A' n' c' m) :
    Calls Tryd.prog 11 #[.slice A n c, .slice A' n' c'] w (Quiet w (.bool (decide (l = m)))) := by
  have HS := hid h
  have HS' := hid h'
  clear h h'
  have hmx : n ≤ 9223372036854775807 := by have := HS.out.cap; have := HS.out.max; unfold maxLen at this; omega
  by_cases hne : n = n'
  · subst hne
    go_enter Tryd.func11, Tryd.ntmps11
    go_wp2
    go_loopw [5] (fun i wr => ∃ k q : Nat, k ≤ n ∧ i = .int .i64 (k : Int) ∧ Hid (l.take k = m.take k) ∧ wr = w.drewN q) (fun i _ => n - (intOf i).toNat)
    case atStart => exact ⟨0, 0, Nat.zero_le _, rfl, rfl, rfl⟩
    case round =>
      obtain ⟨k, q, hk, rfl, HT, rfl⟩ := hrel
      by_cases hlt : k < n
      · obtain ⟨ad, x, rfl, hbl, hx, hc⟩ := HS.out.at hlt
        obtain ⟨ad', y, rfl, hbl', hy, hc'⟩ := HS'.out.at hlt
        have HX := hid hx
        have HY := hid hy
        clear hx hy hbl hbl'
        by_cases hxy : x = y
        · have hs : (x == y) = true := beq_iff_eq.2 hxy
          have HXY := hid hxy
          clear hxy
          go_wp2_with fail
          go_quiet (fail)
          go_wp2
          go_roundw
          case rel => exact ⟨k + 1, _, by omega, by go_num, hid (by rw [takeN HX.out, takeN HY.out, HT.out, HXY.out]), rfl⟩
          case measure => simp [intOf]; omega
        · have hs : (x == y) = false := beq_eq_false_iff_ne.2 hxy
          have HR := hid (show decide (l = m) = false from decide_eq_false fun e => by
            subst e
            have := HX.out.symm.trans HY.out
            exact hxy (Option.some.inj this))
          clear hxy
          go_wp2_with fail
          go_quiet (fail)
          go_wp2
          go_ret
          rw [HR.out]
          exact ⟨rfl, _, rfl⟩
      · go_wp2
        go_ret
        have e : l = m := by
          have := HT.out
          rwa [List.take_of_length_le (by have := HS.out.size; omega), List.take_of_length_le (by have := HS'.out.size; omega)] at this
        rw [decide_eq_true e]
        exact ⟨rfl, _, rfl⟩
  · have HR := hid (show decide (l = m) = false from decide_eq_false fun e => hne (by rw [← HS.out.size, ← HS'.out.size, e]))
    have hb : ((n : Int) != (n' : Int)) = true := by rw [bne_iff_ne]; omega
    go_enter Tryd.func11, Tryd.ntmps11
    go_wp2
    go_ret
    rw [HR.out]
    exact ⟨rfl, 0, rfl⟩
end Go.Proofs.YtjoajjndopfbmaaDoor
