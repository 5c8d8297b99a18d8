/- Put together out of 2 texts. Package page's laws: the acts that came in; lists of numbers compared. -/
import Derived.Test.YtaonhbmimaiiiaaGreatDoorGFag
import Derived.Deep.Slices
namespace Go.Proofs.YtaonhbmimaiiiaaGreatDoor
open Go.ChangeShapes Go.WideShapes Go.ChangeAt Go.RowKit

/-- an act -/
structure Stq where
  k : Int
  n : Int
  B : Option Addr
  nB : Nat
  cB : Nat
  lB : List Int
instance : Inhabited Stq := ⟨⟨0, 0, none, 0, 0, []⟩⟩
def Stq.cell (s : Stq) : Nat → Option Value
  | 0 => some (.int .i64 s.k)
  | 1 => some (.int .i64 s.n)
  | 2 => some (.slice s.B s.nB s.cB)
  | _ => none
structure StqOk (w : World) (h : Nat) (s : Stq) : Prop where
  k0 : -9223372036854775808 ≤ s.k
  k1 : s.k ≤ 9223372036854775807
  n0 : -9223372036854775808 ≤ s.n
  n1 : s.n ≤ 9223372036854775807
  hB : Sl w h s.B s.nB s.cB s.lB
  yB : Byt s.lB
/-- a slice of acts in memory -/
structure Doq (w : World) (h : Nat) (A : Option Addr) (len : Nat) (T : Nat → Stq) : Prop where
  nil : A = none → len = 0
  max : len ≤ maxLen
  lt : ∀ ad, A = some ad → 0 < len → ad.block < h
  at_ : ∀ ad, A = some ad → ∀ i, i < len → ∀ j, j < 3 → w.cell? (ad.add (i * 3 + j)) = (T i).cell j
  ok : ∀ i, i < len → StqOk w h (T i)
theorem StqOk.below {w w' : World} {h : Nat} {s : Stq} (o : StqOk w h s) (hb : Below h w w') : StqOk w' h s :=
  { o with hB := o.hB.below hb }
theorem Doq.below {w w' : World} {h len : Nat} {A : Option Addr} {T : Nat → Stq} (d : Doq w h A len T) (hb : Below h w w') : Doq w' h A len T :=
  { d with
    at_ := fun ad ha i hi j hj => (hb.cell (by rw [add_block]; exact d.lt ad ha (by omega))).trans (d.at_ ad ha i hi j hj)
    ok := fun i hi => (d.ok i hi).below hb }
set_option maxRecDepth 100000 in
set_option maxHeartbeats 4000000 in
theorem sameN_any (A A' : Option Addr) (n c n' c' : Nat) (l m : List Int) (B B' : Nat) (w : World) (h : Sn w B A n c l) (h' : Sn w B' A' n' c' m) :
    Calls Tryz.prog 55 #[.slice A n c, .slice A' n' c'] w (Quiet w (.bool (sameB l m))) := by
  have HS := hid h
  have HS' := hid h'
  clear h h'
  have hmx : n ≤ 9223372036854775807 := by have := HS.out.cap; have := HS.out.max; unfold maxLen at this; omega
  by_cases hne : n = n'
  · subst hne
    go_enter Tryz.func55, Tryz.ntmps55
    go_wp2
    go_loopw [5] (fun i wr => ∃ k q : Nat, k ≤ n ∧ i = .int .i64 (k : Int) ∧ l.take k = m.take k ∧ wr = w.drewN q) (fun i _ => n - (intOf i).toNat)
    case atStart => exact ⟨0, 0, Nat.zero_le _, rfl, rfl, rfl⟩
    case round =>
      obtain ⟨k, q, hk, rfl, ht, rfl⟩ := hrel
      have HT := hid ht
      clear ht
      by_cases hlt : k < n
      · obtain ⟨ad, x, rfl, hbl, hx, hc⟩ := HS.out.get hlt
        obtain ⟨ad', y, rfl, hbl', hy, hc'⟩ := HS'.out.get hlt
        have HX := hid hx
        have HY := hid hy
        clear hx hy hbl hbl'
        by_cases hxy : x = y
        · have hb : (x == y) = true := by rw [beq_iff_eq]; exact hxy
          have HXY := hid hxy
          clear hxy
          go_wp2_with fail
          go_quiet (fail)
          go_wp2
          go_roundw
          case rel => exact ⟨k + 1, _, by omega, by go_num, by rw [take_next HX.out, take_next HY.out, HT.out, HXY.out], rfl⟩
          case measure => simp [intOf]; omega
        · have hb : (x == y) = false := by rw [beq_eq_false_iff_ne]; exact hxy
          have HR := hid (same_not HX.out HY.out hxy)
          clear hxy
          go_wp2_with fail
          go_quiet (fail)
          go_wp2
          go_ret
          rw [HR.out]
          exact ⟨rfl, _, rfl⟩
      · go_wp2
        go_ret
        rw [same_end HS.out.len HS'.out.len hlt HT.out]
        exact ⟨rfl, _, rfl⟩
  · have HR := hid (same_len (l := l) (m := m) (by rw [HS.out.len, HS'.out.len]; exact hne))
    have hb : ((n : Int) != (n' : Int)) = true := by rw [bne_iff_ne]; omega
    clear hne
    go_enter Tryz.func55, Tryz.ntmps55
    go_wp2
    go_ret
    rw [HR.out]
    exact ⟨rfl, 0, rfl⟩
end Go.Proofs.YtaonhbmimaiiiaaGreatDoor
namespace Go.Proofs.YtaonhbmimaiiiaaGreatDoor
open Go.RowKit Go.Maps

/-- n cells -/
def fnL (n : Nat) (f : Nat → Value) : List Value := (List.range n).map f
theorem fnL_len (n : Nat) (f : Nat → Value) : (fnL n f).length = n := by simp [fnL]
theorem fnL_at {n i : Nat} (f : Nat → Value) (h : i < n) : (fnL n f)[i]? = some (f i) := by
  unfold fnL; rw [List.getElem?_map, List.getElem?_range h]; rfl
theorem fnL_off {n i : Nat} (f : Nat → Value) (h : n ≤ i) : (fnL n f)[i]? = none := List.getElem?_eq_none (by rw [fnL_len]; exact h)
theorem fnL_of {n : Nat} {f : Nat → Value} {l : List Value} (hl : l.length = n) (h : ∀ i, i < n → l[i]? = some (f i)) : l = fnL n f := by
  apply List.ext_getElem?
  intro j
  rcases Nat.lt_or_ge j n with hj | hj
  · rw [h j hj, fnL_at _ hj]
  · rw [fnL_off _ hj, List.getElem?_eq_none (by omega)]
/-- one cell anew -/
def upF (f : Nat → Value) (p : Nat) (x : Value) : Nat → Value := fun i => if i = p then x else f i
/-- m cells from o on anew -/
def putF (f : Nat → Value) (o m : Nat) (h : Nat → Value) : Nat → Value := fun i => if o ≤ i ∧ i < o + m then h (i - o) else f i
theorem upF_at (f : Nat → Value) (p : Nat) (x : Value) : upF f p x p = x := by unfold upF; rw [if_pos rfl]
theorem upF_ne (f : Nat → Value) {p i : Nat} (x : Value) (h : i ≠ p) : upF f p x i = f i := by unfold upF; rw [if_neg h]
theorem putF_at (f : Nat → Value) {o m i : Nat} (h : Nat → Value) (hi : i < m) : putF f o m h (o + i) = h i := by unfold putF; rw [if_pos ⟨by omega, by omega⟩, Nat.add_sub_cancel_left]
theorem putF_ne (f : Nat → Value) {o m i : Nat} (h : Nat → Value) (hi : i < o ∨ o + m ≤ i) : putF f o m h i = f i := by unfold putF; rw [if_neg (by omega)]
section
variable {w w' : World} {g n : Nat} {t : TypeId} {f : Nat → Value}
theorem blkF_cell (h : Blk w g t (fnL n f).toArray) {i : Nat} (hi : i < n) : w.cell? ⟨g, i, none⟩ = some (f i) := by
  rw [Blk.cell h]; simp only [List.getElem?_toArray]; exact fnL_at f hi
theorem blkF_up (h : Blk w g t (fnL n f).toArray) (p : Nat) (x : Value) : Blk (w.setCell ⟨g, p, none⟩ x) g t (fnL n (upF f p x)).toArray := by
  have h1 := h.put p x
  rw [List.setIfInBounds_toArray] at h1
  have e : (fnL n f).set p x = fnL n (upF f p x) := fnL_of (by rw [List.length_set, fnL_len]) (fun i hi => by
    rw [List.getElem?_set]
    by_cases e : p = i
    · subst e; rw [if_pos rfl, if_pos (by rw [fnL_len]; exact hi), upF_at]
    · rw [if_neg e, fnL_at _ hi, upF_ne _ _ (fun h => e h.symm)])
  rwa [e] at h1
theorem blkF_range (h : Blk w g t (fnL n f).toArray) {o m : Nat} (hm : o + m ≤ n) : w.rangeAt g o (fnL m (fun i => f (o + i))) := fun j v hv => by
  rcases Nat.lt_or_ge j m with hj | hj
  · rw [fnL_at _ hj] at hv
    rw [blkF_cell h (by omega)]; exact hv
  · rw [fnL_off _ hj] at hv; cases hv
theorem blkF_there (h : Blk w g t (fnL n f).toArray) {o m : Nat} (hm : o + m ≤ n) : w.there g o m := fun j hj =>
  ⟨by rw [blkF_cell h (by omega)]; rfl, Blk.free h _⟩
theorem blkF_puts (h : Blk w g t (fnL n f).toArray) {o m : Nat} (hm : o + m ≤ n) (x : Nat → Value) : Blk (w.setCells g o (fnL m x)) g t (fnL n (putF f o m x)).toArray := by
  have e1 : fnL n f = fnL o f ++ (fnL m (fun i => f (o + i)) ++ fnL (n - (o + m)) (fun i => f (o + m + i))) := by
    symm
    refine fnL_of (by simp only [List.length_append, fnL_len]; omega) (fun i hi => ?_)
    rcases Nat.lt_or_ge i o with h1 | h1
    · rw [List.getElem?_append_left (by rw [fnL_len]; exact h1), fnL_at _ h1]
    · rw [List.getElem?_append_right (by rw [fnL_len]; exact h1), fnL_len]
      rcases Nat.lt_or_ge i (o + m) with h2 | h2
      · rw [List.getElem?_append_left (by rw [fnL_len]; omega), fnL_at _ (by omega), show o + (i - o) = i by omega]
      · rw [List.getElem?_append_right (by rw [fnL_len]; omega), fnL_len, fnL_at _ (by omega), show o + m + (i - o - m) = i by omega]
  have e2 : fnL o f ++ (fnL m x ++ fnL (n - (o + m)) (fun i => f (o + m + i))) = fnL n (putF f o m x) := by
    refine fnL_of (by simp only [List.length_append, fnL_len]; omega) (fun i hi => ?_)
    rcases Nat.lt_or_ge i o with h1 | h1
    · rw [List.getElem?_append_left (by rw [fnL_len]; exact h1), fnL_at _ h1, putF_ne _ _ (.inl h1)]
    · rw [List.getElem?_append_right (by rw [fnL_len]; exact h1), fnL_len]
      rcases Nat.lt_or_ge i (o + m) with h2 | h2
      · rw [List.getElem?_append_left (by rw [fnL_len]; omega), fnL_at _ (by omega)]
        have := putF_at f (o := o) (m := m) (i := i - o) x (by omega)
        rw [show o + (i - o) = i by omega] at this; rw [this]
      · rw [List.getElem?_append_right (by rw [fnL_len]; omega), fnL_len, fnL_at _ (by omega), show o + m + (i - o - m) = i by omega, putF_ne _ _ (.inr h2)]
  rw [e1] at h
  have h2 := blk_setCells (fnL m x) (fnL m (fun i => f (o + i))) (fnL o f) w (by rw [fnL_len, fnL_len]) h
  rw [fnL_len, e2] at h2
  exact h2
end
theorem fnL_one {n : Nat} {f : Nat → Value} (h : ∀ i, i < n → (f i).oneCell' = true) : ∀ v ∈ fnL n f, v.oneCell' = true := fun v hv => by
  obtain ⟨i, hi, rfl⟩ := List.mem_map.1 hv
  exact h i (List.mem_range.1 hi)
/-- what a store has: pages by number, as they are, as they were committed -/
structure Mdl where
  now : Nat → List Int
  was : Nat → List Int
  on : Nat → Bool
  had : Nat → Bool
  ep : Int
  tch : Nat → Bool
/-- .. in the cells f; the slices lie outside of T -/
structure MdOk (w : World) (T : Nat → Prop) (f : Nat → Value) (M : Mdl) : Prop where
  now : ∀ i, i < 30 → ∃ A n c, f i = .slice A n c ∧ Sl w w.heap.size A n c (M.now i) ∧ ∀ ad, A = some ad → 0 < n → ¬ T ad.block
  was : ∀ i, i < 30 → ∃ A n c, f (30 + i) = .slice A n c ∧ Sl w w.heap.size A n c (M.was i) ∧ ∀ ad, A = some ad → 0 < n → ¬ T ad.block
  on : ∀ i, i < 30 → f (60 + i) = .bool (M.on i)
  had : ∀ i, i < 30 → f (90 + i) = .bool (M.had i)
  ep : f 120 = .int .i64 M.ep
  tch : ∀ i, i < 30 → f (121 + i) = .bool (M.tch i)
section
variable {w w' : World} {T T' K : Nat → Prop} {f : Nat → Value} {M : Mdl}
theorem sl_apart {A : Option Addr} {n c : Nat} {l : List Int} (h : Sl w w.heap.size A n c l ∧ ∀ ad, A = some ad → 0 < n → ¬ T ad.block) (ho : Only K w w') (hK : ∀ k, K k → T k ∨ w.heap.size ≤ k) (hT : ∀ k, T' k → T k ∨ w.heap.size ≤ k) : Sl w' w'.heap.size A n c l ∧ ∀ ad, A = some ad → 0 < n → ¬ T' ad.block := by
  refine ⟨h.1.only ho (fun ad ha h0 hk => ?_), fun ad ha h0 hk => ?_⟩
  · rcases hK _ hk with h1 | h1
    · exact h.2 ad ha h0 h1
    · have := (h.1.at_ ad ha h0).1; omega
  · rcases hT _ hk with h1 | h1
    · exact h.2 ad ha h0 h1
    · have := (h.1.at_ ad ha h0).1; omega
theorem MdOk.only (h : MdOk w T f M) (ho : Only K w w') (hK : ∀ k, K k → T k ∨ w.heap.size ≤ k) (hT : ∀ k, T' k → T k ∨ w.heap.size ≤ k) : MdOk w' T' f M :=
  { h with
    now := fun i hi => by
      obtain ⟨A, n, c, h1, h2⟩ := h.now i hi
      exact ⟨A, n, c, h1, sl_apart h2 ho hK hT⟩
    was := fun i hi => by
      obtain ⟨A, n, c, h1, h2⟩ := h.was i hi
      exact ⟨A, n, c, h1, sl_apart h2 ho hK hT⟩ }
theorem MdOk.below (h : MdOk w T f M) (hb : Below w.heap.size w w') : MdOk w' T f M := h.only (K := fun _ => False) (Only.of_below hb) (fun _ h => h.elim) (fun _ h => .inl h)
theorem MdOk.setTch (h : MdOk w T f M) (p : Nat) (hp : p < 30) (b : Bool) : MdOk w T (upF f (121 + p) (.bool b)) { M with tch := fun i => if i = p then b else M.tch i } where
  now := fun i hi => by rw [upF_ne _ _ (by omega)]; exact h.now i hi
  was := fun i hi => by rw [upF_ne _ _ (by omega)]; exact h.was i hi
  on := fun i hi => by rw [upF_ne _ _ (by omega)]; exact h.on i hi
  had := fun i hi => by rw [upF_ne _ _ (by omega)]; exact h.had i hi
  ep := by rw [upF_ne _ _ (by omega)]; exact h.ep
  tch := fun i hi => by
    by_cases e : i = p
    · subst e; rw [upF_at]; simp
    · rw [upF_ne _ _ (by omega), h.tch i hi]; simp [e]
theorem MdOk.setOn (h : MdOk w T f M) (p : Nat) (hp : p < 30) (b : Bool) : MdOk w T (upF f (60 + p) (.bool b)) { M with on := fun i => if i = p then b else M.on i } where
  now := fun i hi => by rw [upF_ne _ _ (by omega)]; exact h.now i hi
  was := fun i hi => by rw [upF_ne _ _ (by omega)]; exact h.was i hi
  on := fun i hi => by
    by_cases e : i = p
    · subst e; rw [upF_at]; simp
    · rw [upF_ne _ _ (by omega), h.on i hi]; simp [e]
  had := fun i hi => by rw [upF_ne _ _ (by omega)]; exact h.had i hi
  ep := by rw [upF_ne _ _ (by omega)]; exact h.ep
  tch := fun i hi => by rw [upF_ne _ _ (by omega)]; exact h.tch i hi
theorem MdOk.setNow (h : MdOk w T f M) (p : Nat) (hp : p < 30) {A : Option Addr} {n c : Nat} {l : List Int} (hl : Sl w w.heap.size A n c l) (hA : ∀ ad, A = some ad → 0 < n → ¬ T ad.block) : MdOk w T (upF f p (.slice A n c)) { M with now := fun i => if i = p then l else M.now i } where
  now := fun i hi => by
    by_cases e : i = p
    · subst e; rw [upF_at]; simp only [if_true]; exact ⟨A, n, c, rfl, hl, hA⟩
    · rw [upF_ne _ _ e]; simp only [if_neg e]; exact h.now i hi
  was := fun i hi => by rw [upF_ne _ _ (by omega)]; exact h.was i hi
  on := fun i hi => by rw [upF_ne _ _ (by omega)]; exact h.on i hi
  had := fun i hi => by rw [upF_ne _ _ (by omega)]; exact h.had i hi
  ep := by rw [upF_ne _ _ (by omega)]; exact h.ep
  tch := fun i hi => by rw [upF_ne _ _ (by omega)]; exact h.tch i hi
theorem MdOk.setEp (h : MdOk w T f M) (e : Int) : MdOk w T (upF f 120 (.int .i64 e)) { M with ep := e } where
  now := fun i hi => by rw [upF_ne _ _ (by omega)]; exact h.now i hi
  was := fun i hi => by rw [upF_ne _ _ (by omega)]; exact h.was i hi
  on := fun i hi => by rw [upF_ne _ _ (by omega)]; exact h.on i hi
  had := fun i hi => by rw [upF_ne _ _ (by omega)]; exact h.had i hi
  ep := upF_at ..
  tch := fun i hi => by rw [upF_ne _ _ (by omega)]; exact h.tch i hi
/-- was = now -/
theorem MdOk.keepNow (h : MdOk w T f M) : MdOk w T (putF f 30 30 (fun i => f i)) { M with was := M.now } where
  now := fun i hi => by rw [putF_ne _ _ (by omega)]; exact h.now i hi
  was := fun i hi => by rw [putF_at _ _ hi]; exact h.now i hi
  on := fun i hi => by rw [putF_ne _ _ (by omega)]; exact h.on i hi
  had := fun i hi => by rw [putF_ne _ _ (by omega)]; exact h.had i hi
  ep := by rw [putF_ne _ _ (by omega)]; exact h.ep
  tch := fun i hi => by rw [putF_ne _ _ (by omega)]; exact h.tch i hi
/-- had = on -/
theorem MdOk.keepOn (h : MdOk w T f M) : MdOk w T (putF f 90 30 (fun i => f (60 + i))) { M with had := M.on } where
  now := fun i hi => by rw [putF_ne _ _ (by omega)]; exact h.now i hi
  was := fun i hi => by rw [putF_ne _ _ (by omega)]; exact h.was i hi
  on := fun i hi => by rw [putF_ne _ _ (by omega)]; exact h.on i hi
  had := fun i hi => by rw [putF_at _ _ hi]; exact h.on i hi
  ep := by rw [putF_ne _ _ (by omega)]; exact h.ep
  tch := fun i hi => by rw [putF_ne _ _ (by omega)]; exact h.tch i hi
/-- nothing is touched -/
theorem MdOk.clear (h : MdOk w T f M) : MdOk w T (putF f 121 30 (fun _ => .bool false)) { M with tch := fun _ => false } where
  now := fun i hi => by rw [putF_ne _ _ (by omega)]; exact h.now i hi
  was := fun i hi => by rw [putF_ne _ _ (by omega)]; exact h.was i hi
  on := fun i hi => by rw [putF_ne _ _ (by omega)]; exact h.on i hi
  had := fun i hi => by rw [putF_ne _ _ (by omega)]; exact h.had i hi
  ep := by rw [putF_ne _ _ (by omega)]; exact h.ep
  tch := fun i hi => by rw [putF_at _ _ hi]
theorem MdOk.oneNow (h : MdOk w T f M) : ∀ i, i < 30 → (f i).oneCell' = true := fun i hi => by
  obtain ⟨A, n, c, h1, _⟩ := h.now i hi
  rw [h1]; rfl
theorem MdOk.oneOn (h : MdOk w T f M) : ∀ i, i < 30 → (f (60 + i)).oneCell' = true := fun i hi => by rw [h.on i hi]; rfl
end
/-- a new one -/
def mdl0 : Mdl := ⟨fun _ => [], fun _ => [], fun _ => false, fun _ => false, 0, fun _ => false⟩
def mdl0F : Nat → Value := fun i => if i < 60 then .slice none 0 0 else if i = 120 then .int .i64 0 else .bool false
theorem mdOk_new (w : World) (T : Nat → Prop) : MdOk w T mdl0F mdl0 where
  now := fun i hi => ⟨none, 0, 0, by unfold mdl0F; rw [if_pos (by omega)], Sl.empty _ _, fun _ h => by cases h⟩
  was := fun i hi => ⟨none, 0, 0, by unfold mdl0F; rw [if_pos (by omega)], Sl.empty _ _, fun _ h => by cases h⟩
  on := fun i hi => by unfold mdl0F; rw [if_neg (by omega), if_neg (by omega)]; rfl
  had := fun i hi => by unfold mdl0F; rw [if_neg (by omega), if_neg (by omega)]; rfl
  ep := rfl
  tch := fun i hi => by unfold mdl0F; rw [if_neg (by omega), if_neg (by omega)]; rfl
theorem Tryz.size_bools : (Tryz.prog.info? 32).map (·.size) = some 30 := by kernel_rfl
theorem Tryz.size_pages : (Tryz.prog.info? 31).map (·.size) = some 30 := by kernel_rfl
theorem Tryz.built_bools : Tryz.prog.built 32 [] = some (fnL 30 (fun _ => .bool false)).toArray := by kernel_rfl
end Go.Proofs.YtaonhbmimaiiiaaGreatDoor
