/- node.Node in memory: 6 cells each; lists of them, to be read, and of one's own. -/
import Derived.Test.YtklplmldhhlgiaaDoorGCry
import Derived.Maps.AppendAt
import Derived.Test.YtklplmldhhlgiaaDoorGNmA
import Derived.Laws.AppendOwnNone
namespace Go.Proofs.YtklplmldhhlgiaaDoor
open Go.RowKit Go.Sort

structure Nd where
  id : Int
  k : Int
  ln : Int
  sz : Int
  tg : Nam
  pa : Int
deriving DecidableEq
def ndC (e : Nd) : List Value := [.int .i64 e.id, .int .i64 e.k, .int .i64 e.ln, .int .i64 e.sz, encStr e.tg, .int .i64 e.pa]
abbrev ndV (e : Nd) : Value := .agg #[.int .i64 e.id, .int .i64 e.k, .int .i64 e.ln, .int .i64 e.sz, encStr e.tg, .int .i64 e.pa]
def NDC (L : List Nd) : List Value := L.flatMap ndC
theorem NDC_cons (e : Nd) (L : List Nd) : NDC (e :: L) = ndC e ++ NDC L := rfl
theorem ndC_len (e : Nd) : (ndC e).length = 6 := rfl
theorem NDC_append (L M : List Nd) : NDC (L ++ M) = NDC L ++ NDC M := List.flatMap_append
theorem NDC_len (L : List Nd) : (NDC L).length = L.length * 6 := by
  induction L with
  | nil => rfl
  | cons e L ih => rw [NDC_cons, List.length_append, ih, ndC_len, List.length_cons]; omega
theorem NDC_get {L : List Nd} {j i : Nat} {e : Nd} (h : L[j]? = some e) (hi : i < 6) : (NDC L)[j * 6 + i]? = (ndC e)[i]? := by
  induction L generalizing j with
  | nil => simp at h
  | cons y L ih =>
    rw [NDC_cons]
    rcases j with _ | j
    · simp at h
      subst h
      rw [Nat.zero_mul, Nat.zero_add, List.getElem?_append_left (by rw [ndC_len]; exact hi)]
    · simp at h
      rw [List.getElem?_append_right (by rw [ndC_len]; omega), ndC_len, show (j + 1) * 6 + i - 6 = j * 6 + i by omega]
      exact ih h
theorem NDC_one {L : List Nd} : ∀ u ∈ NDC L, u.oneCell' = true := by
  intro u hu
  obtain ⟨e, _, hu⟩ := List.mem_flatMap.1 hu
  simp [ndC] at hu
  rcases hu with rfl | rfl | rfl | rfl | rfl | rfl <;> rfl
theorem NDC_take (L : List Nd) (k : Nat) : (NDC L).take (k * 6) = NDC (L.take k) := by
  induction L generalizing k with
  | nil => simp [NDC]
  | cons y L ih =>
    rcases k with _ | k
    · simp [NDC]
    · rw [NDC_cons, List.take_succ_cons, NDC_cons, ← ih, List.take_append, List.take_of_length_le (by rw [ndC_len]; omega), ndC_len, show (k + 1) * 6 - 6 = k * 6 by omega]
theorem NDC_drop (L : List Nd) (k : Nat) : (NDC L).drop (k * 6) = NDC (L.drop k) := by
  induction L generalizing k with
  | nil => simp [NDC]
  | cons y L ih =>
    rcases k with _ | k
    · simp [NDC]
    · rw [NDC_cons, List.drop_succ_cons, ← ih, List.drop_append, List.drop_eq_nil_of_le (by rw [ndC_len]; omega), ndC_len, show (k + 1) * 6 - 6 = k * 6 by omega, List.nil_append]
/-- to be read -/
structure NDSl (w : World) (B : Nat) (A : Option Addr) (n c : Nat) (L : List Nd) : Prop where
  len : L.length = n
  cap : n ≤ c
  max : c ≤ maxLen
  nil : A = none → c = 0
  at_ : ∀ ad, A = some ad → 0 < n → (ad.block < B ∧ ad = ⟨ad.block, ad.off, none⟩) ∧ ∀ (j : Nat) e, L[j]? = some e → ∀ i, i < 6 → w.cell? ⟨ad.block, ad.off + j * 6 + i, none⟩ = (ndC e)[i]?
section
variable {w w' : World} {B B' n c k : Nat} {A : Option Addr} {L : List Nd}
theorem NDSl.empty (w : World) (B : Nat) : NDSl w B none 0 0 [] := ⟨rfl, Nat.le_refl _, by unfold maxLen; omega, fun _ => rfl, fun _ h => by cases h⟩
theorem NDSl.below (h : NDSl w B A n c L) (hb : Below B w w') : NDSl w' B A n c L :=
  ⟨h.len, h.cap, h.max, h.nil, fun ad ha hn => by
    obtain ⟨h1, h2⟩ := h.at_ ad ha hn
    exact ⟨h1, fun j e he i hi => (hb.cell (show (⟨ad.block, ad.off + j * 6 + i, none⟩ : Addr).block < B from h1.1)).trans (h2 j e he i hi)⟩⟩
theorem NDSl.more (h : NDSl w B A n c L) (hB : B ≤ B') : NDSl w B' A n c L := ⟨h.len, h.cap, h.max, h.nil, fun ad ha hn => ⟨⟨Nat.lt_of_lt_of_le (h.at_ ad ha hn).1.1 hB, (h.at_ ad ha hn).1.2⟩, (h.at_ ad ha hn).2⟩⟩
theorem NDSl.on (h : NDSl w w.heap.size A n c L) (hb : Below w.heap.size w w') : NDSl w' w'.heap.size A n c L := (h.below hb).more hb.size
theorem NDSl.grown {g : Nat} (h : NDSl w B A n c L) (hg : w.grownBy w' (some g)) (hB : B ≤ w.heap.size) (hne : ∀ ad, A = some ad → ad.block ≠ g) : NDSl w' B A n c L :=
  ⟨h.len, h.cap, h.max, h.nil, fun ad ha hn => by
    obtain ⟨h1, h2⟩ := h.at_ ad ha hn
    refine ⟨h1, fun j e he i hi => (World.cell?_of_block ?_).trans (h2 j e he i hi)⟩
    exact hg.block _ (Nat.lt_of_lt_of_le h1.1 hB) (fun e => hne ad ha (Option.some.inj e))⟩
theorem NDSl.get (h : NDSl w B A n c L) (hk : k < n) : ∃ b o e, A = some ⟨b, o, none⟩ ∧ b < B ∧ L[k]? = some e ∧ w.cell? ⟨b, o + k * 6, none⟩ = some (.int .i64 e.id) ∧ w.cell? ⟨b, o + k * 6 + 1, none⟩ = some (.int .i64 e.k) ∧ w.cell? ⟨b, o + k * 6 + 2, none⟩ = some (.int .i64 e.ln) ∧ w.cell? ⟨b, o + k * 6 + 3, none⟩ = some (.int .i64 e.sz) ∧ w.cell? ⟨b, o + k * 6 + 4, none⟩ = some (encStr e.tg) ∧ w.cell? ⟨b, o + k * 6 + 5, none⟩ = some (.int .i64 e.pa) := by
  rcases A with _ | ad
  · have := h.nil rfl; have := h.cap; omega
  · obtain ⟨h1, h2⟩ := h.at_ ad rfl (by omega)
    have hl : k < L.length := by rw [h.len]; exact hk
    have h3 := h2 k _ (List.getElem?_eq_getElem hl)
    exact ⟨ad.block, ad.off, L[k], congrArg some h1.2, h1.1, List.getElem?_eq_getElem hl, h3 0 (by decide), h3 1 (by decide), h3 2 (by decide), h3 3 (by decide), h3 4 (by decide), h3 5 (by decide)⟩
theorem NDSl.head (h : NDSl w B A n c L) (hk : k ≤ n) : NDSl w B A k c (L.take k) := by
  refine ⟨by rw [List.length_take, h.len]; omega, Nat.le_trans hk h.cap, h.max, h.nil, fun ad ha h0 => ?_⟩
  obtain ⟨h1, h2⟩ := h.at_ ad ha (by omega)
  refine ⟨h1, fun j e he => h2 j e ?_⟩
  rw [List.getElem?_take] at he
  split at he
  · exact he
  · cases he
theorem NDSl.cut (h : NDSl w B A n c L) (hk : k ≤ n) : NDSl w B (if c = k then A else A.map (·.add (k * 6))) (n - k) (c - k) (L.drop k) := by
  refine ⟨by rw [List.length_drop, h.len], by have := h.cap; omega, by have := h.max; omega, fun ha => ?_, fun ad ha h0 => ?_⟩
  · split at ha
    · omega
    · rcases A with _ | ad
      · have := h.nil rfl; omega
      · cases ha
  · have hc := h.cap
    rw [if_neg (by omega)] at ha
    rcases A with _ | ad0
    · cases ha
    · cases ha
      obtain ⟨h1, h2⟩ := h.at_ ad0 rfl (by omega)
      obtain ⟨h1, hz⟩ := h1
      obtain ⟨b, o, q⟩ := ad0
      simp only [Addr.mk.injEq, true_and] at hz
      subst hz
      simp only [Addr.add_lit]
      refine ⟨⟨h1, trivial⟩, fun j e he i hi => ?_⟩
      rw [List.getElem?_drop] at he
      have ho : o + k * 6 + j * 6 + i = o + (k + j) * 6 + i := by omega
      rw [ho]
      exact h2 (k + j) e he i hi
end
/-- of one's own -/
def NDOwn (w : World) (B : Nat) (v : Value) (L : List Nd) : Prop := w.ownsRow B 30 6 v L.length (NDC L)
theorem NDOwn.nil (w : World) (B : Nat) : NDOwn w B (.slice none 0 0) [] := World.ownsRow_nil _ _ _ _
theorem NDOwn.lt {w : World} {B : Nat} {v : Value} {L : List Nd} (h : NDOwn w B v L) : ∀ k, v.ownBlock = some k → B ≤ k ∧ k < w.heap.size := World.ownsRow.lt h
theorem NDOwn.form {w : World} {B : Nat} {v : Value} {L : List Nd} (h : NDOwn w B v L) : ∃ A c, v = .slice A L.length c ∧ NDSl w w.heap.size A L.length c L ∧ (∀ ad, A = some ad → B ≤ ad.block ∧ ad = ⟨ad.block, 0, none⟩) := by
  rcases h.2 with ⟨rfl, h0⟩ | ⟨g, cap, cur, rfl, hb, hg, hn, hm, hsz, ht⟩
  · obtain rfl : L = [] := List.eq_nil_of_length_eq_zero h0
    exact ⟨none, 0, rfl, NDSl.empty _ _, fun _ h => by cases h⟩
  · refine ⟨_, cap, rfl, ⟨rfl, hn, hm, (fun h => by cases h), fun ad ha _ => ?_⟩, fun ad ha => by cases ha; exact ⟨hb, rfl⟩⟩
    cases ha
    refine ⟨⟨(Array.getElem?_eq_some_iff.1 hg).1, rfl⟩, fun j e he i hi => ?_⟩
    have hj := (List.getElem?_eq_some_iff.1 he).1
    show w.cell? ⟨g, 0 + j * 6 + i, none⟩ = _
    rw [Nat.zero_add, cell_of_row w g _ cur 30 (0, 0) hg, ← NDC_get he hi, ← ht, List.getElem?_take, if_pos (by omega)]
    simp
theorem NDOwn.formK {w : World} {B : Nat} {v : Value} {l : List Nd} (h : NDOwn w B v l) : ∃ A n c, v = .slice A n c ∧ l.length = n ∧ n ≤ c ∧ c ≤ maxLen ∧ (A = none → n = 0 ∧ c = 0) ∧
    (∀ ad, A = some ad → ∃ g, ad = ⟨g, 0, none⟩ ∧ B ≤ g ∧ g < w.heap.size) := by
  have h' := h
  rcases h'.2 with ⟨rfl, h0⟩ | ⟨g, cap, cur, rfl, hb, hg, h1, h2, h3, h4⟩
  · exact ⟨none, 0, 0, rfl, h0, Nat.le_refl _, by unfold maxLen; omega, fun _ => ⟨rfl, rfl⟩, (fun ad h => by cases h)⟩
  · refine ⟨_, _, _, rfl, rfl, h1, h2, (fun h => by cases h), fun ad ha => ?_⟩
    cases ha
    exact ⟨g, rfl, hb, (World.ownsRow.lt h g rfl).2⟩
theorem NDOwn.on {w w' : World} {B : Nat} {v : Value} {L : List Nd} (h : NDOwn w B v L) (hb : Below w.heap.size w w') : NDOwn w' B v L :=
  World.ownsRow.kept h (only_below hb none) (by cases hv : v.ownBlock <;> simp)
theorem NDOwn.lower {w : World} {B B' : Nat} {v : Value} {L : List Nd} (h : NDOwn w B v L) (hB : B' ≤ B) : NDOwn w B' v L := by
  refine ⟨h.1, ?_⟩
  rcases h.2 with h2 | ⟨g, cap, cur, hv, hb, hg⟩
  · exact .inl h2
  · exact .inr ⟨g, cap, cur, hv, by omega, hg⟩
theorem NDOwn.kept {w w' : World} {F : Nat → Prop} {B : Nat} {v : Value} {L : List Nd} (h : NDOwn w B v L) (hk : Kept F w w') (hF : ∀ k, v.ownBlock = some k → F k) : NDOwn w' B v L := by
  rcases h.2 with ⟨rfl, h0⟩ | ⟨g, cap, cur, rfl, hb, hg, hr⟩
  · exact ⟨h.1, .inl ⟨rfl, h0⟩⟩
  · exact ⟨h.1, .inr ⟨g, cap, cur, rfl, hb, (hk.1 g (hF g rfl)).trans hg, hr⟩⟩
/-- one's own is no struct's block -/
theorem NDOwn.ne {w : World} {B g : Nat} {v : Value} {l : List Nd} {t : TypeId} {cs : Array Value} (h : NDOwn w B v l) (hb : Blk w g t cs) (ht : 30 ≠ t) : ∀ k, v.ownBlock = some k → k ≠ g := fun k hk e2 => by
  subst e2
  rcases h.2 with ⟨rfl, _⟩ | ⟨g', cap, cu, rfl, _, hg, _⟩
  · cases hk
  · have e3 : g' = k := by injection hk
    rw [e3] at hg
    have := hg.symm.trans hb
    injection this with this
    injection this with _ this
    exact ht this
theorem Tryd.infoNd : (Tryd.prog.info? 30).map (fun i => (i.zero, i.size, i.bytes)) = some (some (.agg #[.int .i64 0, .int .i64 0, .int .i64 0, .int .i64 0, .string ⟨#[]⟩, .int .i64 0]), 6, 56) := by kernel_rfl
def NDMade (w : World) (L : List Nd) (e : Ending) (w' : World) : Prop := ∃ v, e = .returned v ∧ NDOwn w' w.heap.size v L ∧ Below w.heap.size w w'
theorem NDSl.src {w : World} {B n c : Nat} {ad : Addr} {m : List Nd} (hsl : NDSl w B (some ad) n c m) : ∀ j u, (NDC m)[j]? = some u → w.cell? (ad.add j) = some u := by
  intro j u hu
  have hj : j < (NDC m).length := (List.getElem?_eq_some_iff.1 hu).1
  rw [NDC_len] at hj
  obtain ⟨q, i, hi, rfl⟩ : ∃ q i, i < 6 ∧ j = q * 6 + i := ⟨j / 6, j % 6, by omega, by omega⟩
  obtain ⟨e, he⟩ : ∃ e, m[q]? = some e := ⟨_, List.getElem?_eq_getElem (by omega)⟩
  obtain ⟨⟨_, hz⟩, h2⟩ := hsl.at_ ad rfl (by have := hsl.len; omega)
  obtain ⟨b, o, z⟩ := ad
  simp only [Addr.mk.injEq, true_and] at hz
  subst hz
  rw [Addr.add_lit, ← Nat.add_assoc, h2 q e he i hi, ← NDC_get he hi]
  exact hu
/-- appended to one's own -/
theorem wpList_append_nd {w : World} {ops : Array Oper} {rest : List Oper} {o : Oper} {a : Act} {Q : Exit → Act → World → Prop} (hgd : o.guard = none) (s x : Operand)
    (ho : o.op = .call { callee := .builtin .append, args := #[s, x], argTypes := #[28, 28] }) (B B' : Nat) (v : Value) (l m : List Nd) (hs : a.eval s = v) (hown : NDOwn w B v l) (A : Option Addr) (n c : Nat) (hx : a.eval x = .slice A n c)
    (hsl : NDSl w B' A n c m) (hlen : l.length + n ≤ 1000000) (hB : B ≤ w.heap.size) (h : ∀ v' w', NDOwn w' B v' (l ++ m) → w.grownBy w' v.ownBlock → (v'.ownBlock = v.ownBlock ∨ ∀ k, v'.ownBlock = some k → w.heap.size ≤ k) → wpList Tryd.prog ops Q rest (a.put o.dst v') w') : wpList Tryd.prog ops Q (o :: rest) a w := by
  obtain ⟨i0, hi, hz0, hz1, hz2⟩ := info_parts Tryd.infoNd
  rcases A with _ | ad
  · obtain rfl : c = 0 := hsl.nil rfl
    obtain rfl : n = 0 := by have := hsl.cap; omega
    obtain rfl : m = [] := List.eq_nil_of_length_eq_zero hsl.len
    exact wpList_append_own_none hgd s x 28 ho B 30 i0 6 Tryd.underlying28 hi v _ _ hs hown hx (h v w (by simpa using hown) (only_refl _ _) (.inl rfl))
  · refine wpList_append_own_at w hgd s x 28 ho B 30 i0 (.agg #[.int .i64 0, .int .i64 0, .int .i64 0, .int .i64 0, .string ⟨#[]⟩, .int .i64 0]) 6 56 Tryd.underlying28 hi hz0 hz1 hz2 rfl (by decide) v _ _ hs hown ad n c (NDC m) hx (by rw [NDC_len, hsl.len]) hsl.src NDC_one (by unfold maxLen; omega) (by omega) hB ?_
    intro v' w' h1 h2 _ h4
    refine h v' w' ?_ h2 (h4.imp id fun h5 k hk => by rw [h5] at hk; injection hk with hk; omega)
    unfold NDOwn
    rw [NDC_append, List.length_append, hsl.len]
    exact h1
/-- .. in a region that draws its order -/
theorem step_append_nd {w : World} {ops : Array Oper} {o : Oper} {a : Act} {K : Act → World → Prop} {Q : Exit → Act → World → Prop} {E : Prop} (hgd : o.guard = none) (s x : Operand)
    (ho : o.op = .call { callee := .builtin .append, args := #[s, x], argTypes := #[28, 28] }) (B B' : Nat) (v : Value) (l m : List Nd) (hs : a.eval s = v) (hown : NDOwn w B v l) (A : Option Addr) (n c : Nat) (hx : a.eval x = .slice A n c)
    (hsl : NDSl w B' A n c m) (hlen : l.length + n ≤ 1000000) (hB : B ≤ w.heap.size) (h : ∀ v' w', NDOwn w' B v' (l ++ m) → Below B w w' → w.grownBy w' v.ownBlock → K (a.put o.dst v') w') : if Region.wanted o (yielded ops a.tmps) = true then Oper.wp Tryd.prog o a w K Q else E := by
  obtain ⟨i0, hi, hz0, hz1, hz2⟩ := info_parts Tryd.infoNd
  have hw : Region.wanted o (yielded ops a.tmps) = true := by simp [Region.wanted, hgd]
  rw [if_pos hw]
  rcases A with _ | ad
  · obtain rfl : c = 0 := hsl.nil rfl
    obtain rfl : n = 0 := by have := hsl.cap; omega
    obtain rfl : m = [] := List.eq_nil_of_length_eq_zero hsl.len
    have hrun := run_append_owned_none (P := Tryd.prog) (w := w) B 28 o.type 30 i0 6 Tryd.underlying28 hi v _ _ hown
    unfold Oper.wp
    simp [execOp, ho, resolve, invoke, builtin, hs, hx, hrun, Result.andThen]
    exact h v w (by simpa using hown) (Below.refl _ _) (only_refl _ _)
  · refine wp_append_own w s x 28 ho B 30 i0 (.agg #[.int .i64 0, .int .i64 0, .int .i64 0, .int .i64 0, .string ⟨#[]⟩, .int .i64 0]) 6 56 Tryd.underlying28 hi hz0 hz1 hz2 rfl (by decide) v _ _ hs hown ad n c (NDC m) hx (by rw [NDC_len, hsl.len]) hsl.src NDC_one (by unfold maxLen; omega) (by omega) hB ?_
    intro v' w' h1 h2 _
    refine h v' w' ?_ ((Below.refl _ _).grown h2 hB (fun k hk => (hown.lt k hk).1)) h2
    unfold NDOwn
    rw [NDC_append, List.length_append, hsl.len]
    exact h1
/-- just made -/
theorem NDSl.lit (w : World) (L : List Nd) (h : L.length ≤ 1000) : NDSl (w.alloc (.cells (NDC L).toArray 30)) (w.heap.size + 1) (some ⟨w.heap.size, 0, none⟩) L.length L.length L :=
  ⟨rfl, Nat.le_refl _, by unfold maxLen; omega, fun h => (by cases h), fun ad ha _ => by
    cases ha
    refine ⟨⟨Nat.lt_succ_self _, rfl⟩, fun j x hx i hi => ?_⟩
    show (w.alloc (.cells (NDC L).toArray 30)).cell? ⟨w.heap.size, 0 + j * 6 + i, none⟩ = _
    rw [Nat.zero_add, (Blk.new w _ _).cell, ← NDC_get hx hi]
    simp⟩
theorem NDSl.one (w : World) (e : Nd) : NDSl (w.alloc (.cells (ndC e).toArray 30)) (w.heap.size + 1) (some ⟨w.heap.size, 0, none⟩) 1 1 [e] := by
  have h := NDSl.lit w [e] (by simp)
  have e1 : NDC [e] = ndC e := by rw [NDC_cons]; simp [NDC]
  rw [e1] at h
  exact h
abbrev NDRow (w : World) (g : Nat) (M : List Nd) (T : List Value) : Prop := Blk w g 30 (NDC M ++ T).toArray
theorem NDOwn.row {w : World} {B n cap g : Nat} {l : List Nd} (h : NDOwn w B (.slice (some ⟨g, 0, none⟩) n cap) l) : ∃ T, NDRow w g l T ∧ n = l.length ∧ n ≤ cap ∧ cap ≤ maxLen ∧ B ≤ g ∧ (NDC l ++ T).length = cap * 6 := by
  rcases h.2 with ⟨h', _⟩ | ⟨g', cap', cur, h', hb, hg, h1, h2, h3, h4⟩
  · cases h'
  · cases h'
    have e : cur = (NDC l ++ cur.toList.drop (l.length * 6)).toArray := by
      apply Array.ext'
      rw [← h4]
      simp
    refine ⟨cur.toList.drop (l.length * 6), ?_, rfl, h1, h2, hb, ?_⟩
    · unfold NDRow Blk
      rw [← e]
      exact hg
    · have := congrArg Array.size e
      rw [h3] at this
      rw [this]
      simp
theorem NDRow.own {w : World} {B n cap g : Nat} {l : List Nd} {T : List Value} (h : NDRow w g l T) (hl : l.length = n) (hn : n ≤ cap) (hm : cap ≤ maxLen) (hB : B ≤ g) (hs : (NDC l ++ T).length = cap * 6) : NDOwn w B (.slice (some ⟨g, 0, none⟩) n cap) l := by
  subst hl
  refine ⟨NDC_len l, .inr ⟨g, cap, _, rfl, hB, h, hn, hm, by simpa using hs, ?_⟩⟩
  show ((NDC l ++ T).toArray.toList).take _ = _
  rw [show (NDC l ++ T).toArray.toList = NDC l ++ T from rfl, List.take_left' (NDC_len l)]
end Go.Proofs.YtklplmldhhlgiaaDoor
