/- Entries in memory: a name, a node, a kind; lists of them, to be read, and of one's own. -/
import Derived.Test.YtcjiimfgmmgifaaDoorGNmD
import Derived.Test.YtcjiimfgmmgifaaDoorGCry
import Derived.Maps.AppendAt
namespace Go.Proofs.YtcjiimfgmmgifaaDoor
open Go.RowKit Go.Shelf Go.Sort

structure En where
  s : Nam
  n : Int
  k : Int
deriving DecidableEq
def enC (e : En) : List Value := [encStr e.s, .int .i64 e.n, .int .i64 e.k]
abbrev enV (e : En) : Value := .agg #[encStr e.s, .int .i64 e.n, .int .i64 e.k]
def EC (L : List En) : List Value := L.flatMap enC
theorem EC_append (L M : List En) : EC (L ++ M) = EC L ++ EC M := List.flatMap_append
theorem EC_len (L : List En) : (EC L).length = L.length * 3 := by
  induction L with
  | nil => rfl
  | cons e L ih => show (enC e ++ EC L).length = _; rw [List.length_append, ih]; simp [enC]; omega
theorem EC_get {L : List En} {j : Nat} {e : En} (h : L[j]? = some e) : (EC L)[j * 3]? = some (encStr e.s) ∧ (EC L)[j * 3 + 1]? = some (.int .i64 e.n) ∧ (EC L)[j * 3 + 2]? = some (.int .i64 e.k) := by
  induction L generalizing j with
  | nil => simp at h
  | cons y L ih =>
    have e1 : EC (y :: L) = encStr y.s :: .int .i64 y.n :: .int .i64 y.k :: EC L := rfl
    rcases j with _ | j
    · simp at h
      subst h
      exact ⟨rfl, rfl, rfl⟩
    · simp at h
      rw [e1, show (j + 1) * 3 = j * 3 + 1 + 1 + 1 by omega]
      simpa using ih h
theorem EC_one {L : List En} : ∀ u ∈ EC L, u.oneCell' = true := by
  intro u hu
  obtain ⟨e, _, hu⟩ := List.mem_flatMap.1 hu
  simp [enC] at hu
  rcases hu with rfl | rfl | rfl <;> rfl
theorem EC_take (L : List En) (k : Nat) : (EC L).take (k * 3) = EC (L.take k) := by
  induction L generalizing k with
  | nil => simp [EC]
  | cons y L ih =>
    rcases k with _ | k
    · simp [EC]
    · have e1 : EC (y :: L) = encStr y.s :: .int .i64 y.n :: .int .i64 y.k :: EC L := rfl
      rw [e1, show (k + 1) * 3 = k * 3 + 1 + 1 + 1 by omega]
      simp only [List.take_succ_cons]
      rw [ih]
      rfl
/-- the node and the kind of the j-th are others now -/
theorem EC_set {L : List En} {j : Nat} {e : En} (h : L[j]? = some e) (x y : Int) : ((EC L).set (j * 3 + 1) (.int .i64 x)).set (j * 3 + 2) (.int .i64 y) = EC (L.set j ⟨e.s, x, y⟩) := by
  induction L generalizing j with
  | nil => simp at h
  | cons z L ih =>
    have e1 : EC (z :: L) = encStr z.s :: .int .i64 z.n :: .int .i64 z.k :: EC L := rfl
    rcases j with _ | j
    · simp at h
      subst h
      rfl
    · simp at h
      rw [e1, show (j + 1) * 3 + 1 = (j * 3 + 1) + 1 + 1 + 1 by omega, show (j + 1) * 3 + 2 = (j * 3 + 2) + 1 + 1 + 1 by omega]
      simp only [List.set_cons_succ]
      rw [ih h]
      rfl
/-- entries, to be read -/
structure ESl (w : World) (B : Nat) (A : Option Addr) (n c : Nat) (L : List En) : Prop where
  len : L.length = n
  cap : n ≤ c
  max : c ≤ maxLen
  nil : A = none → c = 0
  at_ : ∀ ad, A = some ad → 0 < n → (ad.block < B ∧ ad = ⟨ad.block, ad.off, none⟩) ∧ ∀ (j : Nat) e, L[j]? = some e → w.cell? ⟨ad.block, ad.off + j * 3, none⟩ = some (encStr e.s) ∧ w.cell? ⟨ad.block, ad.off + j * 3 + 1, none⟩ = some (.int .i64 e.n) ∧ w.cell? ⟨ad.block, ad.off + j * 3 + 2, none⟩ = some (.int .i64 e.k)
section
variable {w w' : World} {B B' n c k : Nat} {A : Option Addr} {L : List En}
theorem ESl.empty (w : World) (B : Nat) : ESl w B none 0 0 [] := ⟨rfl, Nat.le_refl _, by unfold maxLen; omega, fun _ => rfl, fun _ h => by cases h⟩
theorem ESl.below (h : ESl w B A n c L) (hb : Below B w w') : ESl w' B A n c L :=
  ⟨h.len, h.cap, h.max, h.nil, fun ad ha hn => by
    obtain ⟨h1, h2⟩ := h.at_ ad ha hn
    refine ⟨h1, fun j e he => ?_⟩
    obtain ⟨e1, e2, e3⟩ := h2 j e he
    have hc : ∀ i, w'.cell? ⟨ad.block, i, none⟩ = w.cell? ⟨ad.block, i, none⟩ := fun i => hb.cell (show (⟨ad.block, i, none⟩ : Addr).block < B from h1.1)
    exact ⟨(hc _).trans e1, (hc _).trans e2, (hc _).trans e3⟩⟩
theorem ESl.more (h : ESl w B A n c L) (hB : B ≤ B') : ESl w B' A n c L := ⟨h.len, h.cap, h.max, h.nil, fun ad ha hn => ⟨⟨Nat.lt_of_lt_of_le (h.at_ ad ha hn).1.1 hB, (h.at_ ad ha hn).1.2⟩, (h.at_ ad ha hn).2⟩⟩
theorem ESl.on (h : ESl w w.heap.size A n c L) (hb : Below w.heap.size w w') : ESl w' w'.heap.size A n c L := (h.below hb).more hb.size
theorem ESl.get (h : ESl w B A n c L) (hk : k < n) : ∃ b o e, A = some ⟨b, o, none⟩ ∧ b < B ∧ L[k]? = some e ∧ w.cell? ⟨b, o + k * 3, none⟩ = some (encStr e.s) ∧ w.cell? ⟨b, o + k * 3 + 1, none⟩ = some (.int .i64 e.n) ∧ w.cell? ⟨b, o + k * 3 + 2, none⟩ = some (.int .i64 e.k) := by
  rcases A with _ | ad
  · have := h.nil rfl; have := h.cap; omega
  · obtain ⟨h1, h2⟩ := h.at_ ad rfl (by omega)
    have hl : k < L.length := by rw [h.len]; exact hk
    exact ⟨ad.block, ad.off, L[k], congrArg some h1.2, h1.1, List.getElem?_eq_getElem hl, h2 k _ (List.getElem?_eq_getElem hl)⟩
theorem ESl.head (h : ESl w B A n c L) (hk : k ≤ n) : ESl w B A k c (L.take k) := by
  refine ⟨by rw [List.length_take, h.len]; omega, Nat.le_trans hk h.cap, h.max, h.nil, fun ad ha h0 => ?_⟩
  obtain ⟨h1, h2⟩ := h.at_ ad ha (by omega)
  refine ⟨h1, fun j e he => h2 j e ?_⟩
  rw [List.getElem?_take] at he
  split at he
  · exact he
  · cases he
theorem ESl.cut (h : ESl w B A n c L) (hk : k ≤ n) : ESl w B (if c = k then A else A.map (·.add (k * 3))) (n - k) (c - k) (L.drop k) := by
  refine ⟨by rw [List.length_drop, h.len], by have := h.cap; omega, by have := h.max; omega, fun ha => ?_, fun ad ha h0 => ?_⟩
  · split at ha
    · omega
    · rcases A with _ | ad
      · have := h.nil rfl; omega
      · cases ha
  · have hc := h.cap
    rw [if_neg (by omega)] at ha
    rcases A with _ | ad0
    · cases ha
    · cases ha
      obtain ⟨h1, h2⟩ := h.at_ ad0 rfl (by omega)
      obtain ⟨h1, hz⟩ := h1
      obtain ⟨b, o, q⟩ := ad0
      simp only [Addr.mk.injEq, true_and] at hz
      subst hz
      simp only [Addr.add_lit]
      refine ⟨⟨h1, trivial⟩, fun j e he => ?_⟩
      rw [List.getElem?_drop] at he
      obtain ⟨e1, e2, e3⟩ := h2 (k + j) e he
      have ho : o + k * 3 + j * 3 = o + (k + j) * 3 := by omega
      rw [ho]
      exact ⟨e1, e2, e3⟩
end
/-- entries of one's own -/
def EOwn (w : World) (B : Nat) (v : Value) (L : List En) : Prop := w.ownsRow B 29 3 v L.length (EC L)
theorem EOwn.nil (w : World) (B : Nat) : EOwn w B (.slice none 0 0) [] := World.ownsRow_nil _ _ _ _
theorem EOwn.lt {w : World} {B : Nat} {v : Value} {L : List En} (h : EOwn w B v L) : ∀ k, v.ownBlock = some k → B ≤ k ∧ k < w.heap.size := World.ownsRow.lt h
theorem EOwn.form {w : World} {B : Nat} {v : Value} {L : List En} (h : EOwn w B v L) : ∃ A c, v = .slice A L.length c ∧ ESl w w.heap.size A L.length c L ∧ (∀ ad, A = some ad → B ≤ ad.block ∧ ad = ⟨ad.block, 0, none⟩) := by
  rcases h.2 with ⟨rfl, h0⟩ | ⟨g, cap, cur, rfl, hb, hg, hn, hm, hsz, ht⟩
  · obtain rfl : L = [] := List.eq_nil_of_length_eq_zero h0
    exact ⟨none, 0, rfl, ESl.empty _ _, fun _ h => by cases h⟩
  · refine ⟨_, cap, rfl, ⟨rfl, hn, hm, (fun h => by cases h), fun ad ha _ => ?_⟩, fun ad ha => by cases ha; exact ⟨hb, rfl⟩⟩
    cases ha
    refine ⟨⟨(Array.getElem?_eq_some_iff.1 hg).1, rfl⟩, fun j e he => ?_⟩
    have hc : ∀ i, i < L.length * 3 → w.cell? ⟨g, i, none⟩ = (EC L)[i]? := fun i hi => by
      rw [cell_of_row w g i cur 29 (0, 0) hg, ← ht, List.getElem?_take, if_pos (by omega)]
      simp
    have hj := (List.getElem?_eq_some_iff.1 he).1
    obtain ⟨e1, e2, e3⟩ := EC_get he
    simp only [Nat.zero_add]
    exact ⟨(hc _ (by omega)).trans e1, (hc _ (by omega)).trans e2, (hc _ (by omega)).trans e3⟩
theorem EOwn.on {w w' : World} {B : Nat} {v : Value} {L : List En} (h : EOwn w B v L) (hb : Below w.heap.size w w') : EOwn w' B v L :=
  World.ownsRow.kept h (only_below hb none) (by cases hv : v.ownBlock <;> simp)
theorem EOwn.lower {w : World} {B B' : Nat} {v : Value} {L : List En} (h : EOwn w B v L) (hB : B' ≤ B) : EOwn w B' v L := by
  refine ⟨h.1, ?_⟩
  rcases h.2 with h2 | ⟨g, cap, cur, hv, hb, hg⟩
  · exact .inl h2
  · exact .inr ⟨g, cap, cur, hv, by omega, hg⟩
theorem Tryd.infoEn : (Tryd.prog.info? 29).map (fun i => (i.zero, i.size, i.bytes)) = some (some (.agg #[.string ⟨#[]⟩, .int .i64 0, .int .i64 0]), 3, 32) := by kernel_rfl
def EMade (w : World) (L : List En) (e : Ending) (w' : World) : Prop := ∃ v, e = .returned v ∧ EOwn w' w.heap.size v L ∧ Below w.heap.size w w'
/-- entries appended to one's own -/
theorem wpList_append_en {w : World} {ops : Array Oper} {rest : List Oper} {o : Oper} {a : Act} {Q : Exit → Act → World → Prop} (hgd : o.guard = none) (s x : Operand)
    (ho : o.op = .call { callee := .builtin .append, args := #[s, x], argTypes := #[25, 25] }) (B B' : Nat) (v : Value) (l m : List En) (hs : a.eval s = v) (hown : EOwn w B v l) (A : Option Addr) (n c : Nat) (hx : a.eval x = .slice A n c)
    (hsl : ESl w B' A n c m) (hlen : l.length + n ≤ 1000000) (hB : B ≤ w.heap.size) (h : ∀ v' w', EOwn w' B v' (l ++ m) → w.grownBy w' v.ownBlock → (v'.ownBlock = v.ownBlock ∨ ∀ k, v'.ownBlock = some k → w.heap.size ≤ k) → wpList Tryd.prog ops Q rest (a.put o.dst v') w') : wpList Tryd.prog ops Q (o :: rest) a w := by
  obtain ⟨i0, hi, hz0, hz1, hz2⟩ := info_parts Tryd.infoEn
  rcases A with _ | ad
  · obtain rfl : c = 0 := hsl.nil rfl
    obtain rfl : n = 0 := by have := hsl.cap; omega
    obtain rfl : m = [] := List.eq_nil_of_length_eq_zero hsl.len
    exact wpList_append_own_none hgd s x 25 ho B 29 i0 3 Tryd.underlying25 hi v _ _ hs hown hx (h v w (by simpa using hown) (only_refl _ _) (.inl rfl))
  · refine wpList_append_own_at w hgd s x 25 ho B 29 i0 (.agg #[.string ⟨#[]⟩, .int .i64 0, .int .i64 0]) 3 32 Tryd.underlying25 hi hz0 hz1 hz2 rfl (by decide) v _ _ hs hown ad n c (EC m) hx (by rw [EC_len, hsl.len]) ?_ EC_one (by unfold maxLen; omega) (by omega) hB ?_
    · intro j u hu
      have hj : j < (EC m).length := (List.getElem?_eq_some_iff.1 hu).1
      rw [EC_len] at hj
      obtain ⟨q, hq⟩ : ∃ q, j = q * 3 ∨ j = q * 3 + 1 ∨ j = q * 3 + 2 := ⟨j / 3, by omega⟩
      obtain ⟨e, he⟩ : ∃ e, m[q]? = some e := ⟨_, List.getElem?_eq_getElem (by omega)⟩
      obtain ⟨⟨_, hz⟩, h2⟩ := hsl.at_ ad rfl (by have := hsl.len; omega)
      obtain ⟨b, o, z⟩ := ad
      simp only [Addr.mk.injEq, true_and] at hz
      subst hz
      simp only at h2
      obtain ⟨e1, e2, e3⟩ := h2 _ e he
      obtain ⟨g1, g2, g3⟩ := EC_get he
      rcases hq with rfl | rfl | rfl
      · rw [Addr.add_lit, e1, ← g1]; exact hu
      · rw [Addr.add_lit, ← Nat.add_assoc, e2, ← g2]; exact hu
      · rw [Addr.add_lit, ← Nat.add_assoc, e3, ← g3]; exact hu
    · intro v' w' h1 h2 _ h4
      refine h v' w' ?_ h2 (h4.imp id fun h5 k hk => by rw [h5] at hk; injection hk with hk; omega)
      unfold EOwn
      rw [EC_append, List.length_append, hsl.len]
      exact h1
/-- entries, just made -/
theorem esl_lit (w : World) (L : List En) (h : L.length ≤ 1000) : ESl (w.alloc (.cells (EC L).toArray 29)) (w.heap.size + 1) (some ⟨w.heap.size, 0, none⟩) L.length L.length L :=
  ⟨rfl, Nat.le_refl _, by unfold maxLen; omega, fun h => (by cases h), fun ad ha _ => by
    cases ha
    refine ⟨⟨Nat.lt_succ_self _, rfl⟩, fun j x hx => ?_⟩
    obtain ⟨g1, g2, g3⟩ := EC_get hx
    have hc : ∀ i, (w.alloc (.cells (EC L).toArray 29)).cell? ⟨w.heap.size, i, none⟩ = (EC L)[i]? := fun i => by rw [(Blk.new w _ _).cell i]; simp
    simp only [Nat.zero_add]
    exact ⟨(hc _).trans g1, (hc _).trans g2, (hc _).trans g3⟩⟩
/-- one entry, just made -/
theorem esl_one (w : World) (e : En) : ESl (w.alloc (.cells (enC e).toArray 29)) (w.heap.size + 1) (some ⟨w.heap.size, 0, none⟩) 1 1 [e] :=
  ⟨rfl, Nat.le_refl _, by unfold maxLen; omega, fun h => (by cases h), fun ad ha _ => by
    cases ha
    refine ⟨⟨Nat.lt_succ_self _, rfl⟩, fun j x hx => ?_⟩
    rcases j with _ | j
    · simp at hx
      subst hx
      exact ⟨(Blk.new w _ _).cell 0, (Blk.new w _ _).cell 1, (Blk.new w _ _).cell 2⟩
    · simp at hx⟩
end Go.Proofs.YtcjiimfgmmgifaaDoor
