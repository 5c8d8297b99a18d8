/- BlobPlays: the law's own arrays and refs turned beside the area. -/
import Derived.Test.YtfdabbpfphnbhaaDoorGBlR
import Derived.Deep.MidRow
import Derived.Deep.WholeRow
namespace Go.Proofs.YtfdabbpfphnbhaaDoor
open Go.RowKit

theorem wpList_builtB {w : World} {ops : Array Oper} {rest : List Oper} {o : Oper} {a : Act} {Q : Exit → Act → World → Prop} (hg : o.guard = none) (t : TypeId) (parts : Array (Nat × Operand)) (ho : o.op = .build t parts) (cells : Array Value)
    (hc : Tryd.prog.built t (parts.map fun (i, x) => (i, a.eval x)).toList = some cells) (h : wpList Tryd.prog ops Q rest (a.put o.dst (.agg cells)) w) : wpList Tryd.prog ops Q (o :: rest) a w := by
  refine wpList_build hg t parts ho (by rw [hc]; rfl) ?_
  rw [hc]
  exact h
theorem Tryd.built300 : Tryd.prog.built 29 [] = some (arr 300 (fun _ => false)) := by kernel_rfl
theorem Tryd.size300 : (Tryd.prog.info? 29).map (·.size) = some 300 := by kernel_rfl
theorem arr_size (n : Nat) (f : Nat → Bool) : (arr n f).size = n := by simp [arr]
theorem arr_one (n : Nat) (f : Nat → Bool) : (arr n f).all (·.oneCell') = true := by
  rw [Array.all_eq_true_iff_forall_mem]
  intro x hx
  unfold arr at hx
  rw [List.mem_toArray] at hx
  obtain ⟨i, _, rfl⟩ := List.mem_map.1 hx
  rfl
theorem read_bytB {s : DSt} {n q k : Nat} (u : Up s n q) (hk : k < n) : Byt (s.read (k : Int)).2 := by
  obtain ⟨b, hb⟩ := u.at_ hk
  have ho := u.okN.1 b (List.mem_of_getElem? hb)
  rw [u.read hk hb]
  unfold BSt.read
  split
  · exact ho.2.2.1
  · split
    · exact Byt.nil
    · exact ho.1
section
variable {Real : World → Nat → DSt → (Nat → Prop) → Prop} {AR : World → Nat → Nat → Nat → ASt → (Nat → Prop) → Prop} {S : Nat → Addr} {w0 w1 w w' : World} {d g n q q' ub hb B : Nat} {s s' : DSt} {a a' b : ASt} {F G : Nat → Prop} {ks : List Lie} {rv : Value} {refs : List RefS}
/-- a block beside them is anew -/
theorem Bk.setr (D : DevOk Real) (O : AreaOk Real AR) {g1 : Nat} {t : TypeId} {cs : Array Value} (h : Bk Real AR S w0 w d g s n a q (Lie.blk g1 t cs :: ks)) (hn : ∀ K, K ∈ ks → ¬ K.B g1) (h0 : w0.heap.size ≤ g1) (cs' : Array Value) :
    Bk Real AR S w0 (w.setRow g1 cs') d g s n a q (Lie.blk g1 t cs' :: ks) := by
  obtain ⟨F, G, h, hk⟩ := h
  obtain ⟨hb, hbn⟩ := hk _ List.mem_cons_self
  obtain ⟨hlt, hnF, hnG⟩ := hbn g1 rfl
  have hb : Blk w g1 t cs := hb
  have ho : ∀ k, k ≠ g1 → (w.setRow g1 cs').heap[k]? = w.heap[k]? := fun k hk => setRow_other w g1 k cs' hk
  have hsz : (w.setRow g1 cs').heap.size = w.heap.size := by simp [World.setRow]
  refine ⟨F, G, ⟨D.kept h.real ⟨fun k hk => ho k (fun e => hnF (e ▸ hk)), by rw [hsz]; exact Nat.le_refl _⟩, O.kept h.ar ⟨fun k hk => ho k (fun e => hnG (e ▸ hk)), by rw [hsz]; exact Nat.le_refl _⟩, ⟨h.below.os, h.below.tape, h.below.output, by rw [hsz]; exact h.below.size, fun k hk => (ho k (by omega)).trans (h.below.block k hk)⟩, h.sent0, h.fn, h.gn, h.ap, h.up, h.small, h.n0, h.n1, h.ok⟩, fun K hK => ?_⟩
  rcases List.mem_cons.1 hK with rfl | hK
  · exact ⟨setRow_heap w g1 cs cs' t (0, 0) hb, fun k hk => by
      obtain rfl : k = g1 := hk
      exact ⟨by rw [hsz]; exact hlt, hnF, hnG⟩⟩
  · obtain ⟨h1, h2⟩ := hk K (List.mem_cons_of_mem _ hK)
    exact ⟨K.keeps h1 (fun k hk => (h2 k hk).1) ⟨fun k hk => ho k (fun e => hn K hK (e ▸ hk)), by rw [hsz]; exact Nat.le_refl _⟩, fun k hk => by rw [hsz]; exact h2 k hk⟩
theorem BpM.own (h : BpM Real AR S w1 d g ub hb B s a b q rv refs ks w) : OwnB w B rv refs := Bk.refs h (by simp)
theorem BpM.use (h : BpM Real AR S w1 d g ub hb B s a b q rv refs ks w) : Blk w ub 29 (arr 300 b.use) := Bk.blk h (by simp)
theorem BpM.held (h : BpM Real AR S w1 d g ub hb B s a b q rv refs ks w) : Blk w hb 29 (arr 300 b.held) := Bk.blk h (by simp)
theorem BpM.noB (h : BpM Real AR S w1 d g ub hb B s a b q rv refs ks w) {x : Nat} (hx : x < B) : ¬ (Lie.refs B rv refs).B x := fun e => by
  have := (h.own.lt x e).1
  omega
/-- use[k] is set -/
theorem BpM.setUse (D : DevOk Real) (O : AreaOk Real AR) (h : BpM Real AR S w1 d g ub hb B s a b q rv refs ks w) (hU : ub < B ∧ ub ≠ hb ∧ w1.heap.size ≤ ub) (hk : ∀ K, K ∈ ks → ¬ K.B ub) (k : Nat) (v : Bool) :
    BpM Real AR S w1 d g ub hb B s a { b with use := setN b.use k v } q rv refs ks (w.setCell ⟨ub, k, none⟩ (.bool v)) := by
  have hno := h.noB hU.1
  have h1 : Bk Real AR S w1 w d g s 300 a q (Lie.blk ub 29 (arr 300 b.use) :: (ks ++ [Lie.blk hb 29 (arr 300 b.held), Lie.refs B rv refs])) := Bk.less h (fun K hK => by
    simp only [List.mem_cons, List.mem_append, List.not_mem_nil, or_false] at hK ⊢
    rcases hK with rfl | h | rfl | rfl <;> simp_all)
  have h2 := h1.setc D O (i := k) (fun K hK => by
    rcases List.mem_append.1 hK with hK | hK
    · exact hk K hK
    · simp only [List.mem_cons, List.not_mem_nil, or_false] at hK
      rcases hK with rfl | rfl
      · exact hU.2.1
      · exact hno) hU.2.2 (.bool v)
  rw [arr_set] at h2
  exact h2.less (fun K hK => by
    simp only [List.mem_cons, List.mem_append, List.not_mem_nil, or_false] at hK ⊢
    rcases hK with h | rfl | rfl | rfl <;> simp_all)
/-- held[k] is set -/
theorem BpM.setHeld (D : DevOk Real) (O : AreaOk Real AR) (h : BpM Real AR S w1 d g ub hb B s a b q rv refs ks w) (hU : hb < B ∧ hb ≠ ub ∧ w1.heap.size ≤ hb) (hk : ∀ K, K ∈ ks → ¬ K.B hb) (k : Nat) (v : Bool) :
    BpM Real AR S w1 d g ub hb B s a { b with held := setN b.held k v } q rv refs ks (w.setCell ⟨hb, k, none⟩ (.bool v)) := by
  have hno := h.noB hU.1
  have h1 : Bk Real AR S w1 w d g s 300 a q (Lie.blk hb 29 (arr 300 b.held) :: (ks ++ [Lie.blk ub 29 (arr 300 b.use), Lie.refs B rv refs])) := Bk.less h (fun K hK => by
    simp only [List.mem_cons, List.mem_append, List.not_mem_nil, or_false] at hK ⊢
    rcases hK with rfl | h | rfl | rfl <;> simp_all)
  have h2 := h1.setc D O (i := k) (fun K hK => by
    rcases List.mem_append.1 hK with hK | hK
    · exact hk K hK
    · simp only [List.mem_cons, List.not_mem_nil, or_false] at hK
      rcases hK with rfl | rfl
      · exact hU.2.1
      · exact hno) hU.2.2 (.bool v)
  rw [arr_set] at h2
  exact h2.less (fun K hK => by
    simp only [List.mem_cons, List.mem_append, List.not_mem_nil, or_false] at hK ⊢
    rcases hK with h | rfl | rfl | rfl <;> simp_all)
/-- nothing is held any more -/
theorem BpM.noHeld (D : DevOk Real) (O : AreaOk Real AR) (h : BpM Real AR S w1 d g ub hb B s a b q rv refs ks w) (hU : hb < B ∧ hb ≠ ub ∧ w1.heap.size ≤ hb) (hk : ∀ K, K ∈ ks → ¬ K.B hb) :
    BpM Real AR S w1 d g ub hb B s a { b with held := fun _ => false } q rv refs ks (w.setRow hb (arr 300 (fun _ => false))) := by
  have hno := h.noB hU.1
  have h1 : Bk Real AR S w1 w d g s 300 a q (Lie.blk hb 29 (arr 300 b.held) :: (ks ++ [Lie.blk ub 29 (arr 300 b.use), Lie.refs B rv refs])) := Bk.less h (fun K hK => by
    simp only [List.mem_cons, List.mem_append, List.not_mem_nil, or_false] at hK ⊢
    rcases hK with rfl | h | rfl | rfl <;> simp_all)
  have h2 := h1.setr D O (fun K hK => by
    rcases List.mem_append.1 hK with hK | hK
    · exact hk K hK
    · simp only [List.mem_cons, List.not_mem_nil, or_false] at hK
      rcases hK with rfl | rfl
      · exact hU.2.1
      · exact hno) hU.2.2 (arr 300 (fun _ => false))
  exact h2.less (fun K hK => by
    simp only [List.mem_cons, List.mem_append, List.not_mem_nil, or_false] at hK ⊢
    rcases hK with h | rfl | rfl | rfl <;> simp_all)
/-- one ref more -/
theorem BpM.app (D : DevOk Real) (O : AreaOk Real AR) (h : BpM Real AR S w1 d g ub hb B s a b q rv refs [] w) {gg cap m : Nat} {x : RefS} (hm : refs.length = m) (hU : ub < B ∧ hb < B) (hB : w1.heap.size ≤ B)
    (h1 : w'.ownsRow B 36 2 (.slice (some ⟨gg, 0, none⟩) (m + 1) cap) (m + 1) (refC refs ++ cellsB x)) (h2 : w.grownBy w' rv.ownBlock) (h3 : rv.ownBlock = some gg ∨ gg = w.heap.size) :
    BpM Real AR S w1 d g ub hb B s a b q (.slice (some ⟨gg, 0, none⟩) (m + 1) cap) (refs ++ [x]) [] w' := by
  have hA : Bk Real AR S w1 w d g s 300 a q (Lie.refs B rv refs :: [Lie.blk ub 29 (arr 300 b.use), Lie.blk hb 29 (arr 300 b.held)]) := Bk.less h (fun K hK => by
    simp only [List.mem_cons, List.mem_append, List.not_mem_nil, or_false, false_or] at hK ⊢
    rcases hK with rfl | rfl | rfl <;> simp)
  have hC := hA.app D O (x := x) hm (fun K hK k hk e => by
    simp only [List.mem_cons, List.not_mem_nil, or_false] at hK
    rcases hK with rfl | rfl
    · have e : k = ub := e; omega
    · have e : k = hb := e; omega) hB h1 h2 h3
  exact hC.less (fun K hK => by
    simp only [List.mem_cons, List.mem_append, List.not_mem_nil, or_false, false_or] at hK ⊢
    rcases hK with rfl | rfl | rfl <;> simp)
end
end Go.Proofs.YtfdabbpfphnbhaaDoor
