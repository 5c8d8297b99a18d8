/- A directory's lists: what is added, deleted, set. -/
import Derived.Test.YtcjiimfgmmgifaaDoorGDrIf
namespace Go.Proofs.YtcjiimfgmmgifaaDoor
open Go.RowKit Go.Shelf Go.Sort

/-- entries appended to one's own, in a region that draws its order -/
theorem step_append_en {w : World} {ops : Array Oper} {o : Oper} {a : Act} {K : Act → World → Prop} {Q : Exit → Act → World → Prop} {E : Prop} (hgd : o.guard = none) (s x : Operand)
    (ho : o.op = .call { callee := .builtin .append, args := #[s, x], argTypes := #[25, 25] }) (B B' : Nat) (v : Value) (l m : List En) (hs : a.eval s = v) (hown : EOwn w B v l) (ad : Addr) (n c : Nat) (hx : a.eval x = .slice (some ad) n c)
    (hsl : ESl w B' (some ad) n c m) (hlen : l.length + n ≤ 1000000) (hB : B ≤ w.heap.size) (h : ∀ v' w', EOwn w' B v' (l ++ m) → Below B w w' → K (a.put o.dst v') w') : if Region.wanted o (yielded ops a.tmps) = true then Oper.wp Tryd.prog o a w K Q else E := by
  obtain ⟨i0, hi, hz0, hz1, hz2⟩ := info_parts Tryd.infoEn
  have hw : Region.wanted o (yielded ops a.tmps) = true := by simp [Region.wanted, hgd]
  rw [if_pos hw]
  refine wp_append_own w s x 25 ho B 29 i0 (.agg #[.string ⟨#[]⟩, .int .i64 0, .int .i64 0]) 3 32 Tryd.underlying25 hi hz0 hz1 hz2 rfl (by decide) v _ _ hs hown ad n c (EC m) hx (by rw [EC_len, hsl.len]) ?_ EC_one (by unfold maxLen; omega) (by omega) hB ?_
  · intro j u hu
    have hj : j < (EC m).length := (List.getElem?_eq_some_iff.1 hu).1
    rw [EC_len] at hj
    obtain ⟨q, hq⟩ : ∃ q, j = q * 3 ∨ j = q * 3 + 1 ∨ j = q * 3 + 2 := ⟨j / 3, by omega⟩
    obtain ⟨e, he⟩ : ∃ e, m[q]? = some e := ⟨_, List.getElem?_eq_getElem (by omega)⟩
    obtain ⟨⟨_, hz⟩, h2⟩ := hsl.at_ ad rfl (by have := hsl.len; omega)
    obtain ⟨b, o, z⟩ := ad
    simp only [Addr.mk.injEq, true_and] at hz
    subst hz
    simp only at h2
    obtain ⟨e1, e2, e3⟩ := h2 _ e he
    obtain ⟨g1, g2, g3⟩ := EC_get he
    rcases hq with rfl | rfl | rfl
    · rw [Addr.add_lit, e1, ← g1]; exact hu
    · rw [Addr.add_lit, ← Nat.add_assoc, e2, ← g2]; exact hu
    · rw [Addr.add_lit, ← Nat.add_assoc, e3, ← g3]; exact hu
  · intro v' w' h1 h2 _
    refine h v' w' ?_ ((Below.refl _ _).grown h2 hB (fun k hk => (hown.lt k hk).1))
    unfold EOwn
    rw [EC_append, List.length_append, hsl.len]
    exact h1
theorem Dk.lower {DR : World → Nat → List En → (Nat → Prop) → Prop} {w0 w : World} {g B B' : Nat} {D L : List En} {v : Value} {ks : List Ly} (h : Dk DR w0 w g D (Ly.ens B v L :: ks)) (hB : B' ≤ B) : Dk DR w0 w g D (Ly.ens B' v L :: ks) := by
  obtain ⟨F, h1, h2, h3, hk⟩ := h
  refine ⟨F, h1, h2, h3, fun K hK => ?_⟩
  rcases List.mem_cons.1 hK with rfl | hK
  · have h := hk _ (.head _)
    exact ⟨EOwn.lower h.1 hB, h.2⟩
  · exact hk K (.tail _ hK)
theorem box3 {w : World} {g : Nat} {t : TypeId} {a b c : Value} (h : Blk w g t #[a, b, c]) : w.cell? ⟨g, 0, none⟩ = some a ∧ w.cell? ⟨g, 1, none⟩ = some b ∧ w.cell? ⟨g, 2, none⟩ = some c := ⟨h.cell 0, h.cell 1, h.cell 2⟩
theorem insE_len (D : List En) (e : En) : (insE D e).length = D.length + 1 := by
  unfold insE
  have h : lowE D e.s ≤ D.length := by
    unfold lowE
    exact (List.takeWhile_sublist _).length_le
  rw [List.length_append, List.length_append, List.length_take, List.length_drop]
  simp
  omega
theorem addE_len (D : List En) (e : En) : (addE D e).length ≤ D.length + 1 := by
  unfold addE
  split
  · rw [insE_len]; exact Nat.le_refl _
  · omega
theorem delE_len (D : List En) (s : Nam) : (delE D s).length ≤ D.length := by
  unfold delE
  split
  · rw [List.length_append, List.length_take, List.length_drop]; omega
  · exact Nat.le_refl _
theorem setE_len (D : List En) (s : Nam) (e : En) : (setE D s e).length = D.length := by
  unfold setE
  split
  · rw [List.length_modify]
  · rfl
theorem modify_set {D : List En} {i : Nat} {x : En} {g : En → En} (h : D[i]? = some x) : D.modify i g = D.set i (g x) := by
  apply List.ext_getElem?
  intro j
  rw [List.getElem?_modify, List.getElem?_set]
  by_cases e : i = j
  · subst e
    have hi := (List.getElem?_eq_some_iff.1 h).1
    rw [h]
    simp [hi]
  · simp [e]
/-- j is where a name goes -/
theorem lowE_at {D : List En} {s : Nam} {j : Nat} (hj : j ≤ D.length) (hb : ∀ i x, i < j → D[i]? = some x → x.s < s) (he : ∀ x, D[j]? = some x → ¬ x.s < s) : lowE D s = j := by
  unfold lowE
  induction D generalizing j with
  | nil => simp at hj; simp [hj]
  | cons y D ih =>
    rcases j with _ | j
    · have h := he y rfl
      rw [List.takeWhile_cons_of_neg (by simpa using h)]
      rfl
    · have h := hb 0 y (by omega) rfl
      rw [List.takeWhile_cons_of_pos (by simpa using h), List.length_cons]
      simp at hj
      rw [ih hj (fun i x h1 h2 => hb (i + 1) x (by omega) (by simpa using h2)) (fun x h2 => he x (by simpa using h2))]
theorem sz_of (s : Nam) : (⟨s.toArray⟩ : ByteArray).size = s.length := by show s.toArray.size = _; simp
end Go.Proofs.YtcjiimfgmmgifaaDoor
