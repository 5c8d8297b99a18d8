/- Nodes by numbers, as a list and as a map's entries (pure). -/
import Derived.Test.YtklplmldhhlgiaaDoorGNdIf
import Derived.Maps.OwnSet
namespace Go.Proofs.YtklplmldhhlgiaaDoor
open Go.RowKit Go.Maps

/-- how a node reads -/
def ndD (e : Nd) : DataW Unit := .agg [.lit (.int .i64 e.id), .lit (.int .i64 e.k), .lit (.int .i64 e.ln), .lit (.int .i64 e.sz), .lit (.string e.tg), .lit (.int .i64 e.pa)]
def ndLs : List Value → Option (DataW Unit × List MemPlace)
  | [.int .i64 a, .int .i64 b, .int .i64 c, .int .i64 d, .string s, .int .i64 p] => some (.agg [.lit (.int .i64 a), .lit (.int .i64 b), .lit (.int .i64 c), .lit (.int .i64 d), .lit (.string s.data.toList), .lit (.int .i64 p)], [])
  | _ => none
def ndR : Value → Option (DataW Unit × List MemPlace)
  | .agg cs => ndLs cs.toList
  | _ => none
theorem ndR_mk (e : Nd) : ndR (ndV e) = some (ndD e, []) := rfl
theorem ndR_inv {v : Value} {y : DataW Unit × List MemPlace} (h : ndR v = some y) : ∃ e : Nd, v = ndV e ∧ y = (ndD e, []) := by
  unfold ndR at h
  split at h
  · rename_i cs
    obtain ⟨l⟩ := cs
    simp only at h
    unfold ndLs at h
    split at h
    · cases h
      rename_i a b c d s p
      exact ⟨⟨a, b, c, d, s.data.toList, p⟩, rfl, rfl⟩
    · cases h
  · cases h
theorem ndD_inj {x y : Nd} (h : ndD x = ndD y) : x = y := by
  simp only [ndD, DataW.agg.injEq, List.cons.injEq, DataW.lit.injEq, Lit.string.injEq, Lit.int.injEq, and_true, true_and] at h
  obtain ⟨h1, h2, h3, h4, h5, h6⟩ := h
  obtain ⟨a, b, c, d, e, f⟩ := x
  obtain ⟨a', b', c', d', e', f'⟩ := y
  simp only at h1 h2 h3 h4 h5 h6
  subst h1 h2 h3 h4 h5 h6
  rfl
/-- a number's key -/
abbrev kz (i : Int) : Lit := .int .i64 i
theorem kz_key (i : Int) : WideAt.IsKeyLit (kz i) := trivial
theorem kz_inj {i k : Int} (h : kz i = kz k) : i = k := by simpa [kz] using h
theorem isInN_iff {L : List Nd} {z : Int} : isInN L z = true ↔ ∃ x, x ∈ L ∧ x.id = z := by
  unfold isInN fndN
  rw [decide_eq_true_eq, List.findIdx_lt_length]
  constructor
  · rintro ⟨x, hx, h⟩
    exact ⟨x, hx, by simpa using h⟩
  · rintro ⟨x, hx, h⟩
    exact ⟨x, hx, by simpa using h⟩
theorem isInN_not {L : List Nd} {z : Int} : isInN L z = false ↔ ∀ x, x ∈ L → x.id ≠ z := by
  rw [← Bool.not_eq_true, isInN_iff]
  constructor
  · intro h x hx e
    exact h ⟨x, hx, e⟩
  · rintro h ⟨x, hx, e⟩
    exact h x hx e
abbrev Rising (L : List Nd) : Prop := L.Pairwise (fun a b => a.id < b.id)
theorem putL_nil (e : Nd) : putL [] e = [e] := rfl
theorem lowN_cons (x : Nd) (L : List Nd) (s : Int) : lowN (x :: L) s = if x.id < s then lowN L s + 1 else 0 := by
  unfold lowN
  by_cases h : x.id < s
  · rw [if_pos h, List.takeWhile_cons_of_pos (by simpa using h)]
    rfl
  · rw [if_neg h, List.takeWhile_cons_of_neg (by simpa using h)]
    rfl
theorem isAtN_succ (x : Nd) (L : List Nd) (i : Nat) (s : Int) : isAtN (x :: L) (i + 1) s = isAtN L i s := rfl
theorem putL_cons (x : Nd) (L : List Nd) (e : Nd) : putL (x :: L) e = if x.id < e.id then x :: putL L e else if x.id = e.id then e :: L else e :: x :: L := by
  unfold putL
  rw [lowN_cons]
  by_cases h : x.id < e.id
  · rw [if_pos h, if_pos h, isAtN_succ, List.take_succ_cons, List.cons_append]
    by_cases h2 : isAtN L (lowN L e.id) e.id = true
    · rw [if_pos h2, if_pos h2, List.drop_succ_cons]
    · rw [if_neg h2, if_neg h2, List.drop_succ_cons]
  · rw [if_neg h, if_neg h]
    by_cases h2 : x.id = e.id
    · rw [if_pos h2]
      simp [isAtN, h2]
    · rw [if_neg h2]
      simp [isAtN, h2]
theorem putL_mem {L : List Nd} (h : Rising L) (e y : Nd) : y ∈ putL L e ↔ y = e ∨ (y ∈ L ∧ y.id ≠ e.id) := by
  induction L with
  | nil => simp [putL_nil]
  | cons x L ih =>
    obtain ⟨h1, h2⟩ := List.pairwise_cons.1 h
    rw [putL_cons]
    by_cases c1 : x.id < e.id
    · rw [if_pos c1, List.mem_cons, ih h2, List.mem_cons]
      constructor
      · rintro (rfl | rfl | ⟨a, b⟩)
        · exact .inr ⟨.inl rfl, by omega⟩
        · exact .inl rfl
        · exact .inr ⟨.inr a, b⟩
      · rintro (rfl | ⟨rfl | a, b⟩)
        · exact .inr (.inl rfl)
        · exact .inl rfl
        · exact .inr (.inr ⟨a, b⟩)
    · rw [if_neg c1]
      by_cases c2 : x.id = e.id
      · rw [if_pos c2, List.mem_cons, List.mem_cons]
        constructor
        · rintro (rfl | a)
          · exact .inl rfl
          · exact .inr ⟨.inr a, by have := h1 y a; omega⟩
        · rintro (rfl | ⟨rfl | a, b⟩)
          · exact .inl rfl
          · exact absurd c2 b
          · exact .inr a
      · rw [if_neg c2, List.mem_cons, List.mem_cons]
        constructor
        · rintro (rfl | rfl | a)
          · exact .inl rfl
          · exact .inr ⟨.inl rfl, c2⟩
          · exact .inr ⟨.inr a, by have := h1 y a; omega⟩
        · rintro (rfl | ⟨a, _⟩)
          · exact .inl rfl
          · exact .inr a
theorem putL_ris {L : List Nd} (h : Rising L) (e : Nd) : Rising (putL L e) := by
  induction L with
  | nil => rw [putL_nil]; exact List.pairwise_singleton _ _
  | cons x L ih =>
    obtain ⟨h1, h2⟩ := List.pairwise_cons.1 h
    rw [putL_cons]
    by_cases c1 : x.id < e.id
    · rw [if_pos c1]
      refine List.pairwise_cons.2 ⟨fun y hy => ?_, ih h2⟩
      rcases (putL_mem h2 e y).1 hy with rfl | ⟨a, _⟩
      · exact c1
      · exact h1 y a
    · rw [if_neg c1]
      by_cases c2 : x.id = e.id
      · rw [if_pos c2]
        exact List.pairwise_cons.2 ⟨fun y hy => by have := h1 y hy; omega, h2⟩
      · rw [if_neg c2]
        refine List.pairwise_cons.2 ⟨fun y hy => ?_, h⟩
        rcases List.mem_cons.1 hy with rfl | hy
        · omega
        · have := h1 y hy; omega
theorem isInN_cons (x : Nd) (L : List Nd) (z : Int) : isInN (x :: L) z = (decide (x.id = z) || isInN L z) := by
  rw [Bool.eq_iff_iff]
  simp [isInN_iff]
theorem putL_length {L : List Nd} (h : Rising L) (e : Nd) : (putL L e).length = if isInN L e.id = true then L.length else L.length + 1 := by
  induction L with
  | nil => rfl
  | cons x L ih =>
    obtain ⟨h1, h2⟩ := List.pairwise_cons.1 h
    rw [putL_cons, isInN_cons]
    by_cases c1 : x.id < e.id
    · have e1 : decide (x.id = e.id) = false := decide_eq_false (by omega)
      rw [if_pos c1, List.length_cons, ih h2, e1, Bool.false_or]
      split <;> simp
    · rw [if_neg c1]
      by_cases c2 : x.id = e.id
      · rw [if_pos c2]
        simp [c2]
      · have e1 : isInN L e.id = false := isInN_not.2 (fun y hy => by have := h1 y hy; omega)
        rw [if_neg c2, e1]
        simp [c2]
theorem fndN_cons (x : Nd) (L : List Nd) (z : Int) : fndN (x :: L) z = if x.id = z then 0 else fndN L z + 1 := by
  unfold fndN
  rw [List.findIdx_cons]
  by_cases h : x.id = z
  · simp [h]
  · have : (x.id == z) = false := by simpa using h
    simp [h, this]
theorem delL_cons (x : Nd) (L : List Nd) (z : Int) : delL (x :: L) z = if x.id = z then L else x :: delL L z := by
  unfold delL
  rw [fndN_cons]
  by_cases h : x.id = z
  · simp [h]
  · rw [if_neg h, if_neg h]
    by_cases h2 : fndN L z < L.length
    · rw [if_pos h2, if_pos (by simp; omega)]
      simp
    · rw [if_neg h2, if_neg (by simp; omega)]
theorem delL_mem {L : List Nd} (h : Rising L) (z : Int) (y : Nd) : y ∈ delL L z ↔ y ∈ L ∧ y.id ≠ z := by
  induction L with
  | nil => simp [delL, fndN]
  | cons x L ih =>
    obtain ⟨h1, h2⟩ := List.pairwise_cons.1 h
    rw [delL_cons]
    by_cases c : x.id = z
    · rw [if_pos c, List.mem_cons]
      constructor
      · intro a
        exact ⟨.inr a, by have := h1 y a; omega⟩
      · rintro ⟨rfl | a, b⟩
        · exact absurd c b
        · exact a
    · rw [if_neg c, List.mem_cons, List.mem_cons, ih h2]
      constructor
      · rintro (rfl | ⟨a, b⟩)
        · exact ⟨.inl rfl, c⟩
        · exact ⟨.inr a, b⟩
      · rintro ⟨rfl | a, b⟩
        · exact .inl rfl
        · exact .inr ⟨a, b⟩
theorem delL_sub (L : List Nd) (z : Int) : (delL L z).Sublist L := by
  induction L with
  | nil => exact List.Sublist.refl _
  | cons x L ih =>
    rw [delL_cons]
    by_cases c : x.id = z
    · rw [if_pos c]
      exact List.sublist_cons_self _ _
    · rw [if_neg c]
      exact ih.cons_cons _
theorem delL_ris {L : List Nd} (h : Rising L) (z : Int) : Rising (delL L z) := h.sublist (delL_sub L z)
theorem delL_length (L : List Nd) (z : Int) : (delL L z).length + (if isInN L z = true then 1 else 0) = L.length := by
  induction L with
  | nil => rfl
  | cons x L ih =>
    rw [delL_cons, isInN_cons]
    by_cases c : x.id = z
    · simp [c]
    · have e1 : decide (x.id = z) = false := decide_eq_false c
      rw [if_neg c, e1, Bool.false_or, List.length_cons, List.length_cons]
      omega
theorem isInN_put {L : List Nd} (h : Rising L) (e : Nd) (z : Int) : isInN (putL L e) z = (decide (e.id = z) || isInN L z) := by
  rw [Bool.eq_iff_iff, Bool.or_eq_true, isInN_iff, isInN_iff, decide_eq_true_eq]
  constructor
  · rintro ⟨x, hx, hz⟩
    rcases (putL_mem h e x).1 hx with rfl | ⟨a, _⟩
    · exact .inl hz
    · exact .inr ⟨x, a, hz⟩
  · rintro (hz | ⟨x, hx, hz⟩)
    · exact ⟨e, (putL_mem h e e).2 (.inl rfl), hz⟩
    · by_cases c : x.id = e.id
      · exact ⟨e, (putL_mem h e e).2 (.inl rfl), c.symm.trans hz⟩
      · exact ⟨x, (putL_mem h e x).2 (.inr ⟨hx, c⟩), hz⟩
theorem isInN_del {L : List Nd} (h : Rising L) (k z : Int) : isInN (delL L k) z = (decide (k ≠ z) && isInN L z) := by
  rw [Bool.eq_iff_iff, Bool.and_eq_true, isInN_iff, isInN_iff, decide_eq_true_eq]
  constructor
  · rintro ⟨x, hx, hz⟩
    obtain ⟨a, b⟩ := (delL_mem h k x).1 hx
    exact ⟨fun e => b (hz.trans e.symm), x, a, hz⟩
  · rintro ⟨hk, x, hx, hz⟩
    exact ⟨x, (delL_mem h k x).2 ⟨hx, fun e => hk (e.symm.trans hz)⟩, hz⟩
/-- a list of nodes, as a map has them -/
structure TabM (D : DataW Unit) (L : List Nd) : Prop where
  has : ∀ z : Int, Maps.has D (kz z) = isInN L z
  val : ∀ e, e ∈ L → ∀ z, D.atKey (kz e.id) z = ndD e
  key : ∀ l, Maps.has D l = true → ∃ z, l = kz z
  size : Maps.size D = L.length
theorem tabM_nil : TabM (.map []) [] := ⟨fun _ => rfl, fun _ h => (by cases h), fun _ h => (by cases h), rfl⟩
theorem TabM.put {D : DataW Unit} {L : List Nd} (h : TabM D L) (hr : Rising L) (ht : Tidy D) (e : Nd) : TabM (D.put (kz e.id) (ndD e)) (putL L e) := by
  refine ⟨fun z => ?_, fun x hx z => ?_, fun l hl => ?_, ?_⟩
  · rw [isInN_put hr]
    by_cases c : e.id = z
    · subst c
      rw [has_put_same ht.isMap (kz_key _)]
      simp
    · rw [has_put_other (fun e' => c (kz_inj e').symm), h.has, decide_eq_false c, Bool.false_or]
  · rcases (putL_mem hr e x).1 hx with rfl | ⟨a, b⟩
    · exact atKey_put_same ht.isMap (kz_key _) _ z
    · exact (atKey_put_other (fun e' => b (kz_inj e')) _ z).trans (h.val x a z)
  · by_cases c : l = kz e.id
    · exact ⟨_, c⟩
    · rw [has_put_other c] at hl
      exact h.key l hl
  · rw [size_put ht, putL_length hr, h.has, h.size]
theorem TabM.del {D : DataW Unit} {L : List Nd} (h : TabM D L) (hr : Rising L) (ht : Tidy D) (k : Int) : TabM (D.del (kz k)) (delL L k) := by
  refine ⟨fun z => ?_, fun x hx z => ?_, fun l hl => ?_, ?_⟩
  · rw [isInN_del hr]
    by_cases c : k = z
    · subst c
      rw [has_del_same]
      simp
    · rw [has_del_other (fun e' => c (kz_inj e').symm), h.has, decide_eq_true (p := k ≠ z) c, Bool.true_and]
  · obtain ⟨a, b⟩ := (delL_mem hr k x).1 hx
    exact (atKey_del_other (fun e' => b (kz_inj e')) z).trans (h.val x a z)
  · by_cases c : l = kz k
    · exact ⟨_, c⟩
    · rw [has_del_other c] at hl
      exact h.key l hl
  · have h1 := size_del (k := kz k) ht
    have h2 := delL_length L k
    rw [h.has, h.size] at h1
    omega
/-- what a table's numbers keep, behind a call -/
theorem fitsN_id {e : Nd} (h : fitsN e = true) : 1 ≤ e.id ∧ e.id < 16777216 := by
  unfold fitsN at h
  rw [Bool.and_eq_true, decide_eq_true_eq] at h
  exact ⟨h.1.1, h.1.2.1⟩
theorem TabIs.put {T : Tab} (h : TabIs T) {e : Nd} (hf : fitsN e = true) (hl : isInN T.L e.id = true ∨ T.L.length < 512) : TabIs ⟨putL T.L e, max T.last e.id⟩ := by
  have hid := fitsN_id hf
  refine ⟨putL_ris h.ris e, fun x hx => ?_, ?_, ?_⟩
  · rcases (putL_mem h.ris e x).1 hx with rfl | ⟨a, _⟩
    · exact ⟨hf, by show x.id ≤ max T.last x.id; omega⟩
    · obtain ⟨h1, h2⟩ := h.fit x a
      exact ⟨h1, by show x.id ≤ max T.last e.id; omega⟩
  · have := h.last
    show 0 ≤ max T.last e.id ∧ max T.last e.id ≤ 16777215
    omega
  · show (putL T.L e).length ≤ 512
    rw [putL_length h.ris]
    have := h.len
    split
    · omega
    · rename_i c
      rcases hl with hl | hl
      · exact absurd hl c
      · omega
theorem TabIs.del {T : Tab} (h : TabIs T) (k : Int) : TabIs (delT T k) :=
  ⟨delL_ris h.ris k, fun x hx => h.fit x ((delL_sub T.L k).mem hx), h.last, Nat.le_trans (delL_sub T.L k).length_le h.len⟩
end Go.Proofs.YtklplmldhhlgiaaDoor
