/- A table's lists: new ones come last; NodeMany's own. -/
import Derived.Test.YtklplmldhhlgiaaDoorGNdB
namespace Go.Proofs.YtklplmldhhlgiaaDoor
open Go.RowKit Go.Sort

theorem lowN_all {L : List Nd} {s : Int} (h : ∀ x, x ∈ L → x.id < s) : lowN L s = L.length :=
  lowN_at (Nat.le_refl _) (fun i x _ hx => h x (List.mem_of_getElem? hx)) (fun x hx => by rw [List.getElem?_eq_none (Nat.le_refl _)] at hx; cases hx)
theorem putL_end {L : List Nd} {e : Nd} (h : ∀ x, x ∈ L → x.id < e.id) : putL L e = L ++ [e] := by
  unfold putL
  rw [lowN_all h, isAtN_no (Nat.lt_irrefl _), if_neg (by decide), List.take_length, List.drop_length]
theorem newT_is {T : Tab} {k : Int} (hT : TabIs T) (hk : okK k = true) (hl : T.L.length < 512) (hm : T.last < 16777215) : newE T k = 0 ∧ newT T k = ⟨T.L ++ [newN (T.last + 1) k], T.last + 1⟩ := by
  have h0 : newE T k = 0 := by
    unfold newE
    rw [if_pos hk, if_neg (by omega)]
  refine ⟨h0, ?_⟩
  unfold newT
  rw [if_pos h0, putL_end (fun x hx => by have := (hT.fit x hx).2; show x.id < T.last + 1; omega)]
theorem newT_no {T : Tab} {k : Int} (hk : okK k = false) : newE T k = 103 ∧ newT T k = T := by
  have h0 : newE T k = 103 := by
    unfold newE
    rw [if_neg (by rw [hk]; decide)]
  refine ⟨h0, ?_⟩
  unfold newT
  rw [if_neg (by rw [h0]; decide)]
theorem newT_full {T : Tab} {k : Int} (hk : okK k = true) (hl : 512 ≤ T.L.length) : newE T k = 104 ∧ newT T k = T := by
  have h0 : newE T k = 104 := by
    unfold newE
    rw [if_pos hk, if_pos (.inl hl)]
  refine ⟨h0, ?_⟩
  unfold newT
  rw [if_neg (by rw [h0]; decide)]
/-- the last one -/
theorem fndN_end {L : List Nd} {e : Nd} (h : ∀ x, x ∈ L → x.id ≠ e.id) : fndN (L ++ [e]) e.id = L.length ∧ isInN (L ++ [e]) e.id = true ∧ (L ++ [e])[L.length]? = some e := by
  have h0 : (L ++ [e])[L.length]? = some e := by rw [List.getElem?_append_right (Nat.le_refl _), Nat.sub_self]; rfl
  have h1 : fndN (L ++ [e]) e.id = L.length := fndN_at h0 rfl (fun j x hj hx => by
    rw [List.getElem?_append_left hj] at hx
    exact h x (List.mem_of_getElem? hx))
  exact ⟨h1, by unfold isInN; rw [h1]; simp, h0⟩
/-- q new files -/
def mkL (q : Nat) : List Nd := (List.range q).map fun j : Nat => newN ((j : Int) + 1) 1
theorem mkL_len (q : Nat) : (mkL q).length = q := by simp [mkL]
theorem mkL_succ (q : Nat) : mkL (q + 1) = mkL q ++ [newN ((q : Int) + 1) 1] := by simp [mkL, List.range_succ]
theorem mkL_mem {q : Nat} {x : Nd} (h : x ∈ mkL q) : 1 ≤ x.id ∧ x.id ≤ (q : Int) := by
  obtain ⟨j, hj, rfl⟩ := List.mem_map.1 h
  rw [List.mem_range] at hj
  show 1 ≤ (j : Int) + 1 ∧ (j : Int) + 1 ≤ (q : Int)
  omega
theorem mkL_cons {q : Nat} (h : 1 ≤ q) : mkL q = newN 1 1 :: (mkL q).drop 1 := by
  obtain ⟨p, rfl⟩ : ∃ p, q = p + 1 := ⟨q - 1, by omega⟩
  unfold mkL
  rw [List.range_succ_eq_map]
  rfl
theorem head_fnd (e : Nd) (X : List Nd) : fndN (e :: X) e.id = 0 ∧ isInN (e :: X) e.id = true := by
  have h : fndN (e :: X) e.id = 0 := fndN_at (e := e) rfl rfl (fun j x hj => absurd hj (Nat.not_lt_zero _))
  exact ⟨h, by unfold isInN; rw [h]; simp⟩
theorem putL_head {x e : Nd} {X : List Nd} (h : x.id = e.id) : putL (x :: X) e = e :: X := by
  have hl : lowN (x :: X) e.id = 0 := lowN_at (Nat.zero_le _) (fun i y hi => absurd hi (Nat.not_lt_zero _)) (fun y hy => by simp at hy; subst hy; omega)
  unfold putL
  rw [hl, isAtN_get (x := x) rfl, if_pos (by simpa using h)]
  rfl
abbrev nd1 : Nd := ⟨1, 1, 3, 0, [], 0⟩
abbrev nd2 : Nd := ⟨2000, 1, 0, 0, [], 0⟩
theorem many1 {q : Nat} (h : 1 ≤ q) : fndN (mkL q) 1 = 0 ∧ isInN (mkL q) 1 = true ∧ (mkL q)[0]? = some (newN 1 1) ∧ putE ⟨mkL q, (q : Int)⟩ nd1 = 0 ∧ putT ⟨mkL q, (q : Int)⟩ nd1 = ⟨nd1 :: (mkL q).drop 1, (q : Int)⟩ := by
  have hc := mkL_cons h
  have hf := head_fnd (newN 1 1) ((mkL q).drop 1)
  rw [← hc] at hf
  have h0 : putE ⟨mkL q, (q : Int)⟩ nd1 = 0 := by
    unfold putE
    rw [if_pos (by decide), if_neg (by rintro ⟨h1, _⟩; have := hf.2; rw [show (newN 1 1).id = 1 from rfl] at this; rw [show nd1.id = 1 from rfl, this] at h1; cases h1)]
  refine ⟨hf.1, hf.2, by rw [hc]; rfl, h0, ?_⟩
  unfold putT
  rw [if_pos h0]
  have h2 : putL (mkL q) nd1 = nd1 :: (mkL q).drop 1 := by
    rw [hc, putL_head (by rfl)]
    rfl
  rw [show (⟨mkL q, (q : Int)⟩ : Tab).L = mkL q from rfl, h2]
  congr 1
  show max (q : Int) 1 = _
  omega
theorem many2 {q : Nat} (h : 1 ≤ q) (h2 : q ≤ 512) : (q < 512 → putE ⟨nd1 :: (mkL q).drop 1, (q : Int)⟩ nd2 = 0 ∧ putT ⟨nd1 :: (mkL q).drop 1, (q : Int)⟩ nd2 = ⟨nd1 :: ((mkL q).drop 1 ++ [nd2]), 2000⟩) ∧ (q = 512 → putE ⟨nd1 :: (mkL q).drop 1, (q : Int)⟩ nd2 = 104 ∧ putT ⟨nd1 :: (mkL q).drop 1, (q : Int)⟩ nd2 = ⟨nd1 :: (mkL q).drop 1, (q : Int)⟩) := by
  have hm : ∀ x, x ∈ nd1 :: (mkL q).drop 1 → x.id < 2000 := fun x hx => by
    rcases List.mem_cons.1 hx with rfl | hx
    · decide
    · have := mkL_mem (List.mem_of_mem_drop hx); omega
  have hn : isInN (nd1 :: (mkL q).drop 1) 2000 = false := by
    unfold isInN
    rw [fndN_none (fun j x hx => by have := hm x (List.mem_of_getElem? hx); omega)]
    simp
  have hl : (nd1 :: (mkL q).drop 1).length = q := by rw [List.length_cons, List.length_drop, mkL_len]; omega
  refine ⟨fun hq => ?_, fun hq => ?_⟩
  · have h0 : putE ⟨nd1 :: (mkL q).drop 1, (q : Int)⟩ nd2 = 0 := by
      unfold putE
      rw [if_pos (by decide), if_neg (by rintro ⟨_, h1⟩; rw [hl] at h1; omega)]
    refine ⟨h0, ?_⟩
    unfold putT
    rw [if_pos h0, putL_end hm]
    show Tab.mk _ (max (q : Int) 2000) = _
    congr 1
    omega
  · have h0 : putE ⟨nd1 :: (mkL q).drop 1, (q : Int)⟩ nd2 = 104 := by
      unfold putE
      rw [if_pos (by decide), if_pos ⟨hn, by rw [hl]; omega⟩]
    refine ⟨h0, ?_⟩
    unfold putT
    rw [if_neg (by rw [h0]; decide)]
theorem many3 (X : List Nd) (l : Int) : isInN (nd1 :: X) 1 = true ∧ delT ⟨nd1 :: X, l⟩ 1 = ⟨X, l⟩ := by
  have h := head_fnd nd1 X
  rw [show nd1.id = 1 from rfl] at h
  refine ⟨h.2, ?_⟩
  unfold delT delL
  rw [show (⟨nd1 :: X, l⟩ : Tab).L = nd1 :: X from rfl, h.1, if_pos (by simp)]
  rfl
end Go.Proofs.YtklplmldhhlgiaaDoor
