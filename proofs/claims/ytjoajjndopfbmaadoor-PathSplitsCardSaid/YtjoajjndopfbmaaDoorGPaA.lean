/- Paths, in plain words: a text's parts between slashes, what is kept of them, and what Parse says. -/
import Derived.Lib.SplitLaws
import Derived.Lib.IndexBytes
import Derived.Lib.Join
import Derived.Test.YtjoajjndopfbmaaDoorGNmA
namespace Go.Proofs.YtjoajjndopfbmaaDoor
open Go.Lib

/-- the parts between slashes; p: what stands ahead in the first one -/
def sg (p : Nam) : Nam → List Nam
  | [] => [p]
  | b :: l => if b = 47 then p :: sg [] l else sg (p ++ [b]) l
theorem sg_free : ∀ (a p b : Nam), (∀ x ∈ a, x ≠ 47) → sg p (a ++ b) = sg (p ++ a) b
  | [], p, b, _ => by simp
  | x :: a, p, b, h => by
    have hx : x ≠ 47 := h x (by simp)
    rw [List.cons_append, sg, if_neg hx, sg_free a _ b (fun y hy => h y (by simp [hy])), List.append_assoc]
    rfl
theorem sg_hit (p a b : Nam) (h : ∀ x ∈ a, x ≠ 47) : sg p (a ++ 47 :: b) = (p ++ a) :: sg [] b := by
  rw [sg_free a p _ h, sg, if_pos rfl]
theorem sg_miss (p a : Nam) (h : ∀ x ∈ a, x ≠ 47) : sg p a = [p ++ a] := by
  have := sg_free a p [] h
  rw [List.append_nil] at this
  rw [this, sg]
theorem sg_app : ∀ (u p v : Nam), sg p (u ++ 47 :: v) = sg p u ++ sg [] v
  | [], p, v => by simp [sg]
  | x :: u, p, v => by
    rw [List.cons_append, sg, sg]
    by_cases hx : x = 47
    · rw [if_pos hx, if_pos hx, sg_app u [] v]; rfl
    · rw [if_neg hx, if_neg hx, sg_app u _ v]
theorem sg_mem : ∀ (l p y : Nam), y ∈ sg p l → ∀ b ∈ y, b ∈ p ∨ (b ∈ l ∧ b ≠ 47)
  | [], p, y, hy, b, hb => by
    rw [sg, List.mem_singleton] at hy
    subst hy
    exact .inl hb
  | x :: l, p, y, hy, b, hb => by
    rw [sg] at hy
    by_cases hx : x = 47
    · rw [if_pos hx, List.mem_cons] at hy
      rcases hy with rfl | hy
      · exact .inl hb
      · rcases sg_mem l [] y hy b hb with h | ⟨h1, h2⟩
        · cases h
        · exact .inr ⟨List.mem_cons_of_mem _ h1, h2⟩
    · rw [if_neg hx] at hy
      rcases sg_mem l _ y hy b hb with h | ⟨h1, h2⟩
      · rw [List.mem_append, List.mem_singleton] at h
        rcases h with h | rfl
        · exact .inl h
        · exact .inr ⟨by simp, hx⟩
      · exact .inr ⟨List.mem_cons_of_mem _ h1, h2⟩
theorem ib_ways (c : UInt8) : ∀ s : List UInt8, (indexByte s c = -1 ∧ ∀ x ∈ s, x ≠ c) ∨ ∃ a b, s = a ++ c :: b ∧ (∀ x ∈ a, x ≠ c) ∧ indexByte s c = (a.length : Int)
  | [] => .inl ⟨rfl, fun x h => by cases h⟩
  | x :: s => by
    by_cases hx : x = c
    · refine .inr ⟨[], s, by rw [hx]; rfl, (fun y h => by cases h), ?_⟩
      unfold indexByte
      simp [hx]
    · rcases ib_ways c s with ⟨h1, h2⟩ | ⟨a, b, rfl, h2, h3⟩
      · refine .inl ⟨?_, ?_⟩
        · unfold indexByte
          simp [hx, h1]
        · intro y hy
          rcases List.mem_cons.1 hy with rfl | hy
          · exact hx
          · exact h2 y hy
      · refine .inr ⟨x :: a, b, rfl, ?_, ?_⟩
        · intro y hy
          rcases List.mem_cons.1 hy with rfl | hy
          · exact hx
          · exact h2 y hy
        · unfold indexByte
          simp [hx, h3]
theorem splitK_sg : ∀ (k : Nat) (s : List UInt8), count s [47] = k → splitK [47] 0 k s = sg [] s
  | 0, s, h => by
    rcases ib_ways 47 s with ⟨_, h2⟩ | ⟨a, b, rfl, h2, h3⟩
    · rw [sg_miss [] s h2, splitK, List.nil_append]
    · rw [← index_one] at h3
      have := count_hit (sub := [47]) (by simp) h3
      omega
  | k + 1, s, h => by
    rcases ib_ways 47 s with ⟨h1, h2⟩ | ⟨a, b, rfl, h2, h3⟩
    · rw [← index_one] at h1
      have := count_miss h1
      omega
    · rw [← index_one] at h3
      have hc := count_hit (sub := [47]) (by simp) h3
      have hd : (a ++ 47 :: b).drop (a.length + 1) = b := by
        rw [List.drop_append]; simp
      have hd' : (a ++ 47 :: b).drop (a.length + [(47 : UInt8)].length) = b := hd
      rw [hd'] at hc
      rw [splitK, if_neg (by rw [h3]; simp), h3]
      have ht : ((a.length : Nat) : Int).toNat = a.length := by simp
      rw [ht, Nat.add_zero, List.take_left, hd', splitK_sg k b (by omega), sg_hit [] a b h2]
      rfl

/-- is a part left out? -/
def outP (x : Nam) : Bool := x == [] || x == [46]
def kept (l : List Nam) : List Nam := l.filter fun x => !outP x
def longP (l : List Nam) : Bool := l.any fun x => decide (24 < x.length)
theorem kept_append (l m : List Nam) : kept (l ++ m) = kept l ++ kept m := List.filter_append ..
theorem longP_append (l m : List Nam) : longP (l ++ m) = (longP l || longP m) := List.any_append
def ptsOf (s : Nam) : List Nam := kept (sg [] s)
theorem ptsOf_app (u v : Nam) : ptsOf (u ++ 47 :: v) = ptsOf u ++ ptsOf v := by rw [ptsOf, sg_app, kept_append]; rfl
def prsC (s : Nam) : Int := if s = [] then 109 else if 256 < s.length then 115 else if s.head? = some 47 ∧ (0 : UInt8) ∉ s then (if longP (ptsOf s) then 115 else 0) else 114
def prsP (s : Nam) : List Nam := if prsC s = 0 then ptsOf s else []
def prsS (s : Nam) : Bool := prsC s == 0 && (decide (0 < (ptsOf s).length) && s.getLast? == some 47)
/-- a part as a path has it -/
def goodP (x : Nam) : Bool := !outP x && !longP [x] && x.all fun b => b != 47 && b != 0
theorem goodP_free {x : Nam} (h : goodP x = true) : ∀ b ∈ x, b ≠ 47 ∧ b ≠ 0 := by
  intro b hb
  unfold goodP at h
  simp only [Bool.and_eq_true, List.all_eq_true, bne_iff_ne] at h
  exact h.2 b hb
theorem goodP_out {x : Nam} (h : goodP x = true) : outP x = false := by
  unfold goodP at h
  simp only [Bool.and_eq_true, Bool.not_eq_true'] at h
  exact h.1.1
theorem goodP_len {x : Nam} (h : goodP x = true) : x.length ≤ 24 := by
  unfold goodP longP at h
  simp only [Bool.and_eq_true, Bool.not_eq_true', List.any_cons, List.any_nil, Bool.or_false, decide_eq_false_iff_not] at h
  omega
/-- a path's text -/
def slashed (l : List Nam) : Nam := (l.map fun x => 47 :: x).flatten
theorem sg_slashed : ∀ (l : List Nam) (p : Nam), (∀ x ∈ l, ∀ b ∈ x, b ≠ 47) → sg p (slashed l) = p :: l
  | [], p, _ => rfl
  | x :: l, p, h => by
    have e : slashed (x :: l) = 47 :: (x ++ slashed l) := by simp [slashed]
    rw [e, sg, if_pos rfl, sg_free x [] _ (h x (by simp)), List.nil_append, sg_slashed l x (fun y hy => h y (by simp [hy]))]
theorem kept_good {l : List Nam} (h : ∀ x ∈ l, goodP x = true) : kept l = l :=
  List.filter_eq_self.2 fun x hx => by rw [goodP_out (h x hx)]; rfl
theorem ptsOf_good {x : Nam} (h : goodP x = true) : ptsOf x = [x] := by
  rw [ptsOf, sg_miss [] x (fun b hb => (goodP_free h b hb).1), List.nil_append]
  exact kept_good (l := [x]) (by simpa using h)
theorem ptsOf_slashed {l : List Nam} (h : ∀ x ∈ l, goodP x = true) : ptsOf (slashed l) = l := by
  rw [ptsOf, sg_slashed l [] (fun x hx b hb => (goodP_free (h x hx) b hb).1)]
  have e : kept ([] :: l) = kept l := rfl
  rw [e, kept_good h]
theorem longP_good {l : List Nam} (h : ∀ x ∈ l, goodP x = true) : longP l = false := by
  rw [longP, List.any_eq_false]
  intro x hx
  have := goodP_len (h x hx)
  simp only [decide_eq_true_eq]
  omega
theorem slashed_free {l : List Nam} (h : ∀ x ∈ l, goodP x = true) : (0 : UInt8) ∉ slashed l := by
  intro hm
  rw [slashed, List.mem_flatten] at hm
  obtain ⟨y, hy, h0⟩ := hm
  rw [List.mem_map] at hy
  obtain ⟨x, hx, rfl⟩ := hy
  rcases List.mem_cons.1 h0 with h0 | h0
  · cases h0
  · exact (goodP_free (h x hx) 0 h0).2 rfl
theorem slashed_len : ∀ l : List Nam, (slashed l).length = l.length + (l.map (·.length)).sum
  | [] => rfl
  | x :: l => by
    have e : slashed (x :: l) = 47 :: (x ++ slashed l) := by simp [slashed]
    rw [e, List.length_cons, List.length_append, slashed_len l, List.map_cons, List.sum_cons, List.length_cons]
    omega
theorem slashed_join (x : Nam) (l : List Nam) : slashed (x :: l) = 47 :: Lib.join (x :: l) [47] := by
  rw [Lib.join_cons]
  simp [slashed, Lib.joinTail]
/-- what is read of a text that is in order -/
theorem prs_good {s : Nam} {l : List Nam} (h1 : s.head? = some 47) (h2 : (0 : UInt8) ∉ s) (h3 : s.length ≤ 256) (h4 : ptsOf s = l) (h5 : longP l = false) : prsC s = 0 ∧ prsP s = l ∧ prsS s = (decide (0 < l.length) && s.getLast? == some 47) := by
  have hne : s ≠ [] := by rintro rfl; cases h1
  have hc : prsC s = 0 := by rw [prsC, if_neg hne, if_neg (by omega), if_pos ⟨h1, h2⟩, h4, h5]; rfl
  refine ⟨hc, ?_, ?_⟩
  · rw [prsP, if_pos hc, h4]
  · rw [prsS, hc, h4]; rfl
end Go.Proofs.YtjoajjndopfbmaaDoor
