/- Package span: Whole; the chapter's example; no pieces. -/
import Derived.Test.YtbgldblenlinjaaGSpB
import Derived.Test.YtbgldblenlinjaaGSpC
namespace Go.Proofs.Ytbgldblenlinjaa
open Go.RowKit

theorem pieces_neg (n : Nat) (w : World) : Calls Try.prog 8 #[.int .i64 (-1), .int .i64 (n : Int)] w fun e w' => e = .returned (.slice none 0 0) ∧ w' = w := by
  go_enter Try.func8, Try.ntmps8
  go_wp2
  go_ret
  exact ⟨rfl, rfl⟩
set_option maxRecDepth 100000 in
set_option maxHeartbeats 1000000 in
theorem whole_any (i f t s : Nat) (w : World) (hi : i ≤ 1000000) (hs : s ≤ 1000000) (hf : f ≤ 1) :
    Calls Try.prog 14 #[.agg #[.int .i64 (i : Int), .int .i64 (f : Int), .int .i64 (t : Int)], .int .i64 (s : Int)] w fun e w' => e = .returned (.bool (decide (f = 0 ∧ shr i s ≤ t))) ∧ Below w.heap.size w w' := by
  have hb1 : Below w.heap.size w (w.alloc (.cells #[.int .i64 (i : Int), .int .i64 (f : Int), .int .i64 (t : Int)] 27)) := (Below.refl _ _).alloc (Nat.le_refl _) _
  have HB := hid hb1
  have HK1 := hid (Blk.new w 27 #[.int .i64 (i : Int), .int .i64 (f : Int), .int .i64 (t : Int)])
  have c0 := HK1.out.cell 0
  have c1 := HK1.out.cell 1
  have c2 := HK1.out.cell 2
  simp at c0 c1 c2
  have hshr : shr i s ≤ 256 := by unfold shr; omega
  clear hb1
  go_enter Try.func14, Try.ntmps14
  go_wp2_with fail
  generalize hw1 : (w.alloc (.cells #[.int .i64 (i : Int), .int .i64 (f : Int), .int .i64 (t : Int)] 27)) = w1 at HB HK1 c0 c1 c2 ⊢
  have HX := hid hw1
  clear hw1 c0 c1 c2
  have d0 := HK1.out.drew.cell 0
  have d1 := HK1.out.drew.cell 1
  have d2 := HK1.out.drew.cell 2
  simp at d0 d1 d2
  have HD := hid (show Below w.heap.size w w1.drew from HB.out.drew)
  rcases Nat.eq_zero_or_pos f with h0 | h0
  · subst h0
    go_region_held3 (fun w' => w'.cell? ⟨w.heap.size, 0, none⟩ = some (.int .i64 (i : Int)) ∧ w'.cell? ⟨w.heap.size, 1, none⟩ = some (.int .i64 (0 : Int)) ∧ w'.cell? ⟨w.heap.size, 2, none⟩ = some (.int .i64 (t : Int))) (first | exact ⟨d0, d1, d2⟩ | go_keep)
      ((first | (go_at_call 15; refine (share_any i s _ hi hs).mono ?_; rintro e w3 ⟨rfl, rfl⟩)))
    go_wp2
    go_ret
    exact ⟨by simp, HD.out⟩
  · obtain rfl : f = 1 := by omega
    refine wp_region_held_drew (S := fun w' => w'.cell? ⟨w.heap.size, 0, none⟩ = some (.int .i64 (i : Int)) ∧ w'.cell? ⟨w.heap.size, 1, none⟩ = some (.int .i64 1) ∧ w'.cell? ⟨w.heap.size, 2, none⟩ = some (.int .i64 (t : Int))) (by kernel_rfl) ⟨d0, d1, d2⟩ (fun hH => ?_)
    refine wpAnyH_take (i := 0) (oi := _) (v := ?_) (by simp only [List.getElem?_toArray, List.getElem?_cons_zero]; rfl) (by kernel_rfl) (by kernel_rfl) (by kernel_rfl) (by exact fun _ _ _ h => h) (Or.inl ⟨by rfl, ?_⟩) hH ?_
    rotate_left
    · intro w hSw; obtain ⟨s0, s1, s2⟩ := hSw; go_simp; try with_reducible rfl
    try simp only [Act.put, List.setIfInBounds_toArray, List.set_cons_zero, List.set_cons_succ]
    refine wpAnyH_take (i := 1) (oi := _) (v := ?_) (by simp only [List.getElem?_toArray, List.getElem?_cons_succ, List.getElem?_cons_zero]; rfl) (by kernel_rfl) (by kernel_rfl) (by kernel_rfl) (by exact fun _ _ _ h => h) (Or.inl ⟨by rfl, ?_⟩) hH ?_
    rotate_left
    · intro w hSw; obtain ⟨s0, s1, s2⟩ := hSw; go_simp; try with_reducible rfl
    try simp only [Act.put, List.setIfInBounds_toArray, List.set_cons_zero, List.set_cons_succ]
    refine wpAnyH_take (i := 2) (oi := _) (v := ?_) (by simp only [List.getElem?_toArray, List.getElem?_cons_succ, List.getElem?_cons_zero]; rfl) (by kernel_rfl) (by kernel_rfl) (by kernel_rfl) (by exact fun _ _ _ h => h) (Or.inl ⟨by rfl, ?_⟩) hH ?_
    rotate_left
    · intro w hSw; obtain ⟨s0, s1, s2⟩ := hSw; go_simp; try with_reducible rfl
    try simp only [Act.put, List.setIfInBounds_toArray, List.set_cons_zero, List.set_cons_succ]
    refine wpAnyH_take (i := 3) (oi := _) (v := ?_) (by simp only [List.getElem?_toArray, List.getElem?_cons_succ, List.getElem?_cons_zero]; rfl) (by kernel_rfl) (by kernel_rfl) (by kernel_rfl) (by exact fun _ _ _ h => h) (Or.inl ⟨by rfl, ?_⟩) hH ?_
    rotate_left
    · intro w hSw; obtain ⟨s0, s1, s2⟩ := hSw; go_simp; try with_reducible rfl
    try simp only [Act.put, List.setIfInBounds_toArray, List.set_cons_zero, List.set_cons_succ]
    refine wpAnyH_take (i := 4) (oi := _) (v := undef) (by simp only [List.getElem?_toArray, List.getElem?_cons_succ, List.getElem?_cons_zero]; rfl) (by kernel_rfl) (by kernel_rfl) (by kernel_rfl) (by exact fun _ _ _ h => h) (Or.inr ⟨by rfl, rfl⟩) hH ?_
    try simp only [Act.put, List.setIfInBounds_toArray, List.set_cons_zero, List.set_cons_succ]
    refine wpAnyH_take (i := 5) (oi := _) (v := undef) (by simp only [List.getElem?_toArray, List.getElem?_cons_succ, List.getElem?_cons_zero]; rfl) (by kernel_rfl) (by kernel_rfl) (by kernel_rfl) (by exact fun _ _ _ h => h) (Or.inr ⟨by rfl, rfl⟩) hH ?_
    try simp only [Act.put, List.setIfInBounds_toArray, List.set_cons_zero, List.set_cons_succ]
    refine wpAnyH_take (i := 6) (oi := _) (v := undef) (by simp only [List.getElem?_toArray, List.getElem?_cons_succ, List.getElem?_cons_zero]; rfl) (by kernel_rfl) (by kernel_rfl) (by kernel_rfl) (by exact fun _ _ _ h => h) (Or.inr ⟨by rfl, rfl⟩) hH ?_
    try simp only [Act.put, List.setIfInBounds_toArray, List.set_cons_zero, List.set_cons_succ]
    refine wpAnyH_take (i := 7) (oi := _) (v := undef) (by simp only [List.getElem?_toArray, List.getElem?_cons_succ, List.getElem?_cons_zero]; rfl) (by kernel_rfl) (by kernel_rfl) (by kernel_rfl) (by exact fun _ _ _ h => h) (Or.inr ⟨by rfl, rfl⟩) hH ?_
    try simp only [Act.put, List.setIfInBounds_toArray, List.set_cons_zero, List.set_cons_succ]
    refine wpAnyH_take (i := 8) (oi := _) (v := undef) (by simp only [List.getElem?_toArray, List.getElem?_cons_succ, List.getElem?_cons_zero]; rfl) (by kernel_rfl) (by kernel_rfl) (by kernel_rfl) (by exact fun _ _ _ h => h) (Or.inr ⟨by rfl, rfl⟩) hH ?_
    try simp only [Act.put, List.setIfInBounds_toArray, List.set_cons_zero, List.set_cons_succ]
    refine wpAnyH_take (i := 9) (oi := _) (v := undef) (by simp only [List.getElem?_toArray, List.getElem?_cons_succ, List.getElem?_cons_zero]; rfl) (by kernel_rfl) (by kernel_rfl) (by kernel_rfl) (by exact fun _ _ _ h => h) (Or.inr ⟨by rfl, rfl⟩) hH ?_
    try simp only [Act.put, List.setIfInBounds_toArray, List.set_cons_zero, List.set_cons_succ]
    refine wpAnyH_take (i := 10) (oi := _) (v := undef) (by simp only [List.getElem?_toArray, List.getElem?_cons_succ, List.getElem?_cons_zero]; rfl) (by kernel_rfl) (by kernel_rfl) (by kernel_rfl) (by exact fun _ _ _ h => h) (Or.inr ⟨by rfl, rfl⟩) hH ?_
    try simp only [Act.put, List.setIfInBounds_toArray, List.set_cons_zero, List.set_cons_succ]
    refine wpAnyH_take (i := 11) (oi := _) (v := ?_) (by simp only [List.getElem?_toArray, List.getElem?_cons_succ, List.getElem?_cons_zero]; rfl) (by kernel_rfl) (by kernel_rfl) (by kernel_rfl) (by exact fun _ _ _ h => h) (Or.inl ⟨by rfl, ?_⟩) hH ?_
    rotate_left
    · intro w hSw; obtain ⟨s0, s1, s2⟩ := hSw; go_simp; try with_reducible rfl
    try simp only [Act.put, List.setIfInBounds_toArray, List.set_cons_zero, List.set_cons_succ]
    refine wpAnyH_take (i := 12) (oi := _) (v := ?_) (by simp only [List.getElem?_toArray, List.getElem?_cons_succ, List.getElem?_cons_zero]; rfl) (by kernel_rfl) (by kernel_rfl) (by kernel_rfl) (by exact fun _ _ _ h => h) (Or.inl ⟨by rfl, ?_⟩) hH ?_
    rotate_left
    · intro w hSw; obtain ⟨s0, s1, s2⟩ := hSw; go_simp; try with_reducible rfl
    try simp only [Act.put, List.setIfInBounds_toArray, List.set_cons_zero, List.set_cons_succ]
    refine wpAnyH_done (by kernel_rfl) ?_ _
    go_wp2
    go_ret
    exact ⟨by simp, HD.out⟩
set_option maxRecDepth 100000 in
set_option maxHeartbeats 1000000 in
theorem first_any (w : World) : Calls Try.prog 6 #[] w (Yes w) := by
  go_enter Try.func6, Try.ntmps6
  go_wp2_with fail
  refine (pieces_any 250 10 w (by omega) (by omega)).mono ?_
  rintro e w1 ⟨v, rfl, hown, hb⟩
  have HB := hid hb
  have eN : pN 250 10 = 2 := by decide
  rw [eN] at hown
  rcases hown.2 with ⟨_, h0⟩ | ⟨g, cap, cur, rfl, hg0, hg, hn, hm, hsz, ht⟩
  · omega
  have hc : ∀ j, j < 6 → w1.cell? ⟨g, j, none⟩ = (pcs 250 10 2)[j]? := fun j hj => by
    rw [cell_of_row w1 g j cur 27 (0, 0) hg, ← ht, List.getElem?_take, if_pos (by omega)]
    simp
  have c0 := hc 0 (by omega)
  have c1 := hc 1 (by omega)
  have c2 := hc 2 (by omega)
  have c3 := hc 3 (by omega)
  have c5 := hc 5 (by omega)
  have d : (pcs 250 10 2)[0]? = some (.int .i64 0) ∧ (pcs 250 10 2)[1]? = some (.int .i64 250) ∧ (pcs 250 10 2)[2]? = some (.int .i64 256) ∧ (pcs 250 10 2)[3]? = some (.int .i64 1) ∧ (pcs 250 10 2)[5]? = some (.int .i64 4) := ⟨rfl, rfl, rfl, rfl, rfl⟩
  rw [d.1] at c0
  rw [d.2.1] at c1
  rw [d.2.2.1] at c2
  rw [d.2.2.2.1] at c3
  rw [d.2.2.2.2] at c5
  clear hown hg hsz ht hc d hb
  go_wp2
  go_ret
  exact ⟨rfl, HB.out⟩
/-- pieces, to be read -/
def PSl (w : World) (A : Option Addr) (a n : Nat) : Prop :=
  (A = none ∧ pN a n = 0) ∨ ∃ g, A = some ⟨g, 0, none⟩ ∧ g < w.heap.size ∧ ∀ k, k < pN a n → w.cell? ⟨g, k * 3, none⟩ = some (.int .i64 (pI a k : Nat)) ∧ w.cell? ⟨g, k * 3 + 1, none⟩ = some (.int .i64 (pF a k : Nat)) ∧ w.cell? ⟨g, k * 3 + 2, none⟩ = some (.int .i64 (pT a n k : Nat))
theorem PSl.on {w w' : World} {A : Option Addr} {a n : Nat} (h : PSl w A a n) (hb : Below w.heap.size w w') : PSl w' A a n := by
  rcases h with h | ⟨g, h1, h2, h3⟩
  · exact .inl h
  · refine .inr ⟨g, h1, Nat.lt_of_lt_of_le h2 hb.size, fun k hk => ?_⟩
    obtain ⟨e1, e2, e3⟩ := h3 k hk
    exact ⟨(hb.cell h2).trans e1, (hb.cell h2).trans e2, (hb.cell h2).trans e3⟩
theorem PSl.at_ {w : World} {A : Option Addr} {a n k : Nat} (h : PSl w A a n) (hk : k < pN a n) : ∃ g, A = some ⟨g, 0, none⟩ ∧ g < w.heap.size ∧ w.cell? ⟨g, k * 3, none⟩ = some (.int .i64 (pI a k : Nat)) ∧ w.cell? ⟨g, k * 3 + 1, none⟩ = some (.int .i64 (pF a k : Nat)) ∧ w.cell? ⟨g, k * 3 + 2, none⟩ = some (.int .i64 (pT a n k : Nat)) := by
  rcases h with ⟨_, h⟩ | ⟨g, h1, h2, h3⟩
  · omega
  · exact ⟨g, h1, h2, h3 k hk⟩
theorem PcO.get {w w' : World} {a n : Nat} {e : Ending} (h : PcO w a n e w') : ∃ A c, e = .returned (.slice A (pN a n) c) ∧ PSl w' A a n ∧ Below w.heap.size w w' := by
  obtain ⟨v, rfl, hown, hb⟩ := h
  rcases hown.2 with ⟨rfl, h0⟩ | ⟨g, cap, cur, rfl, hg0, hg, hn, hm, hsz, ht⟩
  · exact ⟨none, 0, by rw [h0], .inl ⟨rfl, h0⟩, hb⟩
  · have hlt : g < w'.heap.size := (Array.getElem?_eq_some_iff.1 hg).1
    have hc : ∀ j, j < pN a n * 3 → w'.cell? ⟨g, j, none⟩ = (pcs a n (pN a n))[j]? := fun j hj => by
      rw [cell_of_row w' g j cur 27 (0, 0) hg, ← ht, List.getElem?_take, if_pos (by omega)]
      simp
    refine ⟨_, cap, rfl, .inr ⟨g, rfl, hlt, fun k hk => ?_⟩, hb⟩
    obtain ⟨e1, e2, e3⟩ := pcs_get a n hk
    exact ⟨(hc _ (by omega)).trans e1, (hc _ (by omega)).trans e2, (hc _ (by omega)).trans e3⟩
theorem pN_le {a n : Nat} (hn : n ≤ 100000) : pN a n ≤ 100000 := by unfold pN; split <;> omega
end Go.Proofs.Ytbgldblenlinjaa
