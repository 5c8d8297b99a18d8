/- Package blob's own area: the next free block; a block written. -/
import Derived.Test.YtfdabbpfphnbhaaDoorGBmA
namespace Go.Proofs.YtfdabbpfphnbhaaDoor
open Go.RowKit

theorem index_yes (A : Option Addr) (m c k : Nat) (l : List Int) (x : Int) (w : World) (h : Sv w w.heap.size A m c (U8 l)) (hm : m ≤ 6000) (hk : l[k]? = some x) (hb : ∀ i, i < k → l[i]? ≠ some x) :
    Calls Tryd.prog 34 #[.slice A m c, .int .i8 x] w fun e w' => e = .returned (.int .i64 (k : Int)) ∧ w' = w :=
  (index_any A m c l x w h hm).mono fun e w' ⟨hw, hh⟩ => by
    refine ⟨?_, hw⟩
    rcases hh with ⟨j, _, h1, h2, he⟩ | ⟨h1, _⟩
    · rcases Nat.lt_trichotomy j k with hl | rfl | hl
      · exact absurd h1 (hb j hl)
      · exact he
      · exact absurd hk (h2 k hl)
    · exact absurd hk (h1 k)
theorem index_no (A : Option Addr) (m c : Nat) (l : List Int) (x : Int) (w : World) (h : Sv w w.heap.size A m c (U8 l)) (hm : m ≤ 6000) (hb : ∀ i : Nat, l[i]? ≠ some x) :
    Calls Tryd.prog 34 #[.slice A m c, .int .i8 x] w fun e w' => e = .returned (.int .i64 (-1)) ∧ w' = w :=
  (index_any A m c l x w h hm).mono fun e w' ⟨hw, hh⟩ => by
    refine ⟨?_, hw⟩
    rcases hh with ⟨j, _, h1, _, _⟩ | ⟨_, he⟩
    · exact absurd h1 (hb j)
    · exact he
/-- the first of a kind among the places from b up to m -/
theorem first_or (P : Nat → Prop) [DecidablePred P] (b m : Nat) : (∃ k, b ≤ k ∧ k < m ∧ P k ∧ ∀ i, b ≤ i → i < k → ¬ P i) ∨ ∀ i, b ≤ i → i < m → ¬ P i := by
  by_cases h : ∃ k, b ≤ k ∧ k < m ∧ P k
  · left
    obtain ⟨k, h1, h2, h3⟩ := h
    induction k using Nat.strongRecOn with
    | ind k ih =>
      by_cases hx : ∃ i, b ≤ i ∧ i < k ∧ P i
      · obtain ⟨i, h4, h5, h6⟩ := hx
        exact ih i h5 h4 (by omega) h6
      · exact ⟨k, h1, h2, h3, fun i h4 h5 h6 => hx ⟨i, h4, h5, h6⟩⟩
  · right
    exact fun i h1 h2 h3 => h ⟨i, h1, h2, h3⟩
theorem useL_drop {n b k : Nat} {a : ASt} {x : Int} : ((useL n a).drop b)[k]? = some x ↔ b + k < n ∧ useV n a (b + k) = x := by
  rw [List.getElem?_drop]
  by_cases h : b + k < n
  · rw [useL_get a h]; simp [h]
  · rw [List.getElem?_eq_none_iff.2 (by rw [useL_len]; omega)]; simp [h]
theorem useL_take {n b k : Nat} {a : ASt} {x : Int} (hb : b ≤ n) : ((useL n a).take b)[k]? = some x ↔ k < b ∧ useV n a k = x := by
  rw [List.getElem?_take]
  by_cases h : k < b
  · rw [if_pos h, useL_get a (by omega)]; simp [h]
  · rw [if_neg h]; simp [h]
theorem ARat.svTail {w : World} {g u d n nx : Nat} {a : ASt} (h : ARat w g u d n a nx) : Sv w w.heap.size (some ⟨u, nx, none⟩) (n - nx) (n - nx) (U8 ((useL n a).drop nx)) := by
  have hs := h.sv
  refine ⟨by rw [U8_len, List.length_drop, useL_len], Nat.le_refl _, Nat.le_trans (Nat.sub_le _ _) hs.max, fun e => (by cases e), fun ad he _ => ?_⟩
  cases he
  refine ⟨h.lt.2, fun j v hj => ?_⟩
  have e : (⟨u, nx, none⟩ : Addr).add j = ⟨u, nx + j, none⟩ := by unfold Addr.add; split <;> simp_all
  rw [e]
  refine h.row.cell ?_
  rw [← hj]
  unfold U8
  rw [List.getElem?_map, List.getElem?_map, List.getElem?_drop]
theorem ARat.svHead {w : World} {g u d n nx : Nat} {a : ASt} (h : ARat w g u d n a nx) {b : Nat} (hb : b ≤ n) : Sv w w.heap.size (some ⟨u, 0, none⟩) b n (U8 ((useL n a).take b)) := by
  have := h.sv.head hb
  unfold U8 at this ⊢
  rwa [List.map_take]
theorem sv_none (w : World) (c : Nat) (h : c ≤ maxLen) (ad : Addr) : Sv w w.heap.size (some ad) 0 c (U8 []) := ⟨rfl, Nat.zero_le _, h, fun e => (by cases e), fun _ _ h0 => absurd h0 (by omega)⟩
/-- what nextFree answers -/
def FreeOut (n : Nat) (a : ASt) (w : World) (e : Ending) (w' : World) : Prop :=
  (∃ q, w' = w.drewN q) ∧ ((∃ k, IsNext n a k ∧ k < n ∧ e = .returned (.tuple #[.int .i64 (k : Int), .bool true])) ∨ (NoRoom n a ∧ e = .returned (.tuple #[.int .i64 (-1), .bool false])))
set_option maxRecDepth 100000 in
set_option maxHeartbeats 2000000 in
theorem nextFree_any (g u d n nx : Nat) (a : ASt) (w : World) (h : ARat w g u d n a nx) (h0 : 300 ≤ n) (hn : n ≤ 6000) (hok : a.ok n) :
    Calls Tryd.prog 29 #[.pointer (some ⟨g, 0, none⟩)] w (FreeOut n a w) := by
  obtain ⟨c0, c1, c2⟩ := h.cells
  have HU := hid h
  have hle := h.nx_le hok
  have HX := hid h.nx
  have HN := hid (show 300 ≤ n ∧ n ≤ 6000 from ⟨h0, hn⟩)
  have HOk := hid hok
  have hmx : n ≤ maxLen := by unfold maxLen; omega
  have HMx := hid hmx
  have hf1 := first_or (fun i => useV n a i = 1) nx n
  have hf2 := first_or (fun i => useV n a i = 1) 0 nx
  have hnb : (n : Int) ≤ 6000 := by omega
  clear h h0 hn hok hmx
  rcases hf1 with ⟨k, k1, k2, k3, k4⟩ | hno
  · obtain ⟨j, rfl⟩ : ∃ j, k = nx + j := ⟨k - nx, by omega⟩
    have HNx := hid (next_ahead HN.out.1 HOk.out HX.out k2 k1 k3 k4)
    have hnx : nx < n := by omega
    have hne : ¬ n = nx := by omega
    have hI := hid (fun q => index_yes (some ⟨u, nx, none⟩) (n - nx) (n - nx) j _ 1 (w.drewN q) ((HU.out.svTail).drewN q) (by omega) (useL_drop.2 ⟨k2, k3⟩) (fun i hi he => by
      obtain ⟨h1, h2⟩ := useL_drop.1 he
      exact k4 _ (by omega) (by omega) h2))
    have HK := hid (show nx + j < n from k2)
    clear k1 k3 k4 hf2
    go_enter Tryd.func29, Tryd.ntmps29
    go_wp2_with fail
    go_quiet ((go_at_call 34; exact Calls.quiet_of_same (hI.out _)))
    go_wp2
    go_ret2
    exact ⟨⟨_, rfl⟩, .inl ⟨nx + j, HNx.out, HK.out, by simp⟩⟩
  · rcases hf2 with ⟨k, _, k2, k3, k4⟩ | hno2
    · have HNx := hid (next_round HN.out.1 HOk.out HX.out k2 k3 (fun i hi => k4 i (Nat.zero_le _) hi) hno)
      have HK := hid (show k < n from by omega)
      have hIh := hid (fun (W : World) (hW : ∃ q0, W = w.drewN q0) (q : Nat) => index_yes (some ⟨u, 0, none⟩) nx n k _ 1 (W.drewN q) ((show ARat W g u d n a nx from by obtain ⟨q0, rfl⟩ := hW; exact HU.out.on (below_drewN (Below.refl _ _) q0)).svHead hle |>.drewN q) (by omega) ((useL_take hle).2 ⟨k2, k3⟩) (fun i hi he => k4 i (Nat.zero_le _) hi ((useL_take hle).1 he).2))
      have HNo := hid hno
      clear k2 k3 k4 hno
      rcases Nat.lt_or_ge nx n with hnx | hnx
      · have hne : ¬ n = nx := by omega
        have hI := hid (fun q => index_no (some ⟨u, nx, none⟩) (n - nx) (n - nx) _ 1 (w.drewN q) ((HU.out.svTail).drewN q) (by omega) (fun i he => by
          obtain ⟨h1, h2⟩ := useL_drop.1 he
          exact HNo.out _ (by omega) h1 h2))
        go_enter Tryd.func29, Tryd.ntmps29
        go_wp2_with fail
        go_quiet ((go_at_call 34; exact Calls.quiet_of_same (hI.out _)))
        go_wp2_with fail
        obtain ⟨W, hW⟩ : ∃ W, w.drewN nq = W := ⟨_, rfl⟩
        have c3 : W.cell? ⟨g, 1, none⟩ = w.cell? ⟨g, 1, none⟩ := by rw [← hW]; rfl
        rw [c1] at c3
        have c4 : W.cell? ⟨g, 2, none⟩ = some (.int .i64 (nx : Int)) := by rw [← hW]; exact c2
        have HW := hid hW
        rw [hW]
        clear hW c0 c1 c2
        go_quiet ((go_at_call 34; exact Calls.quiet_of_same (hIh.out _ ⟨_, HW.out.symm⟩ _)))
        go_wp2
        go_ret2
        rw [← HW.out, World.drewN_drewN]
        exact ⟨⟨_, rfl⟩, .inl ⟨k, HNx.out, HK.out, rfl⟩⟩
      · obtain rfl : nx = n := by omega
        have hI := hid (fun q => index_no (some ⟨u, 0, none⟩) 0 0 [] 1 (w.drewN q) (sv_none _ _ (Nat.zero_le _) _) (by omega) (fun i he => by simp at he))
        go_enter Tryd.func29, Tryd.ntmps29
        go_wp2_with fail
        go_quiet ((go_at_call 34; exact Calls.quiet_of_same (hI.out _)))
        go_wp2_with fail
        obtain ⟨W, hW⟩ : ∃ W, w.drewN nq = W := ⟨_, rfl⟩
        have c3 : W.cell? ⟨g, 1, none⟩ = w.cell? ⟨g, 1, none⟩ := by rw [← hW]; rfl
        rw [c1] at c3
        have c4 : W.cell? ⟨g, 2, none⟩ = some (.int .i64 (nx : Int)) := by rw [← hW]; exact c2
        have HW := hid hW
        rw [hW]
        clear hW c0 c1 c2
        go_quiet ((go_at_call 34; exact Calls.quiet_of_same (hIh.out _ ⟨_, HW.out.symm⟩ _)))
        go_wp2
        go_ret2
        rw [← HW.out, World.drewN_drewN]
        exact ⟨⟨_, rfl⟩, .inl ⟨k, HNx.out, HK.out, rfl⟩⟩
    · have HNr := hid (noRoom_of (n := n) (a := a) (fun i hi => by
        by_cases h : nx ≤ i
        · exact hno i h hi
        · exact hno2 i (Nat.zero_le _) (by omega)))
      have hIh := hid (fun (W : World) (hW : ∃ q0, W = w.drewN q0) (q : Nat) => index_no (some ⟨u, 0, none⟩) nx n _ 1 (W.drewN q) ((show ARat W g u d n a nx from by obtain ⟨q0, rfl⟩ := hW; exact HU.out.on (below_drewN (Below.refl _ _) q0)).svHead hle |>.drewN q) (by omega) (fun i he => hno2 i (Nat.zero_le _) ((useL_take hle).1 he).1 ((useL_take hle).1 he).2))
      have HNo := hid hno
      clear hno hno2
      rcases Nat.lt_or_ge nx n with hnx | hnx
      · have hne : ¬ n = nx := by omega
        have hI := hid (fun q => index_no (some ⟨u, nx, none⟩) (n - nx) (n - nx) _ 1 (w.drewN q) ((HU.out.svTail).drewN q) (by omega) (fun i he => by
          obtain ⟨h1, h2⟩ := useL_drop.1 he
          exact HNo.out _ (by omega) h1 h2))
        go_enter Tryd.func29, Tryd.ntmps29
        go_wp2_with fail
        go_quiet ((go_at_call 34; exact Calls.quiet_of_same (hI.out _)))
        go_wp2_with fail
        obtain ⟨W, hW⟩ : ∃ W, w.drewN nq = W := ⟨_, rfl⟩
        have c3 : W.cell? ⟨g, 1, none⟩ = w.cell? ⟨g, 1, none⟩ := by rw [← hW]; rfl
        rw [c1] at c3
        have c4 : W.cell? ⟨g, 2, none⟩ = some (.int .i64 (nx : Int)) := by rw [← hW]; exact c2
        have HW := hid hW
        rw [hW]
        clear hW c0 c1 c2
        go_quiet ((go_at_call 34; exact Calls.quiet_of_same (hIh.out _ ⟨_, HW.out.symm⟩ _)))
        go_wp2
        go_ret2
        rw [← HW.out, World.drewN_drewN]
        exact ⟨⟨_, rfl⟩, .inr ⟨HNr.out, rfl⟩⟩
      · obtain rfl : nx = n := by omega
        have hI := hid (fun q => index_no (some ⟨u, 0, none⟩) 0 0 [] 1 (w.drewN q) (sv_none _ _ (Nat.zero_le _) _) (by omega) (fun i he => by simp at he))
        go_enter Tryd.func29, Tryd.ntmps29
        go_wp2_with fail
        go_quiet ((go_at_call 34; exact Calls.quiet_of_same (hI.out _)))
        go_wp2_with fail
        obtain ⟨W, hW⟩ : ∃ W, w.drewN nq = W := ⟨_, rfl⟩
        have c3 : W.cell? ⟨g, 1, none⟩ = w.cell? ⟨g, 1, none⟩ := by rw [← hW]; rfl
        rw [c1] at c3
        have c4 : W.cell? ⟨g, 2, none⟩ = some (.int .i64 (nx : Int)) := by rw [← hW]; exact c2
        have HW := hid hW
        rw [hW]
        clear hW c0 c1 c2
        go_quiet ((go_at_call 34; exact Calls.quiet_of_same (hIh.out _ ⟨_, HW.out.symm⟩ _)))
        go_wp2
        go_ret2
        rw [← HW.out, World.drewN_drewN]
        exact ⟨⟨_, rfl⟩, .inr ⟨HNr.out, rfl⟩⟩
end Go.Proofs.YtfdabbpfphnbhaaDoor
