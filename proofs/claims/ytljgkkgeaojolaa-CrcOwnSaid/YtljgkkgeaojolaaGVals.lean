/- Words for memory, for slices of any elements of one cell: a slice that reads as a list of values; a slice that the call made and owns; a store into it. -/
import Derived.Test.YtljgkkgeaojolaaGWords
namespace Go.Proofs.Ytljgkkgeaojolaa
open Go.RowKit

/-- the slice '.slice A n c' reads as the values xs, all below block B -/
structure Sv (w : World) (B : Nat) (A : Option Addr) (n c : Nat) (xs : List Value) : Prop where
  len : xs.length = n
  cap : n ≤ c
  max : c ≤ maxLen
  nil : A = none → c = 0
  at_ : ∀ ad, A = some ad → 0 < n → ad.block < B ∧ ∀ j u, xs[j]? = some u → w.cell? (ad.add j) = some u
theorem Sv.get {w : World} {B n c k : Nat} {A : Option Addr} {xs : List Value} {u : Value} (h : Sv w B A n c xs) (hx : xs[k]? = some u) : ∃ ad, A = some ad ∧ ad.block < B ∧ w.cell? (ad.add k) = some u := by
  have hl := h.len
  have hk : k < xs.length := (List.getElem?_eq_some_iff.1 hx).1
  rcases A with _ | ad
  · have := h.nil rfl; have := h.cap; omega
  · obtain ⟨hb, hc⟩ := h.at_ ad rfl (by omega)
    exact ⟨ad, rfl, hb, hc k _ hx⟩
theorem Sv.keep {w w' : World} {B n c : Nat} {A : Option Addr} {xs : List Value} (h : Sv w B A n c xs) (hk : ∀ p : Addr, p.block < B → w'.cell? p = w.cell? p) : Sv w' B A n c xs :=
  ⟨h.len, h.cap, h.max, h.nil, fun ad ha hn => ⟨(h.at_ ad ha hn).1, fun j x hx => (hk _ (by rw [add_block]; exact (h.at_ ad ha hn).1)).trans ((h.at_ ad ha hn).2 j x hx)⟩⟩
theorem Sv.more {w : World} {B B' n c : Nat} {A : Option Addr} {xs : List Value} (h : Sv w B A n c xs) (hB : B ≤ B') : Sv w B' A n c xs :=
  ⟨h.len, h.cap, h.max, h.nil, fun ad ha hn => ⟨Nat.lt_of_lt_of_le (h.at_ ad ha hn).1 hB, (h.at_ ad ha hn).2⟩⟩
theorem Sv.below {w w' : World} {B n c : Nat} {A : Option Addr} {xs : List Value} (h : Sv w B A n c xs) (hb : Below B w w') : Sv w' B A n c xs := h.keep fun _ hp => hb.cell hp
theorem Sv.drewN {w : World} {B n c : Nat} {A : Option Addr} {xs : List Value} (h : Sv w B A n c xs) (k : Nat) : Sv (w.drewN k) B A n c xs := h.keep fun _ _ => rfl
theorem Sv.alloc {w : World} {B n c : Nat} {A : Option Addr} {xs : List Value} (h : Sv w B A n c xs) (hB : B ≤ w.heap.size) (o : Obj) : Sv (w.alloc o) B A n c xs := h.keep fun p hp => World.cell?_alloc_lt w o p (by omega)
theorem Sv.on {w w' : World} {A : Option Addr} {n c : Nat} {xs : List Value} (h : Sv w w.heap.size A n c xs) (hb : Below w.heap.size w w') : Sv w' w'.heap.size A n c xs := (h.below hb).more hb.size
theorem Sv.empty (w : World) (B : Nat) : Sv w B none 0 0 [] := ⟨rfl, Nat.le_refl _, by unfold maxLen; omega, fun _ => rfl, fun _ h => by cases h⟩
/-- the first k -/
theorem Sv.head {w : World} {B n c : Nat} {A : Option Addr} {xs : List Value} (h : Sv w B A n c xs) {k : Nat} (hk : k ≤ n) : Sv w B A k c (xs.take k) := by
  refine ⟨by rw [List.length_take, h.len]; omega, by have := h.cap; omega, h.max, h.nil, fun ad ha hn => ?_⟩
  obtain ⟨hb, hcell⟩ := h.at_ ad ha (by omega)
  refine ⟨hb, fun j x hx => hcell j x ?_⟩
  rw [List.getElem?_take] at hx
  split at hx
  · exact hx
  · cases hx

/-- the slice value v is the call's own, from block B on, and holds the values xs -/
def OwnV (e : TypeId) (w : World) (B : Nat) (v : Value) (xs : List Value) : Prop := w.ownsRow B e 1 v xs.length xs
theorem OwnV.form {e : TypeId} {w : World} {B : Nat} {v : Value} {xs : List Value} (h : OwnV e w B v xs) : ∃ A c, v = .slice A xs.length c ∧ Sv w w.heap.size A xs.length c xs ∧ (∀ ad, A = some ad → B ≤ ad.block) := by
  have h' := h
  rcases h'.2 with ⟨rfl, h0⟩ | ⟨g, cap, cur, rfl, hb, hg, h1, h2, h3, h4⟩
  · have : xs = [] := List.eq_nil_of_length_eq_zero h0
    subst this
    exact ⟨none, 0, rfl, Sv.empty _ _, fun _ h => by cases h⟩
  · refine ⟨_, _, rfl, ⟨rfl, h1, h2, fun h => (by cases h), fun ad ha hn => ?_⟩, fun ad ha => by cases ha; exact hb⟩
    cases ha
    exact ⟨(World.ownsRow.lt h g rfl).2, fun j x hx => World.ownsRow.cells h (g := g) rfl j _ hx⟩
theorem OwnV.lt {e : TypeId} {w : World} {B : Nat} {v : Value} {xs : List Value} (h : OwnV e w B v xs) : ∀ k, v.ownBlock = some k → B ≤ k ∧ k < w.heap.size := World.ownsRow.lt h
theorem OwnV.kept {e : TypeId} {w w' : World} {B : Nat} {v : Value} {xs : List Value} {row : Option Nat} (h : OwnV e w B v xs) (hg : w.grownBy w' row) (hr : ∀ k, v.ownBlock = some k → some k ≠ row) : OwnV e w' B v xs := by
  refine World.ownsRow.kept h hg ?_
  rcases e : v.ownBlock with _ | k
  · exact .inl rfl
  · exact .inr (hr k e)
theorem OwnV.on {e : TypeId} {w w' : World} {B : Nat} {v : Value} {xs : List Value} (h : OwnV e w B v xs) (hb : Below w.heap.size w w') : OwnV e w' B v xs :=
  World.ownsRow.kept h (only_below hb none) (by cases hv : v.ownBlock <;> simp)
theorem OwnV.nil (e : TypeId) (w : World) (B : Nat) : OwnV e w B (.slice none 0 0) [] := World.ownsRow_nil _ _ _ _
/-- a new slice with these values -/
def MadeV (e : TypeId) (w : World) (xs : List Value) (r : Ending) (w' : World) : Prop := ∃ v, r = .returned v ∧ OwnV e w' w.heap.size v xs ∧ Below w.heap.size w w'
theorem MadeV.fresh {e : TypeId} {w w' : World} {xs : List Value} {r : Ending} (h : MadeV e w xs r w') : ∃ A m c, r = .returned (.slice A m c) ∧ Sv w' w'.heap.size A m c xs ∧ Below w.heap.size w w' ∧ (∀ ad, A = some ad → w.heap.size ≤ ad.block) ∧ OwnV e w' w.heap.size (.slice A m c) xs := by
  obtain ⟨v, rfl, ho, hb⟩ := h
  obtain ⟨A, c, rfl, hs, hn⟩ := ho.form
  exact ⟨A, _, c, rfl, hs, hb, hn, ho⟩
/-- of an own slice that is not empty: its place; a store into it -/
theorem OwnV.slot {e : TypeId} {w : World} {B n c : Nat} {A : Option Addr} {xs : List Value} (h : OwnV e w B (.slice A n c) xs) (hn : 0 < n) : ∃ g, A = some ⟨g, 0, none⟩ ∧ B ≤ g ∧ g < w.heap.size ∧ xs.length = n := by
  rcases h.2 with ⟨hv, h0⟩ | ⟨g, cap, cur, hv, hb, hg, _⟩
  · cases hv; omega
  · cases hv
    exact ⟨g, rfl, hb, (Array.getElem?_eq_some_iff.1 hg).1, rfl⟩
theorem OwnV.cell {e : TypeId} {w : World} {B n c g k : Nat} {xs : List Value} {u : Value} (h : OwnV e w B (.slice (some ⟨g, 0, none⟩) n c) xs) (hx : xs[k]? = some u) : w.cell? ⟨g, k, none⟩ = some u := by
  have := World.ownsRow.cells h (g := g) rfl k u hx
  have e : (⟨g, 0, none⟩ : Addr).add k = ⟨g, k, none⟩ := by unfold Addr.add; split <;> simp_all
  rwa [e] at this
theorem OwnV.free {e : TypeId} {w : World} {B n c g : Nat} {xs : List Value} (h : OwnV e w B (.slice (some ⟨g, 0, none⟩) n c) xs) (k : Nat) : w.frozen? ⟨g, k, none⟩ = false := by
  rcases h.2 with ⟨h', _⟩ | ⟨g', cap', cur, h', _, hg, _⟩
  · simp at h'
  · simp only [Value.slice.injEq, Option.some.injEq, Addr.mk.injEq, and_true] at h'
    obtain ⟨rfl, _⟩ := h'
    exact frozen_of_row w g k cur e hg
theorem OwnV.put {e : TypeId} {w : World} {B n c g : Nat} {xs : List Value} (h : OwnV e w B (.slice (some ⟨g, 0, none⟩) n c) xs) (hn : xs.length = n) (k : Nat) (u : Value) : OwnV e (w.setCell ⟨g, k, none⟩ u) B (.slice (some ⟨g, 0, none⟩) n c) (xs.set k u) := by
  subst hn
  unfold OwnV
  rw [List.length_set]
  exact (World.ownsRow.stored h k u).1
theorem own_vals {w : World} {B : Nat} {v : Value} {l : List Int} : Own w B v l ↔ OwnV 5 w B v (I l) := by
  unfold Own OwnV
  rw [I_len]
/-- filled up to k, the rest as it was -/
theorem fill_next {xs ys : List Value} {k : Nat} {u : Value} (hx : xs[k]? = some u) (hl : xs.length = ys.length) : (xs.take k ++ ys.drop k).set k u = xs.take (k + 1) ++ ys.drop (k + 1) := by
  have hk : k < xs.length := (List.getElem?_eq_some_iff.1 hx).1
  rw [List.take_add_one, hx]
  have e : ys.drop k = ys[k]'(by omega) :: ys.drop (k + 1) := List.drop_eq_getElem_cons (by omega)
  rw [e, List.set_append_right _ _ (by rw [List.length_take]; omega), List.length_take, Nat.min_eq_left (by omega), Nat.sub_self, List.set_cons_zero, List.append_assoc]
  rfl
theorem fill_at {xs ys : List Value} {k : Nat} (hk : k < ys.length) (hl : xs.length = ys.length) : (xs.take k ++ ys.drop k)[k]? = ys[k]? := by
  rw [List.getElem?_append_right (by rw [List.length_take]; omega), List.length_take, Nat.min_eq_left (by omega), Nat.sub_self]
  simp
theorem fill_len {xs ys : List Value} {k : Nat} (hk : k ≤ ys.length) (hl : xs.length = ys.length) : (xs.take k ++ ys.drop k).length = ys.length := by
  rw [List.length_append, List.length_take, List.length_drop]; omega
end Go.Proofs.Ytljgkkgeaojolaa
