/- BlobOpens: an array of truth values, refs that are made, Open over them. -/
import Derived.Test.YtfdabbpfphnbhaaDoorGBlT
namespace Go.Proofs.YtfdabbpfphnbhaaDoor
open Go.RowKit

/-- an array of truth values -/
def arr (n : Nat) (f : Nat → Bool) : Array Value := ((List.range n).map fun i => Value.bool (f i)).toArray
theorem arr_get {n i : Nat} (f : Nat → Bool) (h : i < n) : (arr n f)[i]? = some (.bool (f i)) := by
  unfold arr
  rw [List.getElem?_toArray, List.getElem?_map, List.getElem?_range h]
  rfl
theorem arr_cell {w : World} {g n i : Nat} {t : TypeId} {f : Nat → Bool} (h : Blk w g t (arr n f)) (hi : i < n) : w.cell? ⟨g, i, none⟩ = some (.bool (f i)) := by rw [Blk.cell h, arr_get f hi]
theorem arr_set {n k : Nat} (f : Nat → Bool) (b : Bool) : (arr n f).setIfInBounds k (.bool b) = arr n (setN f k b) := by
  apply Array.ext_getElem?
  intro i
  rw [Array.getElem?_setIfInBounds]
  by_cases hi : i < n
  · rw [arr_get _ hi]
    by_cases e : k = i
    · subst e
      rw [if_pos rfl, if_pos (by simpa [arr] using hi), arr_get _ hi, setN_same]
    · rw [if_neg e, arr_get _ hi, setN_other _ _ (Ne.symm e)]
  · have h1 : ∀ f : Nat → Bool, (arr n f)[i]? = none := fun f => Array.getElem?_eq_none (by simp [arr]; omega)
    rw [h1, h1]
    split
    · rw [if_neg (by simp [arr]; omega)]
    · rfl
theorem arr_put {w : World} {g n k : Nat} {t : TypeId} {f : Nat → Bool} (h : Blk w g t (arr n f)) (b : Bool) : Blk (w.setCell ⟨g, k, none⟩ (.bool b)) g t (arr n (setN f k b)) := by
  have := h.put k (.bool b)
  rwa [arr_set] at this
theorem refs_take {l : List Int} {k : Nat} {x : Int} (h : l[k]? = some x) : refs310 (l.take (k + 1)) = refs310 (l.take k) ++ [(x % 310, 5)] := by
  unfold refs310
  rw [take_next h, List.map_append]
  rfl
theorem refs_len (l : List Int) : (refs310 l).length = l.length := by simp [refs310]
theorem inA_next {p : List RefS} {k : Nat} (z : Nat) : inA (p ++ [((k : Int), z)]) = setN (inA p) k true := by
  funext i
  unfold inA
  by_cases e : i = k
  · subst e; rw [setN_same]; simp
  · rw [setN_other _ _ e]
    have : ¬ (i : Int) = (k : Int) := by omega
    simp [this]
theorem inA_off {p : List RefS} {k : Nat} (z : Nat) (hk : 300 ≤ k) : ∀ i, i < 300 → inA (p ++ [((k : Int), z)]) i = inA p i := fun i hi => by
  rw [inA_next, setN_other _ _ (by omega)]
theorem arr_same {n : Nat} {f h : Nat → Bool} (e : ∀ i, i < n → f i = h i) : arr n f = arr n h := by
  unfold arr
  congr 1
  refine List.map_congr_left (fun i hi => ?_)
  rw [e i (List.mem_range.1 hi)]
section
variable {Real : World → Nat → DSt → (Nat → Prop) → Prop} {AR : World → Nat → Nat → Nat → ASt → (Nat → Prop) → Prop} {S : Nat → Addr} {w0 w w' : World} {d g n q q' : Nat} {s s' : DSt} {a a' : ASt} {F G : Nat → Prop} {ks : List Lie}
/-- a block that was there at the start -/
theorem Bk.old {g1 : Nat} {t : TypeId} {cs : Array Value} (h : Bk Real AR S w0 w d g s n a q ks) (hb : Blk w0 g1 t cs) : Bk Real AR S w0 w d g s n a q (Lie.blk g1 t cs :: ks) := by
  obtain ⟨F, G, h, hk⟩ := h
  refine ⟨F, G, h, fun K hK => ?_⟩
  rcases List.mem_cons.1 hK with rfl | hK
  · refine ⟨hb.below h.below hb.lt, fun k hk => ?_⟩
    obtain rfl : k = g1 := hk
    exact ⟨Nat.lt_of_lt_of_le hb.lt h.below.size, fun hf => by have := h.fn _ hf; have := hb.lt; omega, fun hf => by have := h.gn _ hf; have := hb.lt; omega⟩
  · exact hk K hK
theorem bk_open (D : DevOk Real) (O : AreaOk Real AR) (hS : Sent w0 S) (hB : Below w0.heap.size w0 w) (hr : Real w d (DSt.new n) F) (hF : ∀ k, F k → w0.heap.size ≤ k) (h0 : 300 ≤ n) (h1 : n ≤ 6000) {A : Option Addr} {k c : Nat} {l : List RefS} (hl : RefSl w w.heap.size A k c l) (hk : k ≤ 6000) (hw : ∀ r, r ∈ l → -9223372036854775808 ≤ r.1 ∧ r.1 ≤ 9223372036854775807) :
    Calls Tryd.prog 28 #[.pointer (some ⟨d, 0, none⟩), .slice A k c] w fun e w' => Below w.heap.size w w' ∧ ((opensA n l = true ∧ ∃ g, e = .returned (.tuple #[.pointer (some ⟨g, 0, none⟩), .nilIface]) ∧ Bk Real AR S w0 w' d g (DSt.new n) n (openA' n l) 0 []) ∨ (opensA n l = false ∧ ∃ v, EV S 103 v ∧ e = .returned (.tuple #[.pointer none, v]))) := by
  refine (O.open_ S d n 0 (DSt.new n) F A k c l w (hS.on hB) hr (up_new h1) (by omega) h0 h1 hl hk hw).mono ?_
  rintro e w2 ⟨hb2, (⟨ho, g, G, he, har, hg⟩ | ⟨hno, hv⟩)⟩
  · refine ⟨hb2, .inl ⟨ho, g, he, F, G, ⟨D.kept hr (Kept.of_below hb2 (D.lt hr)), har, hB.trans (hb2.mono hB.size), hS, hF, fun k hk => by have := hg k hk; have := hB.size; omega, fun k hk hg' => by have := D.lt hr k hk; have := hg k hg'; omega, up_new h1, by omega, h0, h1, ok_open h0 ho⟩, fun K hK => by cases hK⟩⟩
  · exact ⟨hb2, .inr ⟨hno, hv⟩⟩
end
/-- what a Put leaves of what BlobOpens asks -/
theorem opens_put {a : ASt} {p : List RefS} {k i m : Nat} (hn : IsNext 300 a k) (hu : ∀ j, inA p j = true → a.use j = true) (hl : leftA 300 a + m + i = 150) :
    (∀ j, inA p j = true → (a.put k).use j = true) ∧ leftA 300 (a.put k) + m + (i + 1) = 150 ∧ inA p k = false ∧ k < 300 := by
  have hin := hn.in_ (by omega)
  have h1 := left_put (n := 300) hn.free hin.1 hin.2
  refine ⟨fun j hj => ?_, by omega, ?_, hin.2⟩
  · rw [put_use]
    by_cases e : j = k
    · subst e; exact setN_same _ _ _
    · rw [setN_other _ _ e]; exact hu j hj
  · cases h : inA p k with
    | false => rfl
    | true =>
      have h2 := hu k h
      rw [(free_not hn.free).1] at h2
      cases h2
theorem opens_use {p : List RefS} : ∀ j, inA p j = true → (openA' 300 p).use j = true := fun _ h => h
end Go.Proofs.YtfdabbpfphnbhaaDoor
