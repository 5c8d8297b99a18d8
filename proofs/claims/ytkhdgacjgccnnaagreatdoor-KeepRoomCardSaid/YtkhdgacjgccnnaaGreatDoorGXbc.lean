/- Put together out of 7 texts. What the eight errors that package keep answers (and those beneath it) read as, when the call begins; the start that the initialisers lay meets it. -/
import Derived.Test.YtkhdgacjgccnnaaGreatDoorGXao
import Derived.Test.YtkhdgacjgccnnaaGreatDoorGXab
import Derived.Test.YtkhdgacjgccnnaaGreatDoorGXbb
import Derived.Lib.Bytealg
import Derived.Test.YtkhdgacjgccnnaaGreatDoorGXat
namespace Go.Proofs.YtkhdgacjgccnnaaGreatDoor
open Go.ChangeShapes Go.WideShapes Go.ChangeAt Go.RowKit

/-- the errors, in the order of the rows' lists: the variable, its number, its text -/
def all8 : List (String × Nat × List UInt8) := [("breviary/api.ErrEnd", 8, [105, 116, 32, 101, 110, 100, 115, 32, 116, 111, 111, 32, 101, 97, 114, 108, 121]), ("breviary/api.ErrShape", 3, [110, 111, 116, 32, 97, 115, 32, 105, 116, 32, 104, 97, 115, 32, 116, 111, 32, 98, 101]), ("breviary/api.ErrRange", 0, [97, 32, 110, 117, 109, 98, 101, 114, 32, 111, 117, 116, 32, 111, 102, 32, 105, 116, 115, 32, 114, 97, 110, 103, 101]), ("breviary/api.ErrMany", 7, [116, 111, 111, 32, 109, 97, 110, 121]), ("breviary/api.ErrFull", 1, [116, 104, 101, 114, 101, 32, 105, 115, 32, 110, 111, 32, 114, 111, 111, 109]), ("breviary/api.ErrCrash", 5, [105, 116, 32, 105, 115, 32, 100, 111, 119, 110]), ("breviary/api.ErrIO", 2, [105, 116, 32, 99, 97, 110, 39, 116, 32, 98, 101, 32, 114, 101, 97, 100]), ("breviary/api.ErrNoEnt", 6, [110, 111, 32, 115, 117, 99, 104, 32, 102, 105, 108, 101])]
def laid8 : List (String × DataW Unit) := all8.map sentOf
theorem glob8 : ∀ x ∈ all8, Tryz.prog.globalNamed x.1 = some x.2.1 ∧ (Tryz.prog.globals[x.2.1]?).map (·.type) = some 31 := by
  intro x hx
  simp only [all8, List.mem_cons, List.not_mem_nil, or_false] at hx
  rcases hx with rfl | rfl | rfl | rfl | rfl | rfl | rfl | rfl
  all_goals exact ⟨by kernel_rfl, by kernel_rfl⟩
theorem door_met_laid8 (os : Os) (args : Array Value) : laidMetH Tryz.prog laid8 ((World.doorLaid Tryz.prog 465 os).forCall (fun _ _ => 0) ⟨#[], args, []⟩).memory :=
  laidMetH_of_parts3 (fuel := 8) (laidMet_of_run' 8 (by kernel_rfl) (by kernel_rfl)) (by kernel_rfl) (by kernel_rfl)
theorem sent8_of_laid {W : World} (h : laidMetH Tryz.prog laid8 W) : ∃ S, SentL [0, 1, 2, 3, 4, 5, 6, 8] W S := by
  rw [MakeChecks.laidMetH_plain _ _ _ (by kernel_rfl)] at h
  obtain ⟨ps, hv, hnd, hrows⟩ := h
  obtain ⟨az, hl, hn, hm, hc⟩ := sents all8 ps hv glob8 hrows hnd
  have hl5 : az.length = 8 := hl
  have hget : ∀ i, i < 8 → az[i]? = some (az.getD i ⟨0, 0, none⟩) := fun i hi => by simp [List.getD, show i < az.length by omega]
  refine ⟨fun i => az.getD (match i with | 0 => 0 | 1 => 1 | 2 => 2 | 3 => 3 | 4 => 4 | 5 => 5 | 6 => 6 | 8 => 7 | _ => 0) ⟨0, 0, none⟩, fun i hi => ?_⟩
  simp only [List.mem_cons, List.not_mem_nil, or_false] at hi
  rcases hi with rfl | rfl | rfl | rfl | rfl | rfl | rfl | rfl
  · exact hc 0 _ _ rfl (hget 0 (by decide))
  · exact hc 1 _ _ rfl (hget 1 (by decide))
  · exact hc 2 _ _ rfl (hget 2 (by decide))
  · exact hc 3 _ _ rfl (hget 3 (by decide))
  · exact hc 4 _ _ rfl (hget 4 (by decide))
  · exact hc 5 _ _ rfl (hget 5 (by decide))
  · exact hc 6 _ _ rfl (hget 6 (by decide))
  · exact hc 7 _ _ rfl (hget 7 (by decide))
end Go.Proofs.YtkhdgacjgccnnaaGreatDoor
namespace Go.Proofs.YtkhdgacjgccnnaaGreatDoor
open Go.RowKit Go.Maps

theorem filt_at {α : Type} (p : α → Bool) (d : α) (l : List α) : (l.filter p).length = ((List.range l.length).filter fun i => p (l.getD i d)).length := by
  have e : l = (List.range l.length).map fun i => l.getD i d := by
    apply List.ext_getElem?
    intro i
    rcases Nat.lt_or_ge i l.length with h | h
    · simp [h]
    · simp [h]
  have h : (l.filter p).length = (((List.range l.length).map fun i => l.getD i d).filter p).length := by rw [← e]
  rw [h, List.filter_map, List.length_map]
  rfl
theorem filt_apart (p q r : Nat → Bool) (l : List Nat) (h1 : ∀ x, x ∈ l → p x = true → q x = true → False) (h2 : ∀ x, x ∈ l → p x = true ∨ q x = true → r x = true) : (l.filter p).length + (l.filter q).length ≤ (l.filter r).length := by
  induction l with
  | nil => simp
  | cons a l ih =>
    have ih := ih (fun x hx => h1 x (List.mem_cons_of_mem _ hx)) (fun x hx => h2 x (List.mem_cons_of_mem _ hx))
    have a1 := h1 a (List.mem_cons_self ..)
    have a2 := h2 a (List.mem_cons_self ..)
    rw [List.filter_cons, List.filter_cons, List.filter_cons]
    rcases hp : p a with _ | _ <;> rcases hq : q a with _ | _ <;> rcases hr : r a with _ | _ <;> rw [hp, hq] at a1 a2 <;> simp only [if_true, Bool.false_eq_true, if_false, List.length_cons] <;> first | omega | exact (a1 rfl rfl).elim | (rw [hr] at a2; exact absurd (a2 (by simp)) (by simp))
theorem rising_filt {m : Nat} {l : List Nat} (h : l.Pairwise (· < ·)) (hm : ∀ x, x ∈ l → x < m) : l.length = ((List.range m).filter fun i => l.contains i).length := by
  have hn : l.Nodup := h.imp (fun h => Nat.ne_of_lt h)
  refine ((List.perm_ext_iff_of_nodup hn (List.nodup_range.filter _)).2 (fun a => ?_)).length_eq
  rw [List.mem_filter, List.mem_range, List.contains_iff_mem]
  exact ⟨fun ha => ⟨hm a ha, ha⟩, fun ha => ha.2⟩
theorem pages_rising (P : PS) (ch : Chg) : (pagesOf P ch).Pairwise (· < ·) := (List.Pairwise.filter _ List.pairwise_lt_range).filter _
section
variable {P : PS} {ch : Chg} {cont : Cont} {H : Nat}
end
theorem noChg_cont (cont : Cont) : contC cont noChg = cont := contC_nil (fun _ => rfl)
theorem pages_none {n : Nat} {P : PS} {ch : Chg} {cont : Cont} (hk : Fine (halN n) P cont) (h : ∀ i, contC cont ch i = none) : pagesTo P ch 256 = [] := by
  unfold pagesTo
  rw [List.filter_eq_nil_iff]
  intro i hi
  rw [there_cont hk (List.mem_range.1 hi), h i]; decide
section
variable {Real : World → Nat → DSt → (Nat → Prop) → Prop} {PR : World → Nat → Nat → Nat → Nat → (Nat → Prop) → Prop} {S : Nat → Addr} {w0 w w' : World} {d g n q mk : Nat} {T : Nat → Prop} {s : DSt} {P : PS} {ch : Chg} {cont : Cont}
end
end Go.Proofs.YtkhdgacjgccnnaaGreatDoor
namespace Go.Proofs.YtkhdgacjgccnnaaGreatDoor
open Go.RowKit

abbrev Rec := ByteArray × ByteArray
theorem cb_self : ∀ a : List UInt8, Lib.compareBytes a a = 0
  | [] => rfl
  | a :: ta => by
    unfold Lib.compareBytes
    simp [cb_self ta]
theorem cb_swap : ∀ a b : List UInt8, Lib.compareBytes b a = - Lib.compareBytes a b
  | [], [] => rfl
  | [], _ :: _ => rfl
  | _ :: _, [] => rfl
  | a :: ta, b :: tb => by
    unfold Lib.compareBytes
    by_cases h1 : a < b
    · have h2 : ¬ b < a := fun h => UInt8.lt_irrefl a (UInt8.lt_trans h1 h)
      rw [if_neg h2, if_pos h1, if_pos h1]
      rfl
    · by_cases h2 : b < a
      · rw [if_pos h2, if_neg h1, if_pos h2]
      · rw [if_neg h2, if_neg h1, if_neg h1, if_neg h2]
        exact cb_swap ta tb
theorem u8_eq {a b : UInt8} (h1 : ¬ a < b) (h2 : ¬ b < a) : a = b := by
  have e1 : ¬ a.toNat < b.toNat := h1
  have e2 : ¬ b.toNat < a.toNat := h2
  exact UInt8.toNat_inj.1 (by omega)
theorem cb_zero : ∀ a b : List UInt8, Lib.compareBytes a b = 0 → a = b
  | [], [], _ => rfl
  | [], _ :: _, h => by cases h
  | _ :: _, [], h => by cases h
  | a :: ta, b :: tb, h => by
    unfold Lib.compareBytes at h
    by_cases h1 : a < b
    · rw [if_pos h1] at h; cases h
    · by_cases h2 : b < a
      · rw [if_neg h1, if_pos h2] at h; cases h
      · rw [if_neg h1, if_neg h2] at h
        rw [u8_eq h1 h2, cb_zero ta tb h]
theorem cb_trans : ∀ a b c : List UInt8, Lib.compareBytes a b < 0 → Lib.compareBytes b c < 0 → Lib.compareBytes a c < 0
  | [], [], _, h, _ => by simp [Lib.compareBytes] at h
  | _ :: _, [], _, h, _ => by simp [Lib.compareBytes] at h
  | _, _ :: _, [], _, h => by simp [Lib.compareBytes] at h
  | [], _ :: _, _ :: _, _, _ => by simp [Lib.compareBytes]
  | a :: ta, b :: tb, c :: tc, h, g => by
    unfold Lib.compareBytes at h g ⊢
    by_cases h1 : a < b
    · by_cases g1 : b < c
      · rw [if_pos (UInt8.lt_trans h1 g1)]; decide
      · by_cases g2 : c < b
        · rw [if_neg g1, if_pos g2] at g; simp at g
        · have e := u8_eq g1 g2
          subst e
          rw [if_pos h1]; decide
    · by_cases h2 : b < a
      · rw [if_neg h1, if_pos h2] at h; simp at h
      · have e := u8_eq h1 h2
        subst e
        rw [if_neg h1, if_neg h2] at h
        by_cases g1 : a < c
        · rw [if_pos g1]; decide
        · by_cases g2 : c < a
          · rw [if_neg g1, if_pos g2] at g; simp at g
          · rw [if_neg g1, if_neg g2] at g ⊢
            exact cb_trans ta tb tc h g
/-- two keys compared -/
def kc (a b : ByteArray) : Int := Lib.compareBytes a.data.toList b.data.toList
theorem kc_self (a : ByteArray) : kc a a = 0 := cb_self _
theorem kc_swap (a b : ByteArray) : kc b a = - kc a b := cb_swap _ _
theorem kc_zero {a b : ByteArray} (h : kc a b = 0) : a = b := by
  have := cb_zero _ _ h
  rcases a with ⟨⟨a⟩⟩
  rcases b with ⟨⟨b⟩⟩
  cases this
  rfl
theorem kc_trans {a b c : ByteArray} (h : kc a b < 0) (g : kc b c < 0) : kc a c < 0 := cb_trans _ _ _ h g
/-- rising -/
def Ris (l : List Rec) : Prop := l.Pairwise fun a b => kc a.1 b.1 < 0
theorem Ris.lt {l : List Rec} (h : Ris l) {i j : Nat} {x y : Rec} (hij : i < j) (hx : l[i]? = some x) (hy : l[j]? = some y) : kc x.1 y.1 < 0 := by
  obtain ⟨hi, rfl⟩ := List.getElem?_eq_some_iff.1 hx
  obtain ⟨hj, rfl⟩ := List.getElem?_eq_some_iff.1 hy
  exact List.pairwise_iff_getElem.1 h i j hi hj hij
/-- i is where k stands, or would -/
structure Low (l : List Rec) (k : ByteArray) (i : Nat) : Prop where
  le : i ≤ l.length
  lo : ∀ j r, j < i → l[j]? = some r → kc r.1 k < 0
  hi : ∀ j r, i ≤ j → l[j]? = some r → 0 ≤ kc r.1 k
theorem Low.eq {l : List Rec} {k : ByteArray} {i j : Nat} (h : Low l k i) (g : Low l k j) : i = j := by
  rcases Nat.lt_trichotomy i j with hl | hl | hl
  · have := g.le
    have e : l[i]? = some l[i] := List.getElem?_eq_getElem (by omega)
    have := g.lo i _ hl e
    have := h.hi i _ (Nat.le_refl _) e
    omega
  · exact hl
  · have := h.le
    have e : l[j]? = some l[j] := List.getElem?_eq_getElem (by omega)
    have := h.lo j _ hl e
    have := g.hi j _ (Nat.le_refl _) e
    omega
/-- is k at i? -/
def isAt (l : List Rec) (k : ByteArray) (i : Nat) : Bool := match l[i]? with
  | some r => decide (kc r.1 k = 0)
  | none => false
theorem isAt_some {l : List Rec} {k : ByteArray} {i : Nat} (h : isAt l k i = true) : ∃ r, l[i]? = some r ∧ r.1 = k := by
  unfold isAt at h
  cases e : l[i]? with
  | none => rw [e] at h; cases h
  | some r =>
    rw [e] at h
    exact ⟨r, rfl, kc_zero (of_decide_eq_true h)⟩
/-- what a put leaves -/
def putR (l : List Rec) (i : Nat) (r : Rec) : List Rec := if isAt l r.1 i then l.set i r else l.take i ++ r :: l.drop i
theorem ris_set {l : List Rec} (h : Ris l) {i : Nat} {r x : Rec} (hx : l[i]? = some x) (he : x.1 = r.1) : Ris (l.set i r) := by
  have e : (l.set i r).map Prod.fst = l.map Prod.fst := by
    rw [List.map_set, ← he]
    exact List.set_getElem?_self' hx
  have h1 : (l.map Prod.fst).Pairwise fun a b => kc a b < 0 := List.pairwise_map.2 h
  rw [← e] at h1
  exact List.pairwise_map.1 h1
where
  List.set_getElem?_self' {l : List Rec} {i : Nat} {x : Rec} (hx : l[i]? = some x) : (l.map Prod.fst).set i x.1 = l.map Prod.fst := by
    apply List.ext_getElem? 
    intro j
    rw [List.getElem?_set]
    by_cases hj : i = j
    · subst hj
      obtain ⟨h1, h2⟩ := List.getElem?_eq_some_iff.1 hx
      simp [h1, h2]
    · rw [if_neg hj]
theorem low_new {l : List Rec} (hr : Ris l) {k : ByteArray} {i : Nat} (h : Low l k i) (hn : isAt l k i = false) : ∀ j r, i ≤ j → l[j]? = some r → kc k r.1 < 0 := by
  intro j r hij hj
  have h0 := h.hi j r hij hj
  have hne : kc r.1 k ≠ 0 := by
    intro h1
    have he := kc_zero h1
    by_cases hl : i = j
    · subst hl
      unfold isAt at hn
      rw [hj] at hn
      simp only [decide_eq_false_iff_not] at hn
      exact hn h1
    · have hlt : i < l.length := Nat.lt_of_le_of_lt hij (List.getElem?_eq_some_iff.1 hj).1
      have e : l[i]? = some l[i] := List.getElem?_eq_getElem hlt
      have h2 := hr.lt (by omega : i < j) e hj
      have h3 := h.hi i _ (Nat.le_refl _) e
      rw [he] at h2
      omega
  have := kc_swap r.1 k
  omega
theorem ris_put {l : List Rec} (hr : Ris l) {i : Nat} {r : Rec} (h : Low l r.1 i) : Ris (putR l i r) := by
  unfold putR
  by_cases hi : isAt l r.1 i = true
  · rw [if_pos hi]
    obtain ⟨x, hx, he⟩ := isAt_some hi
    exact ris_set hr hx he
  · rw [if_neg hi]
    have hn := low_new hr h (by simpa using hi)
    unfold Ris
    rw [List.pairwise_append]
    refine ⟨List.Pairwise.sublist (List.take_sublist _ _) hr, ?_, ?_⟩
    · rw [List.pairwise_cons]
      refine ⟨fun x hx => ?_, List.Pairwise.sublist (List.drop_sublist _ _) hr⟩
      obtain ⟨j, hj⟩ := List.mem_iff_getElem?.1 hx
      rw [List.getElem?_drop] at hj
      exact hn _ _ (Nat.le_add_right _ _) hj
    · intro x hx y hy
      obtain ⟨j, hj⟩ := List.mem_iff_getElem?.1 hx
      rw [List.getElem?_take] at hj
      by_cases hji : j < i
      · rw [if_pos hji] at hj
        have h1 := h.lo j x hji hj
        rcases List.mem_cons.1 hy with rfl | hy
        · exact h1
        · obtain ⟨q, hq⟩ := List.mem_iff_getElem?.1 hy
          rw [List.getElem?_drop] at hq
          exact kc_trans h1 (hn _ _ (Nat.le_add_right _ _) hq)
      · rw [if_neg hji] at hj; cases hj
theorem putR_mem {l : List Rec} {i : Nat} {r x : Rec} (h : x ∈ putR l i r) : x = r ∨ x ∈ l := by
  unfold putR at h
  split at h
  · rcases List.mem_or_eq_of_mem_set h with h | h
    · exact Or.inr h
    · exact Or.inl h
  · rcases List.mem_append.1 h with h | h
    · exact Or.inr (List.mem_of_mem_take h)
    · rcases List.mem_cons.1 h with h | h
      · exact Or.inl h
      · exact Or.inr (List.mem_of_mem_drop h)
theorem putR_len {l : List Rec} {i : Nat} {r : Rec} (hi : i ≤ l.length) : (putR l i r).length = if isAt l r.1 i then l.length else l.length + 1 := by
  unfold putR
  split
  · simp
  · simp; omega
theorem low_at {l : List Rec} (hr : Ris l) {i : Nat} {x : Rec} (hx : l[i]? = some x) : Low l x.1 i where
  le := Nat.le_of_lt (List.getElem?_eq_some_iff.1 hx).1
  lo := fun j r hj he => hr.lt hj he hx
  hi := fun j r hj he => by
    by_cases hl : i = j
    · subst hl
      rw [hx] at he
      cases he
      rw [kc_self]
      exact Int.le_refl _
    · have h1 := hr.lt (by omega : i < j) hx he
      have := kc_swap x.1 r.1
      omega
/-- the place behind a put: the same one, and there -/
theorem low_put {l : List Rec} {i : Nat} {r : Rec} (hi : i ≤ l.length) : (putR l i r)[i]? = some r ∨ isAt l r.1 i = true := by
  by_cases h : isAt l r.1 i = true
  · exact Or.inr h
  · left
    unfold putR
    rw [if_neg h, List.getElem?_append_right (by simp; omega)]
    simp [Nat.min_eq_left hi]
theorem low_nil {l : List Rec} (h : ∀ r, r ∈ l → 0 < r.1.size) : Low l ByteArray.empty 0 where
  le := Nat.zero_le _
  lo := fun j r hj _ => absurd hj (Nat.not_lt_zero _)
  hi := fun j r _ he => by
    have hm := h r (List.mem_of_getElem? he)
    rcases r with ⟨⟨⟨_ | ⟨x, xs⟩⟩⟩, v⟩
    · exact absurd hm (Nat.lt_irrefl 0)
    · show 0 ≤ Lib.compareBytes (x :: xs) []
      simp [Lib.compareBytes]
end Go.Proofs.YtkhdgacjgccnnaaGreatDoor
namespace Go.Proofs.YtkhdgacjgccnnaaGreatDoor
open Go.RowKit

/-- the j-th key -/
def kb (j : Nat) : List Int := if j % 6 = 0 then [((j / 6 : Nat) : Int)] else [((j / 6 : Nat) : Int), ((j % 6 : Nat) : Int)]
def kbs (j : Nat) : ByteArray := strOfNums (kb j)
theorem kb_byt {j : Nat} (h : j < 41) : Byt (kb j) := by
  intro x hx
  unfold kb at hx
  split at hx
  · have : x = ((j / 6 : Nat) : Int) := by simpa using hx
    omega
  · rcases List.mem_cons.1 hx with h1 | h1
    · omega
    · have : x = ((j % 6 : Nat) : Int) := by simpa using h1
      omega
theorem kb_len (j : Nat) : 0 < (kb j).length ∧ (kb j).length ≤ 2 := by
  unfold kb
  split <;> simp
theorem kb_inj {i j : Nat} (h : kb i = kb j) : i = j := by
  unfold kb at h
  split at h <;> split at h
  · injection h with h; omega
  · injection h with h h'; cases h'
  · injection h with h h'; cases h'
  · injection h with h h'
    injection h' with h'
    omega
theorem kbs_inj {i j : Nat} (hi : i < 41) (hj : j < 41) (h : kbs i = kbs j) : i = j := by
  have e : str (kbs i) = str (kbs j) := by rw [h]
  unfold kbs at e
  rw [str_back (kb_byt hi), str_back (kb_byt hj)] at e
  exact kb_inj e
/-- one of the law's steps -/
def Stp (s : Nat) : Prop := s = 1 ∨ s = 3 ∨ s = 7 ∨ s = 11 ∨ s = 13
theorem stp_inj {s i k : Nat} (hs : Stp s) (hi : i < 41) (hk : k < 41) (h : i * s % 41 = k * s % 41) : i = k := by
  rcases hs with rfl | rfl | rfl | rfl | rfl <;> omega
/-- what is there behind i rounds -/
structure KIn (s i : Nat) (l : List Rec) : Prop where
  ris : Ris l
  len : l.length = i
  key : ∀ r, r ∈ l → ∃ k, k < i ∧ r.1 = kbs (k * s % 41)
theorem KIn.pos {s i : Nat} {l : List Rec} (h : KIn s i l) : ∀ r, r ∈ l → 0 < r.1.size := by
  intro r hr
  obtain ⟨k, _, e⟩ := h.key r hr
  rw [e]
  unfold kbs
  rw [str_size (kb_byt (Nat.mod_lt _ (by omega)))]
  exact (kb_len _).1
/-- behind the first of two puts -/
structure KMid (s i : Nat) (l : List Rec) (p : Nat) : Prop where
  ris : Ris l
  len : l.length = i + 1
  key : ∀ r, r ∈ l → ∃ k, k < i + 1 ∧ r.1 = kbs (k * s % 41)
  at_ : Low l (kbs (i * s % 41)) p
  is : isAt l (kbs (i * s % 41)) p = true
theorem KIn.put {s i p : Nat} {l : List Rec} (h : KIn s i l) (hs : Stp s) (hi : i < 41) (hl : Low l (kbs (i * s % 41)) p) (v : ByteArray) : isAt l (kbs (i * s % 41)) p = false ∧ KMid s i (putR l p (kbs (i * s % 41), v)) p := by
  have hn : isAt l (kbs (i * s % 41)) p = false := by
    rw [Bool.eq_false_iff]
    intro ht
    obtain ⟨r, hr, e⟩ := isAt_some ht
    obtain ⟨k, hk, e2⟩ := h.key r (List.mem_of_getElem? hr)
    have := stp_inj hs hi (by omega) (kbs_inj (Nat.mod_lt _ (by omega)) (Nat.mod_lt _ (by omega)) (e.symm.trans e2))
    omega
  have hris := ris_put (r := (kbs (i * s % 41), v)) h.ris hl
  have hat : (putR l p (kbs (i * s % 41), v))[p]? = some (kbs (i * s % 41), v) := by
    rcases low_put (r := (kbs (i * s % 41), v)) hl.le with h1 | h1
    · exact h1
    · rw [hn] at h1; cases h1
  refine ⟨hn, hris, ?_, ?_, low_at hris hat, ?_⟩
  · rw [putR_len hl.le, hn, h.len]; rfl
  · intro r hr
    rcases putR_mem hr with rfl | hr
    · exact ⟨i, by omega, rfl⟩
    · obtain ⟨k, hk, e⟩ := h.key r hr
      exact ⟨k, by omega, e⟩
  · unfold isAt
    rw [hat]
    simp [kc_self]
theorem KMid.put {s i p q : Nat} {l : List Rec} (h : KMid s i l p) (hl : Low l (kbs (i * s % 41)) q) (v : ByteArray) : isAt l (kbs (i * s % 41)) q = true ∧ KIn s (i + 1) (putR l q (kbs (i * s % 41), v)) := by
  have e := hl.eq h.at_
  subst e
  refine ⟨h.is, ris_put h.ris hl, ?_, ?_⟩
  · rw [putR_len hl.le, h.is, h.len]; rfl
  · intro r hr
    rcases putR_mem hr with rfl | hr
    · exact ⟨i, by omega, rfl⟩
    · exact h.key r hr
end Go.Proofs.YtkhdgacjgccnnaaGreatDoor
namespace Go.Proofs.YtkhdgacjgccnnaaGreatDoor
open Go.RowKit

def cells2S (r : Rec) : List Value := [.string r.1, .string r.2]
def recC (l : List Rec) : List Value := l.flatMap cells2S
theorem recC_cons (r : Rec) (l : List Rec) : recC (r :: l) = .string r.1 :: .string r.2 :: recC l := rfl
theorem recC_app (l m : List Rec) : recC (l ++ m) = recC l ++ recC m := by simp [recC]
theorem recC_len (l : List Rec) : (recC l).length = l.length * 2 := by
  induction l with
  | nil => rfl
  | cons x l ih => rw [recC_cons, List.length_cons, List.length_cons, List.length_cons, ih]; omega
theorem recC_get {l : List Rec} {k : Nat} {x : Rec} (h : l[k]? = some x) : (recC l)[k * 2]? = some (.string x.1) ∧ (recC l)[k * 2 + 1]? = some (.string x.2) := by
  induction l generalizing k with
  | nil => simp at h
  | cons y l ih =>
    rcases k with _ | k
    · simp at h
      subst h
      exact ⟨rfl, rfl⟩
    · simp at h
      rw [recC_cons, show (k + 1) * 2 = k * 2 + 1 + 1 by omega]
      simpa using ih h
theorem recC_take (l : List Rec) (i : Nat) : recC (l.take i) = (recC l).take (i * 2) := by
  induction l generalizing i with
  | nil => simp [recC]
  | cons y l ih =>
    rcases i with _ | i
    · simp [recC]
    · rw [List.take_succ_cons, recC_cons, recC_cons, show (i + 1) * 2 = i * 2 + 1 + 1 by omega, List.take_succ_cons, List.take_succ_cons, ih]
theorem recC_drop (l : List Rec) (i : Nat) : recC (l.drop i) = (recC l).drop (i * 2) := by
  induction l generalizing i with
  | nil => simp [recC]
  | cons y l ih =>
    rcases i with _ | i
    · simp [recC]
    · rw [List.drop_succ_cons, recC_cons, show (i + 1) * 2 = i * 2 + 1 + 1 by omega, List.drop_succ_cons, List.drop_succ_cons, ih]
theorem recC_one (l : List Rec) : ∀ u ∈ recC l, u.oneCell' = true := by
  intro u hu
  simp only [recC, List.mem_flatMap] at hu
  obtain ⟨r, _, hu⟩ := hu
  simp only [cells2S, List.mem_cons, List.not_mem_nil, or_false] at hu
  rcases hu with rfl | rfl <;> rfl
theorem recC_set {l : List Rec} {k : Nat} (h : k < l.length) (r : Rec) : ((recC l).set (k * 2) (.string r.1)).set (k * 2 + 1) (.string r.2) = recC (l.set k r) := by
  induction l generalizing k with
  | nil => simp at h
  | cons y l ih =>
    rcases k with _ | k
    · rfl
    · simp only [List.length_cons] at h
      rw [recC_cons, List.set_cons_succ, recC_cons, show (k + 1) * 2 = k * 2 + 1 + 1 by omega, List.set_cons_succ, List.set_cons_succ, List.set_cons_succ, List.set_cons_succ, ih (by omega)]
/-- the slice value v is the call's own, from block B on, and holds the records l -/
abbrev KRow (w : World) (B : Nat) (v : Value) (l : List Rec) : Prop := w.ownsRow B 44 2 v l.length (recC l)
theorem krow_nil (w : World) (B : Nat) : KRow w B (.slice none 0 0) [] := ⟨rfl, .inl ⟨rfl, rfl⟩⟩
theorem KRow.on {w w' : World} {B : Nat} {v : Value} {l : List Rec} (h : KRow w B v l) (hb : Below w.heap.size w w') : KRow w' B v l :=
  World.ownsRow.kept h (only_below hb none) (by cases hv : v.ownBlock <;> simp)
theorem KRow.kept {w w' : World} {B : Nat} {v : Value} {l : List Rec} {g : Nat} (h : KRow w B v l) (hg : w.grownBy w' (some g)) (hn : ∀ k, v.ownBlock = some k → k ≠ g) : KRow w' B v l :=
  World.ownsRow.kept h hg (by
    cases hv : v.ownBlock with
    | none => simp
    | some k => simpa using (hn k hv))
theorem KRow.lt {w : World} {B : Nat} {v : Value} {l : List Rec} (h : KRow w B v l) : ∀ k, v.ownBlock = some k → B ≤ k ∧ k < w.heap.size := World.ownsRow.lt h
theorem KRow.form {w : World} {B : Nat} {v : Value} {l : List Rec} (h : KRow w B v l) : ∃ A n c, v = .slice A n c ∧ l.length = n ∧ n ≤ c ∧ c ≤ maxLen ∧ (A = none → n = 0 ∧ c = 0) ∧
    (∀ ad, A = some ad → ∃ g, ad = ⟨g, 0, none⟩ ∧ B ≤ g ∧ g < w.heap.size ∧ ∀ k x, l[k]? = some x → w.cell? ⟨g, k * 2, none⟩ = some (.string x.1) ∧ w.cell? ⟨g, k * 2 + 1, none⟩ = some (.string x.2) ∧ w.frozen? ⟨g, k * 2, none⟩ = false ∧ w.frozen? ⟨g, k * 2 + 1, none⟩ = false) := by
  have h' := h
  rcases h'.2 with ⟨rfl, h0⟩ | ⟨g, cap, cur, rfl, hb, hg, h1, h2, h3, h4⟩
  · exact ⟨none, 0, 0, rfl, h0, Nat.le_refl _, by unfold maxLen; omega, fun _ => ⟨rfl, rfl⟩, (fun ad h => by cases h)⟩
  · refine ⟨_, _, _, rfl, rfl, h1, h2, (fun h => by cases h), fun ad ha => ?_⟩
    cases ha
    refine ⟨g, rfl, hb, (World.ownsRow.lt h g rfl).2, fun k x hx => ?_⟩
    have hk : k < l.length := (List.getElem?_eq_some_iff.1 hx).1
    refine ⟨?_, ?_, h.frozenAt _, h.frozenAt _⟩
    · rw [h.cellAt (k * 2) (by omega)]; exact (recC_get hx).1
    · rw [h.cellAt (k * 2 + 1) (by omega)]; exact (recC_get hx).2
theorem KRow.cells {w : World} {B g n c k : Nat} {l : List Rec} {x : Rec} (h : KRow w B (.slice (some ⟨g, 0, none⟩) n c) l) (hx : l[k]? = some x) : w.cell? ⟨g, k * 2, none⟩ = some (.string x.1) ∧ w.cell? ⟨g, k * 2 + 1, none⟩ = some (.string x.2) ∧ w.frozen? ⟨g, k * 2, none⟩ = false ∧ w.frozen? ⟨g, k * 2 + 1, none⟩ = false := by
  obtain ⟨A, n', c', e, _, _, _, _, hat⟩ := h.form
  cases e
  obtain ⟨g', e, _, _, hc⟩ := hat _ rfl
  cases e
  exact hc k x hx
theorem Tryz.infoRec : (Tryz.prog.info? 44).map (fun i => (i.zero, i.size, i.bytes)) = some (some (.agg #[.string ⟨#[]⟩, .string ⟨#[]⟩]), 2, 32) := by kernel_rfl
/-- a record set in its place -/
theorem KRow.put {w : World} {B g n c k : Nat} {l : List Rec} (h : KRow w B (.slice (some ⟨g, 0, none⟩) n c) l) (hl : l.length = n) (hk : k < n) (r : Rec) :
    KRow ((w.setCell ⟨g, k * 2, none⟩ (.string r.1)).setCell ⟨g, k * 2 + 1, none⟩ (.string r.2)) B (.slice (some ⟨g, 0, none⟩) n c) (l.set k r) := by
  subst hl
  have h1 := ((h.stored (k * 2) (.string r.1)).1.stored (k * 2 + 1) (.string r.2)).1
  rw [recC_set hk] at h1
  show World.ownsRow _ _ _ _ _ _ _
  rw [List.length_set]
  exact h1
theorem run_copy2 {w : World} (ty : TypeId) (g o dLen dCap : Nat) (a : Addr) (sLen sCap m : Nat) (cur : Array Value) (t : TypeId) (cs : List Value) (hg : w.heap[g]? = some (.cells cur t (0, 0))) (hm : Nat.min sLen dLen = m) (hn : cs.length = m * 2)
    (hsrc : ∀ j v, cs[j]? = some v → w.cell? (a.add j) = some v) (hfit : o + cs.length ≤ cur.size) (h1 : ∀ v ∈ cs, v.oneCell' = true) :
    (Builtin.copy_ #[48, 48] ty #[.slice (some ⟨g, o, none⟩) dLen dCap, .slice (some a) sLen sCap]).run Tryz.prog w = .ok (goInt m) (w.setRow g (cur.toList.take o ++ cs ++ cur.toList.drop (o + cs.length)).toArray) := by
  obtain ⟨i0, hi, hz0, hz1, hz2⟩ := info_parts Tryz.infoRec
  have hl := run_loadCells_list (P := Tryz.prog) w a cs hsrc
  have hst := run_storeCells_at Tryz.prog g o t cs 0 cur w hg (by simpa using hfit) h1
  simp [Builtin.copy_, run_underlying Tryz.underlying48, Builtin.lenOf, Builtin.firstCells, sizeOf, typeInfo, hi, hz1, hm, ← hn, hl, hst]
theorem wpList_copy2 {w : World} {ops : Array Oper} {rest : List Oper} {o : Oper} {a : Act} {Q : Exit → Act → World → Prop} (hgd : o.guard = none) (d s : Operand) (ho : o.op = .call { callee := .builtin .copy, args := #[d, s], argTypes := #[48, 48] })
    (g off dLen dCap : Nat) (ad : Addr) (sLen sCap m : Nat) (hd : a.eval d = .slice (some ⟨g, off, none⟩) dLen dCap) (hs : a.eval s = .slice (some ad) sLen sCap) (cur : Array Value) (t : TypeId) (hg : w.heap[g]? = some (.cells cur t (0, 0))) (cs : List Value) (hm : Nat.min sLen dLen = m) (hn : cs.length = m * 2)
    (hsrc : ∀ j v, cs[j]? = some v → w.cell? (ad.add j) = some v) (hfit : off + cs.length ≤ cur.size) (h1 : ∀ v ∈ cs, v.oneCell' = true)
    (h : ∀ w', w'.heap[g]? = some (.cells (cur.toList.take off ++ cs ++ cur.toList.drop (off + cs.length)).toArray t (0, 0)) → w.grownBy w' (some g) → wpList Tryz.prog ops Q rest (a.put o.dst (goInt m)) w') : wpList Tryz.prog ops Q (o :: rest) a w := by
  refine wpList_plain hgd fun K hK => ?_
  have hrun := run_copy2 (w := w) o.type g off dLen dCap ad sLen sCap m cur t cs hg hm hn hsrc hfit h1
  unfold Oper.wp
  simp [execOp, ho, resolve, invoke, builtin, hd, hs, hrun, Result.andThen]
  exact hK _ _ (h _ (by simpa using setRow_heap w g cur _ t (0, 0) hg) (by simpa using ⟨rfl, rfl, rfl, by simp, fun k _ hk => setRow_other w g k _ (fun e => hk (by rw [e]))⟩))
theorem step_copy2 {ops : Array Oper} {o : Oper} {a : Act} {w : World} {K : Act → World → Prop} {Q : Exit → Act → World → Prop} {E : Prop} (hgd : o.guard = none) (d s : Operand) (ho : o.op = .call { callee := .builtin .copy, args := #[d, s], argTypes := #[48, 48] })
    (g off dLen dCap : Nat) (ad : Addr) (sLen sCap m : Nat) (hd : a.eval d = .slice (some ⟨g, off, none⟩) dLen dCap) (hs : a.eval s = .slice (some ad) sLen sCap) (cur : Array Value) (t : TypeId) (hg : w.heap[g]? = some (.cells cur t (0, 0))) (cs : List Value) (hm : Nat.min sLen dLen = m) (hn : cs.length = m * 2)
    (hsrc : ∀ j v, cs[j]? = some v → w.cell? (ad.add j) = some v) (hfit : off + cs.length ≤ cur.size) (h1 : ∀ v ∈ cs, v.oneCell' = true)
    (h : ∀ w', w'.heap[g]? = some (.cells (cur.toList.take off ++ cs ++ cur.toList.drop (off + cs.length)).toArray t (0, 0)) → w.grownBy w' (some g) → K (a.put o.dst (goInt m)) w') :
    if Region.wanted o (yielded ops a.tmps) = true then Oper.wp Tryz.prog o a w K Q else E := by
  have hw : Region.wanted o (yielded ops a.tmps) = true := by simp [Region.wanted, hgd]
  rw [if_pos hw]
  have hrun := run_copy2 (w := w) o.type g off dLen dCap ad sLen sCap m cur t cs hg hm hn hsrc hfit h1
  unfold Oper.wp
  simp [execOp, ho, resolve, invoke, builtin, hd, hs, hrun, Result.andThen]
  exact h _ (by simpa using setRow_heap w g cur _ t (0, 0) hg) (by simpa using ⟨rfl, rfl, rfl, by simp, fun k _ hk => setRow_other w g k _ (fun e => hk (by rw [e]))⟩)
end Go.Proofs.YtkhdgacjgccnnaaGreatDoor
namespace Go.Proofs.YtkhdgacjgccnnaaGreatDoor
open Go.RowKit

/-- block b holds the bytes of s -/
structure StrAt (w : World) (b n c : Nat) (s : ByteArray) : Prop where
  blk : ∃ cur fz, w.heap[b]? = some (.cells cur 5 fz)
  sl : Sl w w.heap.size (some ⟨b, 0, none⟩) n c (str s)
theorem StrAt.lt {w : World} {b n c : Nat} {s : ByteArray} (h : StrAt w b n c s) : b < w.heap.size := by
  obtain ⟨cur, fz, h⟩ := h.blk
  exact (Array.getElem?_eq_some_iff.1 h).1
theorem StrAt.same {w w' : World} {b n c : Nat} {s : ByteArray} (h : StrAt w b n c s) (hs : w.heap.size ≤ w'.heap.size) (hk : w'.heap[b]? = w.heap[b]?) : StrAt w' b n c s :=
  ⟨by obtain ⟨cur, fz, h⟩ := h.blk; exact ⟨cur, fz, by rw [hk]; exact h⟩, sl_same h.sl hs (fun a ha => by cases ha; exact hk)⟩
theorem StrAt.on {w w' : World} {b n c : Nat} {s : ByteArray} (h : StrAt w b n c s) (hb : Below w.heap.size w w') : StrAt w' b n c s := h.same hb.size (hb.block b h.lt)
theorem StrAt.kept {w w' : World} {b n c g : Nat} {s : ByteArray} (h : StrAt w b n c s) (hg : w.grownBy w' (some g)) (hn : b ≠ g) : StrAt w' b n c s := h.same hg.size (hg.block b h.lt (by simpa using fun e => hn e))
theorem conv_str (W : World) (s : ByteArray) (hn : s.size ≤ 100000) : ∃ C W', (convert 9 29 (.string s)).run Tryz.prog W = .ok (.slice (some ⟨W.heap.size, 0, none⟩) s.size C) W' ∧ StrAt W' W.heap.size s.size C s ∧ Below W.heap.size W W' ∧ W'.heap.size = W.heap.size + 1 := by
  have hl : (str s).length = s.size := str_len s
  obtain ⟨C, W', hrun, hlaid⟩ := conv_back W (str_byt s) (by rw [hl]; exact hn)
  rw [str_of, hl] at hrun
  have hw : W' = Lib.bytesWorld W 5 s := by
    have e := Lib.run_convert_string_bytes W 9 29 5 s Tryz.underlying9 Tryz.underlying29 Tryz.underlying5
    rw [e] at hrun
    exact (Result.ok.inj hrun).2.symm
  have hsl := hlaid.sl
  rw [hl] at hsl
  exact ⟨C, W', hrun, ⟨by rw [hw]; exact ⟨_, _, Lib.bytesWorld_at_new W 5 s⟩, hsl⟩, hlaid.2.2.1, hlaid.2.2.2.1⟩
/-- the cells xs hold the pairs l -/
def PrsOf (w : World) (xs : List Value) (l : List Rec) : Prop := ∀ (k : Nat) (x : Rec), l[k]? = some x → ∃ b1 c1 b2 c2, xs[k * 2]? = some (.slice (some ⟨b1, 0, none⟩) x.1.size c1) ∧ xs[k * 2 + 1]? = some (.slice (some ⟨b2, 0, none⟩) x.2.size c2) ∧ StrAt w b1 x.1.size c1 x.1 ∧ StrAt w b2 x.2.size c2 x.2
theorem PrsOf.on {w w' : World} {xs : List Value} {l : List Rec} (h : PrsOf w xs l) (hb : Below w.heap.size w w') : PrsOf w' xs l := fun k x hx => by
  obtain ⟨b1, c1, b2, c2, h1, h2, h3, h4⟩ := h k x hx
  exact ⟨b1, c1, b2, c2, h1, h2, h3.on hb, h4.on hb⟩
theorem PrsOf.kept {w w' : World} {xs ys : List Value} {l : List Rec} {v : Value} {B n : Nat} (h : PrsOf w xs l) (ho : w.ownsRow B 40 2 v n ys) (hg : w.grownBy w' v.ownBlock) : PrsOf w' xs l := fun k x hx => by
  obtain ⟨b1, c1, b2, c2, h1, h2, h3, h4⟩ := h k x hx
  have hne : ∀ b m c s, StrAt w b m c s → some b ≠ v.ownBlock := by
    intro b m c s hs e
    obtain ⟨cur, fz, hb⟩ := hs.blk
    rcases ho.2 with ⟨rfl, _⟩ | ⟨g, cap, cu, rfl, _, hg, _⟩
    · cases e
    · have e2 : b = g := by injection e
      rw [e2, hg] at hb
      injection hb with hb
      injection hb with _ hb
      exact absurd hb (by decide)
  have go : ∀ b m c s, StrAt w b m c s → StrAt w' b m c s := fun b m c s hs => hs.same hg.size (hg.block b hs.lt (hne b m c s hs))
  exact ⟨b1, c1, b2, c2, h1, h2, go _ _ _ _ h3, go _ _ _ _ h4⟩
theorem prsOf_nil (w : World) (xs : List Value) : PrsOf w xs [] := fun k x h => by simp at h
theorem PrsOf.add {w : World} {xs : List Value} {l : List Rec} {x : Rec} {b1 c1 b2 c2 : Nat} (h : PrsOf w xs l) (hl : xs.length = l.length * 2) (h1 : StrAt w b1 x.1.size c1 x.1) (h2 : StrAt w b2 x.2.size c2 x.2) :
    PrsOf w (xs ++ [.slice (some ⟨b1, 0, none⟩) x.1.size c1, .slice (some ⟨b2, 0, none⟩) x.2.size c2]) (l ++ [x]) := fun k y hy => by
  by_cases hk : k < l.length
  · rw [List.getElem?_append_left hk] at hy
    obtain ⟨b1', c1', b2', c2', g1, g2, g3, g4⟩ := h k y hy
    exact ⟨b1', c1', b2', c2', by rw [List.getElem?_append_left (by omega)]; exact g1, by rw [List.getElem?_append_left (by omega)]; exact g2, g3, g4⟩
  · rw [List.getElem?_append_right (by omega)] at hy
    have e : k - l.length = 0 := by
      have := (List.getElem?_eq_some_iff.1 hy).1
      simp at this
      omega
    rw [e] at hy
    have e2 : x = y := by simpa using hy
    subst e2
    refine ⟨b1, c1, b2, c2, ?_, ?_, h1, h2⟩
    · rw [List.getElem?_append_right (by omega), show k * 2 - xs.length = 0 by omega]; rfl
    · rw [List.getElem?_append_right (by omega), show k * 2 + 1 - xs.length = 1 by omega]; rfl
/-- the slice v is the call's own and holds the pairs l -/
structure PrsAt (w : World) (v : Value) (l : List Rec) : Prop where
  own : ∃ B xs, w.ownsRow B 40 2 v l.length xs ∧ PrsOf w xs l
theorem PrsAt.on {w w' : World} {v : Value} {l : List Rec} (h : PrsAt w v l) (hb : Below w.heap.size w w') : PrsAt w' v l := by
  obtain ⟨B, xs, h1, h2⟩ := h.own
  exact ⟨B, xs, World.ownsRow.kept h1 (only_below hb none) (by cases hv : v.ownBlock <;> simp), h2.on hb⟩
theorem PrsAt.form {w : World} {v : Value} {l : List Rec} (h : PrsAt w v l) : ∃ A n c, v = .slice A n c ∧ l.length = n ∧ n ≤ c ∧ c ≤ maxLen ∧ ∀ k x, l[k]? = some x → ∃ g b1 c1 b2 c2, A = some ⟨g, 0, none⟩ ∧ g < w.heap.size ∧ w.cell? ⟨g, k * 2, none⟩ = some (.slice (some ⟨b1, 0, none⟩) x.1.size c1) ∧ w.cell? ⟨g, k * 2 + 1, none⟩ = some (.slice (some ⟨b2, 0, none⟩) x.2.size c2) ∧ StrAt w b1 x.1.size c1 x.1 ∧ StrAt w b2 x.2.size c2 x.2 := by
  obtain ⟨B, xs, h1, h2⟩ := h.own
  have h1' := h1
  rcases h1'.2 with ⟨rfl, h0⟩ | ⟨g, cap, cur, rfl, hb, hg, q1, q2, q3, q4⟩
  · refine ⟨none, 0, 0, rfl, h0, Nat.le_refl _, by unfold maxLen; omega, fun k x hx => ?_⟩
    have := (List.getElem?_eq_some_iff.1 hx).1
    omega
  · refine ⟨_, _, _, rfl, rfl, q1, q2, fun k x hx => ?_⟩
    obtain ⟨b1, c1, b2, c2, g1, g2, g3, g4⟩ := h2 k x hx
    have hk : k < l.length := (List.getElem?_eq_some_iff.1 hx).1
    refine ⟨g, b1, c1, b2, c2, rfl, (World.ownsRow.lt h1 g rfl).2, ?_, ?_, g3, g4⟩
    · rw [h1.cellAt (k * 2) (by omega)]; exact g1
    · rw [h1.cellAt (k * 2 + 1) (by omega)]; exact g2
end Go.Proofs.YtkhdgacjgccnnaaGreatDoor
namespace Go.Proofs.YtkhdgacjgccnnaaGreatDoor
open Go.RowKit

set_option maxRecDepth 100000 in
set_option maxHeartbeats 1000000 in
theorem cmpString_any (a b : ByteArray) (w : World) : Calls Tryz.prog 40 #[.string a, .string b] w fun e w' => e = .returned (.int .i64 (kc a b)) ∧ w' = w := by
  go_enter Tryz.func40, Tryz.ntmps40
  go_wp2
  rw [run_callFunc_extern Tryz.func75 (by kernel_rfl) (by kernel_rfl) (by kernel_rfl) (e := Extern.BytealgCompare.compare) (by kernel_rfl), Lib.run_compareString]
  simp only [Result.andThen]
  rw [Oper.upon_value]
  go_wp2
  go_ret
  exact ⟨rfl, rfl⟩
theorem compare_any (a b : ByteArray) (w : World) : Calls Tryz.prog 26 #[.string a, .string b] w fun e w' => e = .returned (.int .i64 (kc a b)) ∧ w' = w := by
  go_enter Tryz.func26, Tryz.ntmps26
  go_wp2_with fail
  refine (cmpString_any _ _ _).mono ?_
  rintro e w1 ⟨rfl, rfl⟩
  go_wp2
  go_ret
  exact ⟨rfl, rfl⟩
set_option maxRecDepth 100000 in
set_option maxHeartbeats 1000000 in
theorem findC_any (r : Rec) (k : ByteArray) (w : World) : Calls Tryz.prog 25 #[.agg #[.string r.1, .string r.2], .string k] w fun e w' => e = .returned (.int .i64 (kc r.1 k)) ∧ Below w.heap.size w w' := by
  go_enter Tryz.func25, Tryz.ntmps25
  go_wp2_with fail
  refine (compare_any _ _ _).mono ?_
  rintro e w1 ⟨rfl, rfl⟩
  go_wp2
  go_ret
  exact ⟨rfl, (Below.refl _ _).alloc (Nat.le_refl _) _⟩
end Go.Proofs.YtkhdgacjgccnnaaGreatDoor
