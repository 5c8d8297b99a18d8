/- Put together out of 11 texts. What the eight errors that package keep answers (and those beneath it) read as, when the call begins; the start that the initialisers lay meets it. -/
import Derived.Test.YtajcfhhnmjcmjaaGreatDoorGXao
import Derived.Test.YtajcfhhnmjcmjaaGreatDoorGXab
import Derived.Test.YtajcfhhnmjcmjaaGreatDoorGXbb
import Derived.Deep.Slices
namespace Go.Proofs.YtajcfhhnmjcmjaaGreatDoor
open Go.ChangeShapes Go.WideShapes Go.ChangeAt Go.RowKit

/-- the errors, in the order of the rows' lists: the variable, its number, its text -/
def all8 : List (String × Nat × List UInt8) := [("breviary/api.ErrEnd", 8, [105, 116, 32, 101, 110, 100, 115, 32, 116, 111, 111, 32, 101, 97, 114, 108, 121]), ("breviary/api.ErrShape", 3, [110, 111, 116, 32, 97, 115, 32, 105, 116, 32, 104, 97, 115, 32, 116, 111, 32, 98, 101]), ("breviary/api.ErrRange", 0, [97, 32, 110, 117, 109, 98, 101, 114, 32, 111, 117, 116, 32, 111, 102, 32, 105, 116, 115, 32, 114, 97, 110, 103, 101]), ("breviary/api.ErrMany", 7, [116, 111, 111, 32, 109, 97, 110, 121]), ("breviary/api.ErrFull", 1, [116, 104, 101, 114, 101, 32, 105, 115, 32, 110, 111, 32, 114, 111, 111, 109]), ("breviary/api.ErrCrash", 5, [105, 116, 32, 105, 115, 32, 100, 111, 119, 110]), ("breviary/api.ErrIO", 2, [105, 116, 32, 99, 97, 110, 39, 116, 32, 98, 101, 32, 114, 101, 97, 100]), ("breviary/api.ErrNoEnt", 6, [110, 111, 32, 115, 117, 99, 104, 32, 102, 105, 108, 101])]
def laid8 : List (String × DataW Unit) := all8.map sentOf
theorem glob8 : ∀ x ∈ all8, Tryz.prog.globalNamed x.1 = some x.2.1 ∧ (Tryz.prog.globals[x.2.1]?).map (·.type) = some 31 := by
  intro x hx
  simp only [all8, List.mem_cons, List.not_mem_nil, or_false] at hx
  rcases hx with rfl | rfl | rfl | rfl | rfl | rfl | rfl | rfl
  all_goals exact ⟨by kernel_rfl, by kernel_rfl⟩
theorem door_met_laid8 (os : Os) (args : Array Value) : laidMetH Tryz.prog laid8 ((World.doorLaid Tryz.prog 465 os).forCall (fun _ _ => 0) ⟨#[], args, []⟩).memory :=
  laidMetH_of_parts3 (fuel := 8) (laidMet_of_run' 8 (by kernel_rfl) (by kernel_rfl)) (by kernel_rfl) (by kernel_rfl)
theorem sent8_of_laid {W : World} (h : laidMetH Tryz.prog laid8 W) : ∃ S, SentL [0, 1, 2, 3, 4, 5, 6, 8] W S := by
  rw [MakeChecks.laidMetH_plain _ _ _ (by kernel_rfl)] at h
  obtain ⟨ps, hv, hnd, hrows⟩ := h
  obtain ⟨az, hl, hn, hm, hc⟩ := sents all8 ps hv glob8 hrows hnd
  have hl5 : az.length = 8 := hl
  have hget : ∀ i, i < 8 → az[i]? = some (az.getD i ⟨0, 0, none⟩) := fun i hi => by simp [List.getD, show i < az.length by omega]
  refine ⟨fun i => az.getD (match i with | 0 => 0 | 1 => 1 | 2 => 2 | 3 => 3 | 4 => 4 | 5 => 5 | 6 => 6 | 8 => 7 | _ => 0) ⟨0, 0, none⟩, fun i hi => ?_⟩
  simp only [List.mem_cons, List.not_mem_nil, or_false] at hi
  rcases hi with rfl | rfl | rfl | rfl | rfl | rfl | rfl | rfl
  · exact hc 0 _ _ rfl (hget 0 (by decide))
  · exact hc 1 _ _ rfl (hget 1 (by decide))
  · exact hc 2 _ _ rfl (hget 2 (by decide))
  · exact hc 3 _ _ rfl (hget 3 (by decide))
  · exact hc 4 _ _ rfl (hget 4 (by decide))
  · exact hc 5 _ _ rfl (hget 5 (by decide))
  · exact hc 6 _ _ rfl (hget 6 (by decide))
  · exact hc 7 _ _ rfl (hget 7 (by decide))
end Go.Proofs.YtajcfhhnmjcmjaaGreatDoor
namespace Go.Proofs.YtajcfhhnmjcmjaaGreatDoor
open Go.RowKit Go.Maps

theorem filt_at {α : Type} (p : α → Bool) (d : α) (l : List α) : (l.filter p).length = ((List.range l.length).filter fun i => p (l.getD i d)).length := by
  have e : l = (List.range l.length).map fun i => l.getD i d := by
    apply List.ext_getElem?
    intro i
    rcases Nat.lt_or_ge i l.length with h | h
    · simp [h]
    · simp [h]
  have h : (l.filter p).length = (((List.range l.length).map fun i => l.getD i d).filter p).length := by rw [← e]
  rw [h, List.filter_map, List.length_map]
  rfl
theorem filt_apart (p q r : Nat → Bool) (l : List Nat) (h1 : ∀ x, x ∈ l → p x = true → q x = true → False) (h2 : ∀ x, x ∈ l → p x = true ∨ q x = true → r x = true) : (l.filter p).length + (l.filter q).length ≤ (l.filter r).length := by
  induction l with
  | nil => simp
  | cons a l ih =>
    have ih := ih (fun x hx => h1 x (List.mem_cons_of_mem _ hx)) (fun x hx => h2 x (List.mem_cons_of_mem _ hx))
    have a1 := h1 a (List.mem_cons_self ..)
    have a2 := h2 a (List.mem_cons_self ..)
    rw [List.filter_cons, List.filter_cons, List.filter_cons]
    rcases hp : p a with _ | _ <;> rcases hq : q a with _ | _ <;> rcases hr : r a with _ | _ <;> rw [hp, hq] at a1 a2 <;> simp only [if_true, Bool.false_eq_true, if_false, List.length_cons] <;> first | omega | exact (a1 rfl rfl).elim | (rw [hr] at a2; exact absurd (a2 (by simp)) (by simp))
theorem rising_filt {m : Nat} {l : List Nat} (h : l.Pairwise (· < ·)) (hm : ∀ x, x ∈ l → x < m) : l.length = ((List.range m).filter fun i => l.contains i).length := by
  have hn : l.Nodup := h.imp (fun h => Nat.ne_of_lt h)
  refine ((List.perm_ext_iff_of_nodup hn (List.nodup_range.filter _)).2 (fun a => ?_)).length_eq
  rw [List.mem_filter, List.mem_range, List.contains_iff_mem]
  exact ⟨fun ha => ⟨hm a ha, ha⟩, fun ha => ha.2⟩
theorem pages_rising (P : PS) (ch : Chg) : (pagesOf P ch).Pairwise (· < ·) := (List.Pairwise.filter _ List.pairwise_lt_range).filter _
section
variable {P : PS} {ch : Chg} {cont : Cont} {H : Nat}
/-- as many pages as will be there, twice, and 40: there is room -/
theorem fits_room (hk : Fine H P cont) {N : Nat} (hN : ∀ i, N ≤ i → contC cont ch i = none) (h : 2 * N + 40 ≤ H) : fitsB P ch H = true := by
  have hcl := cut_len hk.len (keysOf ch)
  have c1 : ((P.cut (keysOf ch)).pgs.filter points).length + (pagesOf P ch).length ≤ N := by
    rw [filt_at points (0, 0), hcl.p, rising_filt (pages_rising P ch) (m := 256) (fun x hx => (pagesOf_is hx).1)]
    refine Nat.le_trans (filt_apart _ _ (fun i => decide (i < N)) _ (fun i hi h1 h2 => ?_) (fun i hi h1 => ?_)) ?_
    · obtain ⟨_, l, hl, _⟩ := pagesOf_is (List.contains_iff_mem.1 h2)
      have hi := List.mem_range.1 hi
      obtain ⟨x, hx⟩ := hcl.page hi
      simp only [List.getD, hx, Option.getD_some] at h1
      rw [cut_pgs, if_pos (keysOf_mem.2 ⟨hi, by rw [hl]; rfl⟩)] at hx
      obtain ⟨y, _, rfl⟩ := Option.map_eq_some_iff.1 hx
      cases h1
    · have hi := List.mem_range.1 hi
      rw [decide_eq_true_eq]
      refine Nat.lt_of_not_le (fun hge => ?_)
      have hn := hN i hge
      rcases h1 with h1 | h1
      · obtain ⟨x, hx⟩ := hcl.page hi
        simp only [List.getD, hx, Option.getD_some] at h1
        rw [cut_pgs] at hx
        by_cases hm : i ∈ keysOf ch
        · rw [if_pos hm] at hx
          obtain ⟨y, _, rfl⟩ := Option.map_eq_some_iff.1 hx
          cases h1
        · rw [if_neg hm] at hx
          have hc : ch i = none := by
            rcases hc : ch i with _ | l
            · rfl
            · exact absurd (keysOf_mem.2 ⟨hi, by rw [hc]; rfl⟩) hm
          rw [contC_none hc] at hn
          rcases hk.page i x hx with ⟨h2, _⟩ | ⟨_, ⟨l, h2, _⟩, _⟩
          · rw [h2] at h1; cases h1
          · rw [hn] at h2; cases h2
      · obtain ⟨_, l, hl, hl1⟩ := pagesOf_is (List.contains_iff_mem.1 h1)
        rw [contC_some hl hl1] at hn; cases hn
    · have := rising_len ((List.range 256).filter fun i => decide (i < N)) 0 (m := N) (List.Pairwise.filter _ List.pairwise_lt_range) (fun x hx => ⟨Nat.zero_le _, by simpa using (List.mem_filter.1 hx).2⟩)
      omega
  have c2 : ((P.cut (keysOf ch)).idx.filter points).length + (indexesOf P ch).length ≤ 7 := by
    rw [filt_at points (0, 0), hcl.i, rising_filt (indexes_rising P ch) (m := 7) (fun x hx => indexesOf_is hx)]
    refine Nat.le_trans (filt_apart _ _ (fun _ => true) _ (fun i hi h1 h2 => ?_) (fun _ _ _ => rfl)) ?_
    · have ht := (indexesOf_iff.1 (List.contains_iff_mem.1 h2)).1
      have hi := List.mem_range.1 hi
      obtain ⟨x, hx⟩ := hcl.index hi
      simp only [List.getD, hx, Option.getD_some] at h1
      rw [cut_idx, if_pos (touched_iff.1 ht)] at hx
      obtain ⟨y, _, rfl⟩ := Option.map_eq_some_iff.1 hx
      cases h1
    · exact Nat.le_trans (List.length_filter_le _ _) (by rw [List.length_range]; exact Nat.le_refl _)
  have h1 := free_len hk.apart
  have h2 := hk.room
  unfold fitsB
  rw [used_len]
  simp only [Bool.and_eq_true, decide_eq_true_eq]
  constructor <;> omega
end
theorem noChg_cont (cont : Cont) : contC cont noChg = cont := contC_nil (fun _ => rfl)
theorem pages_none {n : Nat} {P : PS} {ch : Chg} {cont : Cont} (hk : Fine (halN n) P cont) (h : ∀ i, contC cont ch i = none) : pagesTo P ch 256 = [] := by
  unfold pagesTo
  rw [List.filter_eq_nil_iff]
  intro i hi
  rw [there_cont hk (List.mem_range.1 hi), h i]; decide
section
variable {Real : World → Nat → DSt → (Nat → Prop) → Prop} {PR : World → Nat → Nat → Nat → Nat → (Nat → Prop) → Prop} {S : Nat → Addr} {w0 w w' : World} {d g n q mk : Nat} {T : Nat → Prop} {s : DSt} {P : PS} {ch : Chg} {cont : Cont}
end
end Go.Proofs.YtajcfhhnmjcmjaaGreatDoor
namespace Go.Proofs.YtajcfhhnmjcmjaaGreatDoor
open Go.ChangeShapes Go.WideShapes Go.ChangeAt Go.RowKit

/-- an act -/
structure Stq where
  k : Int
  n : Int
  B : Option Addr
  nB : Nat
  cB : Nat
  lB : List Int
instance : Inhabited Stq := ⟨⟨0, 0, none, 0, 0, []⟩⟩
def Stq.cell (s : Stq) : Nat → Option Value
  | 0 => some (.int .i64 s.k)
  | 1 => some (.int .i64 s.n)
  | 2 => some (.slice s.B s.nB s.cB)
  | _ => none
structure StqOk (w : World) (h : Nat) (s : Stq) : Prop where
  k0 : -9223372036854775808 ≤ s.k
  k1 : s.k ≤ 9223372036854775807
  n0 : -9223372036854775808 ≤ s.n
  n1 : s.n ≤ 9223372036854775807
  hB : Sl w h s.B s.nB s.cB s.lB
  yB : Byt s.lB
/-- a slice of acts in memory -/
structure Doq (w : World) (h : Nat) (A : Option Addr) (len : Nat) (T : Nat → Stq) : Prop where
  nil : A = none → len = 0
  max : len ≤ maxLen
  lt : ∀ ad, A = some ad → 0 < len → ad.block < h
  at_ : ∀ ad, A = some ad → ∀ i, i < len → ∀ j, j < 3 → w.cell? (ad.add (i * 3 + j)) = (T i).cell j
  ok : ∀ i, i < len → StqOk w h (T i)
theorem StqOk.below {w w' : World} {h : Nat} {s : Stq} (o : StqOk w h s) (hb : Below h w w') : StqOk w' h s :=
  { o with hB := o.hB.below hb }
theorem Doq.below {w w' : World} {h len : Nat} {A : Option Addr} {T : Nat → Stq} (d : Doq w h A len T) (hb : Below h w w') : Doq w' h A len T :=
  { d with
    at_ := fun ad ha i hi j hj => (hb.cell (by rw [add_block]; exact d.lt ad ha (by omega))).trans (d.at_ ad ha i hi j hj)
    ok := fun i hi => (d.ok i hi).below hb }
end Go.Proofs.YtajcfhhnmjcmjaaGreatDoor
namespace Go.Proofs.YtajcfhhnmjcmjaaGreatDoor
open Go.RowKit Go.Maps

/-- m cells from o on anew -/
def putF (f : Nat → Value) (o m : Nat) (h : Nat → Value) : Nat → Value := fun i => if o ≤ i ∧ i < o + m then h (i - o) else f i
theorem putF_at (f : Nat → Value) {o m i : Nat} (h : Nat → Value) (hi : i < m) : putF f o m h (o + i) = h i := by unfold putF; rw [if_pos ⟨by omega, by omega⟩, Nat.add_sub_cancel_left]
theorem putF_ne (f : Nat → Value) {o m i : Nat} (h : Nat → Value) (hi : i < o ∨ o + m ≤ i) : putF f o m h i = f i := by unfold putF; rw [if_neg (by omega)]
section
variable {w w' : World} {g n : Nat} {t : TypeId} {f : Nat → Value}
end
/-- what a store has: pages by number, as they are, as they were committed -/
structure Mdl where
  now : Nat → List Int
  was : Nat → List Int
  on : Nat → Bool
  had : Nat → Bool
  ep : Int
  tch : Nat → Bool
/-- .. in the cells f; the slices lie outside of T -/
structure MdOk (w : World) (T : Nat → Prop) (f : Nat → Value) (M : Mdl) : Prop where
  now : ∀ i, i < 30 → ∃ A n c, f i = .slice A n c ∧ Sl w w.heap.size A n c (M.now i) ∧ ∀ ad, A = some ad → 0 < n → ¬ T ad.block
  was : ∀ i, i < 30 → ∃ A n c, f (30 + i) = .slice A n c ∧ Sl w w.heap.size A n c (M.was i) ∧ ∀ ad, A = some ad → 0 < n → ¬ T ad.block
  on : ∀ i, i < 30 → f (60 + i) = .bool (M.on i)
  had : ∀ i, i < 30 → f (90 + i) = .bool (M.had i)
  ep : f 120 = .int .i64 M.ep
  tch : ∀ i, i < 30 → f (121 + i) = .bool (M.tch i)
section
variable {w w' : World} {T T' K : Nat → Prop} {f : Nat → Value} {M : Mdl}
theorem sl_apart {A : Option Addr} {n c : Nat} {l : List Int} (h : Sl w w.heap.size A n c l ∧ ∀ ad, A = some ad → 0 < n → ¬ T ad.block) (ho : Only K w w') (hK : ∀ k, K k → T k ∨ w.heap.size ≤ k) (hT : ∀ k, T' k → T k ∨ w.heap.size ≤ k) : Sl w' w'.heap.size A n c l ∧ ∀ ad, A = some ad → 0 < n → ¬ T' ad.block := by
  refine ⟨h.1.only ho (fun ad ha h0 hk => ?_), fun ad ha h0 hk => ?_⟩
  · rcases hK _ hk with h1 | h1
    · exact h.2 ad ha h0 h1
    · have := (h.1.at_ ad ha h0).1; omega
  · rcases hT _ hk with h1 | h1
    · exact h.2 ad ha h0 h1
    · have := (h.1.at_ ad ha h0).1; omega
theorem MdOk.only (h : MdOk w T f M) (ho : Only K w w') (hK : ∀ k, K k → T k ∨ w.heap.size ≤ k) (hT : ∀ k, T' k → T k ∨ w.heap.size ≤ k) : MdOk w' T' f M :=
  { h with
    now := fun i hi => by
      obtain ⟨A, n, c, h1, h2⟩ := h.now i hi
      exact ⟨A, n, c, h1, sl_apart h2 ho hK hT⟩
    was := fun i hi => by
      obtain ⟨A, n, c, h1, h2⟩ := h.was i hi
      exact ⟨A, n, c, h1, sl_apart h2 ho hK hT⟩ }
theorem MdOk.below (h : MdOk w T f M) (hb : Below w.heap.size w w') : MdOk w' T f M := h.only (K := fun _ => False) (Only.of_below hb) (fun _ h => h.elim) (fun _ h => .inl h)
/-- nothing is touched -/
theorem MdOk.clear (h : MdOk w T f M) : MdOk w T (putF f 121 30 (fun _ => .bool false)) { M with tch := fun _ => false } where
  now := fun i hi => by rw [putF_ne _ _ (by omega)]; exact h.now i hi
  was := fun i hi => by rw [putF_ne _ _ (by omega)]; exact h.was i hi
  on := fun i hi => by rw [putF_ne _ _ (by omega)]; exact h.on i hi
  had := fun i hi => by rw [putF_ne _ _ (by omega)]; exact h.had i hi
  ep := by rw [putF_ne _ _ (by omega)]; exact h.ep
  tch := fun i hi => by rw [putF_at _ _ hi]
end
end Go.Proofs.YtajcfhhnmjcmjaaGreatDoor
namespace Go.Proofs.YtajcfhhnmjcmjaaGreatDoor
open Go.RowKit Go.Maps

/-- what the model says of page i -/
def Mdl.cont (M : Mdl) : Cont := fun i => if i < 30 ∧ M.on i = true then some (M.now i) else none
end Go.Proofs.YtajcfhhnmjcmjaaGreatDoor
namespace Go.Proofs.YtajcfhhnmjcmjaaGreatDoor
open Go.RowKit Go.Maps

/-- what the model says was committed of page i -/
def Mdl.old (M : Mdl) : Cont := fun i => if i < 30 ∧ M.had i = true then some (M.was i) else none
section
variable {P : PS} {ch : Chg} {cont : Cont} {M : Mdl}
def Mdl.write (M : Mdl) (p : Nat) (l : List Int) : Mdl := { M with tch := fun i => if i = p then true else M.tch i, on := fun i => if i = p then true else M.on i, now := fun i => if i = p then l else M.now i }
def Mdl.drop (M : Mdl) (p : Nat) (l : List Int) : Mdl := { M with tch := fun i => if i = p then (M.tch p || M.on p) else M.tch i, on := fun i => if i = p then false else M.on i, now := fun i => if i = p then l else M.now i }
def Mdl.commit (M : Mdl) (e : Int) : Mdl := { M with was := M.now, had := M.on, tch := fun _ => false, ep := e }
end
section
variable {Real : World → Nat → DSt → (Nat → Prop) → Prop} {PR : World → Nat → Nat → Nat → Nat → (Nat → Prop) → Prop} {S : Nat → Addr} {w0 w w' : World} {d g n q mk hb : Nat} {s : DSt} {P : PS} {ch : Chg} {cont : Cont} {M : Mdl}
end
end Go.Proofs.YtajcfhhnmjcmjaaGreatDoor
namespace Go.Proofs.YtajcfhhnmjcmjaaGreatDoor
open Go.RowKit Go.Maps

section
variable {Real : World → Nat → DSt → (Nat → Prop) → Prop} {PR : World → Nat → Nat → Nat → Nat → (Nat → Prop) → Prop} {S : Nat → Addr} {w0 w w' : World} {d g n q mk hb : Nat} {s : DSt} {P : PS} {ch : Chg} {cont : Cont} {M : Mdl}
end
end Go.Proofs.YtajcfhhnmjcmjaaGreatDoor
namespace Go.Proofs.YtajcfhhnmjcmjaaGreatDoor
open Go.RowKit Go.Maps

section
variable {Real : World → Nat → DSt → (Nat → Prop) → Prop} {PR : World → Nat → Nat → Nat → Nat → (Nat → Prop) → Prop} {S : Nat → Addr} {w0 w w' : World} {d g n q mk hb : Nat} {s : DSt} {P : PS} {ch : Chg} {cont : Cont} {M : Mdl}
end
end Go.Proofs.YtajcfhhnmjcmjaaGreatDoor
namespace Go.Proofs.YtajcfhhnmjcmjaaGreatDoor
open Go.RowKit Go.Maps

section
variable {Real : World → Nat → DSt → (Nat → Prop) → Prop} {PR : World → Nat → Nat → Nat → Nat → (Nat → Prop) → Prop} {S : Nat → Addr} {w0 w w' : World} {d g n q mk hb : Nat} {s : DSt} {P : PS} {ch : Chg} {cont : Cont} {M : Mdl}
end
end Go.Proofs.YtajcfhhnmjcmjaaGreatDoor
namespace Go.Proofs.YtajcfhhnmjcmjaaGreatDoor
open Go.RowKit Go.Maps

section
variable {Real : World → Nat → DSt → (Nat → Prop) → Prop} {PR : World → Nat → Nat → Nat → Nat → (Nat → Prop) → Prop} {S : Nat → Addr} {w0 w w' : World} {d g n q mk hb : Nat} {s : DSt} {P : PS} {ch : Chg} {cont : Cont} {M : Mdl}
end
end Go.Proofs.YtajcfhhnmjcmjaaGreatDoor
namespace Go.Proofs.YtajcfhhnmjcmjaaGreatDoor
open Go.RowKit Go.Maps

section
variable {Real : World → Nat → DSt → (Nat → Prop) → Prop} {PR : World → Nat → Nat → Nat → Nat → (Nat → Prop) → Prop} {S : Nat → Addr} {w0 w w' : World} {d g n q mk hb : Nat} {s : DSt} {P : PS} {ch : Chg} {cont : Cont} {M : Mdl}
end
end Go.Proofs.YtajcfhhnmjcmjaaGreatDoor
