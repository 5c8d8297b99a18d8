/- Put together out of 3 texts. Roots on a device, over plain values: what Save leaves, and what is there behind a fall. -/
import Derived.Test.YtajcfhhnmjcmjaaGreatDoorGXae
import Derived.Deep.RegionHeld3
import Derived.RegionTactic
import Derived.Deep.QuietTactic
import Derived.BigQuiet
namespace Go.Proofs.YtajcfhhnmjcmjaaGreatDoor

/-- the two pairs of blocks: the one of parity p, the other one -/
structure Four (s : DSt) (H p : Nat) (a b c d : BSt) : Prop where
  here : At s p (p + H) a b
  there : At s (1 - p) (1 - p + H) c d
/-- what such a pair reads as -/
theorem up_root {s : DSt} {n q i : Nat} {b : BSt} (u : Up s n q) (hi : i < n) (hb : s.blks[i]? = some b) : s.root i = readR b.read.2 := by
  unfold DSt.root; rw [u.read hi hb]
theorem calm_cl {s : DSt} {i : Nat} {b : BSt} (h : Calm s) (hb : s.blks[i]? = some b) : b.pend = false := h b (List.mem_of_getElem? hb)
theorem flush_calm {b : BSt} (h : b.pend = false) : b.flush = b := by unfold BSt.flush; rw [if_neg (by rw [h]; decide)]
theorem pWrite_else {s : DSt} {H i j : Nat} {l : List Int} (h1 : i ≠ j) (h2 : i + H ≠ j) : (pWrite s H i l).blks[j]? = s.blks[j]? := by
  unfold pWrite; rw [put_else h2, put_else h1]
section
variable {s : DSt} {n q H p : Nat} {a b c d : BSt} {r : RSt}
/-- a root is saved, the power on -/
theorem Four.save (h : Four s H p a b c d) (u : Up s n q) (hH : 1 + H < n) (h1 : 2 ≤ H) (hp : p ≤ 1) (hc : Calm s) (hr : r.code = 0) (he : r.epoch % 2 = (p : Int)) :
    ∃ s', saveR s H r = (0, s') ∧ Up s' n (q + 3) ∧ Calm s' ∧ Four s' H p (cl (bytesOf r) a.ever) (cl (bytesOf r) b.ever) c d := by
  have hl := bytesOf_len (RSt.fine hr).2.2.2
  have hy := bytesOf_byt r
  obtain ⟨e1, u1⟩ := u.write (i := p) (l := bytesOf r) (by omega) hl hy
  obtain ⟨e2, u2⟩ := u1.write (i := p + H) (l := bytesOf r) (by omega) hl hy
  obtain ⟨e3, u3⟩ := u2.flush
  refine ⟨fl (pWrite s H p (bytesOf r)), ?_, u3, calm_fl _, ?_, ?_⟩
  · unfold saveR
    rw [if_neg (by rw [hr]; simp), he, e1]
    rw [if_neg (by simp)]
    simp only
    rw [show ((p : Int) + (H : Int)) = ((p + H : Nat) : Int) by omega, e2]
    rw [if_neg (by simp)]
    exact e3
  · have := (h.here.write (by omega) (bytesOf r)).fl
    rwa [flush_write, flush_write] at this
  · have w1 := pWrite_else (s := s) (H := H) (i := p) (j := 1 - p) (l := bytesOf r) (by omega) (by omega)
    have w2 := pWrite_else (s := s) (H := H) (i := p) (j := 1 - p + H) (l := bytesOf r) (by omega) (by omega)
    have f1 := fl_at (w1.trans h.there.a)
    have f2 := fl_at (w2.trans h.there.c)
    rw [flush_calm (calm_cl hc h.there.a)] at f1
    rw [flush_calm (calm_cl hc h.there.c)] at f2
    exact ⟨f1, f2⟩
/-! the power goes at the k-th call -/
end
/-! of four blocks the greatest -/
/-- it is r, or less -/
def Under (r : RSt) (o : Option RSt) : Prop := ∀ x, o = some x → x = r ∨ x.epoch < r.epoch
theorem under_none (r : RSt) : Under r none := fun _ h => by cases h
theorem under_self (r : RSt) : Under r (some r) := fun _ h => .inl (by injection h with h; exact h.symm)
theorem under_less {r x : RSt} (h : x.epoch < r.epoch) : Under r (some x) := fun _ e => .inr (by injection e with e; rw [← e]; exact h)
theorem better_under {r out : RSt} {o : Option RSt} (h : out = r ∨ out.epoch < r.epoch) (ho : Under r o) : (better out o = r ∨ (better out o).epoch < r.epoch) ∧ (out = r → better out o = r) ∧ (o = some r → better out o = r) := by
  rcases o with _ | x
  · exact ⟨h, fun e => e, fun e => by cases e⟩
  · have hx := ho x rfl
    unfold better
    simp only
    split
    · rename_i hlt
      refine ⟨hx, fun e => ?_, fun e => by injection e⟩
      subst e
      rcases hx with rfl | hx
      · rfl
      · omega
    · rename_i hlt
      refine ⟨h, fun e => e, fun e => ?_⟩
      injection e with e
      subst e
      rcases h with rfl | h
      · rfl
      · omega
theorem newest_is {r : RSt} (h0 : 0 < r.epoch) {a b c d : Option RSt} (ha : Under r a) (hb : Under r b) (hc : Under r c) (hd : Under r d) (h : a = some r ∨ b = some r ∨ c = some r ∨ d = some r) : newestOf a b c d = r := by
  obtain ⟨k1, m1, z1⟩ := better_under (out := noRoot) (.inr h0) ha
  obtain ⟨k2, m2, z2⟩ := better_under k1 hb
  obtain ⟨k3, m3, z3⟩ := better_under k2 hc
  obtain ⟨k4, m4, z4⟩ := better_under k3 hd
  unfold newestOf
  rcases h with h | h | h | h
  · exact m4 (m3 (m2 (z1 h)))
  · exact m4 (m3 (z2 h))
  · exact m4 (z3 h)
  · exact z4 h
/-- the roots of the device's four blocks, by parity -/
theorem newest_four {p : Nat} (hp : p ≤ 1) {r : RSt} (h0 : 0 < r.epoch) {f : Nat → Option RSt} {H : Nat} (h1 : Under r (f p)) (h2 : Under r (f (p + H))) (h3 : Under r (f (1 - p))) (h4 : Under r (f (1 - p + H))) (h : f p = some r ∨ f (p + H) = some r ∨ f (1 - p) = some r ∨ f (1 - p + H) = some r) : newestOf (f 0) (f H) (f 1) (f (1 + H)) = r := by
  rcases (show p = 0 ∨ p = 1 by omega) with rfl | rfl
  · simp only [Nat.zero_add, Nat.sub_zero] at h1 h2 h3 h4 h
    exact newest_is h0 h1 h2 h3 h4 h
  · simp only [Nat.zero_add, Nat.sub_self] at h1 h2 h3 h4 h
    refine newest_is h0 h3 h4 h1 h2 ?_
    rcases h with h | h | h | h
    · exact .inr (.inr (.inl h))
    · exact .inr (.inr (.inr h))
    · exact .inl h
    · exact .inr (.inl h)
theorem copies_four {p : Nat} (hp : p ≤ 1) {r : RSt} (h0 : 0 < r.epoch) (he : r.epoch % 2 = (p : Int)) {f : Nat → Option RSt} {H : Nat} (h : newestOf (f 0) (f H) (f 1) (f (1 + H)) = r) : copiesOf (f 0) (f H) (f 1) (f (1 + H)) = has r (f p) + has r (f (p + H)) := by
  unfold copiesOf
  rw [h, if_neg (by omega)]
  rcases (show p = 0 ∨ p = 1 by omega) with rfl | rfl
  · rw [if_pos (by omega), Nat.zero_add]
  · rw [if_neg (by omega)]
theorem has_self (r : RSt) : has r (some r) = 1 := if_pos rfl
end Go.Proofs.YtajcfhhnmjcmjaaGreatDoor
namespace Go.Proofs.YtajcfhhnmjcmjaaGreatDoor
open Go.RowKit

theorem add_atR (a : Addr) (m : Nat) {j : Nat} (h : 0 < j) : a.add (m + j) = ⟨(a.add m).block, (a.add m).off + j, none⟩ := by
  unfold Addr.add
  by_cases hm : m = 0
  · subst hm
    rw [if_neg (by omega), if_pos rfl, Nat.zero_add]
  · rw [if_neg (by omega), if_neg hm]
    simp [Nat.add_assoc]
/-- a ref's two cells -/
def cells2 (x : Int × Nat) : List Value := [.int .i64 x.1, .int .u32 (x.2 : Int)]
def cellsR (l : List (Int × Nat)) : List Value := l.flatMap cells2
theorem cellsR_len (l : List (Int × Nat)) : (cellsR l).length = l.length * 2 := by
  induction l with
  | nil => rfl
  | cons x l ih => simp only [cellsR, List.flatMap_cons, List.length_append, List.length_cons] at ih ⊢; rw [ih]; simp [cells2]; omega
theorem cellsR_get {l : List (Int × Nat)} {k : Nat} {x : Int × Nat} (h : l[k]? = some x) {j : Nat} (hj : j < 2) : (cellsR l)[k * 2 + j]? = (cells2 x)[j]? := by
  induction l generalizing k with
  | nil => simp at h
  | cons y l ih =>
    rcases k with _ | k
    · simp at h
      subst h
      simp only [cellsR, List.flatMap_cons]
      rw [List.getElem?_append_left (by simp [cells2]; omega)]
      congr 1
      omega
    · simp at h
      simp only [cellsR, List.flatMap_cons]
      rw [List.getElem?_append_right (by simp [cells2]; omega)]
      have e : (k + 1) * 2 + j - (cells2 y).length = k * 2 + j := by simp [cells2]; omega
      rw [e]
      exact ih h
/-- its j-th cell set, in the k-th ref -/
theorem cellsR_set {l : List (Int × Nat)} {k : Nat} {x x' : Int × Nat} {j : Nat} {u : Value} (h : l[k]? = some x) (hj : j < 2) (e : (cells2 x).set j u = cells2 x') : (cellsR l).set (k * 2 + j) u = cellsR (l.set k x') := by
  induction l generalizing k with
  | nil => simp at h
  | cons y l ih =>
    rcases k with _ | k
    · simp at h
      subst h
      simp only [cellsR, List.flatMap_cons, List.set_cons_zero]
      rw [List.set_append_left _ _ (by simp [cells2]; omega), ← e]
      congr 2
      omega
    · simp at h
      simp only [cellsR, List.flatMap_cons, List.set_cons_succ]
      rw [List.set_append_right _ _ (by simp [cells2]; omega)]
      have e2 : (k + 1) * 2 + j - (cells2 y).length = k * 2 + j := by simp [cells2]; omega
      rw [e2]
      congr 1
      exact ih h
theorem cellsR_one (l : List (Int × Nat)) : ∀ u ∈ cellsR l, u.oneCell' = true := by
  intro u hu
  simp only [cellsR, List.mem_flatMap] at hu
  obtain ⟨x, _, hu⟩ := hu
  simp only [cells2, List.mem_cons, List.not_mem_nil, or_false] at hu
  rcases hu with rfl | rfl <;> rfl
theorem cellsR_append (l m : List (Int × Nat)) : cellsR (l ++ m) = cellsR l ++ cellsR m := by simp [cellsR]
/-- a ref's value -/
abbrev rfV (x : Int × Nat) : Value := .agg #[.int .i64 x.1, .int .u32 (x.2 : Int)]
/-- a root's value -/
abbrev rtV (e : Int) (A : Option Addr) (n c : Nat) : Value := .agg #[.int .i64 e, .slice A n c]
/-- the slice '.slice A n c' reads as the refs l, all below block B -/
structure Rf (w : World) (B : Nat) (A : Option Addr) (n c : Nat) (l : List (Int × Nat)) : Prop where
  len : l.length = n
  cap : n ≤ c
  max : c ≤ maxLen
  nil : A = none → c = 0
  at_ : ∀ ad, A = some ad → 0 < n → ad.block < B ∧ ∀ j x, l[j]? = some x → w.cell? (ad.add (j * 2)) = some (.int .i64 x.1) ∧ w.cell? (ad.add (j * 2 + 1)) = some (.int .u32 (x.2 : Int))
theorem Rf.get {w : World} {B n c k : Nat} {A : Option Addr} {l : List (Int × Nat)} (h : Rf w B A n c l) (hk : k < n) : ∃ ad x, A = some ad ∧ ad.block < B ∧ l[k]? = some x ∧ w.cell? (ad.add (k * 2)) = some (.int .i64 x.1) ∧ w.cell? ⟨(ad.add (k * 2)).block, (ad.add (k * 2)).off + 1, none⟩ = some (.int .u32 (x.2 : Int)) := by
  rcases A with _ | ad
  · have := h.nil rfl; have := h.cap; omega
  · have hl := h.len
    obtain ⟨hb, hc⟩ := h.at_ ad rfl (by omega)
    have hx : l[k]? = some (l[k]'(by omega)) := List.getElem?_eq_getElem (by omega)
    obtain ⟨h1, h2⟩ := hc k _ hx
    exact ⟨ad, _, rfl, hb, hx, h1, by rw [← add_atR ad (k * 2) (by omega)]; exact h2⟩
theorem Rf.keep {w w' : World} {B n c : Nat} {A : Option Addr} {l : List (Int × Nat)} (h : Rf w B A n c l) (hk : ∀ p : Addr, p.block < B → w'.cell? p = w.cell? p) : Rf w' B A n c l :=
  ⟨h.len, h.cap, h.max, h.nil, fun ad ha hn => ⟨(h.at_ ad ha hn).1, fun j x hx => by
    have hb := (h.at_ ad ha hn).1
    obtain ⟨h1, h2⟩ := (h.at_ ad ha hn).2 j x hx
    exact ⟨(hk _ (by rw [add_block]; exact hb)).trans h1, (hk _ (by rw [add_block]; exact hb)).trans h2⟩⟩⟩
theorem Rf.more {w : World} {B B' n c : Nat} {A : Option Addr} {l : List (Int × Nat)} (h : Rf w B A n c l) (hB : B ≤ B') : Rf w B' A n c l :=
  ⟨h.len, h.cap, h.max, h.nil, fun ad ha hn => ⟨Nat.lt_of_lt_of_le (h.at_ ad ha hn).1 hB, (h.at_ ad ha hn).2⟩⟩
theorem Rf.below {w w' : World} {B n c : Nat} {A : Option Addr} {l : List (Int × Nat)} (h : Rf w B A n c l) (hb : Below B w w') : Rf w' B A n c l := h.keep fun _ hp => hb.cell hp
theorem Rf.on {w w' : World} {A : Option Addr} {n c : Nat} {l : List (Int × Nat)} (h : Rf w w.heap.size A n c l) (hb : Below w.heap.size w w') : Rf w' w'.heap.size A n c l := (h.below hb).more hb.size
theorem Rf.drewN {w : World} {B n c : Nat} {A : Option Addr} {l : List (Int × Nat)} (h : Rf w B A n c l) (k : Nat) : Rf (w.drewN k) B A n c l := h.keep fun _ _ => rfl
theorem Rf.empty (w : World) (B : Nat) : Rf w B none 0 0 [] := ⟨rfl, Nat.le_refl _, by unfold maxLen; omega, fun _ => rfl, fun _ h => by cases h⟩
theorem Rf.same {w w' : World} {n c : Nat} {A : Option Addr} {l : List (Int × Nat)} (h : Rf w w.heap.size A n c l) (hs : w.heap.size ≤ w'.heap.size) (hk : ∀ ad, A = some ad → 0 < n → w'.heap[ad.block]? = w.heap[ad.block]?) : Rf w' w'.heap.size A n c l :=
  ⟨h.len, h.cap, h.max, h.nil, fun ad ha h0 => ⟨Nat.lt_of_lt_of_le (h.at_ ad ha h0).1 hs, fun j x hx => by
    obtain ⟨h1, h2⟩ := (h.at_ ad ha h0).2 j x hx
    exact ⟨(World.cell?_of_block (by rw [add_block]; exact hk ad ha h0)).trans h1, (World.cell?_of_block (by rw [add_block]; exact hk ad ha h0)).trans h2⟩⟩⟩
theorem Rf.max' {w : World} {B n c : Nat} {A : Option Addr} {l : List (Int × Nat)} (h : Rf w B A n c l) : n ≤ 9223372036854775807 := by have := h.cap; have := h.max; unfold maxLen at this; omega
/-- the slice value v is the call's own, from block B on, and holds the refs l -/
def OwnR (w : World) (B : Nat) (v : Value) (l : List (Int × Nat)) : Prop := w.ownsRow B 98 2 v l.length (cellsR l)
theorem OwnR.form {w : World} {B : Nat} {v : Value} {l : List (Int × Nat)} (h : OwnR w B v l) : ∃ A c, v = .slice A l.length c ∧ Rf w w.heap.size A l.length c l ∧ (∀ ad, A = some ad → B ≤ ad.block) := by
  have h' := h
  rcases h'.2 with ⟨rfl, h0⟩ | ⟨g, cap, cur, rfl, hb, hg, h1, h2, h3, h4⟩
  · have : l = [] := List.eq_nil_of_length_eq_zero h0
    subst this
    exact ⟨none, 0, rfl, Rf.empty _ _, fun _ h => by cases h⟩
  · refine ⟨_, _, rfl, ⟨rfl, h1, h2, fun h => (by cases h), fun ad ha hn => ?_⟩, fun ad ha => by cases ha; exact hb⟩
    cases ha
    refine ⟨(World.ownsRow.lt h g rfl).2, fun j x hx => ⟨?_, ?_⟩⟩
    · exact World.ownsRow.cells h (g := g) rfl (j * 2) _ (by have := cellsR_get hx (j := 0) (by omega); simpa [cells2] using this)
    · exact World.ownsRow.cells h (g := g) rfl (j * 2 + 1) _ (by have := cellsR_get hx (j := 1) (by omega); simpa [cells2] using this)
theorem OwnR.lt {w : World} {B : Nat} {v : Value} {l : List (Int × Nat)} (h : OwnR w B v l) : ∀ k, v.ownBlock = some k → B ≤ k ∧ k < w.heap.size := World.ownsRow.lt h
theorem OwnR.nil (w : World) (B : Nat) : OwnR w B (.slice none 0 0) [] := World.ownsRow_nil _ _ _ _

/-- the errors that package root answers -/
abbrev Sent6 : World → (Nat → Addr) → Prop := SentL [1, 2, 3, 4, 5, 6]
theorem Sent6.five {w : World} {S : Nat → Addr} (h : Sent6 w S) : Sent5 w S := fun i hi => h i (by revert hi; revert i; decide)
theorem Sent6.range {w : World} {S : Nat → Addr} (h : Sent6 w S) : w.cell? ⟨0, 0, none⟩ = some (.iface 264 (.pointer (some (S 2)))) := h 2 (by decide)
theorem Sent6.many {w : World} {S : Nat → Addr} (h : Sent6 w S) : w.cell? ⟨7, 0, none⟩ = some (.iface 264 (.pointer (some (S 3)))) := h 3 (by decide)

/- check -/
theorem code_epoch {r : RSt} (h : r.epoch < 1 ∨ 1099511627776 < r.epoch) : r.code = 103 := by unfold RSt.code; rw [if_pos h]
theorem code_addr {r : RSt} (h : ¬ (r.epoch < 1 ∨ 1099511627776 < r.epoch)) {k : Nat} {x : Int × Nat} (hx : r.refs[k]? = some x) (hb : x.1 < 0 ∨ 6000 < x.1) : r.code = 103 := by
  unfold RSt.code
  rw [if_neg h, if_pos]
  simp only [badAddr, List.any_eq_true, decide_eq_true_eq]
  exact ⟨x, List.mem_of_getElem? hx, hb⟩
theorem code_rest {r : RSt} (h : ¬ (r.epoch < 1 ∨ 1099511627776 < r.epoch)) (hb : badAddr (r.refs.take r.refs.length) = false) : r.code = if 16 < r.refs.length then 104 else 0 := by
  rw [List.take_length] at hb
  unfold RSt.code
  rw [if_neg h, if_neg (by rw [hb]; decide)]
theorem bad_next {l : List (Int × Nat)} {k : Nat} {x : Int × Nat} (hx : l[k]? = some x) (hb : badAddr (l.take k) = false) (h : ¬ (x.1 < 0 ∨ 6000 < x.1)) : badAddr (l.take (k + 1)) = false := by
  rw [List.take_add_one, hx]
  unfold badAddr at hb ⊢
  rw [List.any_append, hb]
  simp; omega
set_option maxRecDepth 100000 in
set_option maxHeartbeats 2000000 in
theorem check_any (S : Nat → Addr) (r : RSt) (A : Option Addr) (n c : Nat) (w : World) (hS : Sent6 w S) (hr : Rf w w.heap.size A n c r.refs) (h0 : -9223372036854775808 ≤ r.epoch) (h1 : r.epoch ≤ 9223372036854775807) :
    Calls Tryz.prog 96 #[rtV r.epoch A n c] w fun e w' => (∃ v, e = .returned v ∧ EV S r.code v) ∧ Below w.heap.size w w' := by
  have HS := hid hS
  have HR := hid hr
  have HN := hid hr.max'
  have HL := hid hr.len
  have HC := hid (fun h => code_epoch (r := r) h)
  have HCa := hid (fun h k x hx hb => code_addr (r := r) h (k := k) (x := x) hx hb)
  have HCr := hid (fun h hb => code_rest (r := r) h hb)
  obtain ⟨code, hcode⟩ : ∃ z, r.code = z := ⟨_, rfl⟩
  rw [hcode] at HC HCa HCr ⊢
  obtain ⟨ep, refs⟩ := r
  clear hcode
  simp only at *
  have hb1 : Below w.heap.size w (w.alloc (.cells #[.int .i64 ep, .slice A n c] 93)) := (Below.refl _ _).alloc (Nat.le_refl _) _
  have HB1 := hid hb1
  have HK1 := hid (Blk.new w 93 #[.int .i64 ep, .slice A n c])
  have hg0 := Sent6.range (HS.out.on hb1)
  have hg1 := Sent6.many (HS.out.on hb1)
  have c0 := HK1.out.cell 0
  have c1 := HK1.out.cell 1
  simp at c0 c1
  have hep : (decide (ep < 1) = true) ∨ (decide (ep < 1) = false ∧ decide (1099511627776 < ep) = true) ∨ (decide (ep < 1) = false ∧ decide (1099511627776 < ep) = false ∧ ¬ (ep < 1 ∨ 1099511627776 < ep)) := by
    by_cases h : ep < 1
    · exact .inl (by simpa using h)
    · by_cases h' : 1099511627776 < ep
      · exact .inr (.inl ⟨by simpa using h, by simpa using h'⟩)
      · exact .inr (.inr ⟨by simpa using h, by simpa using h', by omega⟩)
  clear hS hr hb1 h0 h1
  rcases hep with g1 | ⟨g1, g2⟩ | ⟨g1, g2, h⟩
  · have HE := hid (HC.out (.inl (by simpa using g1)))
    go_enter Tryz.func96, Tryz.ntmps96
    go_wp2
    go_ret
    exact ⟨⟨_, rfl, by rw [HE.out]; exact .err 2 (by decide)⟩, HB1.out⟩
  · have HE := hid (HC.out (.inr (by simpa using g2)))
    go_enter Tryz.func96, Tryz.ntmps96
    go_wp2
    go_ret
    exact ⟨⟨_, rfl, by rw [HE.out]; exact .err 2 (by decide)⟩, HB1.out⟩
  · have HH := hid h
    clear h
    go_enter Tryz.func96, Tryz.ntmps96
    go_wp2
    go_loopw [17] (fun i wr => ∃ k : Nat, k ≤ n ∧ i = .int .i64 (k : Int) ∧ badAddr (refs.take k) = false ∧ Below w.heap.size w wr ∧ Blk wr w.heap.size 93 #[.int .i64 ep, .slice A n c]) (fun i _ => n - (intOf i).toNat)
    case atStart => exact ⟨0, Nat.zero_le _, rfl, rfl, HB1.out, HK1.out⟩
    case round =>
      obtain ⟨k, hk, rfl, hbad, hb, hblk⟩ := hrel
      have HBd := hid hbad
      have HBr := hid hb
      have HKr := hid hblk
      have k1 := hblk.cell 1
      simp at k1
      have hgr0 := Sent6.range (HS.out.on hb)
      have hgr1 := Sent6.many (HS.out.on hb)
      clear c0 c1 hg0 hg1 hbad hblk
      by_cases hlt : k < n
      · obtain ⟨ad, x, rfl, hbl, hx, q0, q1⟩ := (HR.out.on hb).get hlt
        have HX := hid hx
        have hkn : (k : Int) < n := by omega
        have hn63 : (n : Int) ≤ 9223372036854775807 := by have := HN.out; omega
        have hxs : (decide (x.1 < 0) = true ∧ (x.1 < 0 ∨ 6000 < x.1)) ∨ (decide (x.1 < 0) = false ∧ decide (6000 < x.1) = true ∧ (x.1 < 0 ∨ 6000 < x.1)) ∨ (decide (x.1 < 0) = false ∧ decide (6000 < x.1) = false ∧ ¬ (x.1 < 0 ∨ 6000 < x.1)) := by
          by_cases h : x.1 < 0
          · exact .inl ⟨by simpa using h, .inl h⟩
          · by_cases h' : 6000 < x.1
            · exact .inr (.inl ⟨by simpa using h, by simpa using h', .inr h'⟩)
            · exact .inr (.inr ⟨by simpa using h, by simpa using h', by omega⟩)
        clear hx hb
        rcases hxs with ⟨x0, hxb⟩ | ⟨x0, x1, hxb⟩ | ⟨x0, x1, hxb⟩
        · have HE := hid (HCa.out HH.out k x HX.out hxb)
          clear hxb
          have hgs := Sent6.range (HS.out.on (HBr.out.alloc HBr.out.size (.cells #[.int .i64 x.1, .int .u32 (x.2 : Int)] 98)))
          go_wp2
          go_ret
          exact ⟨⟨_, rfl, by rw [HE.out]; exact .err 2 (by decide)⟩, HBr.out.alloc HBr.out.size _⟩
        · have HE := hid (HCa.out HH.out k x HX.out hxb)
          clear hxb
          have hgs := Sent6.range (HS.out.on (HBr.out.alloc HBr.out.size (.cells #[.int .i64 x.1, .int .u32 (x.2 : Int)] 98)))
          go_wp2
          go_ret
          exact ⟨⟨_, rfl, by rw [HE.out]; exact .err 2 (by decide)⟩, HBr.out.alloc HBr.out.size _⟩
        · have HBn := hid (bad_next HX.out HBd.out hxb)
          clear hxb
          go_wp2
          go_roundw
          case rel => exact ⟨k + 1, by omega, by go_num, HBn.out, HBr.out.alloc HBr.out.size _, HKr.out.alloc _⟩
          case measure => simp [intOf]; omega
      · have HE := hid (HCr.out HH.out (by rw [show refs.length = k by have := HL.out; omega]; exact HBd.out))
        have hlen := HL.out
        have hnlt : decide (k < n) = false := by simpa using hlt
        by_cases h16 : 16 < n
        · have g3 : decide ((16 : Int) < (n : Int)) = true := by simp; omega
          go_wp2
          go_ret
          exact ⟨⟨_, rfl, by rw [HE.out, if_pos (by omega)]; exact .err 3 (by decide)⟩, HBr.out⟩
        · have g3 : decide ((16 : Int) < (n : Int)) = false := by simp; omega
          go_wp2
          go_ret
          exact ⟨⟨_, rfl, by rw [HE.out, if_neg (by omega)]; exact .fine⟩, HBr.out⟩
/- place -/
set_option maxHeartbeats 1000000 in
theorem place_any (e : Int) (A : Option Addr) (n c : Nat) (w : World) (h0 : 1 ≤ e) (h1 : e ≤ 1099511627776) :
    Calls Tryz.prog 102 #[rtV e A n c] w fun v w' => v = .returned (.int .i64 (e % 2)) ∧ Below w.heap.size w w' := by
  have hm : e.tmod 2 = e % 2 := (emod_pos e 2 (by omega) (Int.tmod_nonneg 2 (by omega))).symm
  have HK1 := hid (Blk.new w 93 #[.int .i64 e, .slice A n c])
  have c0 := HK1.out.cell 0
  simp at c0
  go_enter Tryz.func102, Tryz.ntmps102
  go_wp2
  go_ret
  exact ⟨by rw [← hm]; rfl, (Below.refl _ _).alloc (Nat.le_refl _) _⟩
end Go.Proofs.YtajcfhhnmjcmjaaGreatDoor
namespace Go.Proofs.YtajcfhhnmjcmjaaGreatDoor
open Go.RowKit

/-- what an append onto a slice of the call's own leaves: only its block, and what is new, has turned -/
def AppR (w : World) (B : Nat) (v : Value) (l : List Int) (e : Ending) (w' : World) : Prop := ∃ v', e = .returned v' ∧ Own w' B v' l ∧ Only (fun g => v.ownBlock = some g) w w' ∧ ∀ g, v'.ownBlock = some g → v.ownBlock = some g ∨ w.heap.size ≤ g
theorem div_byte (n i : Nat) : ((n : Int) / 2 ^ (8 * i)) % 256 = ((n / 256 ^ i % 256 : Nat) : Int) := by
  have e : (256 : Nat) ^ i = 2 ^ (8 * i) := by rw [Nat.pow_mul]
  rw [e]
  have : ((2 : Int) ^ (8 * i)) = ((2 ^ (8 * i) : Nat) : Int) := by simp
  rw [this]
  omega
theorem only_grown {w w' : World} {v : Value} (h : w.grownBy w' v.ownBlock) : Only (fun g => v.ownBlock = some g) w w' := ⟨h.os, h.tape, h.output, h.size, fun k hk hn => h.block k hk (fun e => hn e.symm)⟩
set_option maxRecDepth 100000 in
set_option maxHeartbeats 2000000 in
theorem appendNumR_any (B : Nat) (v : Value) (l : List Int) (n size : Nat) (w : World) (h : Own w B v l) (hB : B ≤ w.heap.size) (_ : n ≤ 9223372036854775807) (hs : size ≤ 7) (hl : l.length ≤ 1000) :
    Calls Tryz.prog 131 #[v, .int .i64 (n : Int), .int .i64 (size : Int)] w (AppR w B v (l ++ numB size n)) := by
  obtain ⟨i0, hi, hz0, hz1, hz2⟩ := info_parts Tryz.info5
  have HO := hid h
  have HL := hid hl
  clear h hl
  go_enter Tryz.func131, Tryz.ntmps131
  go_wp2
  go_loopw [0, 9] (fun v' i wr => ∃ k : Nat, k ≤ size ∧ i = .int .i64 (k : Int) ∧ Own wr B v' (l ++ numB k n) ∧ Only (fun g => v.ownBlock = some g) w wr ∧ ∀ g, v'.ownBlock = some g → v.ownBlock = some g ∨ w.heap.size ≤ g) (fun _ i _ => size - (intOf i).toNat)
  case atStart => exact ⟨0, Nat.zero_le _, rfl, by simpa [numB] using HO.out, Only.refl _ _, fun g hg => .inl hg⟩
  case round =>
    obtain ⟨k, hk, rfl, hown, ho, hg⟩ := hrel
    have HO1 := hid hown
    have HOn := hid ho
    have HG := hid hg
    have hsz : B ≤ wr.heap.size := Nat.le_trans hB ho.size
    have HLn := hid (show (l ++ numB k n).length ≤ 1010 by rw [List.length_append, numB_len]; have := HL.out; omega)
    clear hown ho hg
    by_cases hlt : k < size
    · have hk7 : (k : Int) ≤ 6 := by omega
      have hks : (k : Int) < size := by omega
      have hs7 : (size : Int) ≤ 7 := by omega
      have HW := hid (div_byte n k)
      obtain ⟨N, hN⟩ : ∃ N, (l ++ numB k n).length = N := ⟨_, rfl⟩
      have HN := hid hN
      have HOa := hid (fun o => (show (wr.alloc o).ownsRow B 5 1 u0 N (I (l ++ numB k n)) from hN ▸ World.ownsRow.alloc HO1.out o))
      clear hN
      go_wp2_with (at_builtin; refine wpList_append_lies _ rfl _ _ 29 rfl B 5 i0 (.int .u8 0) 1 1 Tryz.underlying29 hi hz0 hz1 hz2 rfl (by decide) _ _ _ rfl (HOa.out _) ⟨wr.heap.size, 0, none⟩ 1 1 [.int .u8 ((n : Int) / 2 ^ (8 * k) % 256)] rfl rfl ?d1 ?d2 (by decide) ?d3 ?d4 ?d5 (wr.heap.size + 1) ?d6 ?_)
      case d1 => exact cell_one_new _ _ _
      case d2 => intro u hu; simp at hu; subst hu; rfl
      case d3 => have := HLn.out; have := HN.out; unfold maxLen; omega
      case d4 => have := HLn.out; have := HN.out; omega
      case d5 => simp; omega
      case d6 => simp
      intro g cap w1 hown' hgrow hgv _
      have hbw : Only (fun g => v.ownBlock = some g) w w1 := (HOn.out.then_below ((Below.refl _ _).alloc (Nat.le_refl _) _)).trans (only_grown hgrow) (fun i hi => (HG.out i hi).imp id (fun h => h))
      have R := hid (show Own w1 B (.slice (some ⟨g, 0, none⟩) (N + 1) cap) (l ++ numB (k + 1) n) from by
        rw [numB_succ, ← List.append_assoc]
        unfold Own
        rw [I_append, List.length_append (bs := [((n / 256 ^ k % 256 : Nat) : Int)]), HN.out]
        rw [HW.out] at hown'
        simpa [I] using hown')
      have R2 := hid hbw
      have R3 := hid (show ∀ i, (Value.slice (some ⟨g, 0, none⟩) (N + 1) cap).ownBlock = some i → v.ownBlock = some i ∨ w.heap.size ≤ i from fun i hi => by
        have : g = i := by simpa [Value.ownBlock] using hi
        subst this
        rcases hgv with h | h
        · exact HG.out _ h
        · have := HOn.out.size; omega)
      clear hown' hgrow hbw hgv
      go_wp2
      go_roundw
      case rel => exact ⟨k + 1, by omega, by go_num, R.out, R2.out, R3.out⟩
      case measure => simp [intOf]; omega
    · obtain rfl : k = size := by omega
      have HF := hid (show AppR w B v (l ++ numB k n) (.returned u0) wr from ⟨_, rfl, HO1.out, HOn.out, HG.out⟩)
      have hnlt : decide (k < k) = false := by simp
      go_wp2
      go_ret
      exact HF.out
theorem appendNumR' (B : Nat) (v : Value) (l : List Int) (n size : Nat) (x z : Int) (w : World) (hx : x = (n : Int)) (hz : z = (size : Int)) (h : Own w B v l) (hB : B ≤ w.heap.size) (h1 : n ≤ 9223372036854775807) (hs : size ≤ 7) (hl : l.length ≤ 1000) :
    Calls Tryz.prog 131 #[v, .int .i64 x, .int .i64 z] w (AppR w B v (l ++ numB size n)) := by
  subst hx hz
  exact appendNumR_any B v l n size w h hB h1 hs hl
theorem refsB_take {l : List (Int × Nat)} {k : Nat} {x : Int × Nat} (h : l[k]? = some x) : refsB (l.take (k + 1)) = refsB (l.take k) ++ (numB 2 x.1.toNat ++ numB 4 x.2) := by
  rw [List.take_add_one, h]
  exact refsB_snoc _ _
set_option maxRecDepth 100000 in
set_option maxHeartbeats 2000000 in
theorem laid_any (r : RSt) (A : Option Addr) (n c : Nat) (w : World) (hr : Rf w w.heap.size A n c r.refs) (hc : r.code = 0) (hs : Sums r.refs) :
    Calls Tryz.prog 97 #[rtV r.epoch A n c] w (Made w (laidB r)) := by
  obtain ⟨f0, f1, f2, f3⟩ := r.fine hc
  have hlen := hr.len
  have HR := hid hr
  have HA := hid f2
  have HS := hid hs
  obtain ⟨ep, refs⟩ := r
  simp only at *
  obtain ⟨m, rfl⟩ : ∃ m : Nat, ep = (m : Int) := ⟨ep.toNat, by omega⟩
  have HM := hid (show m ≤ 1099511627776 by omega)
  have HN := hid (show n ≤ 16 by omega)
  have HLn := hid hlen
  have HE := hid (show laidB ⟨(m : Int), refs⟩ = numB 6 m ++ (numB 1 n ++ refsB refs) by unfold laidB; simp only [Int.toNat_natCast, hlen])
  rw [HE.out]
  have HB1 := hid (show Below w.heap.size w (w.alloc (.cells #[.int .i64 (m : Int), .slice A n c] 93)) from (Below.refl _ _).alloc (Nat.le_refl _) _)
  have HK1 := hid (Blk.new w 93 #[.int .i64 (m : Int), .slice A n c])
  have c0 := HK1.out.cell 0
  have c1 := HK1.out.cell 1
  simp at c0 c1
  clear hr hc hs f0 f1 f2 f3 hlen HE
  go_enter Tryz.func97, Tryz.ntmps97
  go_wp2_with fail
  refine (appendNumR' w.heap.size _ [] m 6 _ _ _ rfl rfl (Own.nil _ _) (by simp) (by have := HM.out; omega) (by omega) (by simp)).mono ?_
  rintro e w1 ⟨v1, rfl, ho, hon, hg⟩
  rw [List.nil_append] at ho
  have hb2 : Below w.heap.size w w1 := HB1.out.trans (hon.below (by simp) (fun i hi => by cases hi))
  have HO1 := hid ho
  have HB2 := hid hb2
  have HK2 := hid (HK1.out.same (hon.block _ (by simp) (fun h => by cases h)))
  have HG1 := hid (show ∀ g, v1.ownBlock = some g → w.heap.size < g from fun g h => by
    rcases hg g h with h | h
    · cases h
    · simp at h; omega)
  clear ho hon hg hb2
  have d0 := HK2.out.cell 0
  have d1 := HK2.out.cell 1
  simp at d0 d1
  go_wp2_with fail
  refine (appendNumR' w.heap.size v1 (numB 6 m) n 1 _ _ _ rfl rfl HO1.out HB2.out.size (by have := HN.out; omega) (by omega) (by rw [numB_len]; omega)).mono ?_
  rintro e w2 ⟨v2, rfl, ho, hon, hg⟩
  have hlt1 := HO1.out.lt
  have HO2 := hid ho
  have HB3 := hid (show Below w.heap.size w w2 from HB2.out.trans (hon.below HB2.out.size (fun i hi => (hlt1 i hi).1)))
  have HK3 := hid (HK2.out.same (hon.block _ HK2.out.lt (fun h => by have := HG1.out _ h; omega)))
  clear ho hon hg hlt1 d0 d1
  have d0 := HK3.out.cell 0
  have d1 := HK3.out.cell 1
  simp at d0 d1
  go_wp2
  go_loopw [3, 17] (fun v i wr => ∃ k : Nat, k ≤ n ∧ i = .int .i64 (k : Int) ∧ Own wr w.heap.size v (numB 6 m ++ numB 1 n ++ refsB (refs.take k)) ∧ Below w.heap.size w wr) (fun _ i _ => n - (intOf i).toNat)
  case atStart => exact ⟨0, Nat.zero_le _, rfl, by simpa [refsB] using HO2.out, HB3.out⟩
  case round =>
    obtain ⟨k, hk, rfl, hown, hb⟩ := hrel
    have HOr := hid hown
    have HBr := hid hb
    clear hown hb c0 c1 d0 d1
    by_cases hlt : k < n
    · obtain ⟨ad, x, rfl, hbl, hx, q0, q1⟩ := (HR.out.on HBr.out).get hlt
      have hv := HA.out x (List.mem_of_getElem? hx)
      have hz := HS.out.at_ hx
      have HX := hid (refsB_take hx)
      obtain ⟨xa, xz⟩ := x
      simp only at *
      obtain ⟨a, rfl⟩ : ∃ a : Nat, xa = (a : Int) := ⟨xa.toNat, by omega⟩
      rw [Int.toNat_natCast] at HX
      have HAl := hid (show a ≤ 6000 by omega)
      have HZl := hid hz
      have hkn : (k : Int) < n := by omega
      have hn63 : (n : Int) ≤ 16 := by have := HN.out; omega
      have hzi : (xz : Int) ≤ 4294967295 := by omega
      have hlt0 := HOr.out.lt
      have hbA : Below w.heap.size w (wr.alloc (.cells #[.int .i64 (a : Int), .int .u32 (xz : Int)] 98)) := HBr.out.alloc HBr.out.size _
      have HBA := hid hbA
      have HKA := hid (Blk.new wr 98 #[.int .i64 (a : Int), .int .u32 (xz : Int)])
      have HOA := hid (show Own (wr.alloc (.cells #[.int .i64 (a : Int), .int .u32 (xz : Int)] 98)) w.heap.size u3 (numB 6 m ++ numB 1 n ++ refsB (refs.take k)) from World.ownsRow.alloc HOr.out _)
      have HLr := hid (show (numB 6 m ++ numB 1 n ++ refsB (refs.take k)).length ≤ 200 by
        simp only [List.length_append, numB_len, refsB_len, List.length_take]; have := HN.out; omega)
      have HGr := hid (show ∀ g, u3.ownBlock = some g → g < wr.heap.size from fun g h => (hlt0 g h).2)
      clear hx hz hv hbA hlt0 hbl
      go_wp2_with fail
      refine (appendNumR' w.heap.size u3 _ a 2 _ _ _ rfl rfl HOA.out (by have := HBr.out.size; simp; omega) (by have := HAl.out; omega) (by omega) (by have := HLr.out; omega)).mono ?_
      rintro e w3 ⟨v3, rfl, ho, hon, hg⟩
      have hltA := HOA.out.lt
      have HO3 := hid ho
      have HB4 := hid (show Below w.heap.size w w3 from HBA.out.trans (hon.below HBA.out.size (fun i hi => (hltA i hi).1)))
      have HK4 := hid (HKA.out.same (hon.block _ HKA.out.lt (fun h => by have := HGr.out _ h; omega)))
      clear ho hon hg hltA q0 q1
      have e0 := HK4.out.cell 0
      have e1 := HK4.out.cell 1
      simp at e0 e1
      go_wp2_with fail
      refine (appendNumR' w.heap.size v3 _ xz 4 _ _ _ rfl rfl HO3.out HB4.out.size (by have := HZl.out; omega) (by omega) (by rw [List.length_append, numB_len]; have := HLr.out; omega)).mono ?_
      rintro e w4 ⟨v4, rfl, ho, hon, hg⟩
      have hltA := HO3.out.lt
      have HO4 := hid (show Own w4 w.heap.size v4 (numB 6 m ++ numB 1 n ++ refsB (refs.take (k + 1))) from by
        have e : numB 6 m ++ numB 1 n ++ refsB (refs.take k) ++ numB 2 a ++ numB 4 xz = numB 6 m ++ numB 1 n ++ (refsB (refs.take k) ++ (numB 2 a ++ numB 4 xz)) := by simp only [List.append_assoc]
        rw [HX.out, ← e]
        exact ho)
      have HB5 := hid (show Below w.heap.size w w4 from HB4.out.trans (hon.below HB4.out.size (fun i hi => (hltA i hi).1)))
      clear ho hon hg hltA e0 e1
      go_wp2
      go_roundw
      case rel => exact ⟨k + 1, by omega, by go_num, HO4.out, HB5.out⟩
      case measure => simp [intOf]; omega
    · have HF := hid (show Made w (numB 6 m ++ (numB 1 n ++ refsB refs)) (.returned u3) wr from ⟨_, rfl, by
        have := HOr.out
        rwa [List.take_of_length_le (by have := HLn.out; omega), List.append_assoc] at this, HBr.out⟩)
      have hnlt : decide (k < n) = false := by simpa using hlt
      go_wp2
      go_ret
      exact HF.out
end Go.Proofs.YtajcfhhnmjcmjaaGreatDoor
