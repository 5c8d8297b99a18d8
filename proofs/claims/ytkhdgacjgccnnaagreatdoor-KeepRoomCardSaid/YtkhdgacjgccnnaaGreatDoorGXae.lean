/- Put together out of 4 texts. What is pending; a block read by the device itself; pairs opened anew. -/
import Derived.Test.YtkhdgacjgccnnaaGreatDoorGXad
namespace Go.Proofs.YtkhdgacjgccnnaaGreatDoor
open Go.RowKit

section
variable {Real : World → Nat → DSt → (Nat → Prop) → Prop} {PR : World → Nat → Nat → Nat → Nat → (Nat → Prop) → Prop} {S : Nat → Addr} {w0 w w' : World} {d p n m q m' q' : Nat} {s s' : DSt} {ks : List Kd}
end
end Go.Proofs.YtkhdgacjgccnnaaGreatDoor
namespace Go.Proofs.YtkhdgacjgccnnaaGreatDoor
open Go.RowKit

/-- nothing pending -/
def Calm (s : DSt) : Prop := ∀ b, b ∈ s.blks → b.pend = false
theorem calm_fl (s : DSt) : Calm (fl s) := by
  intro b hb
  simp only [fl, List.mem_map] at hb
  obtain ⟨a, _, rfl⟩ := hb
  unfold BSt.flush
  split
  · rfl
  · rename_i h; simpa using h
section
variable {Real : World → Nat → DSt → (Nat → Prop) → Prop} {PR : World → Nat → Nat → Nat → Nat → (Nat → Prop) → Prop} {S : Nat → Addr} {w0 w w' : World} {d p n m q m' q' : Nat} {s s' : DSt} {ks : List Kd}
/-- another device, and pairs over it, that lie beside -/
def Kd.two (D : DevOk Real) (P : PairOk Real PR) (c z : Nat) (s : DSt) (n m : Nat) (F G : Nat → Prop) : Kd where
  C w := Real w c s F ∧ PR w z c n m G
  B k := F k ∨ G k
  keeps := fun ⟨h1, h2⟩ _ hk => ⟨D.kept h1 ⟨fun i hi => hk.1 i (.inl hi), hk.2⟩, P.kept h2 ⟨fun i hi => hk.1 i (.inr hi), hk.2⟩⟩
end
end Go.Proofs.YtkhdgacjgccnnaaGreatDoor
namespace Go.Proofs.YtkhdgacjgccnnaaGreatDoor

/-- a number's lowest bytes, the lowest first -/
def numB (k n : Nat) : List Int := (List.range k).map fun i => ((n / 256 ^ i % 256 : Nat) : Int)
theorem numB_len (k n : Nat) : (numB k n).length = k := by simp [numB]
theorem numB_succ (k n : Nat) : numB (k + 1) n = numB k n ++ [((n / 256 ^ k % 256 : Nat) : Int)] := by simp [numB, List.range_succ]
theorem numB_byt (k n : Nat) : Byt (numB k n) := by
  intro x hx
  simp only [numB, List.mem_map] at hx
  obtain ⟨i, _, rfl⟩ := hx
  have := Nat.mod_lt (n / 256 ^ i) (show 0 < 256 by omega)
  omega
/-- .. and back -/
def numOf : List Int → Nat
  | [] => 0
  | x :: l => x.toNat + 256 * numOf l
theorem numOf_snoc (l : List Int) (x : Int) : numOf (l ++ [x]) = numOf l + 256 ^ l.length * x.toNat := by
  induction l with
  | nil => simp [numOf]
  | cons y l ih =>
    simp only [List.cons_append, numOf, ih, List.length_cons, Nat.pow_succ]
    have : 256 * (256 ^ l.length * x.toNat) = 256 ^ l.length * 256 * x.toNat := by rw [Nat.mul_comm (256 ^ l.length) 256, Nat.mul_assoc]
    omega
theorem numOf_lt {l : List Int} (h : Byt l) : numOf l < 256 ^ l.length := by
  induction l with
  | nil => simp [numOf]
  | cons y l ih =>
    have hy := h y List.mem_cons_self
    have hl := ih fun x hx => h x (List.mem_cons_of_mem _ hx)
    simp only [numOf, List.length_cons, Nat.pow_succ]
    have : y.toNat ≤ 255 := by omega
    omega
theorem numOf_numB (k n : Nat) : numOf (numB k n) = n % 256 ^ k := by
  induction k with
  | zero => simp [numB, numOf, Nat.mod_one]
  | succ k ih => rw [numB_succ, numOf_snoc, ih, numB_len, Int.toNat_natCast, Nat.mod_pow_succ]
theorem numOf_zeros (k : Nat) : numOf (List.replicate k 0) = 0 := by
  induction k with
  | zero => rfl
  | succ k ih => rw [List.replicate_succ, numOf, ih]; rfl

/-- a root: how many commits, what it points to: places and sums -/
structure RSt where
  epoch : Int
  refs : List (Int × Nat)
theorem RSt.ext' {a b : RSt} (h1 : a.epoch = b.epoch) (h2 : a.refs = b.refs) : a = b := by
  cases a; cases b; simp_all
instance : DecidableEq RSt := fun a b => if h : a.epoch = b.epoch ∧ a.refs = b.refs then .isTrue (RSt.ext' h.1 h.2) else .isFalse fun e => h (by rw [e]; exact ⟨rfl, rfl⟩)
/-- a place that may not be -/
def badAddr (l : List (Int × Nat)) : Bool := l.any fun x => decide (x.1 < 0 ∨ 6000 < x.1)
/-- why there is no such root; 0: there is -/
def RSt.code (r : RSt) : Int := if r.epoch < 1 ∨ 1099511627776 < r.epoch then 103 else if badAddr r.refs = true then 103 else if 16 < r.refs.length then 104 else 0
/-- sums are sums -/
def Sums (l : List (Int × Nat)) : Prop := ∀ x, x ∈ l → x.2 < 4294967296
theorem Sums.at_ {l : List (Int × Nat)} (h : Sums l) {k : Nat} {x : Int × Nat} (hx : l[k]? = some x) : x.2 < 4294967296 := h x (List.mem_of_getElem? hx)
theorem RSt.fine {r : RSt} (h : r.code = 0) : 1 ≤ r.epoch ∧ r.epoch ≤ 1099511627776 ∧ (∀ x, x ∈ r.refs → 0 ≤ x.1 ∧ x.1 ≤ 6000) ∧ r.refs.length ≤ 16 := by
  unfold RSt.code at h
  split at h
  · cases h
  · split at h
    · cases h
    · split at h
      · cases h
      · rename_i h1 h2 h3
        refine ⟨by omega, by omega, fun x hx => ?_, by omega⟩
        simp only [badAddr, Bool.not_eq_true, List.any_eq_false, decide_eq_true_eq] at h2
        have := h2 x hx
        omega
theorem RSt.fine_iff {r : RSt} (h0 : 1 ≤ r.epoch) (h1 : r.epoch ≤ 1099511627776) (h2 : ∀ x, x ∈ r.refs → 0 ≤ x.1 ∧ x.1 ≤ 6000) (h3 : r.refs.length ≤ 16) : r.code = 0 := by
  unfold RSt.code
  rw [if_neg (by omega), if_neg, if_neg (by omega)]
  simp only [badAddr, Bool.not_eq_true, List.any_eq_false, decide_eq_true_eq]
  intro x hx
  have := h2 x hx
  omega
def refB (x : Int × Nat) : List Int := numB 2 x.1.toNat ++ numB 4 x.2
theorem refB_len (x : Int × Nat) : (refB x).length = 6 := by simp [refB, numB_len]
def refsB (l : List (Int × Nat)) : List Int := l.flatMap refB
theorem refsB_len (l : List (Int × Nat)) : (refsB l).length = 6 * l.length := by
  induction l with
  | nil => rfl
  | cons x l ih => simp only [refsB, List.flatMap_cons, List.length_append, List.length_cons] at ih ⊢; rw [ih, refB_len]; omega
theorem refsB_drop (l : List (Int × Nat)) (i : Nat) : (refsB l).drop (6 * i) = refsB (l.drop i) := by
  induction i generalizing l with
  | zero => simp
  | succ i ih =>
    rcases l with _ | ⟨x, l⟩
    · simp [refsB]
    · have e : 6 * (i + 1) = (refB x).length + 6 * i := by rw [refB_len]; omega
      have e2 : refsB (x :: l) = refB x ++ refsB l := by simp [refsB]
      rw [e2, e, List.drop_length_add_append, ih, List.drop_succ_cons]
theorem refsB_snoc (l : List (Int × Nat)) (x : Int × Nat) : refsB (l ++ [x]) = refsB l ++ refB x := by simp [refsB]
theorem refsB_byt (l : List (Int × Nat)) : Byt (refsB l) := by
  intro x hx
  simp only [refsB, List.mem_flatMap] at hx
  obtain ⟨y, _, hy⟩ := hx
  exact ((numB_byt 2 _).append (numB_byt 4 _)) x hy
/-- a root, laid once -/
def laidB (r : RSt) : List Int := numB 6 r.epoch.toNat ++ (numB 1 r.refs.length ++ refsB r.refs)
theorem laidB_len (r : RSt) : (laidB r).length = 7 + 6 * r.refs.length := by
  simp only [laidB, List.length_append, numB_len, refsB_len]; omega
theorem laidB_byt (r : RSt) : Byt (laidB r) := (numB_byt _ _).append ((numB_byt _ _).append (refsB_byt _))
def halfB (r : RSt) : List Int := laidB r ++ List.replicate (128 - (laidB r).length) 0
theorem halfB_len {r : RSt} (h : r.refs.length ≤ 16) : (halfB r).length = 128 := by
  have := laidB_len r
  simp only [halfB, List.length_append, List.length_replicate]; omega
theorem halfB_byt (r : RSt) : Byt (halfB r) := (laidB_byt r).append fun x hx => by rw [List.eq_of_mem_replicate hx]; omega
/-- a root, as a block has it -/
def bytesOf (r : RSt) : List Int := halfB r ++ halfB r
theorem bytesOf_len {r : RSt} (h : r.refs.length ≤ 16) : (bytesOf r).length = 256 := by
  rw [bytesOf, List.length_append, halfB_len h]
theorem bytesOf_byt (r : RSt) : Byt (bytesOf r) := (halfB_byt r).append (halfB_byt r)
/-- what was laid at a block's beginning -/
def toldRef (b : List Int) (i : Nat) : Int × Nat := (((numOf ((b.drop (7 + 6 * i)).take 2) : Nat) : Int), numOf ((b.drop (9 + 6 * i)).take 4))
def toldN (b : List Int) : Nat := min (numOf ((b.drop 6).take 1)) 16
def told (b : List Int) : RSt := ⟨((numOf (b.take 6) : Nat) : Int), (List.range (toldN b)).map (toldRef b)⟩
theorem told_sums {b : List Int} (h : Byt b) : Sums (told b).refs := by
  intro x hx
  simp only [told, List.mem_map] at hx
  obtain ⟨i, _, rfl⟩ := hx
  have h1 := numOf_lt ((h.drop (9 + 6 * i)).take 4)
  have h2 : ((b.drop (9 + 6 * i)).take 4).length ≤ 4 := by rw [List.length_take]; omega
  have h3 : (256 : Nat) ^ ((b.drop (9 + 6 * i)).take 4).length ≤ 256 ^ 4 := Nat.pow_le_pow_right (by omega) h2
  have h4 : (256 : Nat) ^ 4 = 4294967296 := by decide
  show numOf ((b.drop (9 + 6 * i)).take 4) < 4294967296
  omega
theorem told_bytes {r : RSt} (h : r.code = 0) (hs : Sums r.refs) : told (bytesOf r) = r := by
  obtain ⟨h0, h1, h2, h3⟩ := r.fine h
  obtain ⟨rest, hrest⟩ : ∃ rest, bytesOf r = numB 6 r.epoch.toNat ++ (numB 1 r.refs.length ++ (refsB r.refs ++ rest)) := ⟨_, by simp only [bytesOf, halfB, laidB, List.append_assoc]; rfl⟩
  have e6 : (bytesOf r).take 6 = numB 6 r.epoch.toNat := by rw [hrest, List.take_left' (numB_len _ _)]
  have d6 : (bytesOf r).drop 6 = numB 1 r.refs.length ++ (refsB r.refs ++ rest) := by rw [hrest, List.drop_left' (numB_len _ _)]
  have e1 : ((bytesOf r).drop 6).take 1 = numB 1 r.refs.length := by rw [d6, List.take_left' (numB_len _ _)]
  have d7 : (bytesOf r).drop 7 = refsB r.refs ++ rest := by
    have : (bytesOf r).drop 7 = ((bytesOf r).drop 6).drop 1 := by rw [List.drop_drop]
    rw [this, d6, List.drop_left' (numB_len _ _)]
  have n0 : numOf ((bytesOf r).take 6) = r.epoch.toNat := by
    rw [e6, numOf_numB]
    have : (256 : Nat) ^ 6 = 281474976710656 := by decide
    rw [Nat.mod_eq_of_lt (by omega)]
  have n1 : toldN (bytesOf r) = r.refs.length := by
    unfold toldN
    rw [e1, numOf_numB, Nat.pow_one, Nat.mod_eq_of_lt (by omega)]
    omega
  refine RSt.ext' (by show ((numOf _ : Nat) : Int) = _; rw [n0]; omega) ?_
  show (List.range (toldN (bytesOf r))).map _ = _
  rw [n1]
  apply List.ext_getElem?
  intro i
  rw [List.getElem?_map]
  by_cases hi : i < r.refs.length
  · obtain ⟨x, hx⟩ : ∃ x, r.refs[i]? = some x := ⟨_, List.getElem?_eq_getElem hi⟩
    rw [List.getElem?_range hi, hx]
    have dx : (bytesOf r).drop (7 + 6 * i) = refB x ++ (refsB (r.refs.drop (i + 1)) ++ rest) := by
      have : (bytesOf r).drop (7 + 6 * i) = ((bytesOf r).drop 7).drop (6 * i) := by rw [List.drop_drop]
      have hl := refsB_len r.refs
      have e2 : ∀ (a : Int × Nat) l, refsB (a :: l) = refB a ++ refsB l := fun a l => by simp [refsB]
      have hd : r.refs.drop i = x :: r.refs.drop (i + 1) := by
        obtain ⟨hk, rfl⟩ := List.getElem?_eq_some_iff.1 hx
        exact List.drop_eq_getElem_cons hk
      rw [this, d7, List.drop_append_of_le_length (by omega), refsB_drop, hd, e2, List.append_assoc]
    have d2 : (bytesOf r).drop (9 + 6 * i) = numB 4 x.2 ++ (refsB (r.refs.drop (i + 1)) ++ rest) := by
      have : (bytesOf r).drop (9 + 6 * i) = ((bytesOf r).drop (7 + 6 * i)).drop 2 := by rw [List.drop_drop]; congr 1; omega
      rw [this, dx, refB, List.append_assoc, List.drop_left' (numB_len _ _)]
    have hv := h2 x (List.mem_of_getElem? hx)
    have hz := hs.at_ hx
    show some (toldRef (bytesOf r) i) = some x
    unfold toldRef
    rw [d2, List.take_left' (numB_len _ _), dx, refB, List.append_assoc, List.take_left' (numB_len _ _), numOf_numB, numOf_numB]
    have p2 : (256 : Nat) ^ 2 = 65536 := by decide
    have p4 : (256 : Nat) ^ 4 = 4294967296 := by decide
    rw [Nat.mod_eq_of_lt (by omega), Nat.mod_eq_of_lt (by omega)]
    congr 1
    exact Prod.ext (by show ((x.1.toNat : Nat) : Int) = x.1; omega) rfl
  · rw [List.getElem?_eq_none (by simpa using hi), List.getElem?_eq_none (by omega)]; rfl

/-- the root that bytes are -/
def readR (b : List Int) : Option RSt := if b.length = 256 ∧ (told b).code = 0 ∧ bytesOf (told b) = b then some (told b) else none
theorem readR_bytes {r : RSt} (h : r.code = 0) (hs : Sums r.refs) : readR (bytesOf r) = some r := by
  have e := told_bytes h hs
  unfold readR
  rw [e, if_pos ⟨bytesOf_len (r.fine h).2.2.2, h, rfl⟩]
theorem readR_inv {b : List Int} {r : RSt} (h : readR b = some r) : b.length = 256 ∧ r.code = 0 ∧ bytesOf r = b ∧ told b = r := by
  unfold readR at h
  split at h
  · rename_i h1
    injection h with h
    subst h
    exact ⟨h1.1, h1.2.1, h1.2.2, rfl⟩
  · cases h
theorem readR_zeros : readR (List.replicate 256 0) = none := by
  unfold readR
  rw [if_neg]
  rintro ⟨_, h, _⟩
  have e : (told (List.replicate 256 0)).epoch = 0 := by
    show ((numOf ((List.replicate 256 (0 : Int)).take 6) : Nat) : Int) = 0
    rw [List.take_replicate, numOf_zeros]; rfl
  have := (RSt.fine h).1
  omega
/-- of two roots the one of the greater Epoch -/
def better (out : RSt) (o : Option RSt) : RSt := match o with
  | some r => if out.epoch < r.epoch then r else out
  | none => out
def noRoot : RSt := ⟨0, []⟩
/-- of four blocks -/
def newestOf (a b c d : Option RSt) : RSt := better (better (better (better noRoot a) b) c) d
/-- how many have it -/
def has (r : RSt) (o : Option RSt) : Nat := if o = some r then 1 else 0
def copiesOf (a b c d : Option RSt) : Nat :=
  if (newestOf a b c d).epoch = 0 then 0 else if (newestOf a b c d).epoch % 2 = 0 then has (newestOf a b c d) a + has (newestOf a b c d) b else has (newestOf a b c d) c + has (newestOf a b c d) d
/-- what block i is, if it can be read and is one -/
def DSt.root (s : DSt) (i : Nat) : Option RSt := readR (s.read (i : Int)).2
/-- Save: the error's number, the device -/
def saveR (s : DSt) (H : Nat) (r : RSt) : Int × DSt :=
  if r.code ≠ 0 then (r.code, s) else
  if (s.write (r.epoch % 2) (bytesOf r)).1 ≠ 0 then s.write (r.epoch % 2) (bytesOf r) else
  if ((s.write (r.epoch % 2) (bytesOf r)).2.write (r.epoch % 2 + H) (bytesOf r)).1 ≠ 0 then (s.write (r.epoch % 2) (bytesOf r)).2.write (r.epoch % 2 + H) (bytesOf r) else
  ((s.write (r.epoch % 2) (bytesOf r)).2.write (r.epoch % 2 + H) (bytesOf r)).2.flush
end Go.Proofs.YtkhdgacjgccnnaaGreatDoor
namespace Go.Proofs.YtkhdgacjgccnnaaGreatDoor

/-- the two pairs of blocks: the one of parity p, the other one -/
structure Four (s : DSt) (H p : Nat) (a b c d : BSt) : Prop where
  here : At s p (p + H) a b
  there : At s (1 - p) (1 - p + H) c d
/-- what such a pair reads as -/
theorem up_root {s : DSt} {n q i : Nat} {b : BSt} (u : Up s n q) (hi : i < n) (hb : s.blks[i]? = some b) : s.root i = readR b.read.2 := by
  unfold DSt.root; rw [u.read hi hb]
theorem calm_cl {s : DSt} {i : Nat} {b : BSt} (h : Calm s) (hb : s.blks[i]? = some b) : b.pend = false := h b (List.mem_of_getElem? hb)
theorem flush_calm {b : BSt} (h : b.pend = false) : b.flush = b := by unfold BSt.flush; rw [if_neg (by rw [h]; decide)]
theorem pWrite_else {s : DSt} {H i j : Nat} {l : List Int} (h1 : i ≠ j) (h2 : i + H ≠ j) : (pWrite s H i l).blks[j]? = s.blks[j]? := by
  unfold pWrite; rw [put_else h2, put_else h1]
section
variable {s : DSt} {n q H p : Nat} {a b c d : BSt} {r : RSt}
/-- a root is saved, the power on -/
theorem Four.save (h : Four s H p a b c d) (u : Up s n q) (hH : 1 + H < n) (h1 : 2 ≤ H) (hp : p ≤ 1) (hc : Calm s) (hr : r.code = 0) (he : r.epoch % 2 = (p : Int)) :
    ∃ s', saveR s H r = (0, s') ∧ Up s' n (q + 3) ∧ Calm s' ∧ Four s' H p (cl (bytesOf r) a.ever) (cl (bytesOf r) b.ever) c d := by
  have hl := bytesOf_len (RSt.fine hr).2.2.2
  have hy := bytesOf_byt r
  obtain ⟨e1, u1⟩ := u.write (i := p) (l := bytesOf r) (by omega) hl hy
  obtain ⟨e2, u2⟩ := u1.write (i := p + H) (l := bytesOf r) (by omega) hl hy
  obtain ⟨e3, u3⟩ := u2.flush
  refine ⟨fl (pWrite s H p (bytesOf r)), ?_, u3, calm_fl _, ?_, ?_⟩
  · unfold saveR
    rw [if_neg (by rw [hr]; simp), he, e1]
    rw [if_neg (by simp)]
    simp only
    rw [show ((p : Int) + (H : Int)) = ((p + H : Nat) : Int) by omega, e2]
    rw [if_neg (by simp)]
    exact e3
  · have := (h.here.write (by omega) (bytesOf r)).fl
    rwa [flush_write, flush_write] at this
  · have w1 := pWrite_else (s := s) (H := H) (i := p) (j := 1 - p) (l := bytesOf r) (by omega) (by omega)
    have w2 := pWrite_else (s := s) (H := H) (i := p) (j := 1 - p + H) (l := bytesOf r) (by omega) (by omega)
    have f1 := fl_at (w1.trans h.there.a)
    have f2 := fl_at (w2.trans h.there.c)
    rw [flush_calm (calm_cl hc h.there.a)] at f1
    rw [flush_calm (calm_cl hc h.there.c)] at f2
    exact ⟨f1, f2⟩
/-! the power goes at the k-th call -/
end
/-! of four blocks the greatest -/
/-- it is r, or less -/
def Under (r : RSt) (o : Option RSt) : Prop := ∀ x, o = some x → x = r ∨ x.epoch < r.epoch
theorem under_none (r : RSt) : Under r none := fun _ h => by cases h
theorem under_self (r : RSt) : Under r (some r) := fun _ h => .inl (by injection h with h; exact h.symm)
theorem better_under {r out : RSt} {o : Option RSt} (h : out = r ∨ out.epoch < r.epoch) (ho : Under r o) : (better out o = r ∨ (better out o).epoch < r.epoch) ∧ (out = r → better out o = r) ∧ (o = some r → better out o = r) := by
  rcases o with _ | x
  · exact ⟨h, fun e => e, fun e => by cases e⟩
  · have hx := ho x rfl
    unfold better
    simp only
    split
    · rename_i hlt
      refine ⟨hx, fun e => ?_, fun e => by injection e⟩
      subst e
      rcases hx with rfl | hx
      · rfl
      · omega
    · rename_i hlt
      refine ⟨h, fun e => e, fun e => ?_⟩
      injection e with e
      subst e
      rcases h with rfl | h
      · rfl
      · omega
theorem newest_is {r : RSt} (h0 : 0 < r.epoch) {a b c d : Option RSt} (ha : Under r a) (hb : Under r b) (hc : Under r c) (hd : Under r d) (h : a = some r ∨ b = some r ∨ c = some r ∨ d = some r) : newestOf a b c d = r := by
  obtain ⟨k1, m1, z1⟩ := better_under (out := noRoot) (.inr h0) ha
  obtain ⟨k2, m2, z2⟩ := better_under k1 hb
  obtain ⟨k3, m3, z3⟩ := better_under k2 hc
  obtain ⟨k4, m4, z4⟩ := better_under k3 hd
  unfold newestOf
  rcases h with h | h | h | h
  · exact m4 (m3 (m2 (z1 h)))
  · exact m4 (m3 (z2 h))
  · exact m4 (z3 h)
  · exact z4 h
/-- the roots of the device's four blocks, by parity -/
theorem newest_four {p : Nat} (hp : p ≤ 1) {r : RSt} (h0 : 0 < r.epoch) {f : Nat → Option RSt} {H : Nat} (h1 : Under r (f p)) (h2 : Under r (f (p + H))) (h3 : Under r (f (1 - p))) (h4 : Under r (f (1 - p + H))) (h : f p = some r ∨ f (p + H) = some r ∨ f (1 - p) = some r ∨ f (1 - p + H) = some r) : newestOf (f 0) (f H) (f 1) (f (1 + H)) = r := by
  rcases (show p = 0 ∨ p = 1 by omega) with rfl | rfl
  · simp only [Nat.zero_add, Nat.sub_zero] at h1 h2 h3 h4 h
    exact newest_is h0 h1 h2 h3 h4 h
  · simp only [Nat.zero_add, Nat.sub_self] at h1 h2 h3 h4 h
    refine newest_is h0 h3 h4 h1 h2 ?_
    rcases h with h | h | h | h
    · exact .inr (.inr (.inl h))
    · exact .inr (.inr (.inr h))
    · exact .inl h
    · exact .inr (.inl h)
theorem copies_four {p : Nat} (hp : p ≤ 1) {r : RSt} (h0 : 0 < r.epoch) (he : r.epoch % 2 = (p : Int)) {f : Nat → Option RSt} {H : Nat} (h : newestOf (f 0) (f H) (f 1) (f (1 + H)) = r) : copiesOf (f 0) (f H) (f 1) (f (1 + H)) = has r (f p) + has r (f (p + H)) := by
  unfold copiesOf
  rw [h, if_neg (by omega)]
  rcases (show p = 0 ∨ p = 1 by omega) with rfl | rfl
  · rw [if_pos (by omega), Nat.zero_add]
  · rw [if_neg (by omega)]
theorem has_self (r : RSt) : has r (some r) = 1 := if_pos rfl
end Go.Proofs.YtkhdgacjgccnnaaGreatDoor
