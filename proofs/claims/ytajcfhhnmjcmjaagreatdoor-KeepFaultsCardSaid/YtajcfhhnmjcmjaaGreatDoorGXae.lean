/- Put together out of 4 texts. Two blocks of a device, a pair, behind each step; the chapter's example. -/
import Derived.Test.YtajcfhhnmjcmjaaGreatDoorGXad
namespace Go.Proofs.YtajcfhhnmjcmjaaGreatDoor
open Go.RowKit

/-- blocks i and j are a and c -/
structure At (s : DSt) (i j : Nat) (a c : BSt) : Prop where
  a : s.blks[i]? = some a
  c : s.blks[j]? = some c
/-- written and flushed -/
def cl (l : List Int) (e : Bool) : BSt := ⟨l, l, false, false, false, e⟩
theorem flush_write (b : BSt) (l : List Int) : (b.write l).flush = cl l b.ever := rfl
theorem read_write (b : BSt) (l : List Int) : (b.write l).read = (0, l) := rfl
theorem right_of {b : BSt} {l : List Int} (h : b.read = (0, l)) : b.right (crcOf (nats l)) = true := by unfold BSt.right; rw [h]; simp
section
variable {s : DSt} {n q i j H z : Nat} {a c : BSt} {l : List Int}
theorem At.new (hi : i < n) (hj : j < n) : At (DSt.new n) i j blank blank := ⟨new_at hi, new_at hj⟩
theorem At.write (h : At s i (i + H) a c) (hH : 0 < H) (l : List Int) : At (pWrite s H i l) i (i + H) (a.write l) (c.write l) := by
  unfold pWrite
  exact ⟨(put_else (by omega)).trans (put_at h.a), put_at ((put_else (by omega)).trans h.c)⟩
theorem At.fl (h : At s i j a c) : At (fl s) i j a.flush c.flush := ⟨fl_at h.a, fl_at h.c⟩
theorem At.put1 (h : At s i j a c) (hij : i ≠ j) (l : List Int) : At (s.put i l) i j (a.write l) c := ⟨put_at h.a, (put_else hij).trans h.c⟩
theorem pRead_one (u : Up s n q) (hi : i < n) (h : At s i (i + H) a c) (ha : a.right z = true) : pRead s H i z = (0, a.read.2, s, 0) := by
  unfold pRead
  rw [u.right hi h.a, if_pos ha, u.read hi h.a]
theorem pRead_two (u : Up s n q) (hi : i + H < n) (h : At s i (i + H) a c) (ha : a.right z = false) (hc : c.right z = true) : pRead s H i z = (0, c.read.2, s.put i c.read.2, 1) := by
  unfold pRead
  rw [u.right (by omega) h.a, if_neg (by rw [ha]; decide), u.right hi h.c, if_pos hc, u.read hi h.c]
end
section
variable {Real : World → Nat → DSt → (Nat → Prop) → Prop} {PR : World → Nat → Nat → Nat → Nat → (Nat → Prop) → Prop}
end
end Go.Proofs.YtajcfhhnmjcmjaaGreatDoor
namespace Go.Proofs.YtajcfhhnmjcmjaaGreatDoor
open Go.RowKit

section
variable {Real : World → Nat → DSt → (Nat → Prop) → Prop} {PR : World → Nat → Nat → Nat → Nat → (Nat → Prop) → Prop} {S : Nat → Addr} {w0 w w' : World} {d p n m q m' q' : Nat} {s s' : DSt} {ks : List Kd}
end
end Go.Proofs.YtajcfhhnmjcmjaaGreatDoor
namespace Go.Proofs.YtajcfhhnmjcmjaaGreatDoor
open Go.RowKit

/-- nothing pending -/
def Calm (s : DSt) : Prop := ∀ b, b ∈ s.blks → b.pend = false
theorem calm_fl (s : DSt) : Calm (fl s) := by
  intro b hb
  simp only [fl, List.mem_map] at hb
  obtain ⟨a, _, rfl⟩ := hb
  unfold BSt.flush
  split
  · rfl
  · rename_i h; simpa using h
section
variable {Real : World → Nat → DSt → (Nat → Prop) → Prop} {PR : World → Nat → Nat → Nat → Nat → (Nat → Prop) → Prop} {S : Nat → Addr} {w0 w w' : World} {d p n m q m' q' : Nat} {s s' : DSt} {ks : List Kd}
/-- another device, and pairs over it, that lie beside -/
def Kd.two (D : DevOk Real) (P : PairOk Real PR) (c z : Nat) (s : DSt) (n m : Nat) (F G : Nat → Prop) : Kd where
  C w := Real w c s F ∧ PR w z c n m G
  B k := F k ∨ G k
  keeps := fun ⟨h1, h2⟩ _ hk => ⟨D.kept h1 ⟨fun i hi => hk.1 i (.inl hi), hk.2⟩, P.kept h2 ⟨fun i hi => hk.1 i (.inr hi), hk.2⟩⟩
end
end Go.Proofs.YtajcfhhnmjcmjaaGreatDoor
namespace Go.Proofs.YtajcfhhnmjcmjaaGreatDoor

/-- a number's lowest bytes, the lowest first -/
def numB (k n : Nat) : List Int := (List.range k).map fun i => ((n / 256 ^ i % 256 : Nat) : Int)
theorem numB_len (k n : Nat) : (numB k n).length = k := by simp [numB]
theorem numB_succ (k n : Nat) : numB (k + 1) n = numB k n ++ [((n / 256 ^ k % 256 : Nat) : Int)] := by simp [numB, List.range_succ]
theorem numB_byt (k n : Nat) : Byt (numB k n) := by
  intro x hx
  simp only [numB, List.mem_map] at hx
  obtain ⟨i, _, rfl⟩ := hx
  have := Nat.mod_lt (n / 256 ^ i) (show 0 < 256 by omega)
  omega
/-- .. and back -/
def numOf : List Int → Nat
  | [] => 0
  | x :: l => x.toNat + 256 * numOf l
theorem numOf_snoc (l : List Int) (x : Int) : numOf (l ++ [x]) = numOf l + 256 ^ l.length * x.toNat := by
  induction l with
  | nil => simp [numOf]
  | cons y l ih =>
    simp only [List.cons_append, numOf, ih, List.length_cons, Nat.pow_succ]
    have : 256 * (256 ^ l.length * x.toNat) = 256 ^ l.length * 256 * x.toNat := by rw [Nat.mul_comm (256 ^ l.length) 256, Nat.mul_assoc]
    omega
theorem numOf_lt {l : List Int} (h : Byt l) : numOf l < 256 ^ l.length := by
  induction l with
  | nil => simp [numOf]
  | cons y l ih =>
    have hy := h y List.mem_cons_self
    have hl := ih fun x hx => h x (List.mem_cons_of_mem _ hx)
    simp only [numOf, List.length_cons, Nat.pow_succ]
    have : y.toNat ≤ 255 := by omega
    omega
theorem numOf_numB (k n : Nat) : numOf (numB k n) = n % 256 ^ k := by
  induction k with
  | zero => simp [numB, numOf, Nat.mod_one]
  | succ k ih => rw [numB_succ, numOf_snoc, ih, numB_len, Int.toNat_natCast, Nat.mod_pow_succ]
theorem numOf_zeros (k : Nat) : numOf (List.replicate k 0) = 0 := by
  induction k with
  | zero => rfl
  | succ k ih => rw [List.replicate_succ, numOf, ih]; rfl

/-- a root: how many commits, what it points to: places and sums -/
structure RSt where
  epoch : Int
  refs : List (Int × Nat)
theorem RSt.ext' {a b : RSt} (h1 : a.epoch = b.epoch) (h2 : a.refs = b.refs) : a = b := by
  cases a; cases b; simp_all
instance : DecidableEq RSt := fun a b => if h : a.epoch = b.epoch ∧ a.refs = b.refs then .isTrue (RSt.ext' h.1 h.2) else .isFalse fun e => h (by rw [e]; exact ⟨rfl, rfl⟩)
/-- a place that may not be -/
def badAddr (l : List (Int × Nat)) : Bool := l.any fun x => decide (x.1 < 0 ∨ 6000 < x.1)
/-- why there is no such root; 0: there is -/
def RSt.code (r : RSt) : Int := if r.epoch < 1 ∨ 1099511627776 < r.epoch then 103 else if badAddr r.refs = true then 103 else if 16 < r.refs.length then 104 else 0
/-- sums are sums -/
def Sums (l : List (Int × Nat)) : Prop := ∀ x, x ∈ l → x.2 < 4294967296
theorem Sums.at_ {l : List (Int × Nat)} (h : Sums l) {k : Nat} {x : Int × Nat} (hx : l[k]? = some x) : x.2 < 4294967296 := h x (List.mem_of_getElem? hx)
theorem RSt.fine {r : RSt} (h : r.code = 0) : 1 ≤ r.epoch ∧ r.epoch ≤ 1099511627776 ∧ (∀ x, x ∈ r.refs → 0 ≤ x.1 ∧ x.1 ≤ 6000) ∧ r.refs.length ≤ 16 := by
  unfold RSt.code at h
  split at h
  · cases h
  · split at h
    · cases h
    · split at h
      · cases h
      · rename_i h1 h2 h3
        refine ⟨by omega, by omega, fun x hx => ?_, by omega⟩
        simp only [badAddr, Bool.not_eq_true, List.any_eq_false, decide_eq_true_eq] at h2
        have := h2 x hx
        omega
theorem RSt.fine_iff {r : RSt} (h0 : 1 ≤ r.epoch) (h1 : r.epoch ≤ 1099511627776) (h2 : ∀ x, x ∈ r.refs → 0 ≤ x.1 ∧ x.1 ≤ 6000) (h3 : r.refs.length ≤ 16) : r.code = 0 := by
  unfold RSt.code
  rw [if_neg (by omega), if_neg, if_neg (by omega)]
  simp only [badAddr, Bool.not_eq_true, List.any_eq_false, decide_eq_true_eq]
  intro x hx
  have := h2 x hx
  omega
def refB (x : Int × Nat) : List Int := numB 2 x.1.toNat ++ numB 4 x.2
theorem refB_len (x : Int × Nat) : (refB x).length = 6 := by simp [refB, numB_len]
def refsB (l : List (Int × Nat)) : List Int := l.flatMap refB
theorem refsB_len (l : List (Int × Nat)) : (refsB l).length = 6 * l.length := by
  induction l with
  | nil => rfl
  | cons x l ih => simp only [refsB, List.flatMap_cons, List.length_append, List.length_cons] at ih ⊢; rw [ih, refB_len]; omega
theorem refsB_drop (l : List (Int × Nat)) (i : Nat) : (refsB l).drop (6 * i) = refsB (l.drop i) := by
  induction i generalizing l with
  | zero => simp
  | succ i ih =>
    rcases l with _ | ⟨x, l⟩
    · simp [refsB]
    · have e : 6 * (i + 1) = (refB x).length + 6 * i := by rw [refB_len]; omega
      have e2 : refsB (x :: l) = refB x ++ refsB l := by simp [refsB]
      rw [e2, e, List.drop_length_add_append, ih, List.drop_succ_cons]
theorem refsB_snoc (l : List (Int × Nat)) (x : Int × Nat) : refsB (l ++ [x]) = refsB l ++ refB x := by simp [refsB]
theorem refsB_byt (l : List (Int × Nat)) : Byt (refsB l) := by
  intro x hx
  simp only [refsB, List.mem_flatMap] at hx
  obtain ⟨y, _, hy⟩ := hx
  exact ((numB_byt 2 _).append (numB_byt 4 _)) x hy
/-- a root, laid once -/
def laidB (r : RSt) : List Int := numB 6 r.epoch.toNat ++ (numB 1 r.refs.length ++ refsB r.refs)
theorem laidB_len (r : RSt) : (laidB r).length = 7 + 6 * r.refs.length := by
  simp only [laidB, List.length_append, numB_len, refsB_len]; omega
theorem laidB_byt (r : RSt) : Byt (laidB r) := (numB_byt _ _).append ((numB_byt _ _).append (refsB_byt _))
def halfB (r : RSt) : List Int := laidB r ++ List.replicate (128 - (laidB r).length) 0
theorem halfB_len {r : RSt} (h : r.refs.length ≤ 16) : (halfB r).length = 128 := by
  have := laidB_len r
  simp only [halfB, List.length_append, List.length_replicate]; omega
theorem halfB_byt (r : RSt) : Byt (halfB r) := (laidB_byt r).append fun x hx => by rw [List.eq_of_mem_replicate hx]; omega
/-- a root, as a block has it -/
def bytesOf (r : RSt) : List Int := halfB r ++ halfB r
theorem bytesOf_len {r : RSt} (h : r.refs.length ≤ 16) : (bytesOf r).length = 256 := by
  rw [bytesOf, List.length_append, halfB_len h]
theorem bytesOf_byt (r : RSt) : Byt (bytesOf r) := (halfB_byt r).append (halfB_byt r)
theorem bytesOf_twice {r : RSt} (h : r.refs.length ≤ 16) {j : Nat} (hj : j < 128) : (bytesOf r)[j]? = (bytesOf r)[j + 128]? := by
  have hl := halfB_len h
  rw [bytesOf, List.getElem?_append_left (by omega), List.getElem?_append_right (by omega), hl, Nat.add_sub_cancel]
/-- what was laid at a block's beginning -/
def toldRef (b : List Int) (i : Nat) : Int × Nat := (((numOf ((b.drop (7 + 6 * i)).take 2) : Nat) : Int), numOf ((b.drop (9 + 6 * i)).take 4))
def toldN (b : List Int) : Nat := min (numOf ((b.drop 6).take 1)) 16
def told (b : List Int) : RSt := ⟨((numOf (b.take 6) : Nat) : Int), (List.range (toldN b)).map (toldRef b)⟩
theorem told_sums {b : List Int} (h : Byt b) : Sums (told b).refs := by
  intro x hx
  simp only [told, List.mem_map] at hx
  obtain ⟨i, _, rfl⟩ := hx
  have h1 := numOf_lt ((h.drop (9 + 6 * i)).take 4)
  have h2 : ((b.drop (9 + 6 * i)).take 4).length ≤ 4 := by rw [List.length_take]; omega
  have h3 : (256 : Nat) ^ ((b.drop (9 + 6 * i)).take 4).length ≤ 256 ^ 4 := Nat.pow_le_pow_right (by omega) h2
  have h4 : (256 : Nat) ^ 4 = 4294967296 := by decide
  show numOf ((b.drop (9 + 6 * i)).take 4) < 4294967296
  omega
theorem told_bytes {r : RSt} (h : r.code = 0) (hs : Sums r.refs) : told (bytesOf r) = r := by
  obtain ⟨h0, h1, h2, h3⟩ := r.fine h
  obtain ⟨rest, hrest⟩ : ∃ rest, bytesOf r = numB 6 r.epoch.toNat ++ (numB 1 r.refs.length ++ (refsB r.refs ++ rest)) := ⟨_, by simp only [bytesOf, halfB, laidB, List.append_assoc]; rfl⟩
  have e6 : (bytesOf r).take 6 = numB 6 r.epoch.toNat := by rw [hrest, List.take_left' (numB_len _ _)]
  have d6 : (bytesOf r).drop 6 = numB 1 r.refs.length ++ (refsB r.refs ++ rest) := by rw [hrest, List.drop_left' (numB_len _ _)]
  have e1 : ((bytesOf r).drop 6).take 1 = numB 1 r.refs.length := by rw [d6, List.take_left' (numB_len _ _)]
  have d7 : (bytesOf r).drop 7 = refsB r.refs ++ rest := by
    have : (bytesOf r).drop 7 = ((bytesOf r).drop 6).drop 1 := by rw [List.drop_drop]
    rw [this, d6, List.drop_left' (numB_len _ _)]
  have n0 : numOf ((bytesOf r).take 6) = r.epoch.toNat := by
    rw [e6, numOf_numB]
    have : (256 : Nat) ^ 6 = 281474976710656 := by decide
    rw [Nat.mod_eq_of_lt (by omega)]
  have n1 : toldN (bytesOf r) = r.refs.length := by
    unfold toldN
    rw [e1, numOf_numB, Nat.pow_one, Nat.mod_eq_of_lt (by omega)]
    omega
  refine RSt.ext' (by show ((numOf _ : Nat) : Int) = _; rw [n0]; omega) ?_
  show (List.range (toldN (bytesOf r))).map _ = _
  rw [n1]
  apply List.ext_getElem?
  intro i
  rw [List.getElem?_map]
  by_cases hi : i < r.refs.length
  · obtain ⟨x, hx⟩ : ∃ x, r.refs[i]? = some x := ⟨_, List.getElem?_eq_getElem hi⟩
    rw [List.getElem?_range hi, hx]
    have dx : (bytesOf r).drop (7 + 6 * i) = refB x ++ (refsB (r.refs.drop (i + 1)) ++ rest) := by
      have : (bytesOf r).drop (7 + 6 * i) = ((bytesOf r).drop 7).drop (6 * i) := by rw [List.drop_drop]
      have hl := refsB_len r.refs
      have e2 : ∀ (a : Int × Nat) l, refsB (a :: l) = refB a ++ refsB l := fun a l => by simp [refsB]
      have hd : r.refs.drop i = x :: r.refs.drop (i + 1) := by
        obtain ⟨hk, rfl⟩ := List.getElem?_eq_some_iff.1 hx
        exact List.drop_eq_getElem_cons hk
      rw [this, d7, List.drop_append_of_le_length (by omega), refsB_drop, hd, e2, List.append_assoc]
    have d2 : (bytesOf r).drop (9 + 6 * i) = numB 4 x.2 ++ (refsB (r.refs.drop (i + 1)) ++ rest) := by
      have : (bytesOf r).drop (9 + 6 * i) = ((bytesOf r).drop (7 + 6 * i)).drop 2 := by rw [List.drop_drop]; congr 1; omega
      rw [this, dx, refB, List.append_assoc, List.drop_left' (numB_len _ _)]
    have hv := h2 x (List.mem_of_getElem? hx)
    have hz := hs.at_ hx
    show some (toldRef (bytesOf r) i) = some x
    unfold toldRef
    rw [d2, List.take_left' (numB_len _ _), dx, refB, List.append_assoc, List.take_left' (numB_len _ _), numOf_numB, numOf_numB]
    have p2 : (256 : Nat) ^ 2 = 65536 := by decide
    have p4 : (256 : Nat) ^ 4 = 4294967296 := by decide
    rw [Nat.mod_eq_of_lt (by omega), Nat.mod_eq_of_lt (by omega)]
    congr 1
    exact Prod.ext (by show ((x.1.toNat : Nat) : Int) = x.1; omega) rfl
  · rw [List.getElem?_eq_none (by simpa using hi), List.getElem?_eq_none (by omega)]; rfl

/-- the root that bytes are -/
def readR (b : List Int) : Option RSt := if b.length = 256 ∧ (told b).code = 0 ∧ bytesOf (told b) = b then some (told b) else none
theorem readR_bytes {r : RSt} (h : r.code = 0) (hs : Sums r.refs) : readR (bytesOf r) = some r := by
  have e := told_bytes h hs
  unfold readR
  rw [e, if_pos ⟨bytesOf_len (r.fine h).2.2.2, h, rfl⟩]
theorem readR_inv {b : List Int} {r : RSt} (h : readR b = some r) : b.length = 256 ∧ r.code = 0 ∧ bytesOf r = b ∧ told b = r := by
  unfold readR at h
  split at h
  · rename_i h1
    injection h with h
    subst h
    exact ⟨h1.1, h1.2.1, h1.2.2, rfl⟩
  · cases h
theorem readR_short {b : List Int} (h : b.length ≠ 256) : readR b = none := by
  unfold readR; rw [if_neg fun h1 => h h1.1]
theorem readR_zeros : readR (List.replicate 256 0) = none := by
  unfold readR
  rw [if_neg]
  rintro ⟨_, h, _⟩
  have e : (told (List.replicate 256 0)).epoch = 0 := by
    show ((numOf ((List.replicate 256 (0 : Int)).take 6) : Nat) : Int) = 0
    rw [List.take_replicate, numOf_zeros]; rfl
  have := (RSt.fine h).1
  omega
/-- of two roots the one of the greater Epoch -/
def better (out : RSt) (o : Option RSt) : RSt := match o with
  | some r => if out.epoch < r.epoch then r else out
  | none => out
def noRoot : RSt := ⟨0, []⟩
/-- of four blocks -/
def newestOf (a b c d : Option RSt) : RSt := better (better (better (better noRoot a) b) c) d
/-- how many have it -/
def has (r : RSt) (o : Option RSt) : Nat := if o = some r then 1 else 0
def copiesOf (a b c d : Option RSt) : Nat :=
  if (newestOf a b c d).epoch = 0 then 0 else if (newestOf a b c d).epoch % 2 = 0 then has (newestOf a b c d) a + has (newestOf a b c d) b else has (newestOf a b c d) c + has (newestOf a b c d) d
/-- what block i is, if it can be read and is one -/
def DSt.root (s : DSt) (i : Nat) : Option RSt := readR (s.read (i : Int)).2
/-- Save: the error's number, the device -/
def saveR (s : DSt) (H : Nat) (r : RSt) : Int × DSt :=
  if r.code ≠ 0 then (r.code, s) else
  if (s.write (r.epoch % 2) (bytesOf r)).1 ≠ 0 then s.write (r.epoch % 2) (bytesOf r) else
  if ((s.write (r.epoch % 2) (bytesOf r)).2.write (r.epoch % 2 + H) (bytesOf r)).1 ≠ 0 then (s.write (r.epoch % 2) (bytesOf r)).2.write (r.epoch % 2 + H) (bytesOf r) else
  ((s.write (r.epoch % 2) (bytesOf r)).2.write (r.epoch % 2 + H) (bytesOf r)).2.flush
end Go.Proofs.YtajcfhhnmjcmjaaGreatDoor
