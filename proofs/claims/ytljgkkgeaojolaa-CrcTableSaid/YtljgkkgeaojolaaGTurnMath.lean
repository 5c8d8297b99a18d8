/- Plain facts on bytes of which four in a row were turned, without any program. -/
import Derived.Test.YtljgkkgeaojolaaGCrcMath
namespace Go.Proofs.Ytljgkkgeaojolaa
open Go.RowKit

def nats (l : List Int) : List Nat := l.map Int.toNat
theorem nats_len (l : List Int) : (nats l).length = l.length := by simp [nats]
theorem nats_bts {l : List Int} (h : Byt l) : Bts (nats l) := by
  intro x hx
  simp only [nats, List.mem_map] at hx
  obtain ⟨y, hy, rfl⟩ := hx
  have := h y hy
  omega
theorem nats_append (l m : List Int) : nats (l ++ m) = nats l ++ nats m := by simp [nats]
theorem nats_take (l : List Int) (k : Nat) : nats (l.take k) = (nats l).take k := by simp [nats]
theorem nats_drop (l : List Int) (k : Nat) : nats (l.drop k) = (nats l).drop k := by simp [nats]
theorem nats_get {l : List Int} {k : Nat} : (nats l)[k]? = (l[k]?).map Int.toNat := by simp [nats]
theorem nats_inj {l m : List Int} (hl : Byt l) (hm : Byt m) (h : nats l = nats m) : l = m := by
  have hlen : l.length = m.length := by rw [← nats_len l, h, nats_len]
  apply List.ext_getElem hlen
  intro i h1 h2
  have e : (nats l)[i]? = (nats m)[i]? := by rw [h]
  rw [nats_get, nats_get, List.getElem?_eq_getElem h1, List.getElem?_eq_getElem h2] at e
  simp at e
  have := hl _ (List.getElem_mem h1)
  have := hm _ (List.getElem_mem h2)
  omega

/-- the i-th byte of a word, the lowest first -/
def byteOf (b i : Nat) : Nat := b / 256 ^ i % 256
theorem byteOf_lt (b i : Nat) : byteOf b i < 256 := Nat.mod_lt _ (by omega)
/-- the first k bytes from p on are turned by b -/
def turns (l : List Int) (p b k : Nat) : List Int := l.mapIdx fun j x => if p ≤ j ∧ j < p + k then ((x.toNat ^^^ byteOf b (j - p) : Nat) : Int) else x
theorem turns_len (l : List Int) (p b k : Nat) : (turns l p b k).length = l.length := by simp [turns]
theorem turns_get (l : List Int) (p b k j : Nat) : (turns l p b k)[j]? = (l[j]?).map fun x => if p ≤ j ∧ j < p + k then ((x.toNat ^^^ byteOf b (j - p) : Nat) : Int) else x := by
  unfold turns
  rw [List.getElem?_mapIdx]
theorem turns_zero (l : List Int) (p b : Nat) : turns l p b 0 = l := by
  apply List.ext_getElem?
  intro j
  rw [turns_get]
  rcases l[j]? with _ | x
  · rfl
  · simp; omega
theorem turns_far {l : List Int} {p k : Nat} (b : Nat) (h : l.length ≤ p + k) {n : Nat} (hn : k ≤ n) : turns l p b k = turns l p b n := by
  apply List.ext_getElem?
  intro j
  rw [turns_get, turns_get]
  by_cases hj : j < l.length
  · rw [List.getElem?_eq_getElem hj]
    simp only [Option.map_some, Option.some.injEq]
    by_cases hp : p ≤ j
    · rw [if_pos ⟨hp, by omega⟩, if_pos ⟨hp, by omega⟩]
    · rw [if_neg (by omega), if_neg (by omega)]
  · rw [List.getElem?_eq_none (by omega)]; rfl
theorem turns_here {l : List Int} {p k : Nat} {x : Int} (b : Nat) (hx : l[p + k]? = some x) : (turns l p b k)[p + k]? = some x := by
  rw [turns_get, hx]
  simp
theorem turns_step {l : List Int} {p k : Nat} {x : Int} (b : Nat) (hx : l[p + k]? = some x) : (turns l p b k).set (p + k) ((x.toNat ^^^ byteOf b k : Nat) : Int) = turns l p b (k + 1) := by
  apply List.ext_getElem?
  intro j
  rw [List.getElem?_set, turns_get, turns_get]
  have hl : p + k < l.length := (List.getElem?_eq_some_iff.1 hx).1
  by_cases hj : p + k = j
  · subst hj
    rw [if_pos rfl, if_pos (by rw [turns_len]; exact hl), hx]
    simp
  · rw [if_neg hj]
    rcases l[j]? with _ | y
    · rfl
    · simp only [Option.map_some, Option.some.injEq]
      by_cases hp : p ≤ j ∧ j < p + k
      · rw [if_pos hp, if_pos (by omega)]
      · rw [if_neg hp, if_neg (by omega)]
theorem turns_byt {l : List Int} (h : Byt l) (p b k : Nat) : Byt (turns l p b k) := by
  intro y hy
  obtain ⟨j, hj⟩ := List.getElem?_of_mem hy
  rw [turns_get] at hj
  rcases hx : l[j]? with _ | x
  · rw [hx] at hj; cases hj
  · rw [hx] at hj
    simp only [Option.map_some, Option.some.injEq] at hj
    have hb := h.at_ hx
    split at hj
    · have := lt_bytes (a := x.toNat) (b := byteOf b (j - p)) (by omega) (byteOf_lt _ _)
      omega
    · omega
/-- of an at below 0 none -/
def turned (l : List Int) (at' : Int) (b : Nat) : List Int := if at' < 0 then l else turns l at'.toNat b 4
theorem turned_len (l : List Int) (at' : Int) (b : Nat) : (turned l at' b).length = l.length := by
  unfold turned
  split
  · rfl
  · exact turns_len _ _ _ _
theorem turned_byt {l : List Int} (h : Byt l) (at' : Int) (b : Nat) : Byt (turned l at' b) := by
  unfold turned
  split
  · exact h
  · exact turns_byt h _ _ _
theorem turns_twice {l : List Int} (h : Byt l) (p b k : Nat) : turns (turns l p b k) p b k = l := by
  apply List.ext_getElem?
  intro j
  rw [turns_get, turns_get]
  rcases hx : l[j]? with _ | x
  · rfl
  · have hb := h.at_ hx
    simp only [Option.map_some, Option.some.injEq]
    split
    · simp only [Int.toNat_natCast, Nat.xor_assoc, Nat.xor_self, Nat.xor_zero]
      omega
    · rfl
theorem turned_twice {l : List Int} (h : Byt l) (at' : Int) (b : Nat) : turned (turned l at' b) at' b = l := by
  unfold turned
  split
  · rfl
  · exact turns_twice h _ _ _
theorem split3 (l : List Nat) (p k : Nat) : l = l.take p ++ (l.drop p).take k ++ l.drop (p + k) := by
  rw [List.append_assoc, ← List.drop_drop, List.take_append_drop, List.take_append_drop]
/-- turned bytes have another sum -/
theorem turns_tell {l : List Int} (h : Byt l) (p b : Nat) (he : crcOf (nats (turns l p b 4)) = crcOf (nats l)) : turns l p b 4 = l := by
  have ht := turns_byt h p b 4
  have e1 : (nats (turns l p b 4)).take p = (nats l).take p := by
    rw [← nats_take, ← nats_take]
    congr 1
    apply List.ext_getElem?
    intro j
    rw [List.getElem?_take, List.getElem?_take]
    split
    · rw [turns_get]
      rcases l[j]? with _ | x
      · rfl
      · simp only [Option.map_some, Option.some.injEq]
        rw [if_neg (by omega)]
    · rfl
  have e2 : (nats (turns l p b 4)).drop (p + 4) = (nats l).drop (p + 4) := by
    rw [← nats_drop, ← nats_drop]
    congr 1
    apply List.ext_getElem?
    intro j
    rw [List.getElem?_drop, List.getElem?_drop, turns_get]
    rcases l[p + 4 + j]? with _ | x
    · rfl
    · simp only [Option.map_some, Option.some.injEq]
      rw [if_neg (by omega)]
  apply nats_inj ht h
  rw [split3 (nats (turns l p b 4)) p 4, split3 (nats l) p 4, e1, e2] at he
  have hB := nats_bts h
  have hT := nats_bts ht
  have hd : ∀ {m : List Nat} (k j : Nat), Bts m → Bts ((m.drop k).take j) := fun k j hm x hx => hm x (List.mem_of_mem_drop (List.mem_of_mem_take hx))
  have := crc_tells (fun x hx => hB x (List.mem_of_mem_take hx)) (hd p 4 hT) (hd p 4 hB) (fun x hx => hB x (List.mem_of_mem_drop hx)) (by rw [List.length_take, List.length_take, List.length_drop, List.length_drop, nats_len, nats_len, turns_len]) (by rw [List.length_take]; omega) he
  rw [split3 (nats (turns l p b 4)) p 4, split3 (nats l) p 4, e1, e2, this]
theorem turned_tell {l : List Int} (h : Byt l) (at' : Int) (b : Nat) (he : crcOf (nats (turned l at' b)) = crcOf (nats l)) : turned l at' b = l := by
  unfold turned at he ⊢
  split
  · rfl
  · rw [if_neg ‹_›] at he
    exact turns_tell h _ _ he
theorem xors_get {l m : List Nat} (h : l.length = m.length) (j : Nat) : (xors l m)[j]? = (l[j]?).bind fun a => (m[j]?).map fun b => a ^^^ b := by
  induction l generalizing m j with
  | nil => cases m <;> simp [xors]
  | cons a l ih =>
    cases m with
    | nil => simp at h
    | cons b m =>
      cases j with
      | zero => simp [xors]
      | succ j => simpa [xors] using ih (by simpa using h) j
/-- what turns bytes into the turned ones is what turns nothing into nothing turned -/
theorem turned_xors {l : List Int} (h : Byt l) (at' : Int) (b : Nat) : xors (nats l) (nats (turned l at' b)) = xors (nats (turned (List.replicate l.length 0) at' b)) (nats (List.replicate l.length 0)) := by
  apply List.ext_getElem?
  intro j
  rw [xors_get (by rw [nats_len, nats_len, turned_len]), xors_get (by rw [nats_len, nats_len, turned_len]), nats_get, nats_get, nats_get, nats_get]
  unfold turned
  by_cases hj : j < l.length
  · have e1 : l[j]? = some l[j] := List.getElem?_eq_getElem hj
    have e2 : (List.replicate l.length (0 : Int))[j]? = some 0 := by rw [List.getElem?_replicate, if_pos hj]
    have hb := h.at_ e1
    split
    · rw [e1, e2]; simp
    · rw [turns_get, turns_get, e1, e2]
      simp only [Option.map_some, Option.bind_some, Option.some.injEq]
      split
      · simp [← Nat.xor_assoc]
      · simp
  · have e1 : l[j]? = none := List.getElem?_eq_none (by omega)
    have e2 : (List.replicate l.length (0 : Int))[j]? = none := List.getElem?_eq_none (by rw [List.length_replicate]; omega)
    split
    · rw [e1, e2]
    · rw [turns_get, turns_get, e1, e2]; rfl
end Go.Proofs.Ytljgkkgeaojolaa
