/- Words for memory: numbers, slices, blocks, what a call may turn. -/
import Derived.WalkKit
import Derived.Laws.BitsAllLaws
import Derived.Deep.AppendLies
import Derived.Deep.Draws
import Derived.Lib.AppendStr
import Derived.Laws.BytesArg
import Derived.Laws.AppendOwnNone
import Derived.Test.YtklplmldhhlgiaaDoorChecked
import Derived.WalkSpells
import Derived.WalkLawsBesides
namespace Go.Proofs.YtklplmldhhlgiaaDoor
open Go.RowKit

def Byt (l : List Int) : Prop := ∀ x, x ∈ l → 0 ≤ x ∧ x ≤ 255
theorem Byt.at_ {l : List Int} (h : Byt l) {k : Nat} {x : Int} (hx : l[k]? = some x) : 0 ≤ x ∧ x ≤ 255 := h x (List.mem_of_getElem? hx)
theorem Byt.append {l m : List Int} (h : Byt l) (h' : Byt m) : Byt (l ++ m) := fun x hx => by
  rcases List.mem_append.1 hx with hx | hx
  · exact h x hx
  · exact h' x hx
theorem Byt.drop {l : List Int} (h : Byt l) (k : Nat) : Byt (l.drop k) := fun x hx => h x (List.mem_of_mem_drop hx)
theorem Byt.take {l : List Int} (h : Byt l) (k : Nat) : Byt (l.take k) := fun x hx => h x (List.mem_of_mem_take hx)
theorem Byt.nil : Byt [] := fun x hx => by cases hx
/- what the walk writes for Go's bits -/
theorem not_i64 (n : Int) (h0 : -9223372036854775808 ≤ n) (h1 : n ≤ 9223372036854775807) : bits .xor .i64 (-1) n = -1 - n := by
  show IntKind.i64.wrap ((BitVec.ofInt 64 (-1) ^^^ BitVec.ofInt 64 n).toNat : Int) = _
  have e : BitVec.ofInt 64 (-1) = BitVec.allOnes 64 := by decide
  rw [e, BitVec.allOnes_xor, BitVec.toNat_not, BitVec.toNat_ofInt, IntKind.wrap_i64]
  simp
  omega
theorem not_u64' (n : Int) (h0 : 0 ≤ n) (h1 : n ≤ 18446744073709551615) : bits .xor .u64 IntKind.u64.max n = 18446744073709551615 - n := by
  show IntKind.u64.wrap ((BitVec.ofInt 64 IntKind.u64.max ^^^ BitVec.ofInt 64 n).toNat : Int) = _
  have e : BitVec.ofInt 64 IntKind.u64.max = BitVec.allOnes 64 := by decide
  rw [e, BitVec.allOnes_xor, BitVec.toNat_not, BitVec.toNat_ofInt, IntKind.wrap_u64]
  simp
  omega
theorem of_u64 (a : Nat) (ha : a < 18446744073709551616) : (BitVec.ofInt 64 (a : Int)).toNat = a := by
  rw [BitVec.ofInt_natCast, BitVec.toNat_ofNat]; exact Nat.mod_eq_of_lt (by omega)
theorem and127 (a : Nat) (ha : a < 18446744073709551616) : bits .and .u64 (a : Int) 127 = ((a % 128 : Nat) : Int) := by
  show IntKind.u64.wrap ((BitVec.ofInt 64 (a : Int) &&& BitVec.ofInt 64 ((127 : Nat) : Int)).toNat : Int) = _
  rw [BitVec.toNat_and, of_u64 a ha, of_u64 127 (by omega), IntKind.wrap_u64, Nat.and_two_pow_sub_one_eq_mod a 7]
  omega
theorem or128 (a : Nat) (ha : a < 128) : bits .or .u64 (a : Int) 128 = ((a + 128 : Nat) : Int) := by
  show IntKind.u64.wrap ((BitVec.ofInt 64 (a : Int) ||| BitVec.ofInt 64 ((128 : Nat) : Int)).toNat : Int) = _
  rw [BitVec.toNat_or, of_u64 a (by omega), of_u64 128 (by omega), IntKind.wrap_u64]
  have : a ||| 128 = 128 + a := by
    rw [Nat.or_comm]
    exact (Nat.two_pow_add_eq_or_of_lt (i := 7) ha 1).symm
  rw [this]; omega
theorem or_up (u c k : Nat) (hu : u < 128 ^ k) (hc : u + c * 128 ^ k < 18446744073709551616) : bits .or .u64 (u : Int) ((c * 128 ^ k : Nat) : Int) = ((u + c * 128 ^ k : Nat) : Int) := by
  show IntKind.u64.wrap ((BitVec.ofInt 64 (u : Int) ||| BitVec.ofInt 64 ((c * 128 ^ k : Nat) : Int)).toNat : Int) = _
  rw [BitVec.toNat_or, of_u64 u (by omega), of_u64 _ (by omega), IntKind.wrap_u64]
  have e : (128 : Nat) ^ k = 2 ^ (7 * k) := by rw [Nat.pow_mul]
  have : u ||| c * 128 ^ k = c * 128 ^ k + u := by
    rw [Nat.or_comm, e, Nat.mul_comm c]
    exact (Nat.two_pow_add_eq_or_of_lt (by rw [← e]; exact hu) c).symm
  rw [this]; omega

/-- each is an int64 -/
def Wide (l : List Int) : Prop := ∀ x, x ∈ l → -9223372036854775808 ≤ x ∧ x ≤ 9223372036854775807
theorem Wide.at_ {l : List Int} (h : Wide l) {k : Nat} {x : Int} (hx : l[k]? = some x) : -9223372036854775808 ≤ x ∧ x ≤ 9223372036854775807 := h x (List.mem_of_getElem? hx)
theorem emod_pos (n b : Int) (hb : 0 < b) (h : 0 ≤ n.tmod b) : n % b = n.tmod b := by
  have h1 := Int.mul_tdiv_add_tmod n b
  have h2 : n.tmod b < b := Int.tmod_lt_of_pos n hb
  have h3 : (n.tmod b + b * n.tdiv b) % b = n.tmod b % b := Int.add_mul_emod_self_left _ _ _
  rw [Int.emod_eq_of_lt h h2] at h3
  rw [← h3]
  congr 1
  omega
theorem emod_neg (n b : Int) (hb : 0 < b) (h : n.tmod b < 0) : n % b = n.tmod b + b := by
  have h1 := Int.mul_tdiv_add_tmod n b
  have h2 : -b < n.tmod b := Int.lt_tmod_of_pos n hb
  have h3 : (n.tmod b + b + b * (n.tdiv b - 1)) % b = (n.tmod b + b) % b := Int.add_mul_emod_self_left _ _ _
  rw [Int.emod_eq_of_lt (a := n.tmod b + b) (by omega) (by omega)] at h3
  rw [← h3]
  congr 1
  rw [Int.mul_sub, Int.mul_one]
  omega

/-- a copy, byte by byte -/
theorem take_next {l : List Int} {k : Nat} {x : Int} (h : l[k]? = some x) : l.take (k + 1) = l.take k ++ [x] := by rw [List.take_add_one, h]; rfl

theorem drop_at {l : List Int} {k : Nat} {x : Int} (h : l[k]? = some x) : l.drop k = x :: l.drop (k + 1) := by
  obtain ⟨hk, rfl⟩ := List.getElem?_eq_some_iff.1 h
  exact List.drop_eq_getElem_cons hk

theorem or128_u8 (c : Nat) (h : c < 128) : bits .or .u8 (c : Int) 128 = ((c + 128 : Nat) : Int) := by
  have e : ∀ c : Fin 128, bits .or .u8 ((c.val : Nat) : Int) 128 = ((c.val + 128 : Nat) : Int) := by decide
  exact e ⟨c, h⟩
end Go.Proofs.YtklplmldhhlgiaaDoor
namespace Go.Proofs.YtklplmldhhlgiaaDoor
open Go.RowKit

theorem hid {p : Prop} (h : p) : Hid p := h
def I (l : List Int) : List Value := l.map (Value.int .u8)
theorem I_len (l : List Int) : (I l).length = l.length := by simp [I]
theorem I_append (l m : List Int) : I (l ++ m) = I l ++ I m := by simp [I]
theorem I_get {l : List Int} {j : Nat} {x : Int} (h : l[j]? = some x) : (I l)[j]? = some (.int .u8 x) := by simp [I, h]
theorem I_get' {l : List Int} {j : Nat} {u : Value} (h : (I l)[j]? = some u) : ∃ x, l[j]? = some x ∧ u = .int .u8 x := by
  simp only [I, List.getElem?_map, Option.map_eq_some_iff] at h
  obtain ⟨x, hx, rfl⟩ := h
  exact ⟨x, hx, rfl⟩
theorem I_one {l : List Int} : ∀ u ∈ I l, u.oneCell' = true := ints_oneCell _ _
theorem add_block (a : Addr) (n : Nat) : (a.add n).block = a.block := by unfold Addr.add; split <;> rfl
theorem add_add' (a : Addr) (i j : Nat) : (a.add i).add j = a.add (i + j) := by
  unfold Addr.add
  by_cases hi : i = 0 <;> by_cases hj : j = 0 <;> simp [hi, hj, Nat.add_assoc]
/-- the slice '.slice A n c' reads as the bytes l, all below block B -/
structure Sl (w : World) (B : Nat) (A : Option Addr) (n c : Nat) (l : List Int) : Prop where
  len : l.length = n
  cap : n ≤ c
  max : c ≤ maxLen
  nil : A = none → c = 0
  at_ : ∀ ad, A = some ad → 0 < n → ad.block < B ∧ ∀ j x, l[j]? = some x → w.cell? (ad.add j) = some (.int .u8 x)
section
variable {w w' : World} {B B' n c : Nat} {A : Option Addr} {l : List Int}
theorem Sl.get {k : Nat} (h : Sl w B A n c l) (hk : k < n) : ∃ ad x, A = some ad ∧ ad.block < B ∧ l[k]? = some x ∧ w.cell? (ad.add k) = some (.int .u8 x) := by
  rcases A with _ | ad
  · have := h.nil rfl; have := h.cap; omega
  · have hl := h.len
    obtain ⟨hb, hc⟩ := h.at_ ad rfl (by omega)
    have hx : l[k]? = some (l[k]'(by omega)) := List.getElem?_eq_getElem (by omega)
    exact ⟨ad, _, rfl, hb, hx, hc k _ hx⟩
end
section
variable {w w' : World} {B B' n c : Nat} {A : Option Addr} {l : List Int}
theorem Sl.keep (h : Sl w B A n c l) (hk : ∀ p : Addr, p.block < B → w'.cell? p = w.cell? p) : Sl w' B A n c l :=
  ⟨h.len, h.cap, h.max, h.nil, fun ad ha hn => ⟨(h.at_ ad ha hn).1, fun j x hx => (hk _ (by rw [add_block]; exact (h.at_ ad ha hn).1)).trans ((h.at_ ad ha hn).2 j x hx)⟩⟩
end
section
variable {w w' : World} {B B' n c : Nat} {A : Option Addr} {l : List Int}
theorem Sl.more (h : Sl w B A n c l) (hB : B ≤ B') : Sl w B' A n c l :=
  ⟨h.len, h.cap, h.max, h.nil, fun ad ha hn => ⟨Nat.lt_of_lt_of_le (h.at_ ad ha hn).1 hB, (h.at_ ad ha hn).2⟩⟩
end
section
variable {w w' : World} {B B' n c : Nat} {A : Option Addr} {l : List Int}
theorem Sl.below (h : Sl w B A n c l) (hb : Below B w w') : Sl w' B A n c l := h.keep fun _ hp => hb.cell hp
end
section
variable {w w' : World} {B B' n c : Nat} {A : Option Addr} {l : List Int}
theorem Sl.drew (h : Sl w B A n c l) : Sl w.drew B A n c l := h.keep fun _ _ => rfl
end
section
variable {w w' : World} {B B' n c : Nat} {A : Option Addr} {l : List Int}
theorem Sl.drewN (h : Sl w B A n c l) (k : Nat) : Sl (w.drewN k) B A n c l := h.keep fun _ _ => rfl
end
section
variable {w w' : World} {B B' n c : Nat} {A : Option Addr} {l : List Int}
theorem Sl.alloc (h : Sl w B A n c l) (hB : B ≤ w.heap.size) (o : Obj) : Sl (w.alloc o) B A n c l := h.keep fun p hp => World.cell?_alloc_lt w o p (by omega)
end
section
variable {w w' : World} {B B' n c : Nat} {A : Option Addr} {l : List Int}
theorem Sl.grown {row : Option Nat} (h : Sl w B A n c l) (hg : w.grownBy w' row) (hB : B ≤ w.heap.size) (hr : ∀ g, row = some g → B ≤ g) : Sl w' B A n c l :=
  h.keep fun p hp => World.cell?_of_block (hg.block p.block (by omega) (fun e => by have := hr _ e.symm; omega))
end
section
variable {w w' : World} {B B' n c : Nat} {A : Option Addr} {l : List Int}
/-- what stands behind the k-th place -/
theorem Sl.cut (h : Sl w B A n c l) {k : Nat} (hk : k ≤ n) : Sl w B (if c = k then A else A.map (·.add k)) (n - k) (c - k) (l.drop k) := by
  refine ⟨by rw [List.length_drop, h.len], by have := h.cap; omega, by have := h.max; omega, ?_, ?_⟩
  · intro hn
    split at hn
    · omega
    · rcases A with _ | ad
      · have := h.nil rfl; omega
      · cases hn
  · intro ad ha hn
    rw [if_neg (by have := h.cap; omega)] at ha
    rcases A with _ | a0
    · cases ha
    · obtain rfl : a0.add k = ad := by injection ha
      obtain ⟨hb, hcell⟩ := h.at_ a0 rfl (by omega)
      refine ⟨by rw [add_block]; exact hb, fun j x hx => ?_⟩
      rw [add_add']
      exact hcell _ x (by rw [← hx, List.getElem?_drop])
end
section
variable {w w' : World} {B B' n c : Nat} {A : Option Addr} {l : List Int}
/-- the first k -/
theorem Sl.head (h : Sl w B A n c l) {k : Nat} (hk : k ≤ n) : Sl w B A k c (l.take k) := by
  refine ⟨by rw [List.length_take, h.len]; omega, by have := h.cap; omega, h.max, h.nil, fun ad ha hn => ?_⟩
  obtain ⟨hb, hcell⟩ := h.at_ ad ha (by omega)
  refine ⟨hb, fun j x hx => hcell j x ?_⟩
  rw [List.getElem?_take] at hx
  split at hx
  · exact hx
  · cases hx
end
section
variable {w w' : World} {B B' n c : Nat} {A : Option Addr} {l : List Int}
theorem Sl.empty (w : World) (B : Nat) : Sl w B none 0 0 [] := ⟨rfl, Nat.le_refl _, by unfold maxLen; omega, fun _ => rfl, fun _ h => by cases h⟩
end
/-- the slice value v is the call's own, from block B on, and holds the bytes l -/
def Own (w : World) (B : Nat) (v : Value) (l : List Int) : Prop := w.ownsRow B 5 1 v l.length (I l)
section
variable {w w' : World} {B B' : Nat} {v : Value} {l : List Int}
theorem Own.form (h : Own w B v l) : ∃ A c, v = .slice A l.length c ∧ Sl w w.heap.size A l.length c l ∧ (∀ ad, A = some ad → B ≤ ad.block) := by
  have h' := h
  rcases h'.2 with ⟨rfl, h0⟩ | ⟨g, cap, cur, rfl, hb, hg, h1, h2, h3, h4⟩
  · have : l = [] := List.eq_nil_of_length_eq_zero h0
    subst this
    exact ⟨none, 0, rfl, Sl.empty _ _, fun _ h => by cases h⟩
  · refine ⟨_, _, rfl, ⟨rfl, h1, h2, fun h => (by cases h), fun ad ha hn => ?_⟩, fun ad ha => by cases ha; exact hb⟩
    cases ha
    refine ⟨(h.lt g rfl).2, fun j x hx => h.cells (g := g) rfl j _ (I_get hx)⟩
end
section
variable {w w' : World} {B B' : Nat} {v : Value} {l : List Int}
theorem Own.lt (h : Own w B v l) : ∀ k, v.ownBlock = some k → B ≤ k ∧ k < w.heap.size := World.ownsRow.lt h
end
section
variable {w w' : World} {B B' : Nat} {v : Value} {l : List Int}
theorem Own.kept {row : Option Nat} (h : Own w B v l) (hg : w.grownBy w' row) (hr : ∀ k, v.ownBlock = some k → some k ≠ row) : Own w' B v l := by
  refine World.ownsRow.kept h hg ?_
  rcases e : v.ownBlock with _ | k
  · exact .inl rfl
  · exact .inr (hr k e)
end
section
variable {w w' : World} {B B' : Nat} {v : Value} {l : List Int}
theorem Own.nil (w : World) (B : Nat) : Own w B (.slice none 0 0) [] := World.ownsRow_nil _ _ _ _
end
/-- block g is just these cells, none frozen -/
def Blk (w : World) (g : Nat) (t : TypeId) (cs : Array Value) : Prop := w.heap[g]? = some (.cells cs t (0, 0))
section
variable {w w' : World} {g : Nat} {t : TypeId} {cs : Array Value}
theorem Blk.lt (h : Blk w g t cs) : g < w.heap.size := (Array.getElem?_eq_some_iff.1 h).1
end
section
variable {w w' : World} {g : Nat} {t : TypeId} {cs : Array Value}
theorem Blk.cell (h : Blk w g t cs) (i : Nat) : w.cell? ⟨g, i, none⟩ = cs[i]? := cell_of_row w g i cs t (0, 0) h
end
section
variable {w w' : World} {g : Nat} {t : TypeId} {cs : Array Value}
theorem Blk.free (h : Blk w g t cs) (i : Nat) : w.frozen? ⟨g, i, none⟩ = false := by
  unfold Blk at h
  simp [World.frozen?, h]
end
section
variable {w w' : World} {g : Nat} {t : TypeId} {cs : Array Value}
theorem Blk.new (w : World) (t : TypeId) (cs : Array Value) : Blk (w.alloc (.cells cs t)) w.heap.size t cs := heap_alloc_new w _
end
section
variable {w w' : World} {g : Nat} {t : TypeId} {cs : Array Value}
theorem Blk.drew (h : Blk w g t cs) : Blk w.drew g t cs := h
end
section
variable {w w' : World} {g : Nat} {t : TypeId} {cs : Array Value}
theorem Blk.drewN (h : Blk w g t cs) (n : Nat) : Blk (w.drewN n) g t cs := h
end
section
variable {w w' : World} {g : Nat} {t : TypeId} {cs : Array Value}
theorem Blk.alloc (h : Blk w g t cs) (o : Obj) : Blk (w.alloc o) g t cs := (Below.heap_alloc w o g h.lt).trans h
end
section
variable {w w' : World} {g : Nat} {t : TypeId} {cs : Array Value}
theorem Blk.put (h : Blk w g t cs) (i : Nat) (u : Value) : Blk (w.setCell ⟨g, i, none⟩ u) g t (cs.setIfInBounds i u) := by
  unfold Blk at h ⊢
  simp [World.setCell, Array.getElem?_modify, h]
end
section
variable {w w' : World} {g : Nat} {t : TypeId} {cs : Array Value}
theorem Blk.far (h : Blk w g t cs) {p : Addr} (hp : g ≠ p.block) (u : Value) : Blk (w.setCell p u) g t cs := (Below.heap_setCell w p u g hp).trans h
end
section
variable {w w' : World} {g : Nat} {t : TypeId} {cs : Array Value}
theorem Blk.below {B : Nat} (h : Blk w g t cs) (hb : Below B w w') (hg : g < B) : Blk w' g t cs := (hb.block g hg).trans h
end
section
variable {w w' : World} {g : Nat} {t : TypeId} {cs : Array Value}
theorem Blk.grown {row : Option Nat} (h : Blk w g t cs) (hb : w.grownBy w' row) (hg : some g ≠ row) : Blk w' g t cs := (hb.block g h.lt hg).trans h
end
/- only block g, and what is new, has turned -/
theorem only_refl (w : World) (row : Option Nat) : w.grownBy w row := ⟨rfl, rfl, rfl, Nat.le_refl _, fun _ _ _ => rfl⟩
theorem only_trans {a b c : World} {row : Option Nat} (h : a.grownBy b row) (k : b.grownBy c row) : a.grownBy c row :=
  ⟨k.os.trans h.os, k.tape.trans h.tape, k.output.trans h.output, Nat.le_trans h.size k.size, fun i hi hn => (k.block i (Nat.lt_of_lt_of_le hi h.size) hn).trans (h.block i hi hn)⟩
theorem only_drewN {a w : World} {row : Option Nat} (h : a.grownBy w row) (n : Nat) : a.grownBy (w.drewN n) row := ⟨h.os, h.tape, h.output, h.size, h.block⟩
theorem only_drew {a w : World} {row : Option Nat} (h : a.grownBy w row) : a.grownBy w.drew row := ⟨h.os, h.tape, h.output, h.size, h.block⟩
theorem only_alloc {a w : World} {row : Option Nat} (h : a.grownBy w row) (o : Obj) : a.grownBy (w.alloc o) row := only_trans h (World.grownBy_alloc w o row)
theorem only_put {a w : World} {g : Nat} (h : a.grownBy w (some g)) (i : Nat) (u : Value) : a.grownBy (w.setCell ⟨g, i, none⟩ u) (some g) :=
  ⟨h.os, h.tape, h.output, by simpa [World.setCell] using h.size, fun k hk hn => (Below.heap_setCell w ⟨g, i, none⟩ u k (fun e => hn (by rw [e]))).trans (h.block k hk hn)⟩
theorem only_below {a w : World} (h : Below a.heap.size a w) (row : Option Nat) : a.grownBy w row := ⟨h.os, h.tape, h.output, h.size, fun i hi _ => h.block i hi⟩
theorem below_drewN {B : Nat} {a w : World} (h : Below B a w) (n : Nat) : Below B a (w.drewN n) := ⟨h.os, h.tape, h.output, h.size, h.block⟩
theorem below_only {B : Nat} {a w : World} {g : Nat} (h : a.grownBy w (some g)) (hB : B ≤ g) (hs : B ≤ a.heap.size) : Below B a w :=
  ⟨h.os, h.tape, h.output, h.size, fun k hk => h.block k (by omega) (fun e => by injection e with e; omega)⟩

theorem Tryd.info5 : (Tryd.prog.info? 5).map (fun i => (i.zero, i.size, i.bytes)) = some (some (.int .u8 0), 1, 1) := by kernel_rfl

def str (s : ByteArray) : List Int := s.data.toList.map fun b => (b.toNat : Int)
theorem str_len (s : ByteArray) : (str s).length = s.size := by
  rw [str, List.length_map, Array.length_toList]
  rfl
theorem str_cells (s : ByteArray) : Lib.strCells s = I (str s) := by simp [Lib.strCells, I, str]

theorem str_of (s : ByteArray) : strOfNums (str s) = s := by
  obtain ⟨⟨l⟩⟩ := s
  simp only [strOfNums, str, List.map_map]
  congr 1
  congr 1
  conv => rhs; rw [← List.map_id l]
  apply List.map_congr_left
  intro b _
  simp
theorem str_byt (s : ByteArray) : Byt (str s) := by
  intro x hx
  simp only [str, List.mem_map] at hx
  obtain ⟨b, _, rfl⟩ := hx
  have := UInt8.toNat_lt b
  omega
theorem Sl.on {w w' : World} {A : Option Addr} {n c : Nat} {l : List Int} (h : Sl w w.heap.size A n c l) (hb : Below w.heap.size w w') : Sl w' w'.heap.size A n c l := (h.below hb).more hb.size
theorem size_drewN (w : World) (k : Nat) : (w.drewN k).heap.size = w.heap.size := rfl

theorem Sl.put {w : World} {g B n c : Nat} {A : Option Addr} {l : List Int} (h : Sl w B A n c l) (hB : B ≤ g) (i : Nat) (u : Value) : Sl (w.setCell ⟨g, i, none⟩ u) B A n c l :=
  h.keep fun p hp => World.cell?_setCell_other w ⟨g, i, none⟩ p u (fun e => by subst e; exact absurd hp (by show ¬ g < B; omega))

/-- what lies behind block g stays where only block g, and what is new, turns -/
theorem Sl.apart {w w' : World} {B n c g : Nat} {A : Option Addr} {l : List Int} (h : Sl w B A n c l) (hg : w.grownBy w' (some g)) (hn : ∀ ad, A = some ad → g < ad.block) : Sl w' B A n c l :=
  ⟨h.len, h.cap, h.max, h.nil, fun ad ha h0 => ⟨(h.at_ ad ha h0).1, fun j x hx => hg.cell ((h.at_ ad ha h0).2 j x hx) (by have := hn ad ha; rw [add_block]; simp; omega)⟩⟩
theorem only_of_drew {a w : World} {row : Option Nat} (h : a.drew.grownBy w row) : a.grownBy w row := ⟨h.os, h.tape, h.output, h.size, h.block⟩

theorem Sl.far {w w' : World} {B n c : Nat} {A : Option Addr} {l : List Int} {row : Option Nat} (h : Sl w B A n c l) (hg : w.grownBy w' row) (hr : ∀ g ad, row = some g → A = some ad → g < ad.block) : Sl w' B A n c l :=
  ⟨h.len, h.cap, h.max, h.nil, fun ad ha h0 => ⟨(h.at_ ad ha h0).1, fun j x hx => hg.cell ((h.at_ ad ha h0).2 j x hx) (fun e => by have := hr _ ad e.symm ha; rw [add_block] at this; omega)⟩⟩

theorem Sl.lit (w : World) (l : List Int) (h : l.length ≤ 1000) : Sl (w.alloc (.cells (I l).toArray 5)) (w.heap.size + 1) (some ⟨w.heap.size, 0, none⟩) l.length l.length l := by
  refine ⟨rfl, Nat.le_refl _, by unfold maxLen; omega, (fun h => by cases h), fun ad ha _ => ?_⟩
  cases ha
  refine ⟨by show w.heap.size < _; omega, fun j x hx => ?_⟩
  have hb : Blk (w.alloc (.cells (I l).toArray 5)) w.heap.size 5 (I l).toArray := Blk.new w 5 _
  have e : (⟨w.heap.size, 0, none⟩ : Addr).add j = ⟨w.heap.size, j, none⟩ := by unfold Addr.add; split <;> simp_all
  rw [e, hb.cell j]
  simpa using I_get hx
/-- it answers yes; what was there is as it was -/
def Yes (w : World) (e : Ending) (w' : World) : Prop := e = .returned (.bool true) ∧ Below w.heap.size w w'

def sameB (l m : List Int) : Bool := decide (l = m)
theorem same_end {l m : List Int} {n k : Nat} (hl : l.length = n) (hm : m.length = n) (hk : ¬ k < n) (h : l.take k = m.take k) : sameB l m = true := by
  rw [List.take_of_length_le (by omega), List.take_of_length_le (by omega)] at h
  simp [sameB, h]
theorem same_not {l m : List Int} {k : Nat} {x y : Int} (hx : l[k]? = some x) (hy : m[k]? = some y) (hne : x ≠ y) : sameB l m = false := by
  simp only [sameB, decide_eq_false_iff_not]
  rintro rfl
  rw [hx] at hy
  exact hne (by injection hy)
theorem same_len {l m : List Int} (h : l.length ≠ m.length) : sameB l m = false := by
  simp only [sameB, decide_eq_false_iff_not]
  rintro rfl
  exact h rfl
/-- it answers v, and only draws -/
def Quiet (w : World) (v : Value) (e : Ending) (w' : World) : Prop := e = .returned v ∧ ∃ k, w' = w.drewN k

theorem same_self (l : List Int) : sameB l l = true := by simp [sameB]

def Made (w : World) (l : List Int) (e : Ending) (w' : World) : Prop := ∃ v, e = .returned v ∧ Own w' w.heap.size v l ∧ Below w.heap.size w w'

theorem Made.out {w w' : World} {l : List Int} {e : Ending} (h : Made w l e w') : ∃ A c, e = .returned (.slice A l.length c) ∧ Own w' w.heap.size (.slice A l.length c) l ∧ Sl w' w'.heap.size A l.length c l ∧ Below w.heap.size w w' := by
  obtain ⟨v, rfl, ho, hb⟩ := h
  obtain ⟨A, c, rfl, hs, _⟩ := ho.form
  exact ⟨A, c, rfl, ho, hs, hb⟩

theorem Made.get {w w' : World} {l : List Int} {e : Ending} (h : Made w l e w') : ∃ A m c, e = .returned (.slice A m c) ∧ Sl w' w'.heap.size A m c l ∧ Below w.heap.size w w' := by
  obtain ⟨A, c, he, _, hs, hb⟩ := h.out
  exact ⟨A, _, c, he, hs, hb⟩

theorem Made.fresh {w w' : World} {l : List Int} {e : Ending} (h : Made w l e w') : ∃ A m c, e = .returned (.slice A m c) ∧ Sl w' w'.heap.size A m c l ∧ Below w.heap.size w w' ∧ ∀ ad, A = some ad → w.heap.size ≤ ad.block := by
  obtain ⟨v, rfl, ho, hb⟩ := h
  obtain ⟨A, c, rfl, hs, hn⟩ := ho.form
  exact ⟨A, _, c, rfl, hs, hb, hn⟩

/-- the slice '.slice A n c' reads as the int64s l, all below block B -/
structure Sn (w : World) (B : Nat) (A : Option Addr) (n c : Nat) (l : List Int) : Prop where
  len : l.length = n
  cap : n ≤ c
  max : c ≤ maxLen
  nil : A = none → c = 0
  at_ : ∀ ad, A = some ad → 0 < n → ad.block < B ∧ ∀ j x, l[j]? = some x → w.cell? (ad.add j) = some (.int .i64 x)
theorem Sn.get {w : World} {B n c : Nat} {A : Option Addr} {l : List Int} {k : Nat} (h : Sn w B A n c l) (hk : k < n) : ∃ ad x, A = some ad ∧ ad.block < B ∧ l[k]? = some x ∧ w.cell? (ad.add k) = some (.int .i64 x) := by
  rcases A with _ | ad
  · have := h.nil rfl; have := h.cap; omega
  · have hl := h.len
    obtain ⟨hb, hc⟩ := h.at_ ad rfl (by omega)
    have hx : l[k]? = some (l[k]'(by omega)) := List.getElem?_eq_getElem (by omega)
    exact ⟨ad, _, rfl, hb, hx, hc k _ hx⟩
theorem Sn.below {w w' : World} {B n c : Nat} {A : Option Addr} {l : List Int} (h : Sn w B A n c l) (hb : Below B w w') : Sn w' B A n c l :=
  ⟨h.len, h.cap, h.max, h.nil, fun ad ha hn => ⟨(h.at_ ad ha hn).1, fun j x hx => (hb.cell (by rw [add_block]; exact (h.at_ ad ha hn).1)).trans ((h.at_ ad ha hn).2 j x hx)⟩⟩

/-- the slice value v is the call's own, from block B on, and holds the ints l -/
def OwnN (w : World) (B : Nat) (v : Value) (l : List Int) : Prop := w.ownsRow B 3 1 v l.length (l.map (Value.int .i64))
theorem OwnN.form {w : World} {B : Nat} {v : Value} {l : List Int} (h : OwnN w B v l) : ∃ A c, v = .slice A l.length c ∧ Sn w w.heap.size A l.length c l := by
  have h' := h
  rcases h'.2 with ⟨rfl, h0⟩ | ⟨g, cap, cur, rfl, hb, hg, h1, h2, h3, h4⟩
  · have : l = [] := List.eq_nil_of_length_eq_zero h0
    subst this
    exact ⟨none, 0, rfl, ⟨rfl, Nat.le_refl _, by unfold maxLen; omega, fun _ => rfl, fun _ h => by cases h⟩⟩
  · refine ⟨_, _, rfl, ⟨rfl, h1, h2, fun h => (by cases h), fun ad ha hn => ?_⟩⟩
    cases ha
    exact ⟨(World.ownsRow.lt h g rfl).2, fun j x hx => World.ownsRow.cells h (g := g) rfl j _ (by simp [hx])⟩
theorem OwnN.on {w w' : World} {B : Nat} {v : Value} {l : List Int} (h : OwnN w B v l) (hb : Below w.heap.size w w') : OwnN w' B v l :=
  World.ownsRow.kept h (only_below hb none) (by cases hv : v.ownBlock <;> simp)
theorem OwnN.lt {w : World} {B : Nat} {v : Value} {l : List Int} (h : OwnN w B v l) : ∀ k, v.ownBlock = some k → B ≤ k ∧ k < w.heap.size := World.ownsRow.lt h
theorem Tryd.info3 : (Tryd.prog.info? 3).map (fun i => (i.zero, i.size, i.bytes)) = some (some (.int .i64 0), 1, 8) := by kernel_rfl

theorem zeros (n : Nat) : (madeCells #[Value.int .u8 0] n).toList = I (List.replicate n 0) := by
  have h := toList_madeCells_one (Value.int .u8 0) n
  simp only [I, List.map_replicate]
  exact h

theorem Own.slot {w : World} {B : Nat} {v : Value} {l : List Int} (h : Own w B v l) (hl : l ≠ []) : ∃ g cap, v = .slice (some ⟨g, 0, none⟩) l.length cap ∧ B ≤ g ∧ g < w.heap.size := by
  have hp : 0 < l.length := by rcases l with _ | ⟨a, l⟩; · exact absurd rfl hl
                               · simp
  obtain ⟨g, cap, hv, hb, hg⟩ := World.ownsRow.form h hp
  exact ⟨g, cap, hv, hb, hg⟩
theorem Own.stored {w : World} {B g cap k : Nat} {i : List Int} {c d : Int} (h : Own w B (.slice (some ⟨g, 0, none⟩) (k + 1) cap) (i ++ [c])) (hk : i.length = k) :
    w.cell? ⟨g, k, none⟩ = some (.int .u8 c) ∧ w.frozen? ⟨g, k, none⟩ = false ∧ Own (w.setCell ⟨g, k, none⟩ (.int .u8 d)) B (.slice (some ⟨g, 0, none⟩) (k + 1) cap) (i ++ [d]) := by
  subst hk
  unfold Own at h ⊢
  rw [List.length_append, List.length_singleton] at h ⊢
  refine ⟨?_, World.ownsRow.frozenAt h _, ?_⟩
  · rw [World.ownsRow.cellAt h i.length (by omega)]
    exact I_get (by simp)
  · have := (World.ownsRow.stored h i.length (.int .u8 d)).1
    have e : (I (i ++ [c])).set i.length (.int .u8 d) = I (i ++ [d]) := by
      rw [I_append, I_append, ← I_len i]
      simp [I]
    rwa [e] at this
end Go.Proofs.YtklplmldhhlgiaaDoor
namespace Go.Proofs.YtklplmldhhlgiaaDoor
open Go.RowKit

/-- the slice '.slice A n c' reads as the values xs, all below block B -/
structure Sv (w : World) (B : Nat) (A : Option Addr) (n c : Nat) (xs : List Value) : Prop where
  len : xs.length = n
  cap : n ≤ c
  max : c ≤ maxLen
  nil : A = none → c = 0
  at_ : ∀ ad, A = some ad → 0 < n → ad.block < B ∧ ∀ j u, xs[j]? = some u → w.cell? (ad.add j) = some u
theorem Sv.get {w : World} {B n c k : Nat} {A : Option Addr} {xs : List Value} {u : Value} (h : Sv w B A n c xs) (hx : xs[k]? = some u) : ∃ ad, A = some ad ∧ ad.block < B ∧ w.cell? (ad.add k) = some u := by
  have hl := h.len
  have hk : k < xs.length := (List.getElem?_eq_some_iff.1 hx).1
  rcases A with _ | ad
  · have := h.nil rfl; have := h.cap; omega
  · obtain ⟨hb, hc⟩ := h.at_ ad rfl (by omega)
    exact ⟨ad, rfl, hb, hc k _ hx⟩
theorem Sv.keep {w w' : World} {B n c : Nat} {A : Option Addr} {xs : List Value} (h : Sv w B A n c xs) (hk : ∀ p : Addr, p.block < B → w'.cell? p = w.cell? p) : Sv w' B A n c xs :=
  ⟨h.len, h.cap, h.max, h.nil, fun ad ha hn => ⟨(h.at_ ad ha hn).1, fun j x hx => (hk _ (by rw [add_block]; exact (h.at_ ad ha hn).1)).trans ((h.at_ ad ha hn).2 j x hx)⟩⟩
theorem Sv.more {w : World} {B B' n c : Nat} {A : Option Addr} {xs : List Value} (h : Sv w B A n c xs) (hB : B ≤ B') : Sv w B' A n c xs :=
  ⟨h.len, h.cap, h.max, h.nil, fun ad ha hn => ⟨Nat.lt_of_lt_of_le (h.at_ ad ha hn).1 hB, (h.at_ ad ha hn).2⟩⟩
theorem Sv.below {w w' : World} {B n c : Nat} {A : Option Addr} {xs : List Value} (h : Sv w B A n c xs) (hb : Below B w w') : Sv w' B A n c xs := h.keep fun _ hp => hb.cell hp
theorem Sv.drewN {w : World} {B n c : Nat} {A : Option Addr} {xs : List Value} (h : Sv w B A n c xs) (k : Nat) : Sv (w.drewN k) B A n c xs := h.keep fun _ _ => rfl
theorem Sv.alloc {w : World} {B n c : Nat} {A : Option Addr} {xs : List Value} (h : Sv w B A n c xs) (hB : B ≤ w.heap.size) (o : Obj) : Sv (w.alloc o) B A n c xs := h.keep fun p hp => World.cell?_alloc_lt w o p (by omega)
theorem Sv.on {w w' : World} {A : Option Addr} {n c : Nat} {xs : List Value} (h : Sv w w.heap.size A n c xs) (hb : Below w.heap.size w w') : Sv w' w'.heap.size A n c xs := (h.below hb).more hb.size
theorem Sv.empty (w : World) (B : Nat) : Sv w B none 0 0 [] := ⟨rfl, Nat.le_refl _, by unfold maxLen; omega, fun _ => rfl, fun _ h => by cases h⟩
/-- the first k -/
theorem Sv.head {w : World} {B n c : Nat} {A : Option Addr} {xs : List Value} (h : Sv w B A n c xs) {k : Nat} (hk : k ≤ n) : Sv w B A k c (xs.take k) := by
  refine ⟨by rw [List.length_take, h.len]; omega, by have := h.cap; omega, h.max, h.nil, fun ad ha hn => ?_⟩
  obtain ⟨hb, hcell⟩ := h.at_ ad ha (by omega)
  refine ⟨hb, fun j x hx => hcell j x ?_⟩
  rw [List.getElem?_take] at hx
  split at hx
  · exact hx
  · cases hx

/-- the slice value v is the call's own, from block B on, and holds the values xs -/
def OwnV (e : TypeId) (w : World) (B : Nat) (v : Value) (xs : List Value) : Prop := w.ownsRow B e 1 v xs.length xs
theorem OwnV.form {e : TypeId} {w : World} {B : Nat} {v : Value} {xs : List Value} (h : OwnV e w B v xs) : ∃ A c, v = .slice A xs.length c ∧ Sv w w.heap.size A xs.length c xs ∧ (∀ ad, A = some ad → B ≤ ad.block) := by
  have h' := h
  rcases h'.2 with ⟨rfl, h0⟩ | ⟨g, cap, cur, rfl, hb, hg, h1, h2, h3, h4⟩
  · have : xs = [] := List.eq_nil_of_length_eq_zero h0
    subst this
    exact ⟨none, 0, rfl, Sv.empty _ _, fun _ h => by cases h⟩
  · refine ⟨_, _, rfl, ⟨rfl, h1, h2, fun h => (by cases h), fun ad ha hn => ?_⟩, fun ad ha => by cases ha; exact hb⟩
    cases ha
    exact ⟨(World.ownsRow.lt h g rfl).2, fun j x hx => World.ownsRow.cells h (g := g) rfl j _ hx⟩
theorem OwnV.lt {e : TypeId} {w : World} {B : Nat} {v : Value} {xs : List Value} (h : OwnV e w B v xs) : ∀ k, v.ownBlock = some k → B ≤ k ∧ k < w.heap.size := World.ownsRow.lt h
theorem OwnV.kept {e : TypeId} {w w' : World} {B : Nat} {v : Value} {xs : List Value} {row : Option Nat} (h : OwnV e w B v xs) (hg : w.grownBy w' row) (hr : ∀ k, v.ownBlock = some k → some k ≠ row) : OwnV e w' B v xs := by
  refine World.ownsRow.kept h hg ?_
  rcases e : v.ownBlock with _ | k
  · exact .inl rfl
  · exact .inr (hr k e)
theorem OwnV.on {e : TypeId} {w w' : World} {B : Nat} {v : Value} {xs : List Value} (h : OwnV e w B v xs) (hb : Below w.heap.size w w') : OwnV e w' B v xs :=
  World.ownsRow.kept h (only_below hb none) (by cases hv : v.ownBlock <;> simp)
theorem OwnV.nil (e : TypeId) (w : World) (B : Nat) : OwnV e w B (.slice none 0 0) [] := World.ownsRow_nil _ _ _ _
/-- a new slice with these values -/
def MadeV (e : TypeId) (w : World) (xs : List Value) (r : Ending) (w' : World) : Prop := ∃ v, r = .returned v ∧ OwnV e w' w.heap.size v xs ∧ Below w.heap.size w w'
theorem MadeV.fresh {e : TypeId} {w w' : World} {xs : List Value} {r : Ending} (h : MadeV e w xs r w') : ∃ A m c, r = .returned (.slice A m c) ∧ Sv w' w'.heap.size A m c xs ∧ Below w.heap.size w w' ∧ (∀ ad, A = some ad → w.heap.size ≤ ad.block) ∧ OwnV e w' w.heap.size (.slice A m c) xs := by
  obtain ⟨v, rfl, ho, hb⟩ := h
  obtain ⟨A, c, rfl, hs, hn⟩ := ho.form
  exact ⟨A, _, c, rfl, hs, hb, hn, ho⟩
/-- of an own slice that is not empty: its place; a store into it -/
theorem OwnV.slot {e : TypeId} {w : World} {B n c : Nat} {A : Option Addr} {xs : List Value} (h : OwnV e w B (.slice A n c) xs) (hn : 0 < n) : ∃ g, A = some ⟨g, 0, none⟩ ∧ B ≤ g ∧ g < w.heap.size ∧ xs.length = n := by
  rcases h.2 with ⟨hv, h0⟩ | ⟨g, cap, cur, hv, hb, hg, _⟩
  · cases hv; omega
  · cases hv
    exact ⟨g, rfl, hb, (Array.getElem?_eq_some_iff.1 hg).1, rfl⟩
theorem OwnV.cell {e : TypeId} {w : World} {B n c g k : Nat} {xs : List Value} {u : Value} (h : OwnV e w B (.slice (some ⟨g, 0, none⟩) n c) xs) (hx : xs[k]? = some u) : w.cell? ⟨g, k, none⟩ = some u := by
  have := World.ownsRow.cells h (g := g) rfl k u hx
  have e : (⟨g, 0, none⟩ : Addr).add k = ⟨g, k, none⟩ := by unfold Addr.add; split <;> simp_all
  rwa [e] at this
theorem OwnV.free {e : TypeId} {w : World} {B n c g : Nat} {xs : List Value} (h : OwnV e w B (.slice (some ⟨g, 0, none⟩) n c) xs) (k : Nat) : w.frozen? ⟨g, k, none⟩ = false := by
  rcases h.2 with ⟨h', _⟩ | ⟨g', cap', cur, h', _, hg, _⟩
  · simp at h'
  · simp only [Value.slice.injEq, Option.some.injEq, Addr.mk.injEq, and_true] at h'
    obtain ⟨rfl, _⟩ := h'
    exact frozen_of_row w g k cur e hg
theorem OwnV.put {e : TypeId} {w : World} {B n c g : Nat} {xs : List Value} (h : OwnV e w B (.slice (some ⟨g, 0, none⟩) n c) xs) (hn : xs.length = n) (k : Nat) (u : Value) : OwnV e (w.setCell ⟨g, k, none⟩ u) B (.slice (some ⟨g, 0, none⟩) n c) (xs.set k u) := by
  subst hn
  unfold OwnV
  rw [List.length_set]
  exact (World.ownsRow.stored h k u).1
theorem own_vals {w : World} {B : Nat} {v : Value} {l : List Int} : Own w B v l ↔ OwnV 5 w B v (I l) := by
  unfold Own OwnV
  rw [I_len]
/-- filled up to k, the rest as it was -/
theorem fill_next {xs ys : List Value} {k : Nat} {u : Value} (hx : xs[k]? = some u) (hl : xs.length = ys.length) : (xs.take k ++ ys.drop k).set k u = xs.take (k + 1) ++ ys.drop (k + 1) := by
  have hk : k < xs.length := (List.getElem?_eq_some_iff.1 hx).1
  rw [List.take_add_one, hx]
  have e : ys.drop k = ys[k]'(by omega) :: ys.drop (k + 1) := List.drop_eq_getElem_cons (by omega)
  rw [e, List.set_append_right _ _ (by rw [List.length_take]; omega), List.length_take, Nat.min_eq_left (by omega), Nat.sub_self, List.set_cons_zero, List.append_assoc]
  rfl
theorem fill_at {xs ys : List Value} {k : Nat} (hk : k < ys.length) (hl : xs.length = ys.length) : (xs.take k ++ ys.drop k)[k]? = ys[k]? := by
  rw [List.getElem?_append_right (by rw [List.length_take]; omega), List.length_take, Nat.min_eq_left (by omega), Nat.sub_self]
  simp
theorem fill_len {xs ys : List Value} {k : Nat} (hk : k ≤ ys.length) (hl : xs.length = ys.length) : (xs.take k ++ ys.drop k).length = ys.length := by
  rw [List.length_append, List.length_take, List.length_drop]; omega
end Go.Proofs.YtklplmldhhlgiaaDoor
namespace Go.Proofs.YtklplmldhhlgiaaDoor
open Go.RowKit

/-- the call's own, with as many bytes -/
def Anew (w : World) (n : Nat) (l : List Int) (e : Ending) (w' : World) : Prop := ∃ v, e = .returned v ∧ Own w' w.heap.size v l ∧ Below w.heap.size w w' ∧ l.length = n
theorem Anew.get {w w' : World} {n : Nat} {l : List Int} {e : Ending} (h : Anew w n l e w') : ∃ A c, e = .returned (.slice A n c) ∧ Sl w' w'.heap.size A n c l ∧ Below w.heap.size w w' ∧ (∀ ad, A = some ad → w.heap.size ≤ ad.block) ∧ Own w' w.heap.size (.slice A n c) l := by
  obtain ⟨v, rfl, ho, hb, rfl⟩ := h
  obtain ⟨A, c, rfl, hs, hn⟩ := ho.form
  exact ⟨A, c, rfl, hs, hb, hn, ho⟩
theorem own_sl {w : World} {B n c : Nat} {A : Option Addr} {l : List Int} (h : Own w B (.slice A n c) l) : Sl w w.heap.size A n c l ∧ l.length = n := by
  obtain ⟨A', c', hv, hs, _⟩ := h.form
  cases hv
  exact ⟨hs, rfl⟩
end Go.Proofs.YtklplmldhhlgiaaDoor
namespace Go.Proofs.YtklplmldhhlgiaaDoor
open Go.RowKit

/-- only blocks of F, and what is new, have turned -/
structure Only (F : Nat → Prop) (w w' : World) : Prop where
  os : w'.os = w.os
  tape : w'.tape = w.tape
  output : w'.output = w.output
  size : w.heap.size ≤ w'.heap.size
  block : ∀ k, k < w.heap.size → ¬ F k → w'.heap[k]? = w.heap[k]?
theorem Only.refl (F : Nat → Prop) (w : World) : Only F w w := ⟨rfl, rfl, rfl, Nat.le_refl _, fun _ _ _ => rfl⟩
theorem Only.trans {F G : Nat → Prop} {a b c : World} (h : Only F a b) (k : Only G b c) (hG : ∀ i, G i → F i ∨ a.heap.size ≤ i) : Only F a c :=
  ⟨k.os.trans h.os, k.tape.trans h.tape, k.output.trans h.output, Nat.le_trans h.size k.size, fun i hi hn => (k.block i (Nat.lt_of_lt_of_le hi h.size) (fun hg => by rcases hG i hg with h' | h'; exact hn h'; omega)).trans (h.block i hi hn)⟩
theorem Only.mono {F G : Nat → Prop} {a b : World} (h : Only F a b) (hG : ∀ i, F i → G i ∨ a.heap.size ≤ i) : Only G a b :=
  ⟨h.os, h.tape, h.output, h.size, fun i hi hn => h.block i hi (fun hf => by rcases hG i hf with h' | h'; exact hn h'; omega)⟩
theorem Only.of_below {F : Nat → Prop} {a b : World} (h : Below a.heap.size a b) : Only F a b := ⟨h.os, h.tape, h.output, h.size, fun i hi _ => h.block i hi⟩
theorem Only.below {F : Nat → Prop} {B : Nat} {a b : World} (h : Only F a b) (hB : B ≤ a.heap.size) (hF : ∀ i, F i → B ≤ i) : Below B a b :=
  ⟨h.os, h.tape, h.output, h.size, fun i hi => h.block i (by omega) (fun hf => by have := hF i hf; omega)⟩
theorem Only.put {F : Nat → Prop} {a b : World} {p : Addr} (h : Only F a b) (hp : F p.block) (u : Value) : Only F a (b.setCell p u) :=
  ⟨h.os, h.tape, h.output, by simpa [World.setCell] using h.size, fun k hk hn => (Below.heap_setCell b p u k (fun e => hn (by rw [e]; exact hp))).trans (h.block k hk hn)⟩
theorem Only.drewN {F : Nat → Prop} {a b : World} (h : Only F a b) (n : Nat) : Only F a (b.drewN n) := ⟨h.os, h.tape, h.output, h.size, h.block⟩
theorem Only.drew {F : Nat → Prop} {a b : World} (h : Only F a b) : Only F a b.drew := ⟨h.os, h.tape, h.output, h.size, h.block⟩
theorem Only.then_below {F : Nat → Prop} {a b c : World} (h : Only F a b) (k : Below b.heap.size b c) : Only F a c :=
  ⟨k.os.trans h.os, k.tape.trans h.tape, k.output.trans h.output, Nat.le_trans h.size k.size, fun i hi hn => (k.block i (Nat.lt_of_lt_of_le hi h.size)).trans (h.block i hi hn)⟩
/-- the blocks of F are as they were -/
def Kept (F : Nat → Prop) (w w' : World) : Prop := (∀ i, F i → w'.heap[i]? = w.heap[i]?) ∧ w.heap.size ≤ w'.heap.size
theorem Only.kept {F G : Nat → Prop} {a b : World} (h : Only F a b) (hG : ∀ i, G i → i < a.heap.size) (hd : ∀ i, G i → ¬ F i) : Kept G a b := ⟨fun i hi => h.block i (hG i hi) (hd i hi), h.size⟩
theorem Kept.of_below {G : Nat → Prop} {a b : World} (h : Below a.heap.size a b) (hG : ∀ i, G i → i < a.heap.size) : Kept G a b := ⟨fun i hi => h.block i (hG i hi), h.size⟩
theorem Kept.drewN (G : Nat → Prop) (a : World) (n : Nat) : Kept G a (a.drewN n) := ⟨fun _ _ => rfl, Nat.le_refl _⟩

theorem OwnV.same {e : TypeId} {w w' : World} {B n c g : Nat} {xs : List Value} (h : OwnV e w B (.slice (some ⟨g, 0, none⟩) n c) xs) (hk : w'.heap[g]? = w.heap[g]?) : OwnV e w' B (.slice (some ⟨g, 0, none⟩) n c) xs := by
  refine ⟨h.1, ?_⟩
  rcases h.2 with ⟨h', _⟩ | ⟨g', cap', cur, h', hb, hg, hr⟩
  · cases h'
  · cases h'
    exact .inr ⟨g, _, cur, rfl, hb, hk.trans hg, hr⟩
theorem OwnV.is_lt {e : TypeId} {w : World} {B n c g : Nat} {xs : List Value} (h : OwnV e w B (.slice (some ⟨g, 0, none⟩) n c) xs) : g < w.heap.size := (h.lt g rfl).2
theorem OwnV.far {e : TypeId} {w : World} {B n c g : Nat} {xs : List Value} (h : OwnV e w B (.slice (some ⟨g, 0, none⟩) n c) xs) {p : Addr} (hp : g ≠ p.block) (u : Value) : OwnV e (w.setCell p u) B (.slice (some ⟨g, 0, none⟩) n c) xs := h.same (Below.heap_setCell w p u g hp)
theorem OwnV.zero {e : TypeId} {w : World} {B : Nat} {v : Value} {xs : List Value} (h : OwnV e w B v xs) : OwnV e w 0 v xs := by
  refine ⟨h.1, ?_⟩
  rcases h.2 with h' | ⟨g', cap', cur, h', hb, hr⟩
  · exact .inl h'
  · exact .inr ⟨g', cap', cur, h', Nat.zero_le _, hr⟩
theorem Sl.same {w w' : World} {B n c : Nat} {A : Option Addr} {l : List Int} (h : Sl w B A n c l) (hk : ∀ ad, A = some ad → w'.heap[ad.block]? = w.heap[ad.block]?) : Sl w' B A n c l :=
  ⟨h.len, h.cap, h.max, h.nil, fun ad ha h0 => ⟨(h.at_ ad ha h0).1, fun j x hx => (World.cell?_of_block (by rw [add_block]; exact hk ad ha)).trans ((h.at_ ad ha h0).2 j x hx)⟩⟩
theorem Blk.same {w w' : World} {g : Nat} {t : TypeId} {cs : Array Value} (h : Blk w g t cs) (hk : w'.heap[g]? = w.heap[g]?) : Blk w' g t cs := hk.trans h
/-- where a list of one kind is turned at a place -/
theorem map_modify {α β : Type} (l : List α) (i : Nat) (f : α → α) (g : α → β) (y : β) (h : ∀ x, l[i]? = some x → g (f x) = y) : (l.modify i f).map g = (l.map g).set i y := by
  apply List.ext_getElem?
  intro j
  rw [List.getElem?_map, List.getElem?_modify, List.getElem?_set, List.getElem?_map, List.length_map]
  by_cases hj : i = j
  · subst hj
    rcases hx : l[i]? with _ | x
    · have : ¬ i < l.length := fun h => by rw [List.getElem?_eq_getElem h] at hx; cases hx
      simp [this]
    · have : i < l.length := (List.getElem?_eq_some_iff.1 hx).1
      simp [this, h x hx]
  · simp [hj]
theorem map_modify_same {α β : Type} (l : List α) (i : Nat) (f : α → α) (g : α → β) (h : ∀ x, g (f x) = g x) : (l.modify i f).map g = l.map g := by
  apply List.ext_getElem?
  intro j
  rw [List.getElem?_map, List.getElem?_modify, List.getElem?_map]
  rcases l[j]? with _ | x
  · rfl
  · by_cases hj : i = j
    · simp [hj, h]
    · simp [hj]
/-- f of the first k, the others as they are -/
def upTo {α : Type} (f : α → α) (k : Nat) (l : List α) : List α := l.mapIdx fun i x => if i < k then f x else x
theorem upTo_get {α : Type} (f : α → α) (k : Nat) (l : List α) (i : Nat) : (upTo f k l)[i]? = (l[i]?).map fun x => if i < k then f x else x := by
  unfold upTo; rw [List.getElem?_mapIdx]
theorem upTo_len {α : Type} (f : α → α) (k : Nat) (l : List α) : (upTo f k l).length = l.length := by simp [upTo]
theorem upTo_zero {α : Type} (f : α → α) (l : List α) : upTo f 0 l = l := by
  apply List.ext_getElem?
  intro i
  rw [upTo_get]
  rcases l[i]? with _ | x <;> simp
theorem upTo_all {α : Type} (f : α → α) {k : Nat} {l : List α} (h : l.length ≤ k) : upTo f k l = l.map f := by
  apply List.ext_getElem?
  intro i
  rw [upTo_get, List.getElem?_map]
  rcases hx : l[i]? with _ | x
  · rfl
  · have : i < l.length := (List.getElem?_eq_some_iff.1 hx).1
    simp [show i < k by omega]
theorem upTo_at {α : Type} (f : α → α) {k : Nat} {l : List α} {x : α} (h : l[k]? = some x) : (upTo f k l)[k]? = some x := by
  rw [upTo_get, h]; simp
theorem upTo_step {α : Type} (f : α → α) (k : Nat) (l : List α) : (upTo f k l).modify k f = upTo f (k + 1) l := by
  apply List.ext_getElem?
  intro i
  rw [List.getElem?_modify, upTo_get, upTo_get]
  rcases l[i]? with _ | x
  · rfl
  · by_cases h : k = i
    · subst h; simp
    · have e : i < k + 1 ↔ i < k := by omega
      simp [h, e]
/-- f of the first k, by their places -/
def upToI {α : Type} (f : Nat → α → α) (k : Nat) (l : List α) : List α := l.mapIdx fun i x => if i < k then f i x else x
theorem upToI_get {α : Type} (f : Nat → α → α) (k : Nat) (l : List α) (i : Nat) : (upToI f k l)[i]? = (l[i]?).map fun x => if i < k then f i x else x := by
  unfold upToI; rw [List.getElem?_mapIdx]
theorem upToI_len {α : Type} (f : Nat → α → α) (k : Nat) (l : List α) : (upToI f k l).length = l.length := by simp [upToI]
theorem upToI_zero {α : Type} (f : Nat → α → α) (l : List α) : upToI f 0 l = l := by
  apply List.ext_getElem?
  intro i
  rw [upToI_get]
  rcases l[i]? with _ | x <;> simp
theorem upToI_all {α : Type} (f : Nat → α → α) {k : Nat} {l : List α} (h : l.length ≤ k) : upToI f k l = l.mapIdx f := by
  apply List.ext_getElem?
  intro i
  rw [upToI_get, List.getElem?_mapIdx]
  rcases hx : l[i]? with _ | x
  · rfl
  · have : i < l.length := (List.getElem?_eq_some_iff.1 hx).1
    simp [show i < k by omega]
theorem upToI_at {α : Type} (f : Nat → α → α) {k : Nat} {l : List α} {x : α} (h : l[k]? = some x) : (upToI f k l)[k]? = some x := by
  rw [upToI_get, h]; simp
theorem upToI_step {α : Type} (f : Nat → α → α) (k : Nat) (l : List α) : (upToI f k l).modify k (f k) = upToI f (k + 1) l := by
  apply List.ext_getElem?
  intro i
  rw [List.getElem?_modify, upToI_get, upToI_get]
  rcases l[i]? with _ | x
  · rfl
  · by_cases h : k = i
    · subst h; simp
    · have e : i < k + 1 ↔ i < k := by omega
      simp [h, e]
theorem Sn.only {w w' : World} {B : Nat} {A : Option Addr} {n c : Nat} {l : List Int} {F : Nat → Prop} (h : Sn w B A n c l) (hB : B ≤ w.heap.size) (ho : Only F w w') (hA : ∀ ad, A = some ad → 0 < n → ¬ F ad.block) : Sn w' B A n c l :=
  ⟨h.len, h.cap, h.max, h.nil, fun ad ha h0 => ⟨(h.at_ ad ha h0).1, fun j x hx => (World.cell?_of_block (by rw [add_block]; exact ho.block _ (Nat.lt_of_lt_of_le (h.at_ ad ha h0).1 hB) (hA ad ha h0))).trans ((h.at_ ad ha h0).2 j x hx)⟩⟩
end Go.Proofs.YtklplmldhhlgiaaDoor
