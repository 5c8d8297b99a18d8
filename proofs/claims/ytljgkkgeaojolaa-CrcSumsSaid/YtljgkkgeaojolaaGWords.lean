/- Words for memory: a slice of bytes or of int64s that reads as a list; a slice that a call made and owns; a block that is known whole; what an append of bytes, a conversion to a text, a list laid at once leave. -/
import Derived.Test.YtljgkkgeaojolaaGNum
import Derived.Deep.AppendLies
import Derived.Deep.Draws
import Derived.Lib.AppendStr
import Derived.Laws.BytesArg
import Derived.Laws.AppendOwnNone
import Derived.Test.YtljgkkgeaojolaaChecked
import Derived.WalkSpells
import Derived.WalkLawsBesides
namespace Go.Proofs.Ytljgkkgeaojolaa
open Go.RowKit

theorem hid {p : Prop} (h : p) : Hid p := h
def I (l : List Int) : List Value := l.map (Value.int .u8)
theorem I_len (l : List Int) : (I l).length = l.length := by simp [I]
theorem I_append (l m : List Int) : I (l ++ m) = I l ++ I m := by simp [I]
theorem I_get {l : List Int} {j : Nat} {x : Int} (h : l[j]? = some x) : (I l)[j]? = some (.int .u8 x) := by simp [I, h]
theorem I_get' {l : List Int} {j : Nat} {u : Value} (h : (I l)[j]? = some u) : ∃ x, l[j]? = some x ∧ u = .int .u8 x := by
  simp only [I, List.getElem?_map, Option.map_eq_some_iff] at h
  obtain ⟨x, hx, rfl⟩ := h
  exact ⟨x, hx, rfl⟩
theorem I_one {l : List Int} : ∀ u ∈ I l, u.oneCell' = true := ints_oneCell _ _
theorem add_block (a : Addr) (n : Nat) : (a.add n).block = a.block := by unfold Addr.add; split <;> rfl
theorem add_add' (a : Addr) (i j : Nat) : (a.add i).add j = a.add (i + j) := by
  unfold Addr.add
  by_cases hi : i = 0 <;> by_cases hj : j = 0 <;> simp [hi, hj, Nat.add_assoc]
/-- the slice '.slice A n c' reads as the bytes l, all below block B -/
structure Sl (w : World) (B : Nat) (A : Option Addr) (n c : Nat) (l : List Int) : Prop where
  len : l.length = n
  cap : n ≤ c
  max : c ≤ maxLen
  nil : A = none → c = 0
  at_ : ∀ ad, A = some ad → 0 < n → ad.block < B ∧ ∀ j x, l[j]? = some x → w.cell? (ad.add j) = some (.int .u8 x)
section
variable {w w' : World} {B B' n c : Nat} {A : Option Addr} {l : List Int}
theorem Sl.get {k : Nat} (h : Sl w B A n c l) (hk : k < n) : ∃ ad x, A = some ad ∧ ad.block < B ∧ l[k]? = some x ∧ w.cell? (ad.add k) = some (.int .u8 x) := by
  rcases A with _ | ad
  · have := h.nil rfl; have := h.cap; omega
  · have hl := h.len
    obtain ⟨hb, hc⟩ := h.at_ ad rfl (by omega)
    have hx : l[k]? = some (l[k]'(by omega)) := List.getElem?_eq_getElem (by omega)
    exact ⟨ad, _, rfl, hb, hx, hc k _ hx⟩
end
section
variable {w w' : World} {B B' n c : Nat} {A : Option Addr} {l : List Int}
theorem Sl.keep (h : Sl w B A n c l) (hk : ∀ p : Addr, p.block < B → w'.cell? p = w.cell? p) : Sl w' B A n c l :=
  ⟨h.len, h.cap, h.max, h.nil, fun ad ha hn => ⟨(h.at_ ad ha hn).1, fun j x hx => (hk _ (by rw [add_block]; exact (h.at_ ad ha hn).1)).trans ((h.at_ ad ha hn).2 j x hx)⟩⟩
end
section
variable {w w' : World} {B B' n c : Nat} {A : Option Addr} {l : List Int}
theorem Sl.more (h : Sl w B A n c l) (hB : B ≤ B') : Sl w B' A n c l :=
  ⟨h.len, h.cap, h.max, h.nil, fun ad ha hn => ⟨Nat.lt_of_lt_of_le (h.at_ ad ha hn).1 hB, (h.at_ ad ha hn).2⟩⟩
end
section
variable {w w' : World} {B B' n c : Nat} {A : Option Addr} {l : List Int}
theorem Sl.below (h : Sl w B A n c l) (hb : Below B w w') : Sl w' B A n c l := h.keep fun _ hp => hb.cell hp
end
section
variable {w w' : World} {B B' n c : Nat} {A : Option Addr} {l : List Int}
theorem Sl.drew (h : Sl w B A n c l) : Sl w.drew B A n c l := h.keep fun _ _ => rfl
end
section
variable {w w' : World} {B B' n c : Nat} {A : Option Addr} {l : List Int}
theorem Sl.drewN (h : Sl w B A n c l) (k : Nat) : Sl (w.drewN k) B A n c l := h.keep fun _ _ => rfl
end
section
variable {w w' : World} {B B' n c : Nat} {A : Option Addr} {l : List Int}
theorem Sl.alloc (h : Sl w B A n c l) (hB : B ≤ w.heap.size) (o : Obj) : Sl (w.alloc o) B A n c l := h.keep fun p hp => World.cell?_alloc_lt w o p (by omega)
end
section
variable {w w' : World} {B B' n c : Nat} {A : Option Addr} {l : List Int}
theorem Sl.grown {row : Option Nat} (h : Sl w B A n c l) (hg : w.grownBy w' row) (hB : B ≤ w.heap.size) (hr : ∀ g, row = some g → B ≤ g) : Sl w' B A n c l :=
  h.keep fun p hp => World.cell?_of_block (hg.block p.block (by omega) (fun e => by have := hr _ e.symm; omega))
end
section
variable {w w' : World} {B B' n c : Nat} {A : Option Addr} {l : List Int}
/-- what stands behind the k-th place -/
theorem Sl.cut (h : Sl w B A n c l) {k : Nat} (hk : k ≤ n) : Sl w B (if c = k then A else A.map (·.add k)) (n - k) (c - k) (l.drop k) := by
  refine ⟨by rw [List.length_drop, h.len], by have := h.cap; omega, by have := h.max; omega, ?_, ?_⟩
  · intro hn
    split at hn
    · omega
    · rcases A with _ | ad
      · have := h.nil rfl; omega
      · cases hn
  · intro ad ha hn
    rw [if_neg (by have := h.cap; omega)] at ha
    rcases A with _ | a0
    · cases ha
    · obtain rfl : a0.add k = ad := by injection ha
      obtain ⟨hb, hcell⟩ := h.at_ a0 rfl (by omega)
      refine ⟨by rw [add_block]; exact hb, fun j x hx => ?_⟩
      rw [add_add']
      exact hcell _ x (by rw [← hx, List.getElem?_drop])
end
section
variable {w w' : World} {B B' n c : Nat} {A : Option Addr} {l : List Int}
/-- the first k -/
theorem Sl.head (h : Sl w B A n c l) {k : Nat} (hk : k ≤ n) : Sl w B A k c (l.take k) := by
  refine ⟨by rw [List.length_take, h.len]; omega, by have := h.cap; omega, h.max, h.nil, fun ad ha hn => ?_⟩
  obtain ⟨hb, hcell⟩ := h.at_ ad ha (by omega)
  refine ⟨hb, fun j x hx => hcell j x ?_⟩
  rw [List.getElem?_take] at hx
  split at hx
  · exact hx
  · cases hx
end
section
variable {w w' : World} {B B' n c : Nat} {A : Option Addr} {l : List Int}
theorem Sl.empty (w : World) (B : Nat) : Sl w B none 0 0 [] := ⟨rfl, Nat.le_refl _, by unfold maxLen; omega, fun _ => rfl, fun _ h => by cases h⟩
end
/-- the slice value v is the call's own, from block B on, and holds the bytes l -/
def Own (w : World) (B : Nat) (v : Value) (l : List Int) : Prop := w.ownsRow B 5 1 v l.length (I l)
section
variable {w w' : World} {B B' : Nat} {v : Value} {l : List Int}
theorem Own.form (h : Own w B v l) : ∃ A c, v = .slice A l.length c ∧ Sl w w.heap.size A l.length c l ∧ (∀ ad, A = some ad → B ≤ ad.block) := by
  have h' := h
  rcases h'.2 with ⟨rfl, h0⟩ | ⟨g, cap, cur, rfl, hb, hg, h1, h2, h3, h4⟩
  · have : l = [] := List.eq_nil_of_length_eq_zero h0
    subst this
    exact ⟨none, 0, rfl, Sl.empty _ _, fun _ h => by cases h⟩
  · refine ⟨_, _, rfl, ⟨rfl, h1, h2, fun h => (by cases h), fun ad ha hn => ?_⟩, fun ad ha => by cases ha; exact hb⟩
    cases ha
    refine ⟨(h.lt g rfl).2, fun j x hx => h.cells (g := g) rfl j _ (I_get hx)⟩
end
section
variable {w w' : World} {B B' : Nat} {v : Value} {l : List Int}
theorem Own.lt (h : Own w B v l) : ∀ k, v.ownBlock = some k → B ≤ k ∧ k < w.heap.size := World.ownsRow.lt h
end
section
variable {w w' : World} {B B' : Nat} {v : Value} {l : List Int}
theorem Own.kept {row : Option Nat} (h : Own w B v l) (hg : w.grownBy w' row) (hr : ∀ k, v.ownBlock = some k → some k ≠ row) : Own w' B v l := by
  refine World.ownsRow.kept h hg ?_
  rcases e : v.ownBlock with _ | k
  · exact .inl rfl
  · exact .inr (hr k e)
end
section
variable {w w' : World} {B B' : Nat} {v : Value} {l : List Int}
theorem Own.nil (w : World) (B : Nat) : Own w B (.slice none 0 0) [] := World.ownsRow_nil _ _ _ _
end
/-- block g is just these cells, none frozen -/
def Blk (w : World) (g : Nat) (t : TypeId) (cs : Array Value) : Prop := w.heap[g]? = some (.cells cs t (0, 0))
section
variable {w w' : World} {g : Nat} {t : TypeId} {cs : Array Value}
theorem Blk.lt (h : Blk w g t cs) : g < w.heap.size := (Array.getElem?_eq_some_iff.1 h).1
end
section
variable {w w' : World} {g : Nat} {t : TypeId} {cs : Array Value}
theorem Blk.cell (h : Blk w g t cs) (i : Nat) : w.cell? ⟨g, i, none⟩ = cs[i]? := cell_of_row w g i cs t (0, 0) h
end
section
variable {w w' : World} {g : Nat} {t : TypeId} {cs : Array Value}
theorem Blk.free (h : Blk w g t cs) (i : Nat) : w.frozen? ⟨g, i, none⟩ = false := by
  unfold Blk at h
  simp [World.frozen?, h]
end
section
variable {w w' : World} {g : Nat} {t : TypeId} {cs : Array Value}
theorem Blk.new (w : World) (t : TypeId) (cs : Array Value) : Blk (w.alloc (.cells cs t)) w.heap.size t cs := heap_alloc_new w _
end
section
variable {w w' : World} {g : Nat} {t : TypeId} {cs : Array Value}
theorem Blk.drew (h : Blk w g t cs) : Blk w.drew g t cs := h
end
section
variable {w w' : World} {g : Nat} {t : TypeId} {cs : Array Value}
theorem Blk.drewN (h : Blk w g t cs) (n : Nat) : Blk (w.drewN n) g t cs := h
end
section
variable {w w' : World} {g : Nat} {t : TypeId} {cs : Array Value}
theorem Blk.alloc (h : Blk w g t cs) (o : Obj) : Blk (w.alloc o) g t cs := (Below.heap_alloc w o g h.lt).trans h
end
section
variable {w w' : World} {g : Nat} {t : TypeId} {cs : Array Value}
theorem Blk.put (h : Blk w g t cs) (i : Nat) (u : Value) : Blk (w.setCell ⟨g, i, none⟩ u) g t (cs.setIfInBounds i u) := by
  unfold Blk at h ⊢
  simp [World.setCell, Array.getElem?_modify, h]
end
section
variable {w w' : World} {g : Nat} {t : TypeId} {cs : Array Value}
theorem Blk.far (h : Blk w g t cs) {p : Addr} (hp : g ≠ p.block) (u : Value) : Blk (w.setCell p u) g t cs := (Below.heap_setCell w p u g hp).trans h
end
section
variable {w w' : World} {g : Nat} {t : TypeId} {cs : Array Value}
theorem Blk.below {B : Nat} (h : Blk w g t cs) (hb : Below B w w') (hg : g < B) : Blk w' g t cs := (hb.block g hg).trans h
end
section
variable {w w' : World} {g : Nat} {t : TypeId} {cs : Array Value}
theorem Blk.grown {row : Option Nat} (h : Blk w g t cs) (hb : w.grownBy w' row) (hg : some g ≠ row) : Blk w' g t cs := (hb.block g h.lt hg).trans h
end
/- only block g, and what is new, has turned -/
theorem only_refl (w : World) (row : Option Nat) : w.grownBy w row := ⟨rfl, rfl, rfl, Nat.le_refl _, fun _ _ _ => rfl⟩
theorem only_trans {a b c : World} {row : Option Nat} (h : a.grownBy b row) (k : b.grownBy c row) : a.grownBy c row :=
  ⟨k.os.trans h.os, k.tape.trans h.tape, k.output.trans h.output, Nat.le_trans h.size k.size, fun i hi hn => (k.block i (Nat.lt_of_lt_of_le hi h.size) hn).trans (h.block i hi hn)⟩
theorem only_drewN {a w : World} {row : Option Nat} (h : a.grownBy w row) (n : Nat) : a.grownBy (w.drewN n) row := ⟨h.os, h.tape, h.output, h.size, h.block⟩
theorem only_drew {a w : World} {row : Option Nat} (h : a.grownBy w row) : a.grownBy w.drew row := ⟨h.os, h.tape, h.output, h.size, h.block⟩
theorem only_alloc {a w : World} {row : Option Nat} (h : a.grownBy w row) (o : Obj) : a.grownBy (w.alloc o) row := only_trans h (World.grownBy_alloc w o row)
theorem only_put {a w : World} {g : Nat} (h : a.grownBy w (some g)) (i : Nat) (u : Value) : a.grownBy (w.setCell ⟨g, i, none⟩ u) (some g) :=
  ⟨h.os, h.tape, h.output, by simpa [World.setCell] using h.size, fun k hk hn => (Below.heap_setCell w ⟨g, i, none⟩ u k (fun e => hn (by rw [e]))).trans (h.block k hk hn)⟩
theorem only_below {a w : World} (h : Below a.heap.size a w) (row : Option Nat) : a.grownBy w row := ⟨h.os, h.tape, h.output, h.size, fun i hi _ => h.block i hi⟩
theorem below_drewN {B : Nat} {a w : World} (h : Below B a w) (n : Nat) : Below B a (w.drewN n) := ⟨h.os, h.tape, h.output, h.size, h.block⟩
theorem below_only {B : Nat} {a w : World} {g : Nat} (h : a.grownBy w (some g)) (hB : B ≤ g) (hs : B ≤ a.heap.size) : Below B a w :=
  ⟨h.os, h.tape, h.output, h.size, fun k hk => h.block k (by omega) (fun e => by injection e with e; omega)⟩

theorem Try.info5 : (Try.prog.info? 5).map (fun i => (i.zero, i.size, i.bytes)) = some (some (.int .u8 0), 1, 1) := by kernel_rfl

def str (s : ByteArray) : List Int := s.data.toList.map fun b => (b.toNat : Int)
theorem str_len (s : ByteArray) : (str s).length = s.size := by
  rw [str, List.length_map, Array.length_toList]
  rfl
theorem str_cells (s : ByteArray) : Lib.strCells s = I (str s) := by simp [Lib.strCells, I, str]

theorem str_of (s : ByteArray) : strOfNums (str s) = s := by
  obtain ⟨⟨l⟩⟩ := s
  simp only [strOfNums, str, List.map_map]
  congr 1
  congr 1
  conv => rhs; rw [← List.map_id l]
  apply List.map_congr_left
  intro b _
  simp
theorem str_byt (s : ByteArray) : Byt (str s) := by
  intro x hx
  simp only [str, List.mem_map] at hx
  obtain ⟨b, _, rfl⟩ := hx
  have := UInt8.toNat_lt b
  omega
theorem Sl.on {w w' : World} {A : Option Addr} {n c : Nat} {l : List Int} (h : Sl w w.heap.size A n c l) (hb : Below w.heap.size w w') : Sl w' w'.heap.size A n c l := (h.below hb).more hb.size
theorem size_drewN (w : World) (k : Nat) : (w.drewN k).heap.size = w.heap.size := rfl

theorem Sl.put {w : World} {g B n c : Nat} {A : Option Addr} {l : List Int} (h : Sl w B A n c l) (hB : B ≤ g) (i : Nat) (u : Value) : Sl (w.setCell ⟨g, i, none⟩ u) B A n c l :=
  h.keep fun p hp => World.cell?_setCell_other w ⟨g, i, none⟩ p u (fun e => by subst e; exact absurd hp (by show ¬ g < B; omega))

/-- what lies behind block g stays where only block g, and what is new, turns -/
theorem Sl.apart {w w' : World} {B n c g : Nat} {A : Option Addr} {l : List Int} (h : Sl w B A n c l) (hg : w.grownBy w' (some g)) (hn : ∀ ad, A = some ad → g < ad.block) : Sl w' B A n c l :=
  ⟨h.len, h.cap, h.max, h.nil, fun ad ha h0 => ⟨(h.at_ ad ha h0).1, fun j x hx => hg.cell ((h.at_ ad ha h0).2 j x hx) (by have := hn ad ha; rw [add_block]; simp; omega)⟩⟩
theorem only_of_drew {a w : World} {row : Option Nat} (h : a.drew.grownBy w row) : a.grownBy w row := ⟨h.os, h.tape, h.output, h.size, h.block⟩

theorem Sl.far {w w' : World} {B n c : Nat} {A : Option Addr} {l : List Int} {row : Option Nat} (h : Sl w B A n c l) (hg : w.grownBy w' row) (hr : ∀ g ad, row = some g → A = some ad → g < ad.block) : Sl w' B A n c l :=
  ⟨h.len, h.cap, h.max, h.nil, fun ad ha h0 => ⟨(h.at_ ad ha h0).1, fun j x hx => hg.cell ((h.at_ ad ha h0).2 j x hx) (fun e => by have := hr _ ad e.symm ha; rw [add_block] at this; omega)⟩⟩

theorem Sl.lit (w : World) (l : List Int) (h : l.length ≤ 1000) : Sl (w.alloc (.cells (I l).toArray 5)) (w.heap.size + 1) (some ⟨w.heap.size, 0, none⟩) l.length l.length l := by
  refine ⟨rfl, Nat.le_refl _, by unfold maxLen; omega, (fun h => by cases h), fun ad ha _ => ?_⟩
  cases ha
  refine ⟨by show w.heap.size < _; omega, fun j x hx => ?_⟩
  have hb : Blk (w.alloc (.cells (I l).toArray 5)) w.heap.size 5 (I l).toArray := Blk.new w 5 _
  have e : (⟨w.heap.size, 0, none⟩ : Addr).add j = ⟨w.heap.size, j, none⟩ := by unfold Addr.add; split <;> simp_all
  rw [e, hb.cell j]
  simpa using I_get hx
/-- it answers yes; what was there is as it was -/
def Yes (w : World) (e : Ending) (w' : World) : Prop := e = .returned (.bool true) ∧ Below w.heap.size w w'

def sameB (l m : List Int) : Bool := decide (l = m)
theorem same_end {l m : List Int} {n k : Nat} (hl : l.length = n) (hm : m.length = n) (hk : ¬ k < n) (h : l.take k = m.take k) : sameB l m = true := by
  rw [List.take_of_length_le (by omega), List.take_of_length_le (by omega)] at h
  simp [sameB, h]
theorem same_not {l m : List Int} {k : Nat} {x y : Int} (hx : l[k]? = some x) (hy : m[k]? = some y) (hne : x ≠ y) : sameB l m = false := by
  simp only [sameB, decide_eq_false_iff_not]
  rintro rfl
  rw [hx] at hy
  exact hne (by injection hy)
theorem same_len {l m : List Int} (h : l.length ≠ m.length) : sameB l m = false := by
  simp only [sameB, decide_eq_false_iff_not]
  rintro rfl
  exact h rfl
/-- it answers v, and only draws -/
def Quiet (w : World) (v : Value) (e : Ending) (w' : World) : Prop := e = .returned v ∧ ∃ k, w' = w.drewN k

theorem same_self (l : List Int) : sameB l l = true := by simp [sameB]

def Made (w : World) (l : List Int) (e : Ending) (w' : World) : Prop := ∃ v, e = .returned v ∧ Own w' w.heap.size v l ∧ Below w.heap.size w w'

theorem Made.out {w w' : World} {l : List Int} {e : Ending} (h : Made w l e w') : ∃ A c, e = .returned (.slice A l.length c) ∧ Own w' w.heap.size (.slice A l.length c) l ∧ Sl w' w'.heap.size A l.length c l ∧ Below w.heap.size w w' := by
  obtain ⟨v, rfl, ho, hb⟩ := h
  obtain ⟨A, c, rfl, hs, _⟩ := ho.form
  exact ⟨A, c, rfl, ho, hs, hb⟩

theorem Made.get {w w' : World} {l : List Int} {e : Ending} (h : Made w l e w') : ∃ A m c, e = .returned (.slice A m c) ∧ Sl w' w'.heap.size A m c l ∧ Below w.heap.size w w' := by
  obtain ⟨A, c, he, _, hs, hb⟩ := h.out
  exact ⟨A, _, c, he, hs, hb⟩

theorem Made.fresh {w w' : World} {l : List Int} {e : Ending} (h : Made w l e w') : ∃ A m c, e = .returned (.slice A m c) ∧ Sl w' w'.heap.size A m c l ∧ Below w.heap.size w w' ∧ ∀ ad, A = some ad → w.heap.size ≤ ad.block := by
  obtain ⟨v, rfl, ho, hb⟩ := h
  obtain ⟨A, c, rfl, hs, hn⟩ := ho.form
  exact ⟨A, _, c, rfl, hs, hb, hn⟩

/-- the slice '.slice A n c' reads as the int64s l, all below block B -/
structure Sn (w : World) (B : Nat) (A : Option Addr) (n c : Nat) (l : List Int) : Prop where
  len : l.length = n
  cap : n ≤ c
  max : c ≤ maxLen
  nil : A = none → c = 0
  at_ : ∀ ad, A = some ad → 0 < n → ad.block < B ∧ ∀ j x, l[j]? = some x → w.cell? (ad.add j) = some (.int .i64 x)
theorem Sn.get {w : World} {B n c : Nat} {A : Option Addr} {l : List Int} {k : Nat} (h : Sn w B A n c l) (hk : k < n) : ∃ ad x, A = some ad ∧ ad.block < B ∧ l[k]? = some x ∧ w.cell? (ad.add k) = some (.int .i64 x) := by
  rcases A with _ | ad
  · have := h.nil rfl; have := h.cap; omega
  · have hl := h.len
    obtain ⟨hb, hc⟩ := h.at_ ad rfl (by omega)
    have hx : l[k]? = some (l[k]'(by omega)) := List.getElem?_eq_getElem (by omega)
    exact ⟨ad, _, rfl, hb, hx, hc k _ hx⟩
theorem Sn.below {w w' : World} {B n c : Nat} {A : Option Addr} {l : List Int} (h : Sn w B A n c l) (hb : Below B w w') : Sn w' B A n c l :=
  ⟨h.len, h.cap, h.max, h.nil, fun ad ha hn => ⟨(h.at_ ad ha hn).1, fun j x hx => (hb.cell (by rw [add_block]; exact (h.at_ ad ha hn).1)).trans ((h.at_ ad ha hn).2 j x hx)⟩⟩

/-- the slice value v is the call's own, from block B on, and holds the ints l -/
def OwnN (w : World) (B : Nat) (v : Value) (l : List Int) : Prop := w.ownsRow B 3 1 v l.length (l.map (Value.int .i64))
theorem OwnN.form {w : World} {B : Nat} {v : Value} {l : List Int} (h : OwnN w B v l) : ∃ A c, v = .slice A l.length c ∧ Sn w w.heap.size A l.length c l := by
  have h' := h
  rcases h'.2 with ⟨rfl, h0⟩ | ⟨g, cap, cur, rfl, hb, hg, h1, h2, h3, h4⟩
  · have : l = [] := List.eq_nil_of_length_eq_zero h0
    subst this
    exact ⟨none, 0, rfl, ⟨rfl, Nat.le_refl _, by unfold maxLen; omega, fun _ => rfl, fun _ h => by cases h⟩⟩
  · refine ⟨_, _, rfl, ⟨rfl, h1, h2, fun h => (by cases h), fun ad ha hn => ?_⟩⟩
    cases ha
    exact ⟨(World.ownsRow.lt h g rfl).2, fun j x hx => World.ownsRow.cells h (g := g) rfl j _ (by simp [hx])⟩
theorem OwnN.on {w w' : World} {B : Nat} {v : Value} {l : List Int} (h : OwnN w B v l) (hb : Below w.heap.size w w') : OwnN w' B v l :=
  World.ownsRow.kept h (only_below hb none) (by cases hv : v.ownBlock <;> simp)
theorem OwnN.lt {w : World} {B : Nat} {v : Value} {l : List Int} (h : OwnN w B v l) : ∀ k, v.ownBlock = some k → B ≤ k ∧ k < w.heap.size := World.ownsRow.lt h
theorem Try.info3 : (Try.prog.info? 3).map (fun i => (i.zero, i.size, i.bytes)) = some (some (.int .i64 0), 1, 8) := by kernel_rfl

theorem conv_any {w : World} {B n c : Nat} {A : Option Addr} {l : List Int} (h : Sl w B A n c l) :
    (convert 22 9 (.slice A n c)).run Try.prog w = .ok (.string (strOfNums l)) w := by
  rw [run_convert_bytes_string w 22 9 5 _ n c Try.underlying22 Try.underlying5 Try.underlying9]
  rcases A with _ | ad
  · have h0 := h.nil rfl
    have h1 := h.cap
    have h2 := h.len
    have : l = [] := List.eq_nil_of_length_eq_zero (by omega)
    subst this
    simp [Conv.bytesToString, strOfNums]
    rfl
  · have hl : (loadCells ad n).run Try.prog w = .ok (l.map (Value.int .u8)).toArray w := by
      have := run_loadCells_list (P := Try.prog) w ad (l.map (Value.int .u8)) (fun j v hj => by
        obtain ⟨x, hx, rfl⟩ := I_get' hj
        have hj : j < l.length := (List.getElem?_eq_some_iff.1 hx).1
        exact (h.at_ ad rfl (by have := h.len; omega)).2 j x hx)
      simpa [h.len] using this
    rw [run_bytesToString w _ n c l hl, foldl_push_bytes]
    simp [strOfNums, ByteArray.empty, ByteArray.emptyWithCapacity]
    rfl

theorem zeros (n : Nat) : (madeCells #[Value.int .u8 0] n).toList = I (List.replicate n 0) := by
  have h := toList_madeCells_one (Value.int .u8 0) n
  simp only [I, List.map_replicate]
  exact h

theorem wpList_append_sl {w : World} {ops : Array Oper} {rest : List Oper} {o : Oper} {a : Act} {Q : Exit → Act → World → Prop} (hgd : o.guard = none) (s x : Operand)
    (ho : o.op = .call { callee := .builtin .append, args := #[s, x], argTypes := #[22, 22] }) (B B' : Nat) (v : Value) (l m : List Int) (hs : a.eval s = v) (hown : Own w B v l) (A : Option Addr) (n c : Nat) (hx : a.eval x = .slice A n c)
    (hsl : Sl w B' A n c m) (hlen : l.length + n ≤ 1000000) (hB : B ≤ w.heap.size) (h : ∀ v' w', Own w' B v' (l ++ m) → Below B w w' → wpList Try.prog ops Q rest (a.put o.dst v') w') : wpList Try.prog ops Q (o :: rest) a w := by
  obtain ⟨i0, hi, hz0, hz1, hz2⟩ := info_parts Try.info5
  rcases A with _ | ad
  · obtain rfl : c = 0 := hsl.nil rfl
    obtain rfl : n = 0 := by have := hsl.cap; omega
    obtain rfl : m = [] := List.eq_nil_of_length_eq_zero hsl.len
    exact wpList_append_own_none hgd s x 22 ho B 5 i0 1 Try.underlying22 hi v _ _ hs hown hx (h v w (by simpa using hown) (Below.refl _ _))
  · refine wpList_append_own w hgd s x 22 ho B 5 i0 (.int .u8 0) 1 1 Try.underlying22 hi hz0 hz1 hz2 rfl (by decide) v _ _ hs hown ad n c (I m) hx (by rw [I_len, hsl.len]; omega) ?_ I_one (by unfold maxLen; omega) (by omega) hB ?_
    · intro j u hu
      obtain ⟨y, hy, rfl⟩ := I_get' hu
      have hj : j < m.length := (List.getElem?_eq_some_iff.1 hy).1
      exact (hsl.at_ ad rfl (by have := hsl.len; omega)).2 j y hy
    · intro v' w' h1 h2 _
      refine h v' w' ?_ ((Below.refl _ _).grown h2 hB (fun k hk => (hown.lt k hk).1))
      unfold Own
      rw [I_append, List.length_append, hsl.len]
      exact h1

theorem Own.slot {w : World} {B : Nat} {v : Value} {l : List Int} (h : Own w B v l) (hl : l ≠ []) : ∃ g cap, v = .slice (some ⟨g, 0, none⟩) l.length cap ∧ B ≤ g ∧ g < w.heap.size := by
  have hp : 0 < l.length := by rcases l with _ | ⟨a, l⟩; · exact absurd rfl hl
                               · simp
  obtain ⟨g, cap, hv, hb, hg⟩ := World.ownsRow.form h hp
  exact ⟨g, cap, hv, hb, hg⟩
theorem Own.stored {w : World} {B g cap k : Nat} {i : List Int} {c d : Int} (h : Own w B (.slice (some ⟨g, 0, none⟩) (k + 1) cap) (i ++ [c])) (hk : i.length = k) :
    w.cell? ⟨g, k, none⟩ = some (.int .u8 c) ∧ w.frozen? ⟨g, k, none⟩ = false ∧ Own (w.setCell ⟨g, k, none⟩ (.int .u8 d)) B (.slice (some ⟨g, 0, none⟩) (k + 1) cap) (i ++ [d]) := by
  subst hk
  unfold Own at h ⊢
  rw [List.length_append, List.length_singleton] at h ⊢
  refine ⟨?_, World.ownsRow.frozenAt h _, ?_⟩
  · rw [World.ownsRow.cellAt h i.length (by omega)]
    exact I_get (by simp)
  · have := (World.ownsRow.stored h i.length (.int .u8 d)).1
    have e : (I (i ++ [c])).set i.length (.int .u8 d) = I (i ++ [d]) := by
      rw [I_append, I_append, ← I_len i]
      simp [I]
    rwa [e] at this
end Go.Proofs.Ytljgkkgeaojolaa
