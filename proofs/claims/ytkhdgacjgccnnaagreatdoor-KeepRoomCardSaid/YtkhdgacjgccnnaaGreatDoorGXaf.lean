/- Put together out of 4 texts. Refs in memory; package root's own small calls: check, place, appendNum, laid, firstNum. -/
import Derived.Test.YtkhdgacjgccnnaaGreatDoorGXae
import Derived.Deep.RegionHeld3
import Derived.RegionTactic
import Derived.Deep.QuietTactic
import Derived.BigQuiet
import Derived.Laws.CopyOwn
namespace Go.Proofs.YtkhdgacjgccnnaaGreatDoor
open Go.RowKit

theorem add_atR (a : Addr) (m : Nat) {j : Nat} (h : 0 < j) : a.add (m + j) = ⟨(a.add m).block, (a.add m).off + j, none⟩ := by
  unfold Addr.add
  by_cases hm : m = 0
  · subst hm
    rw [if_neg (by omega), if_pos rfl, Nat.zero_add]
  · rw [if_neg (by omega), if_neg hm]
    simp [Nat.add_assoc]
/-- a ref's two cells -/
def cells2 (x : Int × Nat) : List Value := [.int .i64 x.1, .int .u32 (x.2 : Int)]
def cellsR (l : List (Int × Nat)) : List Value := l.flatMap cells2
theorem cellsR_len (l : List (Int × Nat)) : (cellsR l).length = l.length * 2 := by
  induction l with
  | nil => rfl
  | cons x l ih => simp only [cellsR, List.flatMap_cons, List.length_append, List.length_cons] at ih ⊢; rw [ih]; simp [cells2]; omega
theorem cellsR_get {l : List (Int × Nat)} {k : Nat} {x : Int × Nat} (h : l[k]? = some x) {j : Nat} (hj : j < 2) : (cellsR l)[k * 2 + j]? = (cells2 x)[j]? := by
  induction l generalizing k with
  | nil => simp at h
  | cons y l ih =>
    rcases k with _ | k
    · simp at h
      subst h
      simp only [cellsR, List.flatMap_cons]
      rw [List.getElem?_append_left (by simp [cells2]; omega)]
      congr 1
      omega
    · simp at h
      simp only [cellsR, List.flatMap_cons]
      rw [List.getElem?_append_right (by simp [cells2]; omega)]
      have e : (k + 1) * 2 + j - (cells2 y).length = k * 2 + j := by simp [cells2]; omega
      rw [e]
      exact ih h
/-- its j-th cell set, in the k-th ref -/
theorem cellsR_set {l : List (Int × Nat)} {k : Nat} {x x' : Int × Nat} {j : Nat} {u : Value} (h : l[k]? = some x) (hj : j < 2) (e : (cells2 x).set j u = cells2 x') : (cellsR l).set (k * 2 + j) u = cellsR (l.set k x') := by
  induction l generalizing k with
  | nil => simp at h
  | cons y l ih =>
    rcases k with _ | k
    · simp at h
      subst h
      simp only [cellsR, List.flatMap_cons, List.set_cons_zero]
      rw [List.set_append_left _ _ (by simp [cells2]; omega), ← e]
      congr 2
      omega
    · simp at h
      simp only [cellsR, List.flatMap_cons, List.set_cons_succ]
      rw [List.set_append_right _ _ (by simp [cells2]; omega)]
      have e2 : (k + 1) * 2 + j - (cells2 y).length = k * 2 + j := by simp [cells2]; omega
      rw [e2]
      congr 1
      exact ih h
theorem cellsR_one (l : List (Int × Nat)) : ∀ u ∈ cellsR l, u.oneCell' = true := by
  intro u hu
  simp only [cellsR, List.mem_flatMap] at hu
  obtain ⟨x, _, hu⟩ := hu
  simp only [cells2, List.mem_cons, List.not_mem_nil, or_false] at hu
  rcases hu with rfl | rfl <;> rfl
theorem cellsR_append (l m : List (Int × Nat)) : cellsR (l ++ m) = cellsR l ++ cellsR m := by simp [cellsR]
/-- a ref's value -/
abbrev rfV (x : Int × Nat) : Value := .agg #[.int .i64 x.1, .int .u32 (x.2 : Int)]
/-- a root's value -/
abbrev rtV (e : Int) (A : Option Addr) (n c : Nat) : Value := .agg #[.int .i64 e, .slice A n c]
/-- the slice '.slice A n c' reads as the refs l, all below block B -/
structure Rf (w : World) (B : Nat) (A : Option Addr) (n c : Nat) (l : List (Int × Nat)) : Prop where
  len : l.length = n
  cap : n ≤ c
  max : c ≤ maxLen
  nil : A = none → c = 0
  at_ : ∀ ad, A = some ad → 0 < n → ad.block < B ∧ ∀ j x, l[j]? = some x → w.cell? (ad.add (j * 2)) = some (.int .i64 x.1) ∧ w.cell? (ad.add (j * 2 + 1)) = some (.int .u32 (x.2 : Int))
theorem Rf.get {w : World} {B n c k : Nat} {A : Option Addr} {l : List (Int × Nat)} (h : Rf w B A n c l) (hk : k < n) : ∃ ad x, A = some ad ∧ ad.block < B ∧ l[k]? = some x ∧ w.cell? (ad.add (k * 2)) = some (.int .i64 x.1) ∧ w.cell? ⟨(ad.add (k * 2)).block, (ad.add (k * 2)).off + 1, none⟩ = some (.int .u32 (x.2 : Int)) := by
  rcases A with _ | ad
  · have := h.nil rfl; have := h.cap; omega
  · have hl := h.len
    obtain ⟨hb, hc⟩ := h.at_ ad rfl (by omega)
    have hx : l[k]? = some (l[k]'(by omega)) := List.getElem?_eq_getElem (by omega)
    obtain ⟨h1, h2⟩ := hc k _ hx
    exact ⟨ad, _, rfl, hb, hx, h1, by rw [← add_atR ad (k * 2) (by omega)]; exact h2⟩
theorem Rf.keep {w w' : World} {B n c : Nat} {A : Option Addr} {l : List (Int × Nat)} (h : Rf w B A n c l) (hk : ∀ p : Addr, p.block < B → w'.cell? p = w.cell? p) : Rf w' B A n c l :=
  ⟨h.len, h.cap, h.max, h.nil, fun ad ha hn => ⟨(h.at_ ad ha hn).1, fun j x hx => by
    have hb := (h.at_ ad ha hn).1
    obtain ⟨h1, h2⟩ := (h.at_ ad ha hn).2 j x hx
    exact ⟨(hk _ (by rw [add_block]; exact hb)).trans h1, (hk _ (by rw [add_block]; exact hb)).trans h2⟩⟩⟩
theorem Rf.more {w : World} {B B' n c : Nat} {A : Option Addr} {l : List (Int × Nat)} (h : Rf w B A n c l) (hB : B ≤ B') : Rf w B' A n c l :=
  ⟨h.len, h.cap, h.max, h.nil, fun ad ha hn => ⟨Nat.lt_of_lt_of_le (h.at_ ad ha hn).1 hB, (h.at_ ad ha hn).2⟩⟩
theorem Rf.below {w w' : World} {B n c : Nat} {A : Option Addr} {l : List (Int × Nat)} (h : Rf w B A n c l) (hb : Below B w w') : Rf w' B A n c l := h.keep fun _ hp => hb.cell hp
theorem Rf.on {w w' : World} {A : Option Addr} {n c : Nat} {l : List (Int × Nat)} (h : Rf w w.heap.size A n c l) (hb : Below w.heap.size w w') : Rf w' w'.heap.size A n c l := (h.below hb).more hb.size
theorem Rf.drewN {w : World} {B n c : Nat} {A : Option Addr} {l : List (Int × Nat)} (h : Rf w B A n c l) (k : Nat) : Rf (w.drewN k) B A n c l := h.keep fun _ _ => rfl
theorem Rf.empty (w : World) (B : Nat) : Rf w B none 0 0 [] := ⟨rfl, Nat.le_refl _, by unfold maxLen; omega, fun _ => rfl, fun _ h => by cases h⟩
theorem Rf.same {w w' : World} {n c : Nat} {A : Option Addr} {l : List (Int × Nat)} (h : Rf w w.heap.size A n c l) (hs : w.heap.size ≤ w'.heap.size) (hk : ∀ ad, A = some ad → 0 < n → w'.heap[ad.block]? = w.heap[ad.block]?) : Rf w' w'.heap.size A n c l :=
  ⟨h.len, h.cap, h.max, h.nil, fun ad ha h0 => ⟨Nat.lt_of_lt_of_le (h.at_ ad ha h0).1 hs, fun j x hx => by
    obtain ⟨h1, h2⟩ := (h.at_ ad ha h0).2 j x hx
    exact ⟨(World.cell?_of_block (by rw [add_block]; exact hk ad ha h0)).trans h1, (World.cell?_of_block (by rw [add_block]; exact hk ad ha h0)).trans h2⟩⟩⟩
theorem Rf.max' {w : World} {B n c : Nat} {A : Option Addr} {l : List (Int × Nat)} (h : Rf w B A n c l) : n ≤ 9223372036854775807 := by have := h.cap; have := h.max; unfold maxLen at this; omega
/-- the slice value v is the call's own, from block B on, and holds the refs l -/
def OwnR (w : World) (B : Nat) (v : Value) (l : List (Int × Nat)) : Prop := w.ownsRow B 91 2 v l.length (cellsR l)
theorem OwnR.form {w : World} {B : Nat} {v : Value} {l : List (Int × Nat)} (h : OwnR w B v l) : ∃ A c, v = .slice A l.length c ∧ Rf w w.heap.size A l.length c l ∧ (∀ ad, A = some ad → B ≤ ad.block) := by
  have h' := h
  rcases h'.2 with ⟨rfl, h0⟩ | ⟨g, cap, cur, rfl, hb, hg, h1, h2, h3, h4⟩
  · have : l = [] := List.eq_nil_of_length_eq_zero h0
    subst this
    exact ⟨none, 0, rfl, Rf.empty _ _, fun _ h => by cases h⟩
  · refine ⟨_, _, rfl, ⟨rfl, h1, h2, fun h => (by cases h), fun ad ha hn => ?_⟩, fun ad ha => by cases ha; exact hb⟩
    cases ha
    refine ⟨(World.ownsRow.lt h g rfl).2, fun j x hx => ⟨?_, ?_⟩⟩
    · exact World.ownsRow.cells h (g := g) rfl (j * 2) _ (by have := cellsR_get hx (j := 0) (by omega); simpa [cells2] using this)
    · exact World.ownsRow.cells h (g := g) rfl (j * 2 + 1) _ (by have := cellsR_get hx (j := 1) (by omega); simpa [cells2] using this)
theorem OwnR.lt {w : World} {B : Nat} {v : Value} {l : List (Int × Nat)} (h : OwnR w B v l) : ∀ k, v.ownBlock = some k → B ≤ k ∧ k < w.heap.size := World.ownsRow.lt h
theorem OwnR.nil (w : World) (B : Nat) : OwnR w B (.slice none 0 0) [] := World.ownsRow_nil _ _ _ _

/-- the errors that package root answers -/
abbrev Sent6 : World → (Nat → Addr) → Prop := SentL [1, 2, 3, 4, 5, 6]
theorem Sent6.five {w : World} {S : Nat → Addr} (h : Sent6 w S) : Sent5 w S := fun i hi => h i (by revert hi; revert i; decide)
theorem Sent6.range {w : World} {S : Nat → Addr} (h : Sent6 w S) : w.cell? ⟨0, 0, none⟩ = some (.iface 261 (.pointer (some (S 2)))) := h 2 (by decide)
theorem Sent6.many {w : World} {S : Nat → Addr} (h : Sent6 w S) : w.cell? ⟨7, 0, none⟩ = some (.iface 261 (.pointer (some (S 3)))) := h 3 (by decide)

/- check -/
theorem code_epoch {r : RSt} (h : r.epoch < 1 ∨ 1099511627776 < r.epoch) : r.code = 103 := by unfold RSt.code; rw [if_pos h]
theorem code_addr {r : RSt} (h : ¬ (r.epoch < 1 ∨ 1099511627776 < r.epoch)) {k : Nat} {x : Int × Nat} (hx : r.refs[k]? = some x) (hb : x.1 < 0 ∨ 6000 < x.1) : r.code = 103 := by
  unfold RSt.code
  rw [if_neg h, if_pos]
  simp only [badAddr, List.any_eq_true, decide_eq_true_eq]
  exact ⟨x, List.mem_of_getElem? hx, hb⟩
theorem code_rest {r : RSt} (h : ¬ (r.epoch < 1 ∨ 1099511627776 < r.epoch)) (hb : badAddr (r.refs.take r.refs.length) = false) : r.code = if 16 < r.refs.length then 104 else 0 := by
  rw [List.take_length] at hb
  unfold RSt.code
  rw [if_neg h, if_neg (by rw [hb]; decide)]
theorem bad_next {l : List (Int × Nat)} {k : Nat} {x : Int × Nat} (hx : l[k]? = some x) (hb : badAddr (l.take k) = false) (h : ¬ (x.1 < 0 ∨ 6000 < x.1)) : badAddr (l.take (k + 1)) = false := by
  rw [List.take_add_one, hx]
  unfold badAddr at hb ⊢
  rw [List.any_append, hb]
  simp; omega
set_option maxRecDepth 100000 in
set_option maxHeartbeats 2000000 in
theorem check_any (S : Nat → Addr) (r : RSt) (A : Option Addr) (n c : Nat) (w : World) (hS : Sent6 w S) (hr : Rf w w.heap.size A n c r.refs) (h0 : -9223372036854775808 ≤ r.epoch) (h1 : r.epoch ≤ 9223372036854775807) :
    Calls Tryz.prog 88 #[rtV r.epoch A n c] w fun e w' => (∃ v, e = .returned v ∧ EV S r.code v) ∧ Below w.heap.size w w' := by
  have HS := hid hS
  have HR := hid hr
  have HN := hid hr.max'
  have HL := hid hr.len
  have HC := hid (fun h => code_epoch (r := r) h)
  have HCa := hid (fun h k x hx hb => code_addr (r := r) h (k := k) (x := x) hx hb)
  have HCr := hid (fun h hb => code_rest (r := r) h hb)
  obtain ⟨code, hcode⟩ : ∃ z, r.code = z := ⟨_, rfl⟩
  rw [hcode] at HC HCa HCr ⊢
  obtain ⟨ep, refs⟩ := r
  clear hcode
  simp only at *
  have hb1 : Below w.heap.size w (w.alloc (.cells #[.int .i64 ep, .slice A n c] 85)) := (Below.refl _ _).alloc (Nat.le_refl _) _
  have HB1 := hid hb1
  have HK1 := hid (Blk.new w 85 #[.int .i64 ep, .slice A n c])
  have hg0 := Sent6.range (HS.out.on hb1)
  have hg1 := Sent6.many (HS.out.on hb1)
  have c0 := HK1.out.cell 0
  have c1 := HK1.out.cell 1
  simp at c0 c1
  have hep : (decide (ep < 1) = true) ∨ (decide (ep < 1) = false ∧ decide (1099511627776 < ep) = true) ∨ (decide (ep < 1) = false ∧ decide (1099511627776 < ep) = false ∧ ¬ (ep < 1 ∨ 1099511627776 < ep)) := by
    by_cases h : ep < 1
    · exact .inl (by simpa using h)
    · by_cases h' : 1099511627776 < ep
      · exact .inr (.inl ⟨by simpa using h, by simpa using h'⟩)
      · exact .inr (.inr ⟨by simpa using h, by simpa using h', by omega⟩)
  clear hS hr hb1 h0 h1
  rcases hep with g1 | ⟨g1, g2⟩ | ⟨g1, g2, h⟩
  · have HE := hid (HC.out (.inl (by simpa using g1)))
    go_enter Tryz.func88, Tryz.ntmps88
    go_wp2
    go_ret
    exact ⟨⟨_, rfl, by rw [HE.out]; exact .err 2 (by decide)⟩, HB1.out⟩
  · have HE := hid (HC.out (.inr (by simpa using g2)))
    go_enter Tryz.func88, Tryz.ntmps88
    go_wp2
    go_ret
    exact ⟨⟨_, rfl, by rw [HE.out]; exact .err 2 (by decide)⟩, HB1.out⟩
  · have HH := hid h
    clear h
    go_enter Tryz.func88, Tryz.ntmps88
    go_wp2
    go_loopw [17] (fun i wr => ∃ k : Nat, k ≤ n ∧ i = .int .i64 (k : Int) ∧ badAddr (refs.take k) = false ∧ Below w.heap.size w wr ∧ Blk wr w.heap.size 85 #[.int .i64 ep, .slice A n c]) (fun i _ => n - (intOf i).toNat)
    case atStart => exact ⟨0, Nat.zero_le _, rfl, rfl, HB1.out, HK1.out⟩
    case round =>
      obtain ⟨k, hk, rfl, hbad, hb, hblk⟩ := hrel
      have HBd := hid hbad
      have HBr := hid hb
      have HKr := hid hblk
      have k1 := hblk.cell 1
      simp at k1
      have hgr0 := Sent6.range (HS.out.on hb)
      have hgr1 := Sent6.many (HS.out.on hb)
      clear c0 c1 hg0 hg1 hbad hblk
      by_cases hlt : k < n
      · obtain ⟨ad, x, rfl, hbl, hx, q0, q1⟩ := (HR.out.on hb).get hlt
        have HX := hid hx
        have hkn : (k : Int) < n := by omega
        have hn63 : (n : Int) ≤ 9223372036854775807 := by have := HN.out; omega
        have hxs : (decide (x.1 < 0) = true ∧ (x.1 < 0 ∨ 6000 < x.1)) ∨ (decide (x.1 < 0) = false ∧ decide (6000 < x.1) = true ∧ (x.1 < 0 ∨ 6000 < x.1)) ∨ (decide (x.1 < 0) = false ∧ decide (6000 < x.1) = false ∧ ¬ (x.1 < 0 ∨ 6000 < x.1)) := by
          by_cases h : x.1 < 0
          · exact .inl ⟨by simpa using h, .inl h⟩
          · by_cases h' : 6000 < x.1
            · exact .inr (.inl ⟨by simpa using h, by simpa using h', .inr h'⟩)
            · exact .inr (.inr ⟨by simpa using h, by simpa using h', by omega⟩)
        clear hx hb
        rcases hxs with ⟨x0, hxb⟩ | ⟨x0, x1, hxb⟩ | ⟨x0, x1, hxb⟩
        · have HE := hid (HCa.out HH.out k x HX.out hxb)
          clear hxb
          have hgs := Sent6.range (HS.out.on (HBr.out.alloc HBr.out.size (.cells #[.int .i64 x.1, .int .u32 (x.2 : Int)] 91)))
          go_wp2
          go_ret
          exact ⟨⟨_, rfl, by rw [HE.out]; exact .err 2 (by decide)⟩, HBr.out.alloc HBr.out.size _⟩
        · have HE := hid (HCa.out HH.out k x HX.out hxb)
          clear hxb
          have hgs := Sent6.range (HS.out.on (HBr.out.alloc HBr.out.size (.cells #[.int .i64 x.1, .int .u32 (x.2 : Int)] 91)))
          go_wp2
          go_ret
          exact ⟨⟨_, rfl, by rw [HE.out]; exact .err 2 (by decide)⟩, HBr.out.alloc HBr.out.size _⟩
        · have HBn := hid (bad_next HX.out HBd.out hxb)
          clear hxb
          go_wp2
          go_roundw
          case rel => exact ⟨k + 1, by omega, by go_num, HBn.out, HBr.out.alloc HBr.out.size _, HKr.out.alloc _⟩
          case measure => simp [intOf]; omega
      · have HE := hid (HCr.out HH.out (by rw [show refs.length = k by have := HL.out; omega]; exact HBd.out))
        have hlen := HL.out
        have hnlt : decide (k < n) = false := by simpa using hlt
        by_cases h16 : 16 < n
        · have g3 : decide ((16 : Int) < (n : Int)) = true := by simp; omega
          go_wp2
          go_ret
          exact ⟨⟨_, rfl, by rw [HE.out, if_pos (by omega)]; exact .err 3 (by decide)⟩, HBr.out⟩
        · have g3 : decide ((16 : Int) < (n : Int)) = false := by simp; omega
          go_wp2
          go_ret
          exact ⟨⟨_, rfl, by rw [HE.out, if_neg (by omega)]; exact .fine⟩, HBr.out⟩
/- place -/
set_option maxHeartbeats 1000000 in
theorem place_any (e : Int) (A : Option Addr) (n c : Nat) (w : World) (h0 : 1 ≤ e) (h1 : e ≤ 1099511627776) :
    Calls Tryz.prog 94 #[rtV e A n c] w fun v w' => v = .returned (.int .i64 (e % 2)) ∧ Below w.heap.size w w' := by
  have hm : e.tmod 2 = e % 2 := (emod_pos e 2 (by omega) (Int.tmod_nonneg 2 (by omega))).symm
  have HK1 := hid (Blk.new w 85 #[.int .i64 e, .slice A n c])
  have c0 := HK1.out.cell 0
  simp at c0
  go_enter Tryz.func94, Tryz.ntmps94
  go_wp2
  go_ret
  exact ⟨by rw [← hm]; rfl, (Below.refl _ _).alloc (Nat.le_refl _) _⟩
end Go.Proofs.YtkhdgacjgccnnaaGreatDoor
namespace Go.Proofs.YtkhdgacjgccnnaaGreatDoor
open Go.RowKit

/-- what an append onto a slice of the call's own leaves: only its block, and what is new, has turned -/
def AppR (w : World) (B : Nat) (v : Value) (l : List Int) (e : Ending) (w' : World) : Prop := ∃ v', e = .returned v' ∧ Own w' B v' l ∧ Only (fun g => v.ownBlock = some g) w w' ∧ ∀ g, v'.ownBlock = some g → v.ownBlock = some g ∨ w.heap.size ≤ g
theorem div_byte (n i : Nat) : ((n : Int) / 2 ^ (8 * i)) % 256 = ((n / 256 ^ i % 256 : Nat) : Int) := by
  have e : (256 : Nat) ^ i = 2 ^ (8 * i) := by rw [Nat.pow_mul]
  rw [e]
  have : ((2 : Int) ^ (8 * i)) = ((2 ^ (8 * i) : Nat) : Int) := by simp
  rw [this]
  omega
theorem only_grown {w w' : World} {v : Value} (h : w.grownBy w' v.ownBlock) : Only (fun g => v.ownBlock = some g) w w' := ⟨h.os, h.tape, h.output, h.size, fun k hk hn => h.block k hk (fun e => hn e.symm)⟩
set_option maxRecDepth 100000 in
set_option maxHeartbeats 2000000 in
theorem appendNumR_any (B : Nat) (v : Value) (l : List Int) (n size : Nat) (w : World) (h : Own w B v l) (hB : B ≤ w.heap.size) (_ : n ≤ 9223372036854775807) (hs : size ≤ 7) (hl : l.length ≤ 1000) :
    Calls Tryz.prog 124 #[v, .int .i64 (n : Int), .int .i64 (size : Int)] w (AppR w B v (l ++ numB size n)) := by
  obtain ⟨i0, hi, hz0, hz1, hz2⟩ := info_parts Tryz.info5
  have HO := hid h
  have HL := hid hl
  clear h hl
  go_enter Tryz.func124, Tryz.ntmps124
  go_wp2
  go_loopw [0, 9] (fun v' i wr => ∃ k : Nat, k ≤ size ∧ i = .int .i64 (k : Int) ∧ Own wr B v' (l ++ numB k n) ∧ Only (fun g => v.ownBlock = some g) w wr ∧ ∀ g, v'.ownBlock = some g → v.ownBlock = some g ∨ w.heap.size ≤ g) (fun _ i _ => size - (intOf i).toNat)
  case atStart => exact ⟨0, Nat.zero_le _, rfl, by simpa [numB] using HO.out, Only.refl _ _, fun g hg => .inl hg⟩
  case round =>
    obtain ⟨k, hk, rfl, hown, ho, hg⟩ := hrel
    have HO1 := hid hown
    have HOn := hid ho
    have HG := hid hg
    have hsz : B ≤ wr.heap.size := Nat.le_trans hB ho.size
    have HLn := hid (show (l ++ numB k n).length ≤ 1010 by rw [List.length_append, numB_len]; have := HL.out; omega)
    clear hown ho hg
    by_cases hlt : k < size
    · have hk7 : (k : Int) ≤ 6 := by omega
      have hks : (k : Int) < size := by omega
      have hs7 : (size : Int) ≤ 7 := by omega
      have HW := hid (div_byte n k)
      obtain ⟨N, hN⟩ : ∃ N, (l ++ numB k n).length = N := ⟨_, rfl⟩
      have HN := hid hN
      have HOa := hid (fun o => (show (wr.alloc o).ownsRow B 5 1 u0 N (I (l ++ numB k n)) from hN ▸ World.ownsRow.alloc HO1.out o))
      clear hN
      go_wp2_with (at_builtin; refine wpList_append_lies _ rfl _ _ 29 rfl B 5 i0 (.int .u8 0) 1 1 Tryz.underlying29 hi hz0 hz1 hz2 rfl (by decide) _ _ _ rfl (HOa.out _) ⟨wr.heap.size, 0, none⟩ 1 1 [.int .u8 ((n : Int) / 2 ^ (8 * k) % 256)] rfl rfl ?d1 ?d2 (by decide) ?d3 ?d4 ?d5 (wr.heap.size + 1) ?d6 ?_)
      case d1 => exact cell_one_new _ _ _
      case d2 => intro u hu; simp at hu; subst hu; rfl
      case d3 => have := HLn.out; have := HN.out; unfold maxLen; omega
      case d4 => have := HLn.out; have := HN.out; omega
      case d5 => simp; omega
      case d6 => simp
      intro g cap w1 hown' hgrow hgv _
      have hbw : Only (fun g => v.ownBlock = some g) w w1 := (HOn.out.then_below ((Below.refl _ _).alloc (Nat.le_refl _) _)).trans (only_grown hgrow) (fun i hi => (HG.out i hi).imp id (fun h => h))
      have R := hid (show Own w1 B (.slice (some ⟨g, 0, none⟩) (N + 1) cap) (l ++ numB (k + 1) n) from by
        rw [numB_succ, ← List.append_assoc]
        unfold Own
        rw [I_append, List.length_append (bs := [((n / 256 ^ k % 256 : Nat) : Int)]), HN.out]
        rw [HW.out] at hown'
        simpa [I] using hown')
      have R2 := hid hbw
      have R3 := hid (show ∀ i, (Value.slice (some ⟨g, 0, none⟩) (N + 1) cap).ownBlock = some i → v.ownBlock = some i ∨ w.heap.size ≤ i from fun i hi => by
        have : g = i := by simpa [Value.ownBlock] using hi
        subst this
        rcases hgv with h | h
        · exact HG.out _ h
        · have := HOn.out.size; omega)
      clear hown' hgrow hbw hgv
      go_wp2
      go_roundw
      case rel => exact ⟨k + 1, by omega, by go_num, R.out, R2.out, R3.out⟩
      case measure => simp [intOf]; omega
    · obtain rfl : k = size := by omega
      have HF := hid (show AppR w B v (l ++ numB k n) (.returned u0) wr from ⟨_, rfl, HO1.out, HOn.out, HG.out⟩)
      have hnlt : decide (k < k) = false := by simp
      go_wp2
      go_ret
      exact HF.out
theorem appendNumR' (B : Nat) (v : Value) (l : List Int) (n size : Nat) (x z : Int) (w : World) (hx : x = (n : Int)) (hz : z = (size : Int)) (h : Own w B v l) (hB : B ≤ w.heap.size) (h1 : n ≤ 9223372036854775807) (hs : size ≤ 7) (hl : l.length ≤ 1000) :
    Calls Tryz.prog 124 #[v, .int .i64 x, .int .i64 z] w (AppR w B v (l ++ numB size n)) := by
  subst hx hz
  exact appendNumR_any B v l n size w h hB h1 hs hl
theorem refsB_take {l : List (Int × Nat)} {k : Nat} {x : Int × Nat} (h : l[k]? = some x) : refsB (l.take (k + 1)) = refsB (l.take k) ++ (numB 2 x.1.toNat ++ numB 4 x.2) := by
  rw [List.take_add_one, h]
  exact refsB_snoc _ _
set_option maxRecDepth 100000 in
set_option maxHeartbeats 2000000 in
theorem laid_any (r : RSt) (A : Option Addr) (n c : Nat) (w : World) (hr : Rf w w.heap.size A n c r.refs) (hc : r.code = 0) (hs : Sums r.refs) :
    Calls Tryz.prog 89 #[rtV r.epoch A n c] w (Made w (laidB r)) := by
  obtain ⟨f0, f1, f2, f3⟩ := r.fine hc
  have hlen := hr.len
  have HR := hid hr
  have HA := hid f2
  have HS := hid hs
  obtain ⟨ep, refs⟩ := r
  simp only at *
  obtain ⟨m, rfl⟩ : ∃ m : Nat, ep = (m : Int) := ⟨ep.toNat, by omega⟩
  have HM := hid (show m ≤ 1099511627776 by omega)
  have HN := hid (show n ≤ 16 by omega)
  have HLn := hid hlen
  have HE := hid (show laidB ⟨(m : Int), refs⟩ = numB 6 m ++ (numB 1 n ++ refsB refs) by unfold laidB; simp only [Int.toNat_natCast, hlen])
  rw [HE.out]
  have HB1 := hid (show Below w.heap.size w (w.alloc (.cells #[.int .i64 (m : Int), .slice A n c] 85)) from (Below.refl _ _).alloc (Nat.le_refl _) _)
  have HK1 := hid (Blk.new w 85 #[.int .i64 (m : Int), .slice A n c])
  have c0 := HK1.out.cell 0
  have c1 := HK1.out.cell 1
  simp at c0 c1
  clear hr hc hs f0 f1 f2 f3 hlen HE
  go_enter Tryz.func89, Tryz.ntmps89
  go_wp2_with fail
  refine (appendNumR' w.heap.size _ [] m 6 _ _ _ rfl rfl (Own.nil _ _) (by simp) (by have := HM.out; omega) (by omega) (by simp)).mono ?_
  rintro e w1 ⟨v1, rfl, ho, hon, hg⟩
  rw [List.nil_append] at ho
  have hb2 : Below w.heap.size w w1 := HB1.out.trans (hon.below (by simp) (fun i hi => by cases hi))
  have HO1 := hid ho
  have HB2 := hid hb2
  have HK2 := hid (HK1.out.same (hon.block _ (by simp) (fun h => by cases h)))
  have HG1 := hid (show ∀ g, v1.ownBlock = some g → w.heap.size < g from fun g h => by
    rcases hg g h with h | h
    · cases h
    · simp at h; omega)
  clear ho hon hg hb2
  have d0 := HK2.out.cell 0
  have d1 := HK2.out.cell 1
  simp at d0 d1
  go_wp2_with fail
  refine (appendNumR' w.heap.size v1 (numB 6 m) n 1 _ _ _ rfl rfl HO1.out HB2.out.size (by have := HN.out; omega) (by omega) (by rw [numB_len]; omega)).mono ?_
  rintro e w2 ⟨v2, rfl, ho, hon, hg⟩
  have hlt1 := HO1.out.lt
  have HO2 := hid ho
  have HB3 := hid (show Below w.heap.size w w2 from HB2.out.trans (hon.below HB2.out.size (fun i hi => (hlt1 i hi).1)))
  have HK3 := hid (HK2.out.same (hon.block _ HK2.out.lt (fun h => by have := HG1.out _ h; omega)))
  clear ho hon hg hlt1 d0 d1
  have d0 := HK3.out.cell 0
  have d1 := HK3.out.cell 1
  simp at d0 d1
  go_wp2
  go_loopw [3, 17] (fun v i wr => ∃ k : Nat, k ≤ n ∧ i = .int .i64 (k : Int) ∧ Own wr w.heap.size v (numB 6 m ++ numB 1 n ++ refsB (refs.take k)) ∧ Below w.heap.size w wr) (fun _ i _ => n - (intOf i).toNat)
  case atStart => exact ⟨0, Nat.zero_le _, rfl, by simpa [refsB] using HO2.out, HB3.out⟩
  case round =>
    obtain ⟨k, hk, rfl, hown, hb⟩ := hrel
    have HOr := hid hown
    have HBr := hid hb
    clear hown hb c0 c1 d0 d1
    by_cases hlt : k < n
    · obtain ⟨ad, x, rfl, hbl, hx, q0, q1⟩ := (HR.out.on HBr.out).get hlt
      have hv := HA.out x (List.mem_of_getElem? hx)
      have hz := HS.out.at_ hx
      have HX := hid (refsB_take hx)
      obtain ⟨xa, xz⟩ := x
      simp only at *
      obtain ⟨a, rfl⟩ : ∃ a : Nat, xa = (a : Int) := ⟨xa.toNat, by omega⟩
      rw [Int.toNat_natCast] at HX
      have HAl := hid (show a ≤ 6000 by omega)
      have HZl := hid hz
      have hkn : (k : Int) < n := by omega
      have hn63 : (n : Int) ≤ 16 := by have := HN.out; omega
      have hzi : (xz : Int) ≤ 4294967295 := by omega
      have hlt0 := HOr.out.lt
      have hbA : Below w.heap.size w (wr.alloc (.cells #[.int .i64 (a : Int), .int .u32 (xz : Int)] 91)) := HBr.out.alloc HBr.out.size _
      have HBA := hid hbA
      have HKA := hid (Blk.new wr 91 #[.int .i64 (a : Int), .int .u32 (xz : Int)])
      have HOA := hid (show Own (wr.alloc (.cells #[.int .i64 (a : Int), .int .u32 (xz : Int)] 91)) w.heap.size u3 (numB 6 m ++ numB 1 n ++ refsB (refs.take k)) from World.ownsRow.alloc HOr.out _)
      have HLr := hid (show (numB 6 m ++ numB 1 n ++ refsB (refs.take k)).length ≤ 200 by
        simp only [List.length_append, numB_len, refsB_len, List.length_take]; have := HN.out; omega)
      have HGr := hid (show ∀ g, u3.ownBlock = some g → g < wr.heap.size from fun g h => (hlt0 g h).2)
      clear hx hz hv hbA hlt0 hbl
      go_wp2_with fail
      refine (appendNumR' w.heap.size u3 _ a 2 _ _ _ rfl rfl HOA.out (by have := HBr.out.size; simp; omega) (by have := HAl.out; omega) (by omega) (by have := HLr.out; omega)).mono ?_
      rintro e w3 ⟨v3, rfl, ho, hon, hg⟩
      have hltA := HOA.out.lt
      have HO3 := hid ho
      have HB4 := hid (show Below w.heap.size w w3 from HBA.out.trans (hon.below HBA.out.size (fun i hi => (hltA i hi).1)))
      have HK4 := hid (HKA.out.same (hon.block _ HKA.out.lt (fun h => by have := HGr.out _ h; omega)))
      clear ho hon hg hltA q0 q1
      have e0 := HK4.out.cell 0
      have e1 := HK4.out.cell 1
      simp at e0 e1
      go_wp2_with fail
      refine (appendNumR' w.heap.size v3 _ xz 4 _ _ _ rfl rfl HO3.out HB4.out.size (by have := HZl.out; omega) (by omega) (by rw [List.length_append, numB_len]; have := HLr.out; omega)).mono ?_
      rintro e w4 ⟨v4, rfl, ho, hon, hg⟩
      have hltA := HO3.out.lt
      have HO4 := hid (show Own w4 w.heap.size v4 (numB 6 m ++ numB 1 n ++ refsB (refs.take (k + 1))) from by
        have e : numB 6 m ++ numB 1 n ++ refsB (refs.take k) ++ numB 2 a ++ numB 4 xz = numB 6 m ++ numB 1 n ++ (refsB (refs.take k) ++ (numB 2 a ++ numB 4 xz)) := by simp only [List.append_assoc]
        rw [HX.out, ← e]
        exact ho)
      have HB5 := hid (show Below w.heap.size w w4 from HB4.out.trans (hon.below HB4.out.size (fun i hi => (hltA i hi).1)))
      clear ho hon hg hltA e0 e1
      go_wp2
      go_roundw
      case rel => exact ⟨k + 1, by omega, by go_num, HO4.out, HB5.out⟩
      case measure => simp [intOf]; omega
    · have HF := hid (show Made w (numB 6 m ++ (numB 1 n ++ refsB refs)) (.returned u3) wr from ⟨_, rfl, by
        have := HOr.out
        rwa [List.take_of_length_le (by have := HLn.out; omega), List.append_assoc] at this, HBr.out⟩)
      have hnlt : decide (k < n) = false := by simpa using hlt
      go_wp2
      go_ret
      exact HF.out
end Go.Proofs.YtkhdgacjgccnnaaGreatDoor
namespace Go.Proofs.YtkhdgacjgccnnaaGreatDoor
open Go.RowKit

theorem of_i64 (a : Nat) (ha : a < 9223372036854775808) : (BitVec.ofInt 64 (a : Int)).toNat = a := of_u64 a (by omega)
theorem or_upI (u c k : Nat) (hu : u < 256 ^ k) (hc : u + c * 256 ^ k < 9223372036854775808) : bits .or .i64 (u : Int) ((c * 256 ^ k : Nat) : Int) = ((u + c * 256 ^ k : Nat) : Int) := by
  show IntKind.i64.wrap ((BitVec.ofInt 64 (u : Int) ||| BitVec.ofInt 64 ((c * 256 ^ k : Nat) : Int)).toNat : Int) = _
  rw [BitVec.toNat_or, of_i64 u (by omega), of_i64 _ (by omega), IntKind.wrap_i64]
  have e : (256 : Nat) ^ k = 2 ^ (8 * k) := by rw [Nat.pow_mul]
  have : u ||| c * 256 ^ k = c * 256 ^ k + u := by
    rw [Nat.or_comm, e, Nat.mul_comm c]
    exact (Nat.two_pow_add_eq_or_of_lt (by rw [← e]; exact hu) c).symm
  rw [this]; omega
theorem pow_le6 {k : Nat} (h : k ≤ 5) : (256 : Nat) ^ k ≤ 1099511627776 := by
  have : (256 : Nat) ^ k ≤ 256 ^ 5 := Nat.pow_le_pow_right (by omega) h
  have e : (256 : Nat) ^ 5 = 1099511627776 := by decide
  omega
theorem numOf_next {l : List Int} {k : Nat} {x : Nat} (h : l[k]? = some (x : Int)) : numOf (l.take (k + 1)) = numOf (l.take k) + x * 256 ^ k := by
  have hk : k < l.length := (List.getElem?_eq_some_iff.1 h).1
  rw [take_next h, numOf_snoc, List.length_take, Nat.min_eq_left (by omega), Int.toNat_natCast, Nat.mul_comm]
set_option maxRecDepth 100000 in
set_option maxHeartbeats 2000000 in
theorem firstNum_any (B : Nat) (A : Option Addr) (n c size : Nat) (z : Int) (l : List Int) (w : World) (hz : z = (size : Int)) (h : Sl w B A n c l) (hy : Byt l) (hs : size ≤ 6) (hn : size ≤ n) :
    Calls Tryz.prog 158 #[.slice A n c, .int .i64 z] w fun e w' => (∃ A', e = .returned (.tuple #[.int .i64 ((numOf (l.take size) : Nat) : Int), .slice A' (n - size) (c - size)]) ∧ Sl w B A' (n - size) (c - size) (l.drop size)) ∧ ∃ q, w' = w.drewN q := by
  subst hz
  have HS := hid h
  have HY := hid hy
  have hcap := h.cap
  have hmx := h.max
  have hlen := h.len
  have HC := hid (h.cut (k := size) hn)
  clear h hy
  unfold maxLen at hmx
  go_enter Tryz.func158, Tryz.ntmps158
  go_wp2
  go_loopw [6, 13] (fun v i wr => ∃ k : Nat, k ≤ size ∧ i = .int .i64 (k : Int) ∧ v = .int .i64 ((numOf (l.take k) : Nat) : Int) ∧ wr = w) (fun _ i _ => size - (intOf i).toNat)
  case atStart => exact ⟨0, Nat.zero_le _, rfl, rfl, rfl⟩
  case round =>
    obtain ⟨k, hk, rfl, rfl, rfl⟩ := hrel
    by_cases hlt : k < size
    · obtain ⟨ad, x, rfl, hbl, hx, hcx⟩ := HS.out.get (k := k) (by omega)
      have hv := HY.out.at_ hx
      obtain ⟨xn, rfl⟩ : ∃ xn : Nat, x = (xn : Int) := ⟨x.toNat, by omega⟩
      have HNx := hid (numOf_next hx)
      have hN := numOf_lt (HY.out.take k)
      rw [List.length_take, Nat.min_eq_left (by omega)] at hN
      obtain ⟨u, hu⟩ : ∃ u, numOf (l.take k) = u := ⟨_, rfl⟩
      rw [hu] at HNx hN ⊢
      have hp := pow_le6 (k := k) (by omega)
      have hprod : xn * 256 ^ k ≤ 255 * 1099511627776 := Nat.mul_le_mul (by omega) hp
      have HOr := hid (or_upI u xn k hN (by omega))
      have hxi : (xn : Int) ≤ 255 := by omega
      have hk5 : (k : Int) ≤ 5 := by omega
      have hks : (k : Int) < size := by omega
      have hs6 : (size : Int) ≤ 6 := by omega
      have HR := hid (show bits .or .i64 (u : Int) (wrap64 ((xn : Int) * 2 ^ (8 * k))) = ((numOf (l.take (k + 1)) : Nat) : Int) by
        have e : ((xn : Int) * 2 ^ (8 * k)) = ((xn * 256 ^ k : Nat) : Int) := by
          rw [show (256 : Nat) ^ k = 2 ^ (8 * k) by rw [Nat.pow_mul]]
          simp
        have e2 : wrap64 ((xn * 256 ^ k : Nat) : Int) = ((xn * 256 ^ k : Nat) : Int) := by unfold wrap64; omega
        rw [e, e2, HOr.out, HNx.out])
      clear hN hp hprod hx hv hbl HC HOr
      go_wp2
      exact ⟨⟨k + 1, by omega, by go_num, by rw [HR.out], trivial⟩, by simp [intOf]; omega⟩
    · obtain rfl : k = size := by omega
      have hnlt : decide (k < k) = false := by simp
      have hkc : (k : Int) ≤ n := by omega
      have hnc : (n : Int) ≤ c := by omega
      have hc63 : (c : Int) ≤ 9223372036854775807 := by omega
      go_wp2_with fail
      go_quiet (fail)
      generalize (if c = k then A else A.map (fun x => x.add k)) = A' at *
      go_wp2
      go_ret2
      exact ⟨⟨A', rfl, HC.out⟩, _, rfl⟩
/- bytes.Equal -/
theorem strOfNums_inj {l m : List Int} (hl : Byt l) (hm : Byt m) (h : strOfNums l = strOfNums m) : l = m := by
  have e : ∀ l : List Int, Byt l → str (strOfNums l) = l := by
    intro l hl
    simp only [str, strOfNums]
    rw [List.map_map]
    conv => rhs; rw [← List.map_id l]
    apply List.map_congr_left
    intro x hx
    have := hl x hx
    simp
    omega
  rw [← e l hl, ← e m hm, h]
set_option maxRecDepth 100000 in
set_option maxHeartbeats 2000000 in
theorem bytesEqual_any (A A' : Option Addr) (n c n' c' : Nat) (l m : List Int) (B B' : Nat) (w : World) (h : Sl w B A n c l) (h' : Sl w B' A' n' c' m) (hl : Byt l) (hm : Byt m) :
    Calls Tryz.prog 132 #[.slice A n c, .slice A' n' c'] w (Quiet w (.bool (sameB l m))) := by
  have k1 := conv_any h
  have k2 := conv_any h'
  have HE := hid (show ((strOfNums l).toList == (strOfNums m).toList) = sameB l m by
    unfold sameB
    by_cases e : l = m
    · subst e; rw [beq_self_eq_true]; simp
    · have hne : (strOfNums l).toList ≠ (strOfNums m).toList := fun h => e (strOfNums_inj hl hm (by
        rw [ByteArray.toList_eq, ByteArray.toList_eq] at h
        exact Go.WideShapes.bytes_inj h))
      rw [beq_eq_false_iff_ne.2 hne]; simp [e])
  clear h h' hl hm
  generalize strOfNums l = s at *
  generalize strOfNums m = t at *
  generalize sameB l m = b at *
  go_enter Tryz.func132, Tryz.ntmps132
  go_wp2
  go_ret
  exact ⟨by rw [← HE.out]; rfl, 0, rfl⟩
end Go.Proofs.YtkhdgacjgccnnaaGreatDoor
namespace Go.Proofs.YtkhdgacjgccnnaaGreatDoor
open Go.RowKit

theorem Tryz.infoU8size : (Tryz.prog.info? 5).map (·.size) = some 1 := by kernel_rfl
/-- laid at the beginning, and a second time in the middle -/
theorem twice_eq (r : RSt) (h : r.refs.length ≤ 16) : ((I (laidB r) ++ (I (List.replicate 256 0)).drop (laidB r).length).take 128 ++ (I (laidB r) ++ (I (laidB r) ++ (I (List.replicate 256 0)).drop (laidB r).length).drop (128 + (laidB r).length))) = I (bytesOf r) := by
  have hl := laidB_len r
  obtain ⟨L, hL⟩ : ∃ L, (laidB r).length = L := ⟨_, rfl⟩
  have hi : (I (laidB r)).length = L := by rw [I_len, hL]
  have hz : (I (List.replicate 256 0)).drop L = I (List.replicate (256 - L) 0) := by
    unfold I; rw [← List.map_drop, List.drop_replicate]
  rw [hL, hz]
  have h1 : (I (laidB r) ++ I (List.replicate (256 - L) 0)).take 128 = I (halfB r) := by
    unfold halfB
    rw [List.take_append, hi, List.take_of_length_le (by omega), I_append, hL]
    congr 1
    unfold I; rw [← List.map_take, List.take_replicate]
    congr 2
    omega
  have h2 : (I (laidB r) ++ I (List.replicate (256 - L) 0)).drop (128 + L) = I (List.replicate (128 - L) 0) := by
    rw [List.drop_append, hi, List.drop_eq_nil_of_le (by omega), List.nil_append]
    unfold I; rw [← List.map_drop, List.drop_replicate]
    congr 2
    omega
  rw [h1, h2]
  unfold bytesOf
  rw [I_append]
  congr 1
  unfold halfB
  rw [I_append, hL]
theorem setRow_grownR {w : World} {g : Nat} (cs : Array Value) : w.grownBy (w.setRow g cs) (some g) := ⟨rfl, rfl, rfl, by simp [World.setRow], fun k _ hn => setRow_other w g k cs (fun e => hn (by rw [e]))⟩
/-- copy of bytes: only block g turns -/
theorem wpList_copyR {w : World} {ops : Array Oper} {rest : List Oper} {o : Oper} {a : Act} {Q : Exit → Act → World → Prop} (hgd : o.guard = none) (d s : Operand)
    (ho : o.op = .call { callee := .builtin .copy, args := #[d, s], argTypes := #[29, 29] }) (g off dLen dCap : Nat) (ad : Addr) (sLen sCap : Nat) (hd : a.eval d = .slice (some ⟨g, off, none⟩) dLen dCap) (hs : a.eval s = .slice (some ad) sLen sCap)
    (cur : List Value) (t : TypeId) (hg : w.heap[g]? = some (.cells cur.toArray t (0, 0))) (cs : List Value) (hn : cs.length = Nat.min sLen dLen)
    (hsrc : ∀ j v, cs[j]? = some v → w.cell? (ad.add j) = some v) (hfit : off + cs.length ≤ cur.length) (h1 : ∀ v ∈ cs, v.oneCell' = true)
    (h : ∀ w', w'.heap[g]? = some (.cells (cur.take off ++ (cs ++ cur.drop (off + cs.length))).toArray t (0, 0)) → w.grownBy w' (some g) → wpList Tryz.prog ops Q rest (a.put o.dst (goInt cs.length)) w') : wpList Tryz.prog ops Q (o :: rest) a w :=
  wpList_copy_own hgd d s _ _ ho 5 Tryz.underlying29 Tryz.infoU8size g off dLen dCap ad sLen sCap hd hs cur.toArray t hg cs hn hsrc (by simpa using hfit) h1 (h _ (by simpa using setRow_heap w g cur.toArray _ t (0, 0) hg) (by simpa using setRow_grownR _))
/-- what Bytes answers -/
def BytesOut (S : Nat → Addr) (w : World) (r : RSt) (e : Ending) (w' : World) : Prop :=
  ((r.code = 0 ∧ ∃ A c, e = .returned (.tuple #[.slice A 256 c, .nilIface]) ∧ Sl w' w'.heap.size A 256 c (bytesOf r) ∧ ∀ ad, A = some ad → w.heap.size ≤ ad.block) ∨
   (r.code ≠ 0 ∧ ∃ v, e = .returned (.tuple #[.slice none 0 0, v]) ∧ EV S r.code v)) ∧ Below w.heap.size w w'
set_option maxRecDepth 100000 in
set_option maxHeartbeats 2000000 in
theorem rootBytes_any (S : Nat → Addr) (r : RSt) (A : Option Addr) (n c : Nat) (w : World) (hS : Sent6 w S) (hr : Rf w w.heap.size A n c r.refs) (hs : Sums r.refs) (h0 : -9223372036854775808 ≤ r.epoch) (h1 : r.epoch ≤ 9223372036854775807) :
    Calls Tryz.prog 49 #[rtV r.epoch A n c] w (BytesOut S w r) := by
  obtain ⟨i0, hi, hz0, hz1, hz2⟩ := info_parts Tryz.info5
  have hb1 : Below w.heap.size w (w.alloc (.cells #[.int .i64 r.epoch, .slice A n c] 85)) := (Below.refl _ _).alloc (Nat.le_refl _) _
  have HB1 := hid hb1
  have HK1 := hid (Blk.new w 85 #[.int .i64 r.epoch, .slice A n c])
  have HR := hid hr
  have HS := hid hs
  have HCk := hid (check_any S r A n c _ (hS.on hb1) (hr.on hb1) h0 h1)
  have c0 := HK1.out.cell 0
  have c1 := HK1.out.cell 1
  simp at c0 c1
  clear hS hr hs hb1 h0 h1
  go_enter Tryz.func49, Tryz.ntmps49
  go_wp2_with fail
  refine HCk.out.mono ?_
  rintro e w1 ⟨⟨v, rfl, hv⟩, hb⟩
  have HB2 := hid (HB1.out.trans (hb.mono HB1.out.size))
  have HK2 := hid (HK1.out.below hb HK1.out.lt)
  clear hb c0 c1
  have c0 := HK2.out.cell 0
  have c1 := HK2.out.cell 1
  simp at c0 c1
  by_cases hc : r.code = 0
  · have HC := hid hc
    have hv2 : v = .nilIface := by rw [hc] at hv; exact hv.nil
    subst hv2
    clear hv hc
    go_wp2_with (at_make; refine wpList_make_full _ rfl _ _ 29 rfl w1.heap.size 5 i0 (.int .u8 0) 1 Tryz.underlying29 hi hz0 hz1 _ _ _ _ 256 rfl rfl rfl rfl ?b2 ?b3 ?b4 ?_)
    case b2 => rw [hz2]; omega
    case b3 => unfold maxLen; omega
    case b4 => exact Nat.le_refl _
    intro w2 hown hgrow
    have hbm : Below w1.heap.size w1 w2 := (Below.refl _ _).grown hgrow (Nat.le_refl _) (fun _ h => by cases h)
    obtain ⟨cur, hg1, hcs, htk⟩ : ∃ cur, w2.heap[w1.heap.size]? = some (.cells cur 5 (0, 0)) ∧ cur.size = 256 ∧ cur.toList = I (List.replicate 256 0) := by
      rcases hown.2 with ⟨hv, _⟩ | ⟨g', cap', cur, hv, _, hg1, _, _, hcs, ht⟩
      · cases hv
      · cases hv
        refine ⟨cur, hg1, by omega, ?_⟩
        rw [zeros, List.take_of_length_le (by rw [Array.length_toList]; omega)] at ht
        exact ht
    have HG1 := hid hg1
    have HC1 := hid hcs
    have HT1 := hid htk
    have HB3 := hid (HB2.out.trans (hbm.mono HB2.out.size))
    have HK3 := hid (HK2.out.below hbm HK2.out.lt)
    have HGn := hid (show w1.heap.size < w2.heap.size from (Array.getElem?_eq_some_iff.1 hg1).1)
    have HLd := hid (laid_any r A n c w2 (HR.out.on HB3.out) HC.out HS.out)
    clear hown hgrow hbm hg1 hcs htk c0 c1
    have c0 := HK3.out.cell 0
    have c1 := HK3.out.cell 1
    simp at c0 c1
    go_wp2_with fail
    refine HLd.out.mono ?_
    rintro e w3 hm
    obtain ⟨A3, n3, c3, rfl, hsl, hb, hn⟩ := hm.fresh
    have HL3 := hid hsl
    have HN3 := hid hn
    have HB4 := hid (HB3.out.trans (hb.mono HB3.out.size))
    have HG3 := hid (show w3.heap[w1.heap.size]? = some (.cells cur 5 (0, 0)) from (hb.block _ HGn.out).trans HG1.out)
    have hlen := laidB_len r
    have h16 := (RSt.fine HC.out).2.2.2
    have hn3 := hsl.len
    obtain ⟨ad, rfl⟩ : ∃ ad, A3 = some ad := by
      rcases A3 with _ | ad
      · have := hsl.nil rfl; have := hsl.cap; omega
      · exact ⟨ad, rfl⟩
    have HSrc := hid (show ∀ j v, (I (laidB r))[j]? = some v → w3.cell? (ad.add j) = some v from fun j v hj => by
      obtain ⟨x, hx, rfl⟩ := I_get' hj
      exact (hsl.at_ ad rfl (by omega)).2 j x hx)
    have HN := hid (show n3 = (laidB r).length ∧ 7 ≤ (laidB r).length ∧ (laidB r).length ≤ 103 by omega)
    have HAd := hid (show w2.heap.size ≤ ad.block from hn ad rfl)
    clear hm hsl hb hn hlen h16 hn3
    have HG3' := hid (show w3.heap[w1.heap.size]? = some (.cells (I (List.replicate 256 0)).toArray 5 (0, 0)) from by rw [← HT1.out, Array.toArray_toList]; exact HG3.out)
    have HZl := hid (show (I (List.replicate 256 0)).length = 256 by rw [I_len, List.length_replicate])
    obtain ⟨L, hL⟩ : ∃ L, I (laidB r) = L := ⟨_, rfl⟩
    have HLL := hid (show n3 = L.length ∧ 7 ≤ L.length ∧ L.length ≤ 103 from by rw [← hL, I_len]; exact HN.out)
    have HLe := hid (show (L ++ (I (List.replicate 256 0)).drop L.length).take 128 ++ (L ++ (L ++ (I (List.replicate 256 0)).drop L.length).drop (128 + L.length)) = I (bytesOf r) from by
      have := twice_eq r (RSt.fine HC.out).2.2.2
      rw [hL, ← I_len, hL] at this
      exact this)
    have HL1 := hid (show ∀ u ∈ L, u.oneCell' = true from by rw [← hL]; exact I_one)
    rw [hL] at HSrc
    clear hL
    go_wp2_with (refine wpList_copyR rfl _ _ rfl w1.heap.size 0 256 256 ad n3 c3 rfl rfl (I (List.replicate 256 0)) 5 HG3'.out L ?e1 HSrc.out ?e2 HL1.out ?_)
    case e1 => have := HLL.out; simp only [Nat.min_def]; split <;> omega
    case e2 => have := HLL.out; have := HZl.out; omega
    intro w4 hg4 hb4
    have hadn : ad.block < w3.heap.size := (HL3.out.at_ ad rfl (by have := HLL.out; omega)).1
    have HB5 := hid (show Below w.heap.size w w4 from HB4.out.grown hb4 HB4.out.size (fun k hk => by injection hk with hk; have := HB2.out.size; omega))
    have HG4 := hid (show w4.heap[w1.heap.size]? = some (.cells (L ++ (I (List.replicate 256 0)).drop L.length).toArray 5 (0, 0)) from by simpa using hg4)
    have HSr4 := hid (show ∀ j v, L[j]? = some v → w4.cell? (ad.add j) = some v from fun j v hj => hb4.cell (HSrc.out j v hj) (by rw [add_block]; simp; have := HAd.out; have := HGn.out; omega))
    clear hg4 hb4 hadn
    go_wp2_with (refine wpList_copyR rfl _ _ rfl w1.heap.size 128 128 128 ad n3 c3 rfl rfl (L ++ (I (List.replicate 256 0)).drop L.length) 5 HG4.out L ?e3 HSr4.out ?e4 HL1.out ?_)
    case e3 => have := HLL.out; simp only [Nat.min_def]; split <;> omega
    case e4 => have := HLL.out; have := HZl.out; rw [List.length_append, List.length_drop]; omega
    intro w5 hg5 hb5
    replace hg5 : w5.heap[w1.heap.size]? = some (.cells (I (bytesOf r)).toArray 5 (0, 0)) := by rw [← HLe.out]; exact hg5
    have HF := hid (show Sl w5 w5.heap.size (some ⟨w1.heap.size, 0, none⟩) 256 256 (bytesOf r) from by
      have hlt := (Array.getElem?_eq_some_iff.1 hg5).1
      refine ⟨bytesOf_len (RSt.fine HC.out).2.2.2, Nat.le_refl _, by unfold maxLen; omega, fun h => (by cases h), fun ad ha _ => ?_⟩
      cases ha
      refine ⟨hlt, fun j x hx => ?_⟩
      have e : (⟨w1.heap.size, 0, none⟩ : Addr).add j = ⟨w1.heap.size, j, none⟩ := by unfold Addr.add; split <;> simp_all
      rw [e, (show Blk w5 w1.heap.size 5 (I (bytesOf r)).toArray from hg5).cell j]
      simpa using I_get hx)
    have HB6 := hid (show Below w.heap.size w w5 from HB5.out.grown hb5 HB5.out.size (fun k hk => by injection hk with hk; have := HB2.out.size; omega))
    have HN1 := hid (show w.heap.size ≤ w1.heap.size from HB2.out.size)
    clear hg5 hb5
    go_wp2
    go_ret2
    exact ⟨.inl ⟨HC.out, _, _, rfl, HF.out, fun ad ha => by cases ha; exact HN1.out⟩, HB6.out⟩
  · have HV := hid hv
    have HC := hid hc
    obtain ⟨j, rfl⟩ := hv.is hc
    clear hv hc
    go_wp2
    go_ret2
    exact ⟨.inr ⟨HC.out, _, rfl, HV.out⟩, HB2.out⟩
end Go.Proofs.YtkhdgacjgccnnaaGreatDoor
