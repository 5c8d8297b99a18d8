/- Refs in memory; package root's own small calls: check, place, appendNum, laid, firstNum. -/
import Derived.Test.YthgdofcamjkdpaaDoorGRootSpec
import Derived.Deep.RegionHeld3
import Derived.RegionTactic
import Derived.Deep.QuietTactic
import Derived.BigQuiet
namespace Go.Proofs.YthgdofcamjkdpaaDoor
open Go.RowKit

theorem add_atR (a : Addr) (m : Nat) {j : Nat} (h : 0 < j) : a.add (m + j) = ⟨(a.add m).block, (a.add m).off + j, none⟩ := by
  unfold Addr.add
  by_cases hm : m = 0
  · subst hm
    rw [if_neg (by omega), if_pos rfl, Nat.zero_add]
  · rw [if_neg (by omega), if_neg hm]
    simp [Nat.add_assoc]
/-- a ref's two cells -/
def cells2 (x : Int × Nat) : List Value := [.int .i64 x.1, .int .u32 (x.2 : Int)]
def cellsR (l : List (Int × Nat)) : List Value := l.flatMap cells2
theorem cellsR_len (l : List (Int × Nat)) : (cellsR l).length = l.length * 2 := by
  induction l with
  | nil => rfl
  | cons x l ih => simp only [cellsR, List.flatMap_cons, List.length_append, List.length_cons] at ih ⊢; rw [ih]; simp [cells2]; omega
theorem cellsR_get {l : List (Int × Nat)} {k : Nat} {x : Int × Nat} (h : l[k]? = some x) {j : Nat} (hj : j < 2) : (cellsR l)[k * 2 + j]? = (cells2 x)[j]? := by
  induction l generalizing k with
  | nil => simp at h
  | cons y l ih =>
    rcases k with _ | k
    · simp at h
      subst h
      simp only [cellsR, List.flatMap_cons]
      rw [List.getElem?_append_left (by simp [cells2]; omega)]
      congr 1
      omega
    · simp at h
      simp only [cellsR, List.flatMap_cons]
      rw [List.getElem?_append_right (by simp [cells2]; omega)]
      have e : (k + 1) * 2 + j - (cells2 y).length = k * 2 + j := by simp [cells2]; omega
      rw [e]
      exact ih h
/-- its j-th cell set, in the k-th ref -/
theorem cellsR_set {l : List (Int × Nat)} {k : Nat} {x x' : Int × Nat} {j : Nat} {u : Value} (h : l[k]? = some x) (hj : j < 2) (e : (cells2 x).set j u = cells2 x') : (cellsR l).set (k * 2 + j) u = cellsR (l.set k x') := by
  induction l generalizing k with
  | nil => simp at h
  | cons y l ih =>
    rcases k with _ | k
    · simp at h
      subst h
      simp only [cellsR, List.flatMap_cons, List.set_cons_zero]
      rw [List.set_append_left _ _ (by simp [cells2]; omega), ← e]
      congr 2
      omega
    · simp at h
      simp only [cellsR, List.flatMap_cons, List.set_cons_succ]
      rw [List.set_append_right _ _ (by simp [cells2]; omega)]
      have e2 : (k + 1) * 2 + j - (cells2 y).length = k * 2 + j := by simp [cells2]; omega
      rw [e2]
      congr 1
      exact ih h
theorem cellsR_one (l : List (Int × Nat)) : ∀ u ∈ cellsR l, u.oneCell' = true := by
  intro u hu
  simp only [cellsR, List.mem_flatMap] at hu
  obtain ⟨x, _, hu⟩ := hu
  simp only [cells2, List.mem_cons, List.not_mem_nil, or_false] at hu
  rcases hu with rfl | rfl <;> rfl
theorem cellsR_append (l m : List (Int × Nat)) : cellsR (l ++ m) = cellsR l ++ cellsR m := by simp [cellsR]
/-- a ref's value -/
abbrev rfV (x : Int × Nat) : Value := .agg #[.int .i64 x.1, .int .u32 (x.2 : Int)]
/-- a root's value -/
abbrev rtV (e : Int) (A : Option Addr) (n c : Nat) : Value := .agg #[.int .i64 e, .slice A n c]
/-- the slice '.slice A n c' reads as the refs l, all below block B -/
structure Rf (w : World) (B : Nat) (A : Option Addr) (n c : Nat) (l : List (Int × Nat)) : Prop where
  len : l.length = n
  cap : n ≤ c
  max : c ≤ maxLen
  nil : A = none → c = 0
  at_ : ∀ ad, A = some ad → 0 < n → ad.block < B ∧ ∀ j x, l[j]? = some x → w.cell? (ad.add (j * 2)) = some (.int .i64 x.1) ∧ w.cell? (ad.add (j * 2 + 1)) = some (.int .u32 (x.2 : Int))
theorem Rf.get {w : World} {B n c k : Nat} {A : Option Addr} {l : List (Int × Nat)} (h : Rf w B A n c l) (hk : k < n) : ∃ ad x, A = some ad ∧ ad.block < B ∧ l[k]? = some x ∧ w.cell? (ad.add (k * 2)) = some (.int .i64 x.1) ∧ w.cell? ⟨(ad.add (k * 2)).block, (ad.add (k * 2)).off + 1, none⟩ = some (.int .u32 (x.2 : Int)) := by
  rcases A with _ | ad
  · have := h.nil rfl; have := h.cap; omega
  · have hl := h.len
    obtain ⟨hb, hc⟩ := h.at_ ad rfl (by omega)
    have hx : l[k]? = some (l[k]'(by omega)) := List.getElem?_eq_getElem (by omega)
    obtain ⟨h1, h2⟩ := hc k _ hx
    exact ⟨ad, _, rfl, hb, hx, h1, by rw [← add_atR ad (k * 2) (by omega)]; exact h2⟩
theorem Rf.keep {w w' : World} {B n c : Nat} {A : Option Addr} {l : List (Int × Nat)} (h : Rf w B A n c l) (hk : ∀ p : Addr, p.block < B → w'.cell? p = w.cell? p) : Rf w' B A n c l :=
  ⟨h.len, h.cap, h.max, h.nil, fun ad ha hn => ⟨(h.at_ ad ha hn).1, fun j x hx => by
    have hb := (h.at_ ad ha hn).1
    obtain ⟨h1, h2⟩ := (h.at_ ad ha hn).2 j x hx
    exact ⟨(hk _ (by rw [add_block]; exact hb)).trans h1, (hk _ (by rw [add_block]; exact hb)).trans h2⟩⟩⟩
theorem Rf.more {w : World} {B B' n c : Nat} {A : Option Addr} {l : List (Int × Nat)} (h : Rf w B A n c l) (hB : B ≤ B') : Rf w B' A n c l :=
  ⟨h.len, h.cap, h.max, h.nil, fun ad ha hn => ⟨Nat.lt_of_lt_of_le (h.at_ ad ha hn).1 hB, (h.at_ ad ha hn).2⟩⟩
theorem Rf.below {w w' : World} {B n c : Nat} {A : Option Addr} {l : List (Int × Nat)} (h : Rf w B A n c l) (hb : Below B w w') : Rf w' B A n c l := h.keep fun _ hp => hb.cell hp
theorem Rf.on {w w' : World} {A : Option Addr} {n c : Nat} {l : List (Int × Nat)} (h : Rf w w.heap.size A n c l) (hb : Below w.heap.size w w') : Rf w' w'.heap.size A n c l := (h.below hb).more hb.size
theorem Rf.drewN {w : World} {B n c : Nat} {A : Option Addr} {l : List (Int × Nat)} (h : Rf w B A n c l) (k : Nat) : Rf (w.drewN k) B A n c l := h.keep fun _ _ => rfl
theorem Rf.empty (w : World) (B : Nat) : Rf w B none 0 0 [] := ⟨rfl, Nat.le_refl _, by unfold maxLen; omega, fun _ => rfl, fun _ h => by cases h⟩
theorem Rf.same {w w' : World} {n c : Nat} {A : Option Addr} {l : List (Int × Nat)} (h : Rf w w.heap.size A n c l) (hs : w.heap.size ≤ w'.heap.size) (hk : ∀ ad, A = some ad → 0 < n → w'.heap[ad.block]? = w.heap[ad.block]?) : Rf w' w'.heap.size A n c l :=
  ⟨h.len, h.cap, h.max, h.nil, fun ad ha h0 => ⟨Nat.lt_of_lt_of_le (h.at_ ad ha h0).1 hs, fun j x hx => by
    obtain ⟨h1, h2⟩ := (h.at_ ad ha h0).2 j x hx
    exact ⟨(World.cell?_of_block (by rw [add_block]; exact hk ad ha h0)).trans h1, (World.cell?_of_block (by rw [add_block]; exact hk ad ha h0)).trans h2⟩⟩⟩
theorem Rf.max' {w : World} {B n c : Nat} {A : Option Addr} {l : List (Int × Nat)} (h : Rf w B A n c l) : n ≤ 9223372036854775807 := by have := h.cap; have := h.max; unfold maxLen at this; omega
/-- the slice value v is the call's own, from block B on, and holds the refs l -/
def OwnR (w : World) (B : Nat) (v : Value) (l : List (Int × Nat)) : Prop := w.ownsRow B 56 2 v l.length (cellsR l)
theorem OwnR.form {w : World} {B : Nat} {v : Value} {l : List (Int × Nat)} (h : OwnR w B v l) : ∃ A c, v = .slice A l.length c ∧ Rf w w.heap.size A l.length c l ∧ (∀ ad, A = some ad → B ≤ ad.block) := by
  have h' := h
  rcases h'.2 with ⟨rfl, h0⟩ | ⟨g, cap, cur, rfl, hb, hg, h1, h2, h3, h4⟩
  · have : l = [] := List.eq_nil_of_length_eq_zero h0
    subst this
    exact ⟨none, 0, rfl, Rf.empty _ _, fun _ h => by cases h⟩
  · refine ⟨_, _, rfl, ⟨rfl, h1, h2, fun h => (by cases h), fun ad ha hn => ?_⟩, fun ad ha => by cases ha; exact hb⟩
    cases ha
    refine ⟨(World.ownsRow.lt h g rfl).2, fun j x hx => ⟨?_, ?_⟩⟩
    · exact World.ownsRow.cells h (g := g) rfl (j * 2) _ (by have := cellsR_get hx (j := 0) (by omega); simpa [cells2] using this)
    · exact World.ownsRow.cells h (g := g) rfl (j * 2 + 1) _ (by have := cellsR_get hx (j := 1) (by omega); simpa [cells2] using this)
theorem OwnR.lt {w : World} {B : Nat} {v : Value} {l : List (Int × Nat)} (h : OwnR w B v l) : ∀ k, v.ownBlock = some k → B ≤ k ∧ k < w.heap.size := World.ownsRow.lt h
theorem OwnR.nil (w : World) (B : Nat) : OwnR w B (.slice none 0 0) [] := World.ownsRow_nil _ _ _ _

/-- the errors that package root answers -/
abbrev Sent6 : World → (Nat → Addr) → Prop := SentL [1, 2, 3, 4, 5, 6]
theorem Sent6.five {w : World} {S : Nat → Addr} (h : Sent6 w S) : Sent5 w S := fun i hi => h i (by revert hi; revert i; decide)
theorem Sent.six {w : World} {S : Nat → Addr} (h : Sent w S) : Sent6 w S := h.some (by decide)
theorem Sent6.range {w : World} {S : Nat → Addr} (h : Sent6 w S) : w.cell? ⟨0, 0, none⟩ = some (.iface 157 (.pointer (some (S 2)))) := h 2 (by decide)
theorem Sent6.many {w : World} {S : Nat → Addr} (h : Sent6 w S) : w.cell? ⟨1, 0, none⟩ = some (.iface 157 (.pointer (some (S 3)))) := h 3 (by decide)

/- check -/
theorem code_epoch {r : RSt} (h : r.epoch < 1 ∨ 1099511627776 < r.epoch) : r.code = 103 := by unfold RSt.code; rw [if_pos h]
theorem code_addr {r : RSt} (h : ¬ (r.epoch < 1 ∨ 1099511627776 < r.epoch)) {k : Nat} {x : Int × Nat} (hx : r.refs[k]? = some x) (hb : x.1 < 0 ∨ 6000 < x.1) : r.code = 103 := by
  unfold RSt.code
  rw [if_neg h, if_pos]
  simp only [badAddr, List.any_eq_true, decide_eq_true_eq]
  exact ⟨x, List.mem_of_getElem? hx, hb⟩
theorem code_rest {r : RSt} (h : ¬ (r.epoch < 1 ∨ 1099511627776 < r.epoch)) (hb : badAddr (r.refs.take r.refs.length) = false) : r.code = if 16 < r.refs.length then 104 else 0 := by
  rw [List.take_length] at hb
  unfold RSt.code
  rw [if_neg h, if_neg (by rw [hb]; decide)]
theorem bad_next {l : List (Int × Nat)} {k : Nat} {x : Int × Nat} (hx : l[k]? = some x) (hb : badAddr (l.take k) = false) (h : ¬ (x.1 < 0 ∨ 6000 < x.1)) : badAddr (l.take (k + 1)) = false := by
  rw [List.take_add_one, hx]
  unfold badAddr at hb ⊢
  rw [List.any_append, hb]
  simp; omega
set_option maxRecDepth 100000 in
set_option maxHeartbeats 2000000 in
theorem check_any (S : Nat → Addr) (r : RSt) (A : Option Addr) (n c : Nat) (w : World) (hS : Sent6 w S) (hr : Rf w w.heap.size A n c r.refs) (h0 : -9223372036854775808 ≤ r.epoch) (h1 : r.epoch ≤ 9223372036854775807) :
    Calls Tryd.prog 20 #[rtV r.epoch A n c] w fun e w' => (∃ v, e = .returned v ∧ EV S r.code v) ∧ Below w.heap.size w w' := by
  have HS := hid hS
  have HR := hid hr
  have HN := hid hr.max'
  have HL := hid hr.len
  have HC := hid (fun h => code_epoch (r := r) h)
  have HCa := hid (fun h k x hx hb => code_addr (r := r) h (k := k) (x := x) hx hb)
  have HCr := hid (fun h hb => code_rest (r := r) h hb)
  obtain ⟨code, hcode⟩ : ∃ z, r.code = z := ⟨_, rfl⟩
  rw [hcode] at HC HCa HCr ⊢
  obtain ⟨ep, refs⟩ := r
  clear hcode
  simp only at *
  have hb1 : Below w.heap.size w (w.alloc (.cells #[.int .i64 ep, .slice A n c] 31)) := (Below.refl _ _).alloc (Nat.le_refl _) _
  have HB1 := hid hb1
  have HK1 := hid (Blk.new w 31 #[.int .i64 ep, .slice A n c])
  have hg0 := Sent6.range (HS.out.on hb1)
  have hg1 := Sent6.many (HS.out.on hb1)
  have c0 := HK1.out.cell 0
  have c1 := HK1.out.cell 1
  simp at c0 c1
  have hep : (decide (ep < 1) = true) ∨ (decide (ep < 1) = false ∧ decide (1099511627776 < ep) = true) ∨ (decide (ep < 1) = false ∧ decide (1099511627776 < ep) = false ∧ ¬ (ep < 1 ∨ 1099511627776 < ep)) := by
    by_cases h : ep < 1
    · exact .inl (by simpa using h)
    · by_cases h' : 1099511627776 < ep
      · exact .inr (.inl ⟨by simpa using h, by simpa using h'⟩)
      · exact .inr (.inr ⟨by simpa using h, by simpa using h', by omega⟩)
  clear hS hr hb1 h0 h1
  rcases hep with g1 | ⟨g1, g2⟩ | ⟨g1, g2, h⟩
  · have HE := hid (HC.out (.inl (by simpa using g1)))
    go_enter Tryd.func20, Tryd.ntmps20
    go_wp2
    go_ret
    exact ⟨⟨_, rfl, by rw [HE.out]; exact .err 2 (by decide)⟩, HB1.out⟩
  · have HE := hid (HC.out (.inr (by simpa using g2)))
    go_enter Tryd.func20, Tryd.ntmps20
    go_wp2
    go_ret
    exact ⟨⟨_, rfl, by rw [HE.out]; exact .err 2 (by decide)⟩, HB1.out⟩
  · have HH := hid h
    clear h
    go_enter Tryd.func20, Tryd.ntmps20
    go_wp2
    go_loopw [17] (fun i wr => ∃ k : Nat, k ≤ n ∧ i = .int .i64 (k : Int) ∧ badAddr (refs.take k) = false ∧ Below w.heap.size w wr ∧ Blk wr w.heap.size 31 #[.int .i64 ep, .slice A n c]) (fun i _ => n - (intOf i).toNat)
    case atStart => exact ⟨0, Nat.zero_le _, rfl, rfl, HB1.out, HK1.out⟩
    case round =>
      obtain ⟨k, hk, rfl, hbad, hb, hblk⟩ := hrel
      have HBd := hid hbad
      have HBr := hid hb
      have HKr := hid hblk
      have k1 := hblk.cell 1
      simp at k1
      have hgr0 := Sent6.range (HS.out.on hb)
      have hgr1 := Sent6.many (HS.out.on hb)
      clear c0 c1 hg0 hg1 hbad hblk
      by_cases hlt : k < n
      · obtain ⟨ad, x, rfl, hbl, hx, q0, q1⟩ := (HR.out.on hb).get hlt
        have HX := hid hx
        have hkn : (k : Int) < n := by omega
        have hn63 : (n : Int) ≤ 9223372036854775807 := by have := HN.out; omega
        have hxs : (decide (x.1 < 0) = true ∧ (x.1 < 0 ∨ 6000 < x.1)) ∨ (decide (x.1 < 0) = false ∧ decide (6000 < x.1) = true ∧ (x.1 < 0 ∨ 6000 < x.1)) ∨ (decide (x.1 < 0) = false ∧ decide (6000 < x.1) = false ∧ ¬ (x.1 < 0 ∨ 6000 < x.1)) := by
          by_cases h : x.1 < 0
          · exact .inl ⟨by simpa using h, .inl h⟩
          · by_cases h' : 6000 < x.1
            · exact .inr (.inl ⟨by simpa using h, by simpa using h', .inr h'⟩)
            · exact .inr (.inr ⟨by simpa using h, by simpa using h', by omega⟩)
        clear hx hb
        rcases hxs with ⟨x0, hxb⟩ | ⟨x0, x1, hxb⟩ | ⟨x0, x1, hxb⟩
        · have HE := hid (HCa.out HH.out k x HX.out hxb)
          clear hxb
          have hgs := Sent6.range (HS.out.on (HBr.out.alloc HBr.out.size (.cells #[.int .i64 x.1, .int .u32 (x.2 : Int)] 56)))
          go_wp2
          go_ret
          exact ⟨⟨_, rfl, by rw [HE.out]; exact .err 2 (by decide)⟩, HBr.out.alloc HBr.out.size _⟩
        · have HE := hid (HCa.out HH.out k x HX.out hxb)
          clear hxb
          have hgs := Sent6.range (HS.out.on (HBr.out.alloc HBr.out.size (.cells #[.int .i64 x.1, .int .u32 (x.2 : Int)] 56)))
          go_wp2
          go_ret
          exact ⟨⟨_, rfl, by rw [HE.out]; exact .err 2 (by decide)⟩, HBr.out.alloc HBr.out.size _⟩
        · have HBn := hid (bad_next HX.out HBd.out hxb)
          clear hxb
          go_wp2
          go_roundw
          case rel => exact ⟨k + 1, by omega, by go_num, HBn.out, HBr.out.alloc HBr.out.size _, HKr.out.alloc _⟩
          case measure => simp [intOf]; omega
      · have HE := hid (HCr.out HH.out (by rw [show refs.length = k by have := HL.out; omega]; exact HBd.out))
        have hlen := HL.out
        have hnlt : decide (k < n) = false := by simpa using hlt
        by_cases h16 : 16 < n
        · have g3 : decide ((16 : Int) < (n : Int)) = true := by simp; omega
          go_wp2
          go_ret
          exact ⟨⟨_, rfl, by rw [HE.out, if_pos (by omega)]; exact .err 3 (by decide)⟩, HBr.out⟩
        · have g3 : decide ((16 : Int) < (n : Int)) = false := by simp; omega
          go_wp2
          go_ret
          exact ⟨⟨_, rfl, by rw [HE.out, if_neg (by omega)]; exact .fine⟩, HBr.out⟩
/- place -/
set_option maxHeartbeats 1000000 in
theorem place_any (e : Int) (A : Option Addr) (n c : Nat) (w : World) (h0 : 1 ≤ e) (h1 : e ≤ 1099511627776) :
    Calls Tryd.prog 30 #[rtV e A n c] w fun v w' => v = .returned (.int .i64 (e % 2)) ∧ Below w.heap.size w w' := by
  have hm : e.tmod 2 = e % 2 := (emod_pos e 2 (by omega) (Int.tmod_nonneg 2 (by omega))).symm
  have HK1 := hid (Blk.new w 31 #[.int .i64 e, .slice A n c])
  have c0 := HK1.out.cell 0
  simp at c0
  go_enter Tryd.func30, Tryd.ntmps30
  go_wp2
  go_ret
  exact ⟨by rw [← hm]; rfl, (Below.refl _ _).alloc (Nat.le_refl _) _⟩
end Go.Proofs.YthgdofcamjkdpaaDoor
