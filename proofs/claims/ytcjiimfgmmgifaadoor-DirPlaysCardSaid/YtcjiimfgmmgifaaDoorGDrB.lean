/- Where a name stands among a directory's entries: package dir's search. -/
import Derived.Lib.Bytealg
import Derived.Test.YtcjiimfgmmgifaaDoorGDrS
import Derived.Test.YtcjiimfgmmgifaaDoorGDrA
namespace Go.Proofs.YtcjiimfgmmgifaaDoor
open Go.RowKit Go.Shelf Go.Sort

/-- what strings.Compare says -/
def cmpS (a b : Nam) : Int := if a < b then -1 else if a = b then 0 else 1
theorem cb_cmpS : ∀ a b : Nam, Lib.compareBytes a b = cmpS a b
  | [], [] => by simp [Lib.compareBytes, cmpS]
  | [], _ :: _ => by simp [Lib.compareBytes, cmpS]
  | _ :: _, [] => by simp [Lib.compareBytes, cmpS]
  | a :: ta, b :: tb => by
    unfold Lib.compareBytes
    rw [cb_cmpS ta tb]
    unfold cmpS
    simp only [List.cons_lt_cons_iff]
    by_cases h1 : a < b
    · simp [h1]
    · by_cases h2 : b < a
      · have hne : ¬ a = b := fun e => UInt8.lt_irrefl a (by subst e; exact h2)
        simp [h1, h2, hne]
      · have e : a = b := by
          have e1 : ¬ a.toNat < b.toNat := h1
          have e2 : ¬ b.toNat < a.toNat := h2
          exact UInt8.toNat_inj.1 (by omega)
        subst e
        simp [h1]
theorem cmpS_neg (a b : Nam) : decide (cmpS a b < 0) = decide (a < b) := by
  unfold cmpS
  by_cases h : a < b
  · simp [h]
  · by_cases h2 : a = b
    · have h3 := List.lt_irrefl b
      simp [h2, h3]
    · simp [h, h2]
theorem cmpS_zero (a b : Nam) : decide (cmpS a b = 0) = decide (a = b) := by
  unfold cmpS
  by_cases h : a < b
  · have hne : ¬ a = b := fun e => List.lt_irrefl b (by rw [e] at h; exact h)
    simp [h, hne]
  · by_cases h2 : a = b <;> simp [h, h2]
set_option maxRecDepth 100000 in
set_option maxHeartbeats 1000000 in
theorem cmpStringE_any (a b : ByteArray) (w : World) : Calls Tryd.prog 49 #[.string a, .string b] w fun e w' => e = .returned (.int .i64 (Lib.compareBytes a.data.toList b.data.toList)) ∧ w' = w := by
  go_enter Tryd.func49, Tryd.ntmps49
  go_wp2
  rw [run_callFunc_extern Tryd.func58 (by kernel_rfl) (by kernel_rfl) (by kernel_rfl) (e := Extern.BytealgCompare.compare) (by kernel_rfl), Lib.run_compareString]
  simp only [Result.andThen]
  rw [Oper.upon_value]
  go_wp2
  go_ret
  exact ⟨rfl, rfl⟩
theorem compareE_any (a b : Nam) (w : World) : Calls Tryd.prog 41 #[encStr a, encStr b] w fun e w' => e = .returned (.int .i64 (cmpS a b)) ∧ w' = w := by
  go_enter Tryd.func41, Tryd.ntmps41
  go_wp2_with fail
  refine (cmpStringE_any _ _ _).mono ?_
  rintro e w1 ⟨rfl, rfl⟩
  rw [show Lib.compareBytes (⟨a.toArray⟩ : ByteArray).data.toList (⟨b.toArray⟩ : ByteArray).data.toList = cmpS a b from by
    rw [← cb_cmpS]]
  go_wp2
  go_ret
  exact ⟨rfl, rfl⟩
set_option maxRecDepth 100000 in
set_option maxHeartbeats 1000000 in
theorem placeC_any (e : En) (s : Nam) (w : World) : Calls Tryd.prog 40 #[enV e, encStr s] w fun r w' => r = .returned (.int .i64 (cmpS e.s s)) ∧ Below w.heap.size w w' := by
  go_enter Tryd.func40, Tryd.ntmps40
  go_wp2_with fail
  refine (compareE_any _ _ _).mono ?_
  rintro e w1 ⟨rfl, rfl⟩
  go_wp2
  go_ret
  exact ⟨rfl, (Below.refl _ _).alloc (Nat.le_refl _) _⟩
/-- by names, each once -/
def RisE (D : List En) : Prop := D.Pairwise (fun a b => a.s < b.s)
theorem RisE.lt {D : List En} (h : RisE D) {i j : Nat} {x y : En} (hij : i < j) (hx : D[i]? = some x) (hy : D[j]? = some y) : x.s < y.s := by
  have hi := (List.getElem?_eq_some_iff.1 hx)
  have hj := (List.getElem?_eq_some_iff.1 hy)
  obtain ⟨hi, rfl⟩ := hi
  obtain ⟨hj, rfl⟩ := hj
  exact List.pairwise_iff_getElem.1 h i j hi hj hij
/-- i is where s stands, or would -/
structure LowAt (D : List En) (s : Nam) (i : Nat) : Prop where
  le : i ≤ D.length
  lo : ∀ (q : Nat) x, q < i → D[q]? = some x → x.s < s
  hi : ∀ (q : Nat) x, i ≤ q → D[q]? = some x → ¬ x.s < s
theorem LowAt.low {D : List En} {s : Nam} {i : Nat} (h : LowAt D s i) : lowE D s = i := lowE_at h.le (fun q x h1 h2 => h.lo q x h1 h2) (fun x h1 => h.hi i x (Nat.le_refl _) h1)
theorem LowAt.yes {D : List En} {s : Nam} {i : Nat} {x : En} (h : LowAt D s i) (hx : D[i]? = some x) (hs : x.s = s) : fnd D s = i ∧ isIn D s = true := by
  have h1 : fnd D s = i := fnd_at hx hs (fun j y hj hy e => List.lt_irrefl s (by have := h.lo j y hj hy; rwa [e] at this))
  exact ⟨h1, by unfold isIn; rw [h1]; exact decide_eq_true (List.getElem?_eq_some_iff.1 hx).1⟩
theorem LowAt.no {D : List En} {s : Nam} {i : Nat} (hr : RisE D) (h : LowAt D s i) (hs : ∀ x, D[i]? = some x → x.s ≠ s) : fnd D s = D.length ∧ isIn D s = false := by
  have h1 : fnd D s = D.length := fnd_none (fun j y hy e => by
    rcases Nat.lt_trichotomy j i with h2 | h2 | h2
    · have := h.lo j y h2 hy
      rw [e] at this
      exact List.lt_irrefl s this
    · subst h2; exact hs y hy e
    · have hi : i < D.length := by have := (List.getElem?_eq_some_iff.1 hy).1; omega
      have h3 := hr.lt h2 (List.getElem?_eq_getElem hi) hy
      rw [e] at h3
      exact h.hi i _ (Nat.le_refl _) (List.getElem?_eq_getElem hi) h3)
  exact ⟨h1, by unfold isIn; rw [h1]; simp⟩
theorem LowAt.ways {D : List En} {s : Nam} {i : Nat} (hr : RisE D) (h : LowAt D s i) : (isIn D s = true ∧ i < D.length ∧ fnd D s = i ∧ ∃ x, D[i]? = some x ∧ x.s = s) ∨ (isIn D s = false ∧ fnd D s = D.length ∧ ∀ x, D[i]? = some x → x.s ≠ s) := by
  by_cases hi : i < D.length
  · by_cases he : D[i].s = s
    · have h1 := h.yes (List.getElem?_eq_getElem hi) he
      exact .inl ⟨h1.2, hi, h1.1, _, List.getElem?_eq_getElem hi, he⟩
    · have h0 : ∀ x, D[i]? = some x → x.s ≠ s := fun x hx => by rw [List.getElem?_eq_getElem hi] at hx; injection hx with hx; rw [← hx]; exact he
      have h1 := h.no hr h0
      exact .inr ⟨h1.2, h1.1, h0⟩
  · have h0 : ∀ x, D[i]? = some x → x.s ≠ s := fun x hx => absurd (List.getElem?_eq_some_iff.1 hx).1 hi
    have h1 := h.no hr h0
    exact .inr ⟨h1.2, h1.1, h0⟩
theorem en_trans {a b c : Nam} (h1 : a < b) (h2 : b < c) : a < c := List.lt_trans h1 h2
set_option maxRecDepth 100000 in
set_option maxHeartbeats 4000000 in
theorem searchE_any (A : Option Addr) (n c : Nat) (D : List En) (s : Nam) (w : World) (h : ESl w w.heap.size A n c D) (hr : RisE D) (hn : D.length ≤ 100000) :
    Calls Tryd.prog 39 #[.slice A n c, encStr s, .func (.func 40) #[] #[]] w fun e w' => ∃ i : Nat, e = .returned (.tuple #[.int .i64 (i : Int), .bool (isIn D s)]) ∧ LowAt D s i ∧ Below w.heap.size w w' := by
  have hln := h.len
  have HRow := hid h
  have HR := hid hr
  have HL := hid hln
  have hn1 : (n : Int) ≤ 100000 := by omega
  clear h hr hln hn
  go_enter Tryd.func39, Tryd.ntmps39
  go_wp2
  go_loopw [9, 10] (fun iv jv wr => ∃ i j : Nat, iv = .int .i64 (i : Int) ∧ jv = .int .i64 (j : Int) ∧ i ≤ j ∧ j ≤ n ∧ (∀ (q : Nat) x, q < i → D[q]? = some x → x.s < s) ∧ (∀ (q : Nat) x, j ≤ q → D[q]? = some x → ¬ x.s < s) ∧ Below w.heap.size w wr) (fun iv jv _ => (intOf jv).toNat - (intOf iv).toNat)
  case atStart => exact ⟨0, n, rfl, rfl, Nat.zero_le _, Nat.le_refl _, fun q x h _ => absurd h (by omega), fun q x h hx => absurd (List.getElem?_eq_some_iff.1 hx).1 (by rw [HL.out]; omega), Below.refl _ _⟩
  case round =>
    obtain ⟨i, j, rfl, rfl, hij, hjn, hlo, hhi, hbw⟩ := hrel
    have HBw := hid hbw
    clear hbw
    have HLo := hid hlo
    have HHi := hid hhi
    clear hlo hhi
    have hj1 : (j : Int) ≤ n := by omega
    by_cases hlt : i < j
    · obtain ⟨m, hm⟩ : ∃ m, (i + j) / 2 = m := ⟨_, rfl⟩
      have hmi : ((i : Int) + (j : Int)) / 2 = (m : Int) := by omega
      have HMb := hid (show i ≤ m ∧ m < j from by omega)
      obtain ⟨b, o, x, rfl, _, hx, c0, c1, c2⟩ := (HRow.out.below HBw.out).get (k := m) (by omega)
      have HX := hid hx
      have hmn : (m : Int) < n := by omega
      have hij2 : (i : Int) < (j : Int) := by omega
      obtain ⟨z, hz⟩ : ∃ z, cmpS x.s s = z := ⟨_, rfl⟩
      obtain ⟨t, ht⟩ : ∃ t, decide (z < 0) = t := ⟨_, rfl⟩
      have HZ := hid hz
      have HT := hid (show decide (x.s < s) = t from by rw [← cmpS_neg, hz, ht])
      have HBx := hid ht
      clear hx hm hz
      go_wp2_with fail
      refine (placeC_any x s _).mono ?_
      rw [HZ.out]
      rintro e w1 ⟨rfl, hb1⟩
      have HB1 := hid (HBw.out.trans (hb1.mono HBw.out.size))
      clear hb1
      cases t
      · have HN := hid (show ∀ (q : Nat) y, m ≤ q → D[q]? = some y → ¬ y.s < s from fun q y hq hy => by
          have h1 : ¬ x.s < s := by have := HT.out; simpa using this
          rcases Nat.lt_or_eq_of_le hq with h2 | rfl
          · exact fun h3 => h1 (en_trans (HR.out.lt h2 HX.out hy) h3)
          · rw [HX.out] at hy; injection hy with hy; rw [← hy]; exact h1)
        go_wp2
        go_roundw
        case rel => exact ⟨i, m, rfl, rfl, HMb.out.1, by have := HMb.out; omega, HLo.out, HN.out, HB1.out⟩
        case measure => have := HMb.out; simp [intOf]; omega
      · have HN := hid (show ∀ (q : Nat) y, q < m + 1 → D[q]? = some y → y.s < s from fun q y hq hy => by
          have h1 : x.s < s := by have := HT.out; simpa using this
          rcases Nat.lt_or_eq_of_le (Nat.lt_succ_iff.1 hq) with h2 | rfl
          · exact en_trans (HR.out.lt h2 hy HX.out) h1
          · rw [HX.out] at hy; injection hy with hy; rw [← hy]; exact h1)
        go_wp2
        go_roundw
        case rel => exact ⟨m + 1, j, by go_num, rfl, by have := HMb.out; omega, hjn, HN.out, HHi.out, HB1.out⟩
        case measure => have := HMb.out; simp [intOf]; omega
    · obtain rfl : i = j := by omega
      have hii : decide (i < i) = false := by simp
      have HLow := hid (show LowAt D s i from ⟨by rw [HL.out]; exact hjn, HLo.out, HHi.out⟩)
      by_cases hin : i < n
      · obtain ⟨b, o, x, rfl, _, hx, c0, c1, c2⟩ := (HRow.out.below HBw.out).get (k := i) hin
        have hin2 : (i : Int) < n := by omega
        obtain ⟨z, hz⟩ : ∃ z, cmpS x.s s = z := ⟨_, rfl⟩
        have HI := hid (show isIn D s = decide (z = 0) from by
          rw [← hz, cmpS_zero]
          by_cases e : x.s = s
          · rw [(HLow.out.yes hx e).2]; simp [e]
          · rw [(HLow.out.no HR.out (fun y hy => by rw [hx] at hy; injection hy with hy; rw [← hy]; exact e)).2]; simp [e])
        have HZ := hid hz
        clear hx hlt hij hz
        go_wp2_with fail
        refine (placeC_any x s _).mono ?_
        rw [HZ.out]
        rintro e w1 ⟨rfl, hb1⟩
        have HB1 := hid (HBw.out.trans (hb1.mono HBw.out.size))
        clear hb1
        go_wp2
        go_ret2
        refine ⟨i, ?_, HLow.out, HB1.out⟩
        rw [HI.out]
        first | rfl | simp [beq_eq_decide]
      · have HI := hid (show isIn D s = false from (HLow.out.no HR.out (fun y hy => absurd (List.getElem?_eq_some_iff.1 hy).1 (by rw [HL.out]; exact hin))).2)
        have hin2 : decide (i < n) = false := by simpa using hin
        clear hlt hij
        go_wp2
        go_ret2
        exact ⟨i, by rw [HI.out]; rfl, HLow.out, HBw.out⟩
end Go.Proofs.YtcjiimfgmmgifaaDoor
