/- Package blob's own area in memory: what becomes of each block; the first block of a kind; the next free one. -/
import Derived.Test.YtfdabbpfphnbhaaDoorGBlIf
import Derived.BigQuiet
import Derived.Deep.QuietTactic
import Derived.Laws.CopyOwn
namespace Go.Proofs.YtfdabbpfphnbhaaDoor
open Go.RowKit

/-- what becomes of block i -/
def useV (n : Nat) (a : ASt) (i : Nat) : Int := if i < datN n then 0 else if a.use i = true then 2 else if a.held i = true then 3 else 1
def useL (n : Nat) (a : ASt) : List Int := (List.range n).map (useV n a)
def U8 (l : List Int) : List Value := l.map (Value.int .i8)
theorem useL_len (n : Nat) (a : ASt) : (useL n a).length = n := by simp [useL]
theorem useL_get {n i : Nat} (a : ASt) (h : i < n) : (useL n a)[i]? = some (useV n a i) := by
  unfold useL; rw [List.getElem?_map, List.getElem?_range h]; rfl
theorem U8_len (l : List Int) : (U8 l).length = l.length := by simp [U8]
theorem U8_get {l : List Int} {i : Nat} {x : Int} (h : l[i]? = some x) : (U8 l)[i]? = some (.int .i8 x) := by simp [U8, h]
theorem U8_set (l : List Int) (i : Nat) (x : Int) : (U8 l).set i (.int .i8 x) = U8 (l.set i x) := by simp [U8, List.map_set]
theorem useV_ways (n : Nat) (a : ASt) (i : Nat) : (i < datN n ∧ useV n a i = 0) ∨ (datN n ≤ i ∧ a.use i = true ∧ useV n a i = 2) ∨ (datN n ≤ i ∧ a.use i = false ∧ a.held i = true ∧ useV n a i = 3) ∨ (datN n ≤ i ∧ a.use i = false ∧ a.held i = false ∧ useV n a i = 1) := by
  unfold useV
  by_cases h : i < datN n
  · exact .inl ⟨h, if_pos h⟩
  · rw [if_neg h]
    rcases hu : a.use i with _ | _
    · rcases hh : a.held i with _ | _
      · exact .inr (.inr (.inr ⟨by omega, rfl, rfl, by simp⟩))
      · exact .inr (.inr (.inl ⟨by omega, rfl, rfl, by simp⟩))
    · exact .inr (.inl ⟨by omega, rfl, by simp⟩)
theorem useV_free {n : Nat} {a : ASt} {i : Nat} : useV n a i = 1 ↔ datN n ≤ i ∧ a.free i = true := by
  unfold ASt.free
  rcases useV_ways n a i with ⟨h, e⟩ | ⟨h, u, e⟩ | ⟨h, u, v, e⟩ | ⟨h, u, v, e⟩
  · rw [e]; constructor
    · intro x; omega
    · intro x; omega
  · rw [e, u]; simp
  · rw [e, u, v]; simp
  · rw [e, u, v]; simp [h]
theorem useV_used {n : Nat} {a : ASt} (hk : a.ok n) {i : Nat} : useV n a i = 2 ↔ a.use i = true := by
  rcases useV_ways n a i with ⟨h, e⟩ | ⟨h, u, e⟩ | ⟨h, u, v, e⟩ | ⟨h, u, v, e⟩
  · rw [e]; constructor
    · intro x; omega
    · intro x; have := (hk.use i x).1; omega
  · rw [e, u]; simp
  · rw [e, u]; simp
  · rw [e, u]; simp
theorem useV_aside {n : Nat} {a : ASt} {i : Nat} : useV n a i = 0 ↔ i < datN n := by
  rcases useV_ways n a i with ⟨h, e⟩ | ⟨h, u, e⟩ | ⟨h, u, v, e⟩ | ⟨h, u, v, e⟩ <;> rw [e] <;> constructor <;> intro x <;> omega
theorem useV_bd (n : Nat) (a : ASt) (i : Nat) : 0 ≤ useV n a i ∧ useV n a i ≤ 3 := by
  rcases useV_ways n a i with ⟨h, e⟩ | ⟨h, u, e⟩ | ⟨h, u, v, e⟩ | ⟨h, u, v, e⟩ <;> rw [e] <;> omega
/-- one block turned -/
theorem useL_turn {n i : Nat} {a b : ASt} {x : Int} (h0 : useV n b i = x) (h : ∀ k, k ≠ i → useV n b k = useV n a k) : (useL n a).set i x = useL n b := by
  apply List.ext_getElem?
  intro j
  rw [List.getElem?_set, useL_len]
  by_cases hj : i = j
  · subst hj
    by_cases hi : i < n
    · rw [if_pos rfl, if_pos hi, useL_get b hi, h0]
    · rw [if_pos rfl, if_neg hi]; symm; rw [List.getElem?_eq_none_iff, useL_len]; omega
  · rw [if_neg hj]
    by_cases hi : j < n
    · rw [useL_get a hi, useL_get b hi, h j (fun e => hj e.symm)]
    · rw [List.getElem?_eq_none_iff.2 (by rw [useL_len]; omega), List.getElem?_eq_none_iff.2 (by rw [useL_len]; omega)]
/-- the area at g over the device d: which blocks it has, where the next Put begins -/
structure ARat (w : World) (g u d n : Nat) (a : ASt) (nx : Nat) : Prop where
  blk : Blk w g 71 #[.pointer (some ⟨d, 0, none⟩), .slice (some ⟨u, 0, none⟩) n n, .int .i64 (nx : Int)]
  row : OwnV 79 w 0 (.slice (some ⟨u, 0, none⟩) n n) (U8 (useL n a))
  ne : u ≠ g
  nx : nx = a.last + 1 ∨ (nx = 0 ∧ a.last + 1 = n)
def ARw (g u k : Nat) : Prop := k = g ∨ k = u
def AReal (w : World) (g d n : Nat) (a : ASt) (G : Nat → Prop) : Prop := ∃ u nx, ARat w g u d n a nx ∧ G = ARw g u
section
variable {w w' : World} {g u d n nx : Nat} {a : ASt} {G : Nat → Prop}
theorem ARat.cells (h : ARat w g u d n a nx) : w.cell? ⟨g, 0, none⟩ = some (.pointer (some ⟨d, 0, none⟩)) ∧ w.cell? ⟨g, 1, none⟩ = some (.slice (some ⟨u, 0, none⟩) n n) ∧ w.cell? ⟨g, 2, none⟩ = some (.int .i64 (nx : Int)) :=
  ⟨h.blk.cell 0, h.blk.cell 1, h.blk.cell 2⟩
theorem ARat.use (h : ARat w g u d n a nx) {i : Nat} (hi : i < n) : w.cell? ⟨u, i, none⟩ = some (.int .i8 (useV n a i)) := h.row.cell (U8_get (useL_get a hi))
theorem ARat.kept (h : ARat w g u d n a nx) (hk : Kept (ARw g u) w w') : ARat w' g u d n a nx :=
  ⟨h.blk.same (hk.1 g (.inl rfl)), h.row.same (hk.1 u (.inr rfl)), h.ne, h.nx⟩
theorem ARat.lt (h : ARat w g u d n a nx) : g < w.heap.size ∧ u < w.heap.size := ⟨h.blk.lt, h.row.is_lt⟩
theorem ARat.on (h : ARat w g u d n a nx) (hb : Below w.heap.size w w') : ARat w' g u d n a nx :=
  h.kept (Kept.of_below hb (fun _ hi => hi.elim (fun e => e ▸ h.lt.1) (fun e => e ▸ h.lt.2)))
theorem AReal.kept (h : AReal w g d n a G) (hk : Kept G w w') : AReal w' g d n a G := by
  obtain ⟨u, nx, h, rfl⟩ := h; exact ⟨u, nx, h.kept hk, rfl⟩
theorem AReal.lt (h : AReal w g d n a G) : ∀ k, G k → k < w.heap.size := by
  obtain ⟨u, nx, h, rfl⟩ := h
  exact fun k hk => hk.elim (fun e => e ▸ h.lt.1) (fun e => e ▸ h.lt.2)
theorem ARat.nx_le (h : ARat w g u d n a nx) (hk : a.ok n) : nx ≤ n := by
  have := hk.last; rcases h.nx with e | ⟨e, _⟩ <;> omega
theorem ARat.sv (h : ARat w g u d n a nx) : Sv w w.heap.size (some ⟨u, 0, none⟩) n n (U8 (useL n a)) := by
  obtain ⟨A, c, hv, hs, _⟩ := h.row.form
  rw [U8_len, useL_len] at hv hs
  cases hv
  exact hs
end
/-- the first of a kind, or that there is none -/
def IndexOut (w : World) (l : List Int) (x : Int) (e : Ending) (w' : World) : Prop :=
  w' = w ∧ ((∃ k, k < l.length ∧ l[k]? = some x ∧ (∀ i, i < k → l[i]? ≠ some x) ∧ e = .returned (.int .i64 (k : Int))) ∨ ((∀ i : Nat, l[i]? ≠ some x) ∧ e = .returned (.int .i64 (-1))))
set_option maxRecDepth 100000 in
set_option maxHeartbeats 1000000 in
theorem index_any (A : Option Addr) (m c : Nat) (l : List Int) (x : Int) (w : World) (h : Sv w w.heap.size A m c (U8 l)) (hm : m ≤ 6000) :
    Calls Tryd.prog 34 #[.slice A m c, .int .i8 x] w (IndexOut w l x) := by
  have HS := hid h
  have hl : l.length = m := by have := h.len; rwa [U8_len] at this
  have HL := hid hl
  clear h hl
  go_enter Tryd.func34, Tryd.ntmps34
  go_wp2
  go_loop [8] (fun i => ∃ k : Nat, k ≤ m ∧ i = .int .i64 (k : Int) ∧ ∀ j, j < k → l[j]? ≠ some x) (fun i => m - (intOf i).toNat)
  case atStart => exact ⟨0, Nat.zero_le _, rfl, fun j hj => absurd hj (by omega)⟩
  case round =>
    obtain ⟨k, hk, rfl, hne⟩ := hrel
    have HNe := hid hne
    clear hne
    by_cases hlt : k < m
    · obtain ⟨y, hy⟩ : ∃ y, l[k]? = some y := ⟨_, List.getElem?_eq_getElem (by rw [HL.out]; exact hlt)⟩
      obtain ⟨ad, rfl, _, hc⟩ := HS.out.get (U8_get hy)
      have HY := hid hy
      clear hy
      rcases hxy : (x == y) with _ | _
      · go_wp2
        go_round
        case rel =>
          refine ⟨k + 1, by omega, by go_num, fun j hj => ?_⟩
          by_cases e : j = k
          · subst e; rw [HY.out]; intro h; injection h with h; subst h; simp at hxy
          · exact HNe.out j (by omega)
        case measure => simp [intOf]; omega
      · have HXY := hid (show x = y from by simpa using hxy)
        go_wp2
        go_ret
        exact ⟨rfl, .inl ⟨k, by rw [HL.out]; exact hlt, by rw [HY.out, HXY.out], HNe.out, rfl⟩⟩
    · have HF := hid (show ∀ i : Nat, l[i]? ≠ some x from fun i => by
        by_cases hi : i < k
        · exact HNe.out i hi
        · rw [List.getElem?_eq_none_iff.2 (by rw [HL.out]; omega)]; simp)
      have hnlt : decide (k < m) = false := by simpa using hlt
      go_wp2
      go_ret
      exact ⟨rfl, .inr ⟨HF.out, rfl⟩⟩
set_option maxRecDepth 100000 in
set_option maxHeartbeats 1000000 in
theorem useOf_any (g u d n nx : Nat) (a : ASt) (x : Int) (w : World) (h : ARat w g u d n a nx) (h1 : -9223372036854775808 ≤ x) (h2 : x ≤ 9223372036854775807) :
    Calls Tryd.prog 35 #[.pointer (some ⟨g, 0, none⟩), .int .i64 x] w fun e w' => w' = w ∧ e = .returned (.int .i8 (if 0 ≤ x ∧ x < (n : Int) then useV n a x.toNat else 0)) := by
  obtain ⟨c0, c1, c2⟩ := h.cells
  have HU := hid h
  clear h
  by_cases hx : 0 ≤ x
  · obtain ⟨k, rfl⟩ : ∃ k : Nat, x = (k : Int) := ⟨x.toNat, by omega⟩
    by_cases hk : k < n
    · have hv : (if 0 ≤ (k : Int) ∧ (k : Int) < (n : Int) then useV n a ((k : Int)).toNat else 0) = useV n a k := by rw [if_pos ⟨by omega, by omega⟩]; rfl
      rw [hv]
      have hc := HU.out.use hk
      have g2 : decide (n ≤ k) = false := by simpa using hk
      clear hv
      go_enter Tryd.func35, Tryd.ntmps35
      go_wp2
      go_ret
      exact ⟨rfl, rfl⟩
    · have hv : (if 0 ≤ (k : Int) ∧ (k : Int) < (n : Int) then useV n a ((k : Int)).toNat else 0) = 0 := by rw [if_neg (by omega)]
      rw [hv]
      have g2 : decide (n ≤ k) = true := by simp; omega
      clear hv
      go_enter Tryd.func35, Tryd.ntmps35
      go_wp2
      go_ret
      exact ⟨rfl, rfl⟩
  · have hv : (if 0 ≤ x ∧ x < (n : Int) then useV n a x.toNat else 0) = 0 := by rw [if_neg (by omega)]
    rw [hv]
    have g1 : decide (x < 0) = true := by simp; omega
    clear hv
    go_enter Tryd.func35, Tryd.ntmps35
    go_wp2
    go_ret
    exact ⟨rfl, rfl⟩
/- the next free block: pure -/
theorem next_ahead {n k nx : Nat} {a : ASt} (h0 : 300 ≤ n) (hok : a.ok n) (hx : nx = a.last + 1 ∨ (nx = 0 ∧ a.last + 1 = n)) (hk : k < n) (hn : nx ≤ k) (hv : useV n a k = 1) (hb : ∀ i, nx ≤ i → i < k → useV n a i ≠ 1) : IsNext n a k := by
  have hd := (datN_lt h0).1
  have hl := hok.last
  obtain ⟨h1, h2⟩ := useV_free.1 hv
  have hf : ∀ i, nx ≤ i → i < k → datN n ≤ i → a.free i = false := fun i hi1 hi2 hi3 => by
    rcases hc : a.free i with _ | _
    · rfl
    · exact absurd (useV_free.2 ⟨hi3, hc⟩) (hb i hi1 hi2)
  rcases hx with rfl | ⟨rfl, he⟩
  · refine ⟨k - a.last, by omega, by omega, ?_, h2, fun i hi1 hi2 => ?_⟩
    · unfold candA; rw [Nat.mod_eq_of_lt (by omega)]; omega
    · have e : candA n a i = a.last + i := by unfold candA; rw [Nat.mod_eq_of_lt (by omega)]; omega
      rw [e]; exact hf _ (by omega) (by omega) (by omega)
  · refine ⟨k - datN n + 1, by omega, by omega, ?_, h2, fun i hi1 hi2 => ?_⟩
    · unfold candA
      rw [show a.last - datN n + (k - datN n + 1) = (k - datN n) + (n - datN n) by omega, Nat.add_mod_right, Nat.mod_eq_of_lt (by omega)]; omega
    · have e : candA n a i = datN n + (i - 1) := by
        unfold candA
        rw [show a.last - datN n + i = (i - 1) + (n - datN n) by omega, Nat.add_mod_right, Nat.mod_eq_of_lt (by omega)]
      rw [e]; exact hf _ (by omega) (by omega) (by omega)
theorem next_round {n k nx : Nat} {a : ASt} (h0 : 300 ≤ n) (hok : a.ok n) (hx : nx = a.last + 1 ∨ (nx = 0 ∧ a.last + 1 = n)) (hk : k < nx) (hv : useV n a k = 1) (hb : ∀ i, i < k → useV n a i ≠ 1) (ha : ∀ i, nx ≤ i → i < n → useV n a i ≠ 1) : IsNext n a k := by
  have hd := (datN_lt h0).1
  have hl := hok.last
  obtain ⟨h1, h2⟩ := useV_free.1 hv
  rcases hx with rfl | ⟨rfl, he⟩
  · have hf : ∀ i, (i < k ∨ a.last < i) → i < n → datN n ≤ i → a.free i = false := fun i hi1 hi2 hi3 => by
      rcases hc : a.free i with _ | _
      · rfl
      · rcases hi1 with hi1 | hi1
        · exact absurd (useV_free.2 ⟨hi3, hc⟩) (hb i hi1)
        · exact absurd (useV_free.2 ⟨hi3, hc⟩) (ha i (by omega) hi2)
    refine ⟨k + (n - datN n) - a.last, by omega, by omega, ?_, h2, fun i hi1 hi2 => ?_⟩
    · unfold candA
      rw [show a.last - datN n + (k + (n - datN n) - a.last) = (k - datN n) + (n - datN n) by omega, Nat.add_mod_right, Nat.mod_eq_of_lt (by omega)]; omega
    · by_cases hi : a.last + i < n
      · have e : candA n a i = a.last + i := by unfold candA; rw [Nat.mod_eq_of_lt (by omega)]; omega
        rw [e]; exact hf _ (.inr (by omega)) (by omega) (by omega)
      · have e : candA n a i = a.last + i - (n - datN n) := by
          unfold candA
          rw [show a.last - datN n + i = (a.last - datN n + i - (n - datN n)) + (n - datN n) by omega, Nat.add_mod_right, Nat.mod_eq_of_lt (by omega)]; omega
        rw [e]; exact hf _ (.inl (by omega)) (by omega) (by omega)
  · omega
theorem noRoom_of {n : Nat} {a : ASt} (h : ∀ i, i < n → useV n a i ≠ 1) : NoRoom n a := fun k h1 h2 => by
  rcases hc : a.free k with _ | _
  · rfl
  · exact absurd (useV_free.2 ⟨h1, hc⟩) (h k h2)
theorem low_of {n k : Nat} {a : ASt} (hk : k < n) (hv : useV n a k = 1) (hb : ∀ i, i < k → useV n a i ≠ 1) : IsLow n a k := by
  obtain ⟨h1, h2⟩ := useV_free.1 hv
  refine ⟨h1, hk, h2, fun i hi1 hi2 => ?_⟩
  rcases hc : a.free i with _ | _
  · rfl
  · exact absurd (useV_free.2 ⟨hi1, hc⟩) (hb i hi2)
end Go.Proofs.YtfdabbpfphnbhaaDoor
