/- What the statements' own helpers say of entries. -/
import Derived.Test.YtcjiimfgmmgifaaDoorGEn
import Derived.Deep.RegionHeld3
import Derived.Sort.Walk0
namespace Go.Proofs.YtcjiimfgmmgifaaDoor
open Go.RowKit Go.Shelf Go.Sort

theorem takeE {l : List En} {k : Nat} {x : En} (h : l[k]? = some x) : l.take (k + 1) = l.take k ++ [x] := by rw [List.take_add_one, h]; rfl
/-- where a name stands first; behind all, if it doesn't -/
def fnd (L : List En) (s : Nam) : Nat := L.findIdx (fun e => e.s == s)
/-- what 'find' answers -/
def fndV (L : List En) (s : Nam) : Int := if fnd L s < L.length then (fnd L s : Int) else -1
def isIn (L : List En) (s : Nam) : Bool := decide (fnd L s < L.length)
theorem fnd_le (L : List En) (s : Nam) : fnd L s ≤ L.length := List.findIdx_le_length
theorem fnd_at {L : List En} {s : Nam} {k : Nat} {e : En} (h : L[k]? = some e) (hs : e.s = s) (hb : ∀ j x, j < k → L[j]? = some x → x.s ≠ s) : fnd L s = k := by
  have hk := (List.getElem?_eq_some_iff.1 h).1
  have he := (List.getElem?_eq_some_iff.1 h).2
  refine (List.findIdx_eq hk).2 ⟨by rw [he]; exact beq_iff_eq.2 hs, fun j hj => ?_⟩
  exact beq_eq_false_iff_ne.2 (hb j _ hj (List.getElem?_eq_getElem (by omega)))
theorem fnd_none {L : List En} {s : Nam} (hb : ∀ (j : Nat) x, L[j]? = some x → x.s ≠ s) : fnd L s = L.length := by
  refine List.findIdx_eq_length.2 fun x hx => ?_
  obtain ⟨j, hj⟩ := List.getElem?_of_mem hx
  exact beq_eq_false_iff_ne.2 (hb j x hj)
theorem fnd_get {L : List En} {s : Nam} (h : fnd L s < L.length) : ∃ e, L[fnd L s]? = some e ∧ e.s = s := by
  refine ⟨_, List.getElem?_eq_getElem h, ?_⟩
  have := List.findIdx_getElem (p := fun e : En => e.s == s) (xs := L) (w := h)
  exact beq_iff_eq.1 this
def rightE (e : En) : Bool := decide (1 ≤ e.n ∧ e.n < 16777216 ∧ 1 ≤ e.k ∧ e.k ≤ 3)
/-- those behind a name -/
def behindE (L : List En) (a : Nam) : List En := L.filter (fun e => decide (a < e.s))
def fromE (L : List En) (a : Nam) (n : Int) : List En := (behindE L a).take n.toNat
def moreE (L : List En) (a : Nam) (n : Int) : Bool := decide (n.toNat < (behindE L a).length)
theorem behindE_next {L : List En} {k : Nat} {x : En} {a : Nam} (h : L[k]? = some x) : behindE (L.take (k + 1)) a = behindE (L.take k) a ++ (if a < x.s then [x] else []) := by
  unfold behindE
  rw [takeE h, List.filter_append]
  by_cases hx : a < x.s <;> simp [hx]
theorem behindE_len (L : List En) (a : Nam) : (behindE L a).length ≤ L.length := List.length_filter_le _ _
theorem blt (x y : Nam) : Op.bytesLess x y = decide (x < y) := bytesLess_eq x y

set_option maxRecDepth 100000 in
theorem right_any (e : En) (w : World) : Calls Tryd.prog 12 #[enV e] w fun r w' => r = .returned (.bool (rightE e)) ∧ Below w.heap.size w w' := by
  obtain ⟨s, n, k⟩ := e
  have HB := hid (show Below w.heap.size w (w.alloc (.cells #[encStr s, .int .i64 n, .int .i64 k] 29)) from (Below.refl _ _).alloc (Nat.le_refl _) _)
  have hw : (¬ 1 ≤ n ∧ rightE ⟨s, n, k⟩ = false) ∨ (1 ≤ n ∧ ¬ n < 16777216 ∧ rightE ⟨s, n, k⟩ = false) ∨ (1 ≤ n ∧ n < 16777216 ∧ ¬ 1 ≤ k ∧ rightE ⟨s, n, k⟩ = false) ∨ (1 ≤ n ∧ n < 16777216 ∧ 1 ≤ k ∧ ¬ k ≤ 3 ∧ rightE ⟨s, n, k⟩ = false) ∨ (1 ≤ n ∧ n < 16777216 ∧ 1 ≤ k ∧ k ≤ 3 ∧ rightE ⟨s, n, k⟩ = true) := by
    unfold rightE
    by_cases h1 : 1 ≤ n
    · by_cases h2 : n < 16777216
      · by_cases h3 : 1 ≤ k
        · by_cases h4 : k ≤ 3
          · exact .inr (.inr (.inr (.inr ⟨h1, h2, h3, h4, by simp; omega⟩)))
          · exact .inr (.inr (.inr (.inl ⟨h1, h2, h3, h4, by simp; omega⟩)))
        · exact .inr (.inr (.inl ⟨h1, h2, h3, by simp; omega⟩))
      · exact .inr (.inl ⟨h1, h2, by simp; omega⟩)
    · exact .inl ⟨h1, by simp; omega⟩
  rcases hw with ⟨h1, hr⟩ | ⟨h1, h2, hr⟩ | ⟨h1, h2, h3, hr⟩ | ⟨h1, h2, h3, h4, hr⟩ | ⟨h1, h2, h3, h4, hr⟩
  all_goals
    rw [hr]
    clear hr
    go_enter Tryd.func12, Tryd.ntmps12
    go_wp2
    go_ret
    exact ⟨rfl, HB.out⟩
set_option maxRecDepth 100000 in
set_option maxHeartbeats 1000000 in
theorem entrys_any (A : Option Addr) (n c B : Nat) (L : List En) (w : World) (h : ESl w B A n c L) (hB : B ≤ w.heap.size) (hn : n ≤ 100000) :
    Calls Tryd.prog 15 #[.slice A n c] w (EMade w L) := by
  obtain ⟨i0, hi, hz0, hz1, hz2⟩ := info_parts Tryd.infoEn
  have HS := hid h
  have HBB := hid hB
  clear h hB
  go_enter Tryd.func15, Tryd.ntmps15
  go_wp2_with (at_make; refine wpList_make_own _ rfl _ _ 25 rfl w.heap.size 29 i0 (.agg #[.string ⟨#[]⟩, .int .i64 0, .int .i64 0]) 3 Tryd.underlying25 hi hz0 hz1 _ _ _ n rfl rfl ?hC ?b2 ?b3 ?b4 ?_)
  case hC => rfl
  case b2 => rw [hz2]; omega
  case b3 => unfold maxLen; omega
  case b4 => exact Nat.le_refl _
  intro w1 hown hgrow
  have HO := hid (show EOwn w1 w.heap.size (.slice (some ⟨w.heap.size, 0, none⟩) 0 n) (L.take 0) from hown)
  have HB := hid (show Below w.heap.size w w1 from (Below.refl _ _).grown hgrow (Nat.le_refl _) (fun _ h => by cases h))
  clear hown hgrow
  go_wp2
  go_loopw [3, 4] (fun v i wr => ∃ k : Nat, k ≤ n ∧ i = .int .i64 (k : Int) ∧ EOwn wr w.heap.size v (L.take k) ∧ Below w.heap.size w wr) (fun _ i _ => n - (intOf i).toNat)
  case atStart => exact ⟨0, Nat.zero_le _, rfl, HO.out, HB.out⟩
  case round =>
    obtain ⟨k, hk, rfl, hown, hb⟩ := hrel
    have HO1 := hid hown
    have HB1 := hid hb
    clear hown hb
    by_cases hlt : k < n
    · obtain ⟨b, o, e, rfl, hbl, hx, hc0, hc1, hc2⟩ := (HS.out.below (HB1.out.mono HBB.out)).get hlt
      have HX := hid hx
      clear hx hbl
      go_wp2_with (at_builtin; refine wpList_append_en rfl _ _ rfl w.heap.size (wr.heap.size + 1) _ (L.take k) [e] rfl (World.ownsRow.alloc HO1.out _) (some ⟨wr.heap.size, 0, none⟩) 1 1 rfl (esl_one wr e) ?c1 ?c2 ?_)
      case c1 => rw [List.length_take]; omega
      case c2 => have := HB1.out.size; simp; omega
      intro v' w2 hown' hgrow _
      have R1 := hid (show EOwn w2 w.heap.size v' (L.take (k + 1)) by rw [takeE HX.out]; exact hown')
      have R2 := hid (show Below w.heap.size w w2 from (HB1.out.alloc HB1.out.size _).grown hgrow (by have := HB1.out.size; simp; omega) (fun k hk => (HO1.out.lt k hk).1))
      clear hown' hgrow
      go_wp2
      go_roundw
      case rel => exact ⟨k + 1, by omega, by go_num, R1.out, R2.out⟩
      case measure => simp [intOf]; omega
    · go_wp2
      go_ret
      exact ⟨_, rfl, by have := HO1.out; rwa [List.take_of_length_le (by have := HS.out.len; omega)] at this, HB1.out⟩
set_option maxRecDepth 100000 in
theorem sameEntry_any (x y : En) (w : World) : Calls Tryd.prog 17 #[enV x, enV y] w fun r w' => r = .returned (.bool (decide (x = y))) ∧ Below w.heap.size w w' := by
  obtain ⟨s, n, k⟩ := x
  obtain ⟨s', n', k'⟩ := y
  have HB := hid (show Below w.heap.size w ((w.alloc (.cells #[encStr s, .int .i64 n, .int .i64 k] 29)).alloc (.cells #[encStr s', .int .i64 n', .int .i64 k'] 29)) from ((Below.refl _ _).alloc (Nat.le_refl _) _).alloc (by simp) _)
  have hw : ((s == s') = false ∧ decide ((⟨s, n, k⟩ : En) = ⟨s', n', k'⟩) = false) ∨ ((s == s') = true ∧ (n == n') = false ∧ decide ((⟨s, n, k⟩ : En) = ⟨s', n', k'⟩) = false) ∨ ((s == s') = true ∧ (n == n') = true ∧ decide ((⟨s, n, k⟩ : En) = ⟨s', n', k'⟩) = (k == k')) := by
    by_cases h1 : s = s'
    · by_cases h2 : n = n'
      · refine .inr (.inr ⟨by simp [h1], by simp [h2], ?_⟩)
        by_cases h3 : k = k' <;> simp [h1, h2, h3]
      · exact .inr (.inl ⟨by simp [h1], by simp [h2], by simp [h2]⟩)
    · exact .inl ⟨by simp [h1], by simp [h1]⟩
  rcases hw with ⟨h1, hr⟩ | ⟨h1, h2, hr⟩ | ⟨h1, h2, hr⟩
  all_goals
    rw [hr]
    clear hr
    go_enter Tryd.func17, Tryd.ntmps17
    go_wp2
    go_ret
    exact ⟨rfl, HB.out⟩
set_option maxRecDepth 100000 in
set_option maxHeartbeats 1000000 in
theorem find_any (A : Option Addr) (n c B : Nat) (L : List En) (s : Nam) (w : World) (h : ESl w B A n c L) (hn : n ≤ 100000) :
    Calls Tryd.prog 9 #[.slice A n c, encStr s] w fun r w' => r = .returned (.int .i64 (fndV L s)) ∧ w' = w := by
  have HS := hid h
  clear h
  go_enter Tryd.func9, Tryd.ntmps9
  go_wp2
  go_loopw [5] (fun i wr => ∃ k : Nat, k ≤ n ∧ i = .int .i64 (k : Int) ∧ Hid (∀ j x, j < k → L[j]? = some x → x.s ≠ s) ∧ wr = w) (fun i _ => n - (intOf i).toNat)
  case atStart => exact ⟨0, Nat.zero_le _, rfl, fun j x hj => absurd hj (Nat.not_lt_zero _), rfl⟩
  case round =>
    obtain ⟨k, hk, rfl, HA, rfl⟩ := hrel
    by_cases hlt : k < n
    · obtain ⟨b, o, e, rfl, hbl, hx, hc0, hc1, hc2⟩ := HS.out.get hlt
      have HX := hid hx
      clear hx hbl hc1 hc2
      by_cases hs : e.s = s
      · have t : (e.s == s) = true := beq_iff_eq.2 hs
        have HF := hid (show fndV L s = (k : Int) by
          have hf := fnd_at HX.out hs HA.out
          have hl := (List.getElem?_eq_some_iff.1 HX.out).1
          unfold fndV
          rw [hf, if_pos hl])
        clear hs
        go_wp2
        go_ret
        exact ⟨by rw [HF.out]; rfl, rfl⟩
      · have t : (e.s == s) = false := beq_eq_false_iff_ne.2 hs
        have HA2 := hid (show ∀ j x, j < k + 1 → L[j]? = some x → x.s ≠ s from fun j x hj hx => by
          rcases Nat.lt_or_ge j k with h | h
          · exact HA.out j x h hx
          · obtain rfl : j = k := by omega
            have := HX.out
            rw [hx] at this
            injection this with this
            rw [this]
            exact hs)
        clear hs
        go_wp2
        go_roundw
        case rel => exact ⟨k + 1, by omega, by go_num, HA2, trivial⟩
        case measure => simp [intOf]; omega
    · have HF := hid (show fndV L s = -1 by
        have hl := HS.out.len
        have hf := fnd_none (L := L) (s := s) (fun j x hx => HA.out j x (by have := (List.getElem?_eq_some_iff.1 hx).1; omega) hx)
        unfold fndV
        rw [hf, if_neg (Nat.lt_irrefl _)])
      go_wp2
      go_ret
      exact ⟨by rw [HF.out]; rfl, rfl⟩
end Go.Proofs.YtcjiimfgmmgifaaDoor
