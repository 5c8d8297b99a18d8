/- Put together out of 6 texts. What was changed: its pages' numbers, rising. -/
import Derived.Test.YtkhdgacjgccnnaaGreatDoorGXar
import Derived.Deep.WholeRow
namespace Go.Proofs.YtkhdgacjgccnnaaGreatDoor
open Go.RowKit Go.Maps Go.Sort Go.Shelf

def Tryz.keysB_ren : Go.Shelf.Ren := ⟨fun | 7 => 82 | 10 => 118 | n => n, fun | 23 => 88 | 26 => 3 | 3 => 29 | 28 => 162 | 0 => 0 | 27 => 161 | 33 => 157 | 4 => 4 | n => n, fun | n => n⟩
theorem Tryz.keysB : Go.Proofs.SlLaysZI.n7 Tryz.prog Tryz.keysB_ren := {
    mixed := by kernel_rfl,
    f7 := ⟨Tryz.f82.name, by decide, Tryz.func82.trans (congrArg some (by kernel_rfl))⟩,
    f10 := ⟨Tryz.f118.name, by decide, Tryz.func118.trans (congrArg some (by kernel_rfl))⟩,
    t0 := Tryz.underlying0,
    a0 := Tryz.isAgg0,
    z0 := Tryz.sizeOf0,
    v0 := Tryz.zeroValue0,
    t4 := Tryz.underlying4,
    a4 := Tryz.isAgg4,
    z4 := Tryz.sizeOf4,
    v4 := Tryz.zeroValue4,
    t23 := Tryz.underlying88,
    a23 := Tryz.isAgg88,
    z23 := Tryz.sizeOf88,
    v23 := Tryz.zeroValue88,
    t26 := Tryz.underlying3,
    a26 := Tryz.isAgg3,
    z26 := Tryz.sizeOf3,
    v26 := Tryz.zeroValue3,
    t27 := Tryz.underlying161,
    a27 := Tryz.isAgg161,
    z27 := Tryz.sizeOf161,
    v27 := Tryz.zeroValue161,
    t28 := Tryz.underlying162,
    a28 := Tryz.isAgg162,
    z28 := Tryz.sizeOf162,
    v28 := Tryz.zeroValue162,
    t33 := Tryz.underlying157,
    a33 := Tryz.isAgg157,
    z33 := Tryz.sizeOf157,
    v33 := Tryz.zeroValue157 }
theorem keysS_any (mb : Option Nat) (w : World) : Calls Tryz.prog 82 #[.map mb] w fun e w' => e = .returned (.func (.func 118) #[] #[.pointer (some ⟨w.heap.size, 0, none⟩)]) ∧ w' = w.alloc (.cells #[.map mb] 88) :=
  (callsIn_wide (n := 6)).1 (AnyZI.keys_in Tryz.keysB Fence.wide 6 trivial rfl mb w)
set_option maxHeartbeats 1000000 in
theorem sortedS_any {H : Type} (g b nn : Nat) (D : DataW H) (R : Value → Option (DataW H × List MemPlace)) (w : World) (hg : w.cell? ⟨g, 0, none⟩ = some (.map (some b))) (hown : w.ownsMap Tryz.prog 3 R b nn D) (hmax : Maps.size D ≤ 100000) :
    Calls Tryz.prog 81 #[.func (.func 118) #[] #[.pointer (some ⟨g, 0, none⟩)]] w (SortedKeys D w) := by
  refine (callsIn_wide (n := 6)).1 ?_
  have hseq : SeqGives Fence.wide (6 - 1 - 1 - 1) Tryz.prog 118 #[.pointer (some ⟨g, 0, none⟩)] encZ (fun ss => ss.Perm (intKeys D)) (Maps.size D) w :=
    AnyZI.keys_gives (ρ := Tryz.keysB_ren) { Tryz.keysB with } Fence.wide _ trivial rfl (by omega) g b nn D w (World.block_lt_of_cell? w _ hg) hg hown
  refine (AnyZI.sorted_in Tryz.sortedA Fence.wide 6 trivial trivial trivial trivial rfl (by omega) (sortsA _) (enters_of Tryz.func117 (by kernel_rfl) rfl) 118 #[.pointer (some ⟨g, 0, none⟩)] trivial (enters_of Tryz.func118 (by kernel_rfl) rfl) _ (Maps.size D) (by unfold maxLen; omega) (by omega) w hseq).mono ?_
  rintro e w' ⟨v, ss, he, hp, hr, _, hb⟩
  refine ⟨v, ss, he, hp, ?_, hb⟩
  unfold OwnN
  rw [List.length_mergeSort]
  exact hr
theorem keysOf_mem {ch : Chg} {p : Nat} : p ∈ keysOf ch ↔ p < 256 ∧ (ch p).isSome = true := by
  unfold keysOf
  rw [List.mem_filter, List.mem_range]
theorem keysOf_sorted (ch : Chg) : (keysOf ch).Pairwise (· < ·) := List.Pairwise.filter _ List.pairwise_lt_range
theorem keysOf_le (ch : Chg) : (keysOf ch).length ≤ 256 := by
  have := List.length_filter_le (fun p => (ch p).isSome) (List.range 256)
  rwa [List.length_range] at this
/-- the sorted keys -/
theorem Chd.sorted {w : World} {m : Nat} {ch : Chg} {D : DataW Unit} {C : Nat → Prop} {ss : List Int} (h : Chd w m ch D C) (hs : ss.Perm (intKeys D)) : ss.mergeSort (fun x y => decide (x ≤ y)) = natsI (keysOf ch) := by
  obtain ⟨es, hD, hpw, _⟩ := h.map.entries law
  obtain ⟨es', hD', hko⟩ := h.map.keysOf
  obtain rfl : es = es' := by rw [hD] at hD'; simpa using hD'
  have hh := h.has
  have hk := h.key
  subst hD
  have hso := keysOf_sorted ch
  have hperm : (natsI (keysOf ch)).Perm (intKeys (.map es)) := by
    refine perm_intKeys hpw (fun p hp' => ?_) ?_ (fun x => ?_)
    · obtain ⟨v, hv⟩ := hko p hp'
      obtain ⟨x, _, hx, _⟩ := Maps.keyOf_i64 Tryz.underlying3 hv
      exact ⟨x, hx⟩
    · refine List.pairwise_map.2 (hso.imp (fun {a b} hab => ?_))
      omega
    · unfold natsI
      rw [List.mem_map]
      constructor
      · rintro ⟨i, hi, rfl⟩
        obtain ⟨h1, h2⟩ := keysOf_mem.1 hi
        have := hh i h1
        rw [h2] at this
        exact this
      · intro hx
        obtain ⟨k, hk1, he⟩ := hk _ hx
        refine ⟨k, keysOf_mem.2 ⟨hk1, ?_⟩, by injection he with _ he; exact he.symm⟩
        have := hh k hk1
        rw [← he, hx] at this
        exact this.symm
  have e1 := mergeSort_of_perm_i (hs.trans hperm.symm)
  refine e1.trans (List.mergeSort_of_pairwise ?_)
  refine List.pairwise_map.2 (hso.imp (fun {a b} hab => ?_))
  simp only [leI, decide_eq_true_eq]
  omega
end Go.Proofs.YtkhdgacjgccnnaaGreatDoor
namespace Go.Proofs.YtkhdgacjgccnnaaGreatDoor
open Go.RowKit

def nV (l : List Int) : List Value := l.map (Value.int .i64)
theorem nV_len (l : List Int) : (nV l).length = l.length := by simp [nV]
abbrev RowN (w : World) (g : Nat) (M : List Int) (T : List Value) : Prop := Blk w g 3 (nV M ++ T).toArray
theorem rowN_put {w : World} {g i : Nat} {M : List Int} {T : List Value} (h : RowN w g M T) (hi : i < M.length) (y : Int) : RowN (w.setCell ⟨g, i, none⟩ (.int .i64 y)) g (M.set i y) T := by
  have hb := Blk.put h i (.int .i64 y)
  simp only [List.setIfInBounds_toArray] at hb
  rw [List.set_append_left _ _ (by rw [nV_len]; exact hi)] at hb
  have e : (nV M).set i (.int .i64 y) = nV (M.set i y) := by simp [nV, List.map_set]
  rw [e] at hb
  exact hb
theorem rowN_sn {w : World} {g cap n : Nat} {M : List Int} {T : List Value} (h : RowN w g M T) (hl : M.length = n) (hc : n ≤ cap) (hm : cap ≤ maxLen) : Sn w w.heap.size (some ⟨g, 0, none⟩) n cap M := by
  refine ⟨hl, hc, hm, (fun h => by cases h), fun ad ha _ => ?_⟩
  cases ha
  refine ⟨h.lt, fun j x hx => ?_⟩
  have hj := (List.getElem?_eq_some_iff.1 hx).1
  rw [add0, Blk.cell h]
  simp only [List.getElem?_toArray]
  rw [List.getElem?_append_left (by rw [nV_len]; exact hj)]
  simp [nV, hx]
theorem own_rowN {w : World} {B n cap g : Nat} {l : List Int} (h : OwnN w B (.slice (some ⟨g, 0, none⟩) n cap) l) : ∃ T, RowN w g l T ∧ n = l.length ∧ n ≤ cap ∧ cap ≤ maxLen ∧ B ≤ g := by
  rcases h.2 with ⟨h', _⟩ | ⟨g', cap', cur, h', hb, hg, h1, h2, h3, h4⟩
  · cases h'
  · cases h'
    refine ⟨cur.toList.drop l.length, ?_, rfl, h1, h2, hb⟩
    have e : cur = (nV l ++ cur.toList.drop l.length).toArray := by
      apply Array.ext'
      rw [Nat.mul_one] at h4
      unfold nV
      rw [← h4]
      simp
    unfold RowN Blk
    rw [← e]
    exact hg
theorem clearN_run {w : World} {g i n c : Nat} {M : List Int} {T : List Value} (h : RowN w g M T) (hl : M.length = n) (hi : i < n) (ty : TypeId) :
    (Builtin.clear_ #[108] ty #[.slice (some ⟨g, i, none⟩) (n - i) c]).run Tryz.prog w = .ok (.tuple #[]) (w.setCells g i (List.replicate (n - i) (.int .i64 0))) ∧
    RowN (w.setCells g i (List.replicate (n - i) (.int .i64 0))) g (M.take i ++ List.replicate (n - i) 0) T := by
  constructor
  · refine Lib.run_clear_slice w 108 3 ty (.int .i64 0) Tryz.underlying108 (fun W => Tryz.zeroValue3 W) rfl rfl g i (n - i) c (by omega) (fun j hj => ?_) (fun j _ => Blk.free h _)
    rw [Blk.cell h]
    simp only [List.getElem?_toArray]
    rw [List.getElem?_eq_getElem (by rw [List.length_append, nV_len]; omega)]
    rfl
  · have h2 : Blk w g 3 (nV (M.take i) ++ (nV (M.drop i) ++ T)).toArray := by
      have e : nV M ++ T = nV (M.take i) ++ (nV (M.drop i) ++ T) := by
        rw [← List.append_assoc]
        congr 1
        unfold nV
        rw [← List.map_append, List.take_append_drop]
      rw [← e]; exact h
    have h3 := blk_setCells (List.replicate (n - i) (.int .i64 0)) (nV (M.drop i)) (nV (M.take i)) w (by rw [nV_len, List.length_drop, List.length_replicate, hl]) h2
    rw [nV_len, List.length_take, Nat.min_eq_left (by omega)] at h3
    unfold RowN
    have e : nV (M.take i ++ List.replicate (n - i) 0) ++ T = nV (M.take i) ++ (List.replicate (n - i) (Value.int .i64 0) ++ T) := by
      unfold nV
      rw [List.map_append, List.map_replicate, List.append_assoc]
    rw [e]
    exact h3
/-- what is kept of a row -/
def KeptN (w : World) (g cap : Nat) (q : List Int) (e : Ending) (w' : World) : Prop := ∃ m, e = .returned (.slice (some ⟨g, 0, none⟩) m cap) ∧ (∃ T, RowN w' g q T) ∧ q.length = m ∧ m ≤ cap ∧ cap ≤ maxLen ∧ w.grownBy w' (some g)
/-- .. by Compact, k laid, j looked at -/
structure CutN (l M : List Int) (k j : Nat) : Prop where
  len : M.length = l.length
  pos : 1 ≤ k
  le : k < j
  jn : j ≤ l.length
  head : M.take k = onceTo l j
  tail : M.drop (j - 1) = l.drop (j - 1)
theorem takeR_nextN {l : List Int} {k : Nat} {x : Int} (h : l[k]? = some x) : l.take (k + 1) = l.take k ++ [x] := by rw [List.take_add_one, h]; rfl
theorem CutN.get {l M : List Int} {k j i : Nat} (h : CutN l M k j) (hi : j - 1 ≤ i) : M[i]? = l[i]? := by
  have := congrArg (fun q => q[i - (j - 1)]?) h.tail
  simp only [List.getElem?_drop] at this
  rwa [show j - 1 + (i - (j - 1)) = i by omega] at this
theorem CutN.keep {l M : List Int} {k j : Nat} (h : CutN l M k j) {x y : Int} (hx : l[j]? = some x) (hy : l[j - 1]? = some y) (hne : x ≠ y) : CutN l (M.set k x) (k + 1) (j + 1) := by
  have hj := (List.getElem?_eq_some_iff.1 hx).1
  have h1 := h.le
  have h2 := h.len
  refine ⟨by rw [List.length_set, h.len], by omega, by omega, by omega, ?_, ?_⟩
  · rw [onceTo_new hx (.inr (by rw [hx, hy]; intro e; injection e with e; exact hne e)), takeR_nextN (l := M.set k x) (k := k) (x := x) (by rw [List.getElem?_set_self (by omega)]), List.take_set_of_le (Nat.le_refl _), h.head]
  · rw [Nat.add_sub_cancel, List.drop_set_of_lt (by omega)]
    have := congrArg (List.drop 1) h.tail
    rw [List.drop_drop, List.drop_drop, show j - 1 + 1 = j by omega] at this
    exact this
theorem CutN.skip {l M : List Int} {k j : Nat} (h : CutN l M k j) (hj : j < l.length) (he : l[j]? = l[j - 1]?) : CutN l M k (j + 1) := by
  have h1 := h.le
  refine ⟨h.len, h.pos, by omega, by omega, by rw [onceTo_old (by omega) he]; exact h.head, ?_⟩
  rw [Nat.add_sub_cancel]
  have := congrArg (List.drop 1) h.tail
  rw [List.drop_drop, List.drop_drop, show j - 1 + 1 = j by omega] at this
  exact this
end Go.Proofs.YtkhdgacjgccnnaaGreatDoor
namespace Go.Proofs.YtkhdgacjgccnnaaGreatDoor
open Go.RowKit

theorem onceTo_one {l : List Int} (h : 0 < l.length) : onceTo l 1 = l.take 1 := by
  obtain ⟨x, hx⟩ : ∃ x, l[0]? = some x := ⟨_, List.getElem?_eq_getElem h⟩
  rw [takeR_nextN hx, onceTo_new hx (.inl rfl)]
  rfl
set_option maxRecDepth 100000 in
set_option maxHeartbeats 4000000 in
theorem compact_any (B g n cap : Nat) (l : List Int) (w : World) (h : OwnN w B (.slice (some ⟨g, 0, none⟩) n cap) l) (hn : n ≤ 100000) (h0 : 0 < n) :
    Calls Tryz.prog 84 #[.slice (some ⟨g, 0, none⟩) n cap] w (KeptN w g cap (once l)) := by
  obtain ⟨T, hrow, hnl, hnc, hcm, _⟩ := own_rowN h
  have HK := hid hrow
  have HL := hid hnl
  have HC := hid hnc
  have HM := hid hcm
  have hn1 : (n : Int) ≤ 100000 := by omega
  have hnc' : (n : Int) ≤ cap := by omega
  have hcm' : (cap : Int) ≤ 9223372036854775807 := by unfold maxLen at hcm; omega
  have HSn := hid (rowN_sn hrow hnl.symm hnc hcm)
  have HOne := hid (onceTo_one (l := l) (by omega))
  have HN0 := hid h0
  clear h hrow hnl hnc hcm hn h0
  by_cases h2 : n < 2
  · have g2 : decide ((n : Int) < 2) = true := by simp; omega
    have HF := hid (show KeptN w g cap (once l) (.returned (.slice (some ⟨g, 0, none⟩) n cap)) w from by
      have e : once l = l := by
        unfold once
        have h1 : l.length = 1 := by have := HL.out; have := HN0.out; omega
        rw [h1, HOne.out, List.take_of_length_le (by omega)]
      rw [e]
      exact ⟨n, rfl, ⟨T, HK.out⟩, HL.out.symm, HC.out, HM.out, only_refl _ _⟩)
    clear h2
    go_enter Tryz.func84, Tryz.ntmps84
    go_wp2
    go_ret
    exact HF.out
  · have g2 : decide ((n : Int) < 2) = false := by simp; omega
    have HN := hid (show 2 ≤ n by omega)
    clear h2
    go_enter Tryz.func84, Tryz.ntmps84
    go_wp2
    go_loopw [3] (fun i wr => ∃ k q : Nat, 1 ≤ k ∧ k ≤ n ∧ i = .int .i64 (k : Int) ∧ onceTo l k = l.take k ∧ wr = w.drewN q) (fun i _ => n - (intOf i).toNat)
    case atStart => exact ⟨1, 0, Nat.le_refl _, by have := HN.out; omega, rfl, HOne.out, rfl⟩
    case round =>
      obtain ⟨k, q, h1, hk, rfl, hon, rfl⟩ := hrel
      have HOn := hid hon
      have HK1 := hid h1
      clear hon
      by_cases hlt : k < n
      · obtain ⟨ad, y, had, _, hy, cy⟩ := HSn.out.get hlt
        obtain rfl : (⟨g, 0, none⟩ : Addr) = ad := by injection had
        obtain ⟨ad2, x, had2, _, hx, cx⟩ := HSn.out.get (k := k - 1) (by omega)
        obtain rfl : (⟨g, 0, none⟩ : Addr) = ad2 := by injection had2
        rw [add0] at cx cy
        obtain ⟨j, hj⟩ : ∃ j, k - 1 = j := ⟨_, rfl⟩
        rw [hj] at cx
        have HX := hid hx
        have HY := hid hy
        have hw : IntKind.i64.wrap ((k : Int) - 1) = (j : Int) := by rw [IntWalk.i64_in _ (by omega)]; omega
        have hj1 : (k : Int) < n := by omega
        have hj2 : (j : Int) < n := by omega
        by_cases hxy : y = x
        · have hb : (y == x) = true := by rw [beq_iff_eq]; exact hxy
          have HCt := hid (show CutN l l k (k + 1) from ⟨rfl, h1, by omega, by have := HL.out; omega, by rw [onceTo_old (by omega) (by rw [hy, hx, hxy]), HOn.out], rfl⟩)
          have hkn : (k : Int) ≤ cap := by omega
          have HKn := hid (show k < n from hlt)
          clear hx hy hxy had had2 hk h1 hj
          have hck : ¬ cap = k := by have := HKn.out; have := HC.out; omega
          go_wp2_with fail
          go_quiet (fail)
          go_wp2
          clear cx cy
          go_loopw [5, 3] (fun v kv wx => ∃ (i k2 : Nat) (M : List Int), v = .int .i64 (i : Int) ∧ kv = .int .i64 (k2 : Int) ∧ 1 ≤ i ∧ k + i ≤ n ∧ CutN l M k2 (k + i) ∧ RowN wx g M T ∧ w.grownBy wx (some g)) (fun v _ _ => n - (intOf v).toNat)
          case atStart => exact ⟨1, k, l, rfl, rfl, Nat.le_refl _, HKn.out, HCt.out, HK.out.drewN _, only_drewN (only_refl _ _) _⟩
          case round =>
            rename World => wx
            obtain ⟨i, k2, M, rfl, rfl, hi1, hin, hcut, hrow, hg⟩ := hrel
            have HCu := hid hcut
            have HRw := hid hrow
            have HG := hid hg
            have HMl := hid (show M.length = n from by rw [hcut.len, HL.out])
            have HSm := hid (rowN_sn hrow (show M.length = n from by rw [hcut.len, HL.out]) HC.out HM.out)
            have HI1 := hid hi1
            have hkk : (k2 : Int) < (k : Int) + (i : Int) := by have := hcut.le; omega
            clear hcut hrow hg
            by_cases hlt2 : k + i < n
            · obtain ⟨ad, y2, had, _, hy2, cy2⟩ := HSm.out.get hlt2
              obtain rfl : (⟨g, 0, none⟩ : Addr) = ad := by injection had
              obtain ⟨ad2, x2, had2, _, hx2, cx2⟩ := HSm.out.get (k := k + i - 1) (by omega)
              obtain rfl : (⟨g, 0, none⟩ : Addr) = ad2 := by injection had2
              rw [add0] at cx2 cy2
              obtain ⟨p, hp⟩ : ∃ p, i - 1 = p := ⟨_, rfl⟩
              rw [show k + i - 1 = k + p by omega] at cx2
              have HX2 := hid (show l[k + i - 1]? = some x2 from by rw [← HCu.out.get (Nat.le_refl _)]; exact hx2)
              have HY2 := hid (show l[k + i]? = some y2 from by rw [← HCu.out.get (by omega)]; exact hy2)
              have hw2 : IntKind.i64.wrap ((i : Int) - 1) = (p : Int) := by rw [IntWalk.i64_in _ (by omega)]; omega
              have hi2 : (i : Int) < ((n - k : Nat) : Int) := by omega
              have hp2 : (p : Int) < ((n - k : Nat) : Int) := by omega
              have hk2n : (k2 : Int) < n := by omega
              have HLt := hid hlt2
              by_cases hxy2 : y2 = x2
              · have hb2 : (y2 != x2) = false := by simp [hxy2]
                have HN2 := hid (HCu.out.skip (by have := HL.out; omega) (by rw [HX2.out, HY2.out, hxy2]))
                clear hx2 hy2 hxy2 had2 had hp hlt2 hin hi1
                go_wp2_with fail
                go_quiet (fail)
                go_wp2
                go_roundw
                case rel => exact ⟨i + 1, k2, M, by go_num, rfl, by omega, by have := HLt.out; omega, HN2.out, HRw.out.drewN _, only_drewN HG.out _⟩
                case measure => have := HLt.out; simp [intOf]; omega
              · have hb2 : (y2 != x2) = true := by simp [hxy2]
                have HN2 := hid (HCu.out.keep HY2.out HX2.out hxy2)
                obtain ⟨z2, hz2⟩ : ∃ z2, M[k2]? = some z2 := ⟨_, List.getElem?_eq_getElem (by rw [HMl.out]; omega)⟩
                have cz2 := (HSm.out.at_ _ rfl (by omega)).2 k2 z2 hz2
                rw [add0] at cz2
                have fz2 := HRw.out.free k2
                have HRw2 := hid (fun q => rowN_put (w := wx.drewN q) (HRw.out.drewN q) (i := k2) (by rw [HMl.out]; omega) y2)
                clear hx2 hy2 hxy2 had2 had hp hlt2 hin hi1 hz2
                go_wp2_with fail
                go_quiet (fail)
                go_wp2
                go_roundw
                case rel => exact ⟨i + 1, k2 + 1, M.set k2 y2, by go_num, by go_num, by omega, by have := HLt.out; omega, HN2.out, HRw2.out _, only_put (only_drewN HG.out _) _ _⟩
                case measure => have := HLt.out; simp [intOf]; omega
            · have hin2 : k + i = n := by omega
              have hk2n : k2 < n := by omega
              have hk2c : (k2 : Int) ≤ cap := by have := HC.out; omega
              have hk2n' : (k2 : Int) ≤ n := by omega
              have hcl := fun ty => clearN_run (c := cap - k2) HRw.out HMl.out hk2n ty
              have HRun := hid (fun ty => (hcl ty).1)
              have HFi := hid (show KeptN w g cap (once l) (.returned (.slice (some ⟨g, 0, none⟩) k2 cap)) (wx.setCells g k2 (List.replicate (n - k2) (.int .i64 0))) from by
                have hf : M.take k2 = once l := by rw [HCu.out.head]; unfold once; rw [← HL.out, hin2]
                have hlen : (once l).length = k2 := by rw [← hf, List.length_take, HMl.out]; omega
                refine ⟨k2, rfl, ⟨nV (List.replicate (n - k2) 0) ++ T, ?_⟩, hlen, by have := HC.out; omega, HM.out, only_setCells HG.out _ _⟩
                have h1 := (hcl 0).2
                rw [hf] at h1
                unfold RowN at h1 ⊢
                have e : nV (once l ++ List.replicate (n - k2) 0) ++ T = nV (once l) ++ (nV (List.replicate (n - k2) 0) ++ T) := by unfold nV; rw [List.map_append, List.append_assoc]
                rw [← e]
                exact h1)
              have hck2 : ¬ cap = k2 := by have := HC.out; omega
              have hnlt : decide ((i : Int) < ((n - k : Nat) : Int)) = false := by simp; omega
              have hnlt2 : decide (i < n - k) = false := by simp; omega
              clear hcl hlt2 hin2 hin hi1
              go_wp2_with fail
              rw [HRun.out 0]
              go_wp2
              go_ret
              exact HFi.out
        · have hb : (y == x) = false := by rw [beq_eq_false_iff_ne]; exact hxy
          have HN2 := hid (show onceTo l (k + 1) = l.take (k + 1) from by
            rw [takeR_nextN hy, onceTo_new hy (.inr (by rw [hx, hy]; intro e; injection e with e; exact hxy e)), HOn.out])
          clear hx hy hxy had2 had hk h1 hj
          go_wp2_with fail
          go_quiet (fail)
          go_wp2
          go_roundw
          case rel => exact ⟨k + 1, _, by omega, by omega, by go_num, HN2.out, rfl⟩
          case measure => simp [intOf]; omega
      · have hkn : decide (k < n) = false := by simpa using hlt
        have HF := hid (show KeptN w g cap (once l) (.returned (.slice (some ⟨g, 0, none⟩) n cap)) (w.drewN q) from by
          have e : once l = l := by
            unfold once
            have := HL.out
            rw [show l.length = k by omega, HOn.out, List.take_of_length_le (by omega)]
          rw [e]
          exact ⟨n, rfl, ⟨T, HK.out.drewN q⟩, HL.out.symm, HC.out, HM.out, only_drewN (only_refl _ _) q⟩)
        go_wp2
        go_ret
        exact HF.out
end Go.Proofs.YtkhdgacjgccnnaaGreatDoor
namespace Go.Proofs.YtkhdgacjgccnnaaGreatDoor
open Go.RowKit

section
variable {P : PS} {ch : Chg}
def IdxE (P : PS) (ch : Chg) (K : List Nat) (r : Int) : Prop := (r = -1 ∧ ∀ k, k ∈ K → emptyB P ch k = false) ∨ ∃ (i : Nat) (k : Nat), r = (i : Int) ∧ K[i]? = some k ∧ emptyB P ch k = true ∧ ∀ y, y ∈ K.take i → emptyB P ch y = false
theorem natsI_get {K : List Nat} {i : Nat} {x : Int} (h : (natsI K)[i]? = some x) : ∃ k : Nat, K[i]? = some k ∧ x = (k : Int) := by
  simp only [natsI, List.getElem?_map, Option.map_eq_some_iff] at h
  obtain ⟨k, hk, rfl⟩ := h
  exact ⟨k, hk, rfl⟩
theorem natsI_len (K : List Nat) : (natsI K).length = K.length := by simp [natsI]
theorem takeK_next {K : List Nat} {i k : Nat} (h : K[i]? = some k) : K.take (i + 1) = K.take i ++ [k] := by rw [List.take_add_one, h]; rfl
set_option maxRecDepth 100000 in
set_option maxHeartbeats 2000000 in
theorem indexEmpty_any (g d p mm : Nat) (D : DataW Unit) (C : Nat → Prop) (A : Option Addr) (n c : Nat) (K : List Nat) (w : World) (h : Sto w g d p mm P ch D C) (hs : Sn w w.heap.size A n c (natsI K)) (hK : ∀ k, k ∈ K → k < 7) :
    Calls Tryz.prog 119 #[.slice A n c, .func (.func 85) #[.pointer (some ⟨g, 0, none⟩)] #[]] w fun e w' => ∃ r, e = .returned (.int .i64 r) ∧ IdxE P ch K r ∧ Below w.heap.size w w' := by
  have HS := hid hs
  have HSt := hid h
  have HK := hid hK
  have hmx : n ≤ 9223372036854775807 := by have := hs.cap; have := hs.max; unfold maxLen at this; omega
  clear h hs hK
  go_enter Tryz.func119, Tryz.ntmps119
  go_wp2
  go_loopw [8] (fun i wr => ∃ k : Nat, k ≤ n ∧ i = .int .i64 (k : Int) ∧ (∀ y, y ∈ K.take k → emptyB P ch y = false) ∧ Below w.heap.size w wr) (fun i _ => n - (intOf i).toNat)
  case atStart => exact ⟨0, Nat.zero_le _, rfl, fun y hy => by simp at hy, Below.refl _ _⟩
  case round =>
    obtain ⟨k, hk, rfl, hall, hb⟩ := hrel
    have HA := hid hall
    have HB := hid hb
    clear hall
    by_cases hlt : k < n
    · obtain ⟨ad, x, rfl, hbl, hx, c0⟩ := (sn_on HS.out hb).get hlt
      obtain ⟨kk, hkk, rfl⟩ := natsI_get hx
      have HX := hid hkk
      have hkn : (k : Int) < n := by omega
      have H7 := hid (HK.out kk (List.mem_of_getElem? hkk))
      obtain ⟨b, hpb⟩ : ∃ b, emptyB P ch kk = b := ⟨_, rfl⟩
      have HPb := hid hpb
      have HS1 := hid (HSt.out.below hb)
      clear hx hb hbl hpb hkk
      go_wp2_with fail
      refine (pgEmpty_any g d p mm P ch D C kk _ HS1.out H7.out).mono ?_
      rw [HPb.out]
      rintro e w1 ⟨rfl, hb1⟩
      have HB1 := hid (HB.out.trans (hb1.mono HB.out.size))
      clear hb1
      cases b
      · have HN := hid (show ∀ y, y ∈ K.take (k + 1) → emptyB P ch y = false from fun y hy => by
          rw [takeK_next HX.out, List.mem_append, List.mem_singleton] at hy
          rcases hy with hy | rfl
          · exact HA.out y hy
          · exact HPb.out)
        go_wp2
        go_roundw
        case rel => exact ⟨k + 1, by omega, by go_num, HN.out, HB1.out⟩
        case measure => simp [intOf]; omega
      · go_wp2
        go_ret
        exact ⟨_, rfl, .inr ⟨k, kk, rfl, HX.out, HPb.out, HA.out⟩, HB1.out⟩
    · have HE := hid (show ∀ x, x ∈ K → emptyB P ch x = false from fun x hx => HA.out x (by rw [List.take_of_length_le (by have := HS.out.len; rw [natsI_len] at this; omega)]; exact hx))
      have hnlt : decide (k < n) = false := by simpa using hlt
      clear hb
      go_wp2
      go_ret
      exact ⟨-1, rfl, .inl ⟨rfl, HE.out⟩, HB.out⟩
/-- i kept, j looked at -/
structure CutE (P : PS) (ch : Chg) (K : List Nat) (M : List Int) (i j : Nat) : Prop where
  len : M.length = K.length
  le : i < j
  jn : j ≤ K.length
  head : M.take i = natsI ((K.take j).filter fun k => !emptyB P ch k)
  tail : M.drop j = (natsI K).drop j
theorem CutE.get {K : List Nat} {M : List Int} {i j : Nat} (h : CutE P ch K M i j) {x : Int} (hx : M[j]? = some x) : ∃ k : Nat, K[j]? = some k ∧ x = (k : Int) := by
  have := congrArg (fun q => q[0]?) h.tail
  simp only [List.getElem?_drop, Nat.add_zero] at this
  rw [this] at hx
  exact natsI_get hx
theorem CutE.start {K : List Nat} {i k : Nat} (hx : K[i]? = some k) (hp : emptyB P ch k = true) (ha : ∀ y, y ∈ K.take i → emptyB P ch y = false) : CutE P ch K (natsI K) i (i + 1) := by
  have hk := (List.getElem?_eq_some_iff.1 hx).1
  refine ⟨natsI_len K, by omega, by omega, ?_, rfl⟩
  rw [takeK_next hx, List.filter_append, List.filter_eq_self.2 (fun a h => by rw [ha a h]; rfl)]
  simp [hp, natsI]
theorem CutE.keep {K : List Nat} {M : List Int} {i j k : Nat} (h : CutE P ch K M i j) (hx : K[j]? = some k) (hp : emptyB P ch k = false) : CutE P ch K (M.set i (k : Int)) (i + 1) (j + 1) := by
  have hj := (List.getElem?_eq_some_iff.1 hx).1
  have hle := h.le
  have hlen := h.len
  refine ⟨by rw [List.length_set, h.len], by omega, by omega, ?_, ?_⟩
  · rw [takeK_next hx, takeR_nextN (l := M.set i (k : Int)) (k := i) (x := (k : Int)) (by rw [List.getElem?_set_self (by omega)]), List.filter_append, List.take_set_of_le (Nat.le_refl _), h.head]
    simp [natsI, hp]
  · rw [List.drop_set_of_lt (by omega)]
    have := congrArg (List.drop 1) h.tail
    rw [List.drop_drop, List.drop_drop] at this
    exact this
theorem CutE.skip {K : List Nat} {M : List Int} {i j k : Nat} (h : CutE P ch K M i j) (hx : K[j]? = some k) (hp : emptyB P ch k = true) : CutE P ch K M i (j + 1) := by
  have hj := (List.getElem?_eq_some_iff.1 hx).1
  have hle := h.le
  refine ⟨h.len, by omega, by omega, ?_, ?_⟩
  · rw [takeK_next hx, List.filter_append, h.head]
    simp [natsI, hp]
  · have := congrArg (List.drop 1) h.tail
    rw [List.drop_drop, List.drop_drop] at this
    exact this
theorem Sto.grown {w w' : World} {g d p mm gr : Nat} {D : DataW Unit} {C : Nat → Prop} (h : Sto w g d p mm P ch D C) (hg : w.grownBy w' (some gr)) (h1 : gr ≠ g) (h2 : gr ≠ mm) (h3 : ¬ C gr) : Sto w' g d p mm P ch D C :=
  h.same hg.size (hg.block g h.box.lt (fun e => h1 (by injection e with e; exact e.symm))) (hg.block mm h.chd.map.lt (fun e => h2 (by injection e with e; exact e.symm))) (fun k hk => hg.block k (h.chd.lt k hk).1 (fun e => h3 (by injection e with e; rw [← e]; exact hk)))
end
end Go.Proofs.YtkhdgacjgccnnaaGreatDoor
namespace Go.Proofs.YtkhdgacjgccnnaaGreatDoor
open Go.RowKit

set_option maxRecDepth 100000 in
set_option maxHeartbeats 4000000 in
theorem deleteEmpty_any {P : PS} {ch : Chg} (g d p mm gr n cap : Nat) (D : DataW Unit) (C : Nat → Prop) (K : List Nat) (T : List Value) (w : World) (h : Sto w g d p mm P ch D C) (hrow : RowN w gr (natsI K) T) (hnl : K.length = n) (hnc : n ≤ cap) (hcm : cap ≤ maxLen) (hn : n ≤ 1000) (hK : ∀ k, k ∈ K → k < 7) (n1 : gr ≠ g) (n2 : gr ≠ mm) (n3 : ¬ C gr) :
    Calls Tryz.prog 83 #[.slice (some ⟨gr, 0, none⟩) n cap, .func (.func 85) #[.pointer (some ⟨g, 0, none⟩)] #[]] w (KeptN w gr cap (natsI (K.filter fun k => !emptyB P ch k))) := by
  have HSt := hid h
  have HKr := hid hrow
  have HN := hid hnl
  have HC := hid hnc
  have HM := hid hcm
  have HK7 := hid hK
  have HAp := hid (show gr ≠ g ∧ gr ≠ mm ∧ ¬ C gr from ⟨n1, n2, n3⟩)
  have HR := hid (rowN_sn hrow (by rw [natsI_len]; exact hnl) hnc hcm)
  have hn1 : (n : Int) ≤ 1000 := by omega
  have hnc' : (n : Int) ≤ cap := by omega
  have hcm' : (cap : Int) ≤ 9223372036854775807 := by unfold maxLen at hcm; omega
  clear h hrow hnl hnc hcm hn hK n1 n2 n3
  go_enter Tryz.func83, Tryz.ntmps83
  go_wp2_with fail
  refine (indexEmpty_any g d p mm D C _ n cap K _ HSt.out HR.out HK7.out).mono ?_
  rintro e w1 ⟨r, rfl, hr, hb1⟩
  have HB1 := hid hb1
  have HSt1 := hid (HSt.out.below hb1)
  have HKr1 := hid (HKr.out.below hb1 HKr.out.lt)
  clear hb1
  rcases hr with ⟨rfl, hall⟩ | ⟨i0, k0, rfl, hx, hp, hall⟩
  · have HF := hid (show KeptN w gr cap (natsI (K.filter fun k => !emptyB P ch k)) (.returned (.slice (some ⟨gr, 0, none⟩) n cap)) w1 from by
      rw [List.filter_eq_self.2 (fun a h => by rw [hall a h]; rfl)]
      exact ⟨n, rfl, ⟨T, HKr1.out⟩, by rw [natsI_len]; exact HN.out, HC.out, HM.out, only_below HB1.out _⟩)
    clear hall
    go_wp2
    go_ret
    exact HF.out
  · have hk := (List.getElem?_eq_some_iff.1 hx).1
    have hkn : (i0 : Int) < n := by have := HN.out; omega
    have HC1 := hid (CutE.start hx hp hall)
    have HG1 := hid (show w.grownBy w1 (some gr) from only_below HB1.out _)
    have HKn := hid (show i0 + 1 ≤ n from by have := HN.out; omega)
    have gk : ((i0 : Int) == -1) = false := by rw [beq_eq_false_iff_ne]; omega
    clear hx hp hall hk
    go_wp2
    go_loopw [6, 5] (fun jv iv wr => ∃ (i j : Nat) (M : List Int), jv = .int .i64 (j : Int) ∧ iv = .int .i64 (i : Int) ∧ j ≤ n ∧ CutE P ch K M i j ∧ RowN wr gr M T ∧ Sto wr g d p mm P ch D C ∧ w.grownBy wr (some gr)) (fun jv _ _ => n - (intOf jv).toNat)
    case atStart => exact ⟨i0, i0 + 1, natsI K, by go_num, rfl, HKn.out, HC1.out, HKr1.out, HSt1.out, HG1.out⟩
    case round =>
      obtain ⟨i, j, M, rfl, rfl, hj, hcut, hblk, hst, hg⟩ := hrel
      have HCt := hid hcut
      have HBk := hid hblk
      have HSx := hid hst
      have HG := hid hg
      have HMl := hid (show M.length = n from by rw [hcut.len, HN.out])
      have hij : (i : Int) < (j : Int) := by have := hcut.le; omega
      have HRM := hid (rowN_sn hblk (show M.length = n from by rw [hcut.len, HN.out]) HC.out HM.out)
      clear hcut hblk hg hst
      by_cases hlt : j < n
      · obtain ⟨ad2, y, had2, hbl, hy, c0⟩ := HRM.out.get hlt
        obtain rfl : (⟨gr, 0, none⟩ : Addr) = ad2 := by injection had2
        rw [add0] at c0
        obtain ⟨kk, hkk, rfl⟩ := HCt.out.get hy
        have HY := hid hkk
        have H7 := hid (HK7.out kk (List.mem_of_getElem? hkk))
        have hjn : (j : Int) < n := by omega
        have hin : (i : Int) < n := by omega
        obtain ⟨x', hx'⟩ : ∃ x', M[i]? = some x' := ⟨_, List.getElem?_eq_getElem (by rw [HMl.out]; have := HCt.out.le; omega)⟩
        have HX' := hid hx'
        obtain ⟨b, hpb⟩ : ∃ b, emptyB P ch kk = b := ⟨_, rfl⟩
        have HPb := hid hpb
        clear hbl hy had2 hx' hpb hkk
        go_wp2_with fail
        refine (pgEmpty_any g d p mm P ch D C kk _ HSx.out H7.out).mono ?_
        rw [HPb.out]
        rintro e w2 ⟨rfl, hb2⟩
        have HK2 := hid (HBk.out.below hb2 HBk.out.lt)
        have HS2 := hid (HSx.out.below hb2)
        have HG2 := hid (only_trans HG.out (only_below hb2 (some gr)))
        clear hb2 c0
        cases b
        · have HN2 := hid (HCt.out.keep HY.out HPb.out)
          have hRf2 := rowN_sn HK2.out HMl.out HC.out HM.out
          have s0 := (hRf2.at_ _ rfl (by omega)).2 i x' HX'.out
          rw [add0] at s0
          have f0 := HK2.out.free i
          have HK3 := hid (rowN_put HK2.out (i := i) (by rw [HMl.out]; omega) (kk : Int))
          have HG3 := hid (only_put HG2.out i (.int .i64 (kk : Int)))
          have HS3 := hid (HS2.out.grown (only_put (only_refl w2 (some gr)) i (.int .i64 (kk : Int))) HAp.out.1 HAp.out.2.1 HAp.out.2.2)
          clear hRf2
          go_wp2
          go_roundw
          case rel => exact ⟨i + 1, j + 1, M.set i (kk : Int), by go_num, by go_num, by omega, HN2.out, HK3.out, HS3.out, HG3.out⟩
          case measure => simp [intOf]; omega
        · have HN2 := hid (HCt.out.skip HY.out HPb.out)
          go_wp2
          go_roundw
          case rel => exact ⟨i, j + 1, M, by go_num, rfl, by omega, HN2.out, HK2.out, HS2.out, HG2.out⟩
          case measure => simp [intOf]; omega
      · have hjn : j = n := by omega
        have hnlt : decide (j < n) = false := by simpa using hlt
        have hin : (i : Int) < n := by omega
        have hin2 : i < n := by omega
        have hcl := fun ty => clearN_run (c := cap - i) HBk.out HMl.out hin2 ty
        have HFi := hid (show KeptN w gr cap (natsI (K.filter fun k => !emptyB P ch k)) (.returned (.slice (some ⟨gr, 0, none⟩) i cap)) (wr.setCells gr i (List.replicate (n - i) (.int .i64 0))) from by
          have hf : M.take i = natsI (K.filter fun k => !emptyB P ch k) := by
            rw [HCt.out.head, List.take_of_length_le (by have := HN.out; omega)]
          have hlen : (natsI (K.filter fun k => !emptyB P ch k)).length = i := by rw [← hf, List.length_take, HMl.out]; omega
          refine ⟨i, rfl, ⟨nV (List.replicate (n - i) 0) ++ T, ?_⟩, hlen, by have := HC.out; omega, HM.out, only_setCells HG.out _ _⟩
          have h1 := (hcl 0).2
          rw [hf] at h1
          unfold RowN at h1 ⊢
          have e : ∀ q, nV (q ++ List.replicate (n - i) 0) ++ T = nV q ++ (nV (List.replicate (n - i) 0) ++ T) := fun q => by unfold nV; rw [List.map_append, List.append_assoc]
          rw [← e]
          exact h1)
        have HRun := hid (fun ty => (hcl ty).1)
        have hic : (i : Int) ≤ cap := by omega
        have hci : ¬ cap = i := by omega
        clear hcl hlt hjn
        go_wp2_with fail
        rw [HRun.out 0]
        go_wp2
        go_ret
        exact HFi.out
end Go.Proofs.YtkhdgacjgccnnaaGreatDoor
namespace Go.Proofs.YtkhdgacjgccnnaaGreatDoor
open Go.RowKit

def chL (P : PS) (a b : Value) : List Value := stL P ++ [a, b]
def nilS : Value := .slice none 0 0
theorem Tryz.zeroChange : (Tryz.prog.info? 110).map (fun i => (i.zero, i.size)) = some (some (.agg (chL (noPS 0) nilS nilS).toArray), 529) := by kernel_rfl
theorem Tryz.zeroState : (Tryz.prog.info? 95).map (fun i => (i.zero, i.size)) = some (some (.agg (stL (noPS 0)).toArray), 527) := by kernel_rfl
theorem chL_len {P : PS} (h : P.Len) (a b : Value) : (chL P a b).length = 529 := by unfold chL; rw [List.length_append, stL_len h]; rfl
theorem chL_one (P : PS) {a b : Value} (ha : a.oneCell' = true) (hb : b.oneCell' = true) : ∀ u ∈ chL P a b, u.oneCell' = true := by
  intro u hu
  rcases List.mem_append.1 hu with hu | hu
  · exact stL_one P u hu
  · simp only [List.mem_cons, List.not_mem_nil, or_false] at hu
    rcases hu with rfl | rfl <;> assumption
/-! a struct built of parts -/
theorem takeV_next {l : List Value} {k : Nat} {x : Value} (h : l[k]? = some x) : l.take (k + 1) = l.take k ++ [x] := by rw [List.take_add_one, h]; rfl
theorem fold_set (off : Nat) : ∀ (cs : List Value) (k : Nat) (Z : List Value), off + k + cs.length ≤ Z.length →
    (cs.zipIdx k).foldl (fun (A : Array Value) (x : Value × Nat) => A.setIfInBounds (off + x.2) x.1) Z.toArray = (Z.take (off + k) ++ (cs ++ Z.drop (off + k + cs.length))).toArray
  | [], k, Z, _ => by simp
  | c :: cs, k, Z, h => by
    simp only [List.length_cons] at h
    rw [List.zipIdx_cons, List.foldl_cons]
    simp only [List.setIfInBounds_toArray]
    rw [fold_set off cs (k + 1) (Z.set (off + k) c) (by rw [List.length_set]; omega)]
    congr 1
    have hk : off + k < Z.length := by omega
    rw [show off + (k + 1) = off + k + 1 by omega, takeV_next (l := Z.set (off + k) c) (k := off + k) (x := c) (by rw [List.getElem?_set_self hk]), List.take_set_of_le (Nat.le_refl _), List.drop_set_of_lt (by omega), List.length_cons]
    simp [Nat.add_assoc, Nat.add_comm, Nat.add_left_comm]
theorem built_of {t : TypeId} {z : Array Value} {n : Nat} {fs : Array Field} {places : List (Nat × Nat)} (h1 : (Tryz.prog.info? t).map (fun i => (i.zero, i.size)) = some (some (.agg z), n)) (h2 : Tryz.prog.underlying t = some (.struct fs))
    (h3 : fs.toList.mapM (fun f => (Tryz.prog.info? f.type).map fun i => (f.offset, i.size)) = some places) (parts : List (Nat × Value)) : Tryz.prog.built t parts = Instr.fill (places.toArray[·]?) z parts := by
  unfold Program.built
  cases hq : Tryz.prog.info? t with
  | none => simp [hq] at h1
  | some i =>
    simp [hq] at h1
    simp only [h2, h3, h1.1]
    rfl
theorem fill_one {place : Nat → Option (Nat × Nat)} {Z cs : List Value} {i off : Nat} (hp : place i = some (off, cs.length)) (hf : off + cs.length ≤ Z.length) : Instr.fill place Z.toArray [(i, .agg cs.toArray)] = some (Z.take off ++ (cs ++ Z.drop (off + cs.length))).toArray := by
  have hc : (Value.agg cs.toArray).cells = cs.toArray := rfl
  unfold Instr.fill
  simp only [hp, hc, List.size_toArray]
  rw [if_neg (by simp; omega)]
  unfold Instr.fill
  congr 1
  rw [← Array.foldl_toList, Array.toList_zipIdx]
  have := fold_set off cs 0 Z (by omega)
  rw [Nat.add_zero] at this
  exact this
theorem built_change {P : PS} (h : P.Len) : Tryz.prog.built 110 [(0, .agg (stL P).toArray)] = some (chL P nilS nilS).toArray := by
  rw [built_of Tryz.zeroChange Tryz.underlying110 (places := [(0, 527), (527, 1), (528, 1)]) (by kernel_rfl)]
  have hl := stL_len h
  have hz := chL_len (noPS_len 0) nilS nilS
  have hd : (chL (noPS 0) nilS nilS).drop 527 = [nilS, nilS] := by unfold chL; exact List.drop_left' (stL_len (noPS_len 0))
  rw [fill_one (off := 0) (by rw [hl]; rfl) (by omega), List.take_zero, List.nil_append, Nat.zero_add, hl, hd]
  unfold chL
  exact rfl
theorem Tryz.built_store (d p m : Nat) : Tryz.prog.built 97 [(0, Value.pointer (some ⟨d, 0, none⟩)), (1, Value.pointer (some ⟨p, 0, none⟩)), (3, Value.map (some m))] = some ([Value.pointer (some ⟨d, 0, none⟩), Value.pointer (some ⟨p, 0, none⟩)] ++ (stL (noPS 0) ++ [Value.map (some m)])).toArray := by kernel_rfl
theorem Tryz.built_state (e : Int) : Tryz.prog.built 95 [(0, Value.int .i64 e)] = some (stL (noPS e)).toArray := by kernel_rfl
/-! loads and stores of a whole state -/
section
variable {w : World} {g : Nat} {t : TypeId} {A B : List Value} {P : PS}
end
theorem wpList_built {w : World} {ops : Array Oper} {rest : List Oper} {o : Oper} {a : Act} {Q : Exit → Act → World → Prop} (hg : o.guard = none) (t : TypeId) (parts : Array (Nat × Operand)) (ho : o.op = .build t parts) (cells : Array Value)
    (hc : Tryz.prog.built t (parts.map fun (i, x) => (i, a.eval x)).toList = some cells) (h : wpList Tryz.prog ops Q rest (a.put o.dst (.agg cells)) w) : wpList Tryz.prog ops Q (o :: rest) a w := by
  refine wpList_build hg t parts ho (by rw [hc]; rfl) ?_
  rw [hc]
  exact h
theorem wpList_built1 {w : World} {ops : Array Oper} {rest : List Oper} {o : Oper} {a : Act} {Q : Exit → Act → World → Prop} (hg : o.guard = none) (t : TypeId) (i : Nat) (x : Operand) (ho : o.op = .build t #[(i, x)]) (v : Value) (hx : a.eval x = v) (cells : Array Value)
    (hc : Tryz.prog.built t [(i, v)] = some cells) (h : wpList Tryz.prog ops Q rest (a.put o.dst (.agg cells)) w) : wpList Tryz.prog ops Q (o :: rest) a w :=
  wpList_built hg t _ ho cells (by simp only [List.map_toArray, List.map_cons, List.map_nil, hx]; exact hc) h
theorem wpList_built3 {w : World} {ops : Array Oper} {rest : List Oper} {o : Oper} {a : Act} {Q : Exit → Act → World → Prop} (hg : o.guard = none) (t : TypeId) (i j k : Nat) (x y z : Operand) (ho : o.op = .build t #[(i, x), (j, y), (k, z)]) (u v q : Value) (hx : a.eval x = u) (hy : a.eval y = v) (hz : a.eval z = q) (cells : Array Value)
    (hc : Tryz.prog.built t [(i, u), (j, v), (k, q)] = some cells) (h : wpList Tryz.prog ops Q rest (a.put o.dst (.agg cells)) w) : wpList Tryz.prog ops Q (o :: rest) a w :=
  wpList_built hg t _ ho cells (by simp only [List.map_toArray, List.map_cons, List.map_nil, hx, hy, hz]; exact hc) h
theorem wpList_store_last {w : World} {ops : Array Oper} {rest : List Oper} {o : Oper} {a : Act} {Q : Exit → Act → World → Prop} (hgd : o.guard = none) (ty : TypeId) (x y : Operand) (ho : o.op = .store ty x y)
    (g : Nat) (hgz : w.heap.size = g) (old cells : Array Value) (hx : a.eval x = .pointer (some ⟨g, 0, none⟩)) (hy : a.eval y = .agg cells) (hi : (Tryz.prog.info? ty).map (·.size) = some cells.size) (hold : old.size = cells.size) (h1 : ∀ v ∈ cells.toList, v.oneCell' = true) {t : TypeId}
    (h : wpList Tryz.prog ops Q rest (a.put o.dst undef) (w.alloc (.cells cells t))) : wpList Tryz.prog ops Q (o :: rest) a (w.alloc (.cells old t)) := by
  subst hgz
  refine wpList_store_row hgd ty x y ho w.heap.size cells hx hy t old (heap_alloc_last w _) hi hold (Array.all_eq_true_iff_forall_mem.2 (fun v hv => h1 v (by simpa using hv))) ?_
  rw [World.setRow_alloc_new]
  exact h
theorem size_of_state {P : PS} (h : P.Len) : (Tryz.prog.info? 95).map (·.size) = some (stL P).length := by
  rw [stL_len h]
  cases hq : Tryz.prog.info? 95 with
  | none => have := Tryz.zeroState; simp [hq] at this
  | some i => have := Tryz.zeroState; simp [hq] at this; simp [this.2]
theorem size_of_change {P : PS} (h : P.Len) (a b : Value) : (Tryz.prog.info? 110).map (·.size) = some (chL P a b).length := by
  rw [chL_len h]
  cases hq : Tryz.prog.info? 110 with
  | none => have := Tryz.zeroChange; simp [hq] at this
  | some i => have := Tryz.zeroChange; simp [hq] at this; simp [this.2]
end Go.Proofs.YtkhdgacjgccnnaaGreatDoor
