/- Put together out of 2 texts. slices.BinarySearchFunc at records; find. -/
import Derived.Test.YtkhdgacjgccnnaaGreatDoorGXbc
import Derived.Maps.AppendAt
import Derived.Lib.Overlaps
import Derived.Lib.AppendZerosOnto
import Derived.Lib.JoinLaws
namespace Go.Proofs.YtkhdgacjgccnnaaGreatDoor
open Go.RowKit

theorem krow_addr {w : World} {B n c : Nat} {ad : Addr} {l : List Rec} (h : KRow w B (.slice (some ad) n c) l) : ∃ g, ad = ⟨g, 0, none⟩ := by
  obtain ⟨A, n', c', e, _, _, _, _, hat⟩ := h.form
  cases e
  obtain ⟨g, e, _⟩ := hat _ rfl
  exact ⟨g, e⟩
theorem isAt_get {l : List Rec} {k : ByteArray} {i : Nat} {x : Rec} (h : l[i]? = some x) : isAt l k i = decide (kc x.1 k = 0) := by unfold isAt; rw [h]
theorem isAt_no {l : List Rec} {k : ByteArray} {i : Nat} (h : ¬ i < l.length) : isAt l k i = false := by
  unfold isAt
  rw [List.getElem?_eq_none (by omega)]
set_option maxRecDepth 100000 in
set_option maxHeartbeats 4000000 in
theorem bsearch_any (v : Value) (B : Nat) (l : List Rec) (k : ByteArray) (w : World) (h : KRow w B v l) (hr : Ris l) (hn : l.length ≤ 100000) :
    Calls Tryz.prog 24 #[v, .string k, .func (.func 25) #[] #[]] w fun e w' => ∃ i : Nat, e = .returned (.tuple #[.int .i64 (i : Int), .bool (isAt l k i)]) ∧ Low l k i ∧ Below w.heap.size w w' := by
  obtain ⟨A, n, c, rfl, hln, hnc, hcm, hnil, hat⟩ := h.form
  have HRow := hid h
  have HNil := hid hnil
  have HR := hid hr
  have HL := hid hln
  have hn1 : (n : Int) ≤ 100000 := by omega
  clear h hr hnil hat hcm hnc hln hn
  go_enter Tryz.func24, Tryz.ntmps24
  go_wp2
  go_loopw [9, 10] (fun iv jv wr => ∃ i j : Nat, iv = .int .i64 (i : Int) ∧ jv = .int .i64 (j : Int) ∧ i ≤ j ∧ j ≤ n ∧ (∀ q x, q < i → l[q]? = some x → kc x.1 k < 0) ∧ (∀ q x, j ≤ q → l[q]? = some x → 0 ≤ kc x.1 k) ∧ Below w.heap.size w wr) (fun iv jv _ => (intOf jv).toNat - (intOf iv).toNat)
  case atStart => exact ⟨0, n, rfl, rfl, Nat.zero_le _, Nat.le_refl _, fun q x h _ => absurd h (by omega), fun q x h hx => absurd (List.getElem?_eq_some_iff.1 hx).1 (by rw [HL.out]; omega), Below.refl _ _⟩
  case round =>
    obtain ⟨i, j, rfl, rfl, hij, hjn, hlo, hhi, hbw⟩ := hrel
    have HBw := hid hbw
    clear hbw
    have HLo := hid hlo
    have HHi := hid hhi
    clear hlo hhi
    have hj1 : (j : Int) ≤ n := by omega
    by_cases hlt : i < j
    · obtain ⟨m, hm⟩ : ∃ m, (i + j) / 2 = m := ⟨_, rfl⟩
      have hmi : ((i : Int) + (j : Int)) / 2 = (m : Int) := by omega
      have HMb := hid (show i ≤ m ∧ m < j from by omega)
      obtain ⟨x, hx⟩ : ∃ x, l[m]? = some x := ⟨_, List.getElem?_eq_getElem (by rw [HL.out]; omega)⟩
      cases A with
      | none => exact absurd (HNil.out rfl).1 (by omega)
      | some ad =>
      obtain ⟨g, rfl⟩ : ∃ g, ad = ⟨g, 0, none⟩ := krow_addr HRow.out
      obtain ⟨c0, c1, _, _⟩ := (HRow.out.on HBw.out).cells hx
      have HX := hid hx
      have hmn : (m : Int) < n := by omega
      have hij2 : (i : Int) < (j : Int) := by omega
      obtain ⟨z, hz⟩ : ∃ z, kc x.1 k = z := ⟨_, rfl⟩
      obtain ⟨b, hb⟩ : ∃ b, decide (z < 0) = b := ⟨_, rfl⟩
      have HZ := hid hz
      have HBx := hid hb
      clear hx hm hz
      go_wp2_with fail
      refine (findC_any x k _).mono ?_
      rw [HZ.out]
      rintro e w1 ⟨rfl, hb1⟩
      have HB1 := hid (HBw.out.trans (hb1.mono HBw.out.size))
      clear hb1
      cases b
      · have HN := hid (show ∀ q y, m ≤ q → l[q]? = some y → 0 ≤ kc y.1 k from fun q y hq hy => by
          have h1 : 0 ≤ kc x.1 k := by rw [HZ.out]; have := HBx.out; simpa using this
          rcases Nat.lt_or_eq_of_le hq with h2 | rfl
          · by_cases h3 : kc y.1 k < 0
            · have h4 := kc_trans (HR.out.lt h2 HX.out hy) h3
              omega
            · omega
          · rw [HX.out] at hy; injection hy with hy; rw [← hy]; exact h1)
        go_wp2
        go_roundw
        case rel => exact ⟨i, m, rfl, rfl, HMb.out.1, by have := HMb.out; omega, HLo.out, HN.out, HB1.out⟩
        case measure => have := HMb.out; simp [intOf]; omega
      · have HN := hid (show ∀ q y, q < m + 1 → l[q]? = some y → kc y.1 k < 0 from fun q y hq hy => by
          have h1 : kc x.1 k < 0 := by rw [HZ.out]; have := HBx.out; simpa using this
          rcases Nat.lt_or_eq_of_le (Nat.lt_succ_iff.1 hq) with h2 | rfl
          · exact kc_trans (HR.out.lt h2 hy HX.out) h1
          · rw [HX.out] at hy; injection hy with hy; rw [← hy]; exact h1)
        go_wp2
        go_roundw
        case rel => exact ⟨m + 1, j, by go_num, rfl, by have := HMb.out; omega, hjn, HN.out, HHi.out, HB1.out⟩
        case measure => have := HMb.out; simp [intOf]; omega
    · obtain rfl : i = j := by omega
      have hii : decide (i < i) = false := by simp
      have HLow := hid (show Low l k i from ⟨by rw [HL.out]; exact hjn, HLo.out, HHi.out⟩)
      by_cases hin : i < n
      · obtain ⟨x, hx⟩ : ∃ x, l[i]? = some x := ⟨_, List.getElem?_eq_getElem (by rw [HL.out]; omega)⟩
        cases A with
        | none => exact absurd (HNil.out rfl).1 (by omega)
        | some ad =>
        obtain ⟨g, rfl⟩ : ∃ g, ad = ⟨g, 0, none⟩ := krow_addr HRow.out
        obtain ⟨c0, c1, _, _⟩ := (HRow.out.on HBw.out).cells hx
        have hin2 : (i : Int) < n := by omega
        obtain ⟨z, hz⟩ : ∃ z, kc x.1 k = z := ⟨_, rfl⟩
        have HI := hid (isAt_get (k := k) hx)
        have HZ := hid hz
        clear hx hlt hij hz
        go_wp2_with fail
        refine (findC_any x k _).mono ?_
        rw [HZ.out]
        rintro e w1 ⟨rfl, hb1⟩
        have HB1 := hid (HBw.out.trans (hb1.mono HBw.out.size))
        clear hb1
        go_wp2
        go_ret2
        refine ⟨i, ?_, HLow.out, HB1.out⟩
        rw [HI.out, HZ.out]
        first | rfl | simp [beq_eq_decide]
      · have HI := hid (isAt_no (k := k) (l := l) (i := i) (by rw [HL.out]; exact hin))
        have hin2 : decide (i < n) = false := by simpa using hin
        clear hlt hij
        go_wp2
        go_ret2
        exact ⟨i, by rw [HI.out]; rfl, HLow.out, HBw.out⟩
/-- where a key stands, or would; whether it is there -/
def FindO (l : List Rec) (k : ByteArray) (w : World) (e : Ending) (w' : World) : Prop := ∃ i : Nat, e = .returned (.tuple #[.int .i64 (i : Int), .bool (isAt l k i)]) ∧ Low l k i ∧ Below w.heap.size w w'
set_option maxRecDepth 100000 in
set_option maxHeartbeats 1000000 in
theorem kpFind_any (v : Value) (B : Nat) (l : List Rec) (k : ByteArray) (w : World) (h : KRow w B v l) (hr : Ris l) (hn : l.length ≤ 100000) :
    Calls Tryz.prog 13 #[v, .string k] w (FindO l k w) := by
  have HB := hid (bsearch_any v B l k w h hr hn)
  obtain ⟨A, n, c, rfl, _⟩ := h.form
  clear h hr
  go_enter Tryz.func13, Tryz.ntmps13
  go_wp2_with fail
  refine HB.out.mono ?_
  rintro e w1 ⟨i, rfl, hl, hb⟩
  go_wp2
  go_ret2
  exact ⟨i, rfl, hl, hb⟩
end Go.Proofs.YtkhdgacjgccnnaaGreatDoor
namespace Go.Proofs.YtkhdgacjgccnnaaGreatDoor
open Go.RowKit

/-- what an insert leaves -/
def InsO (w : World) (B : Nat) (v : Value) (m : List Rec) (e : Ending) (w' : World) : Prop := ∃ v', e = .returned v' ∧ KRow w' B v' m ∧ w.grownBy w' v.ownBlock ∧ ∀ k, v'.ownBlock = some k → v.ownBlock = some k ∨ w.heap.size ≤ k
abbrev ArgR (w : World) (vb : Nat) (r : Rec) : Prop := Blk w vb 44 #[.string r.1, .string r.2]
theorem argR_cells {w : World} {vb : Nat} {r : Rec} (h : ArgR w vb r) : ∀ j u, (recC [r])[j]? = some u → w.cell? ((⟨vb, 0, none⟩ : Addr).add j) = some u := fun j u hu => by
  rw [add0, Blk.cell h]
  simp only [List.getElem?_toArray]
  exact hu
set_option maxRecDepth 100000 in
set_option maxHeartbeats 4000000 in
theorem insEnd_any (v : Value) (B vb : Nat) (l : List Rec) (r : Rec) (w : World) (h : KRow w B v l) (hn : l.length ≤ 100000) (hB : B ≤ w.heap.size) (hb : ArgR w vb r) :
    Calls Tryz.prog 14 #[v, .int .i64 (l.length : Int), .slice (some ⟨vb, 0, none⟩) 1 1] w (InsO w B v (l ++ [r])) := by
  obtain ⟨i0, hi, hz0, hz1, hz2⟩ := info_parts Tryz.infoRec
  obtain ⟨A, n, c, rfl, hln, hnc, hcm, hnil, hat⟩ := h.form
  have HO := hid (show w.ownsRow B 44 2 (.slice A n c) n (recC l) from by
    have h' := h
    unfold KRow at h'
    rw [hln] at h'
    exact h')
  have HC := hid (argR_cells hb)
  have HF := hid (show ∀ v' w', w'.ownsRow B 44 2 v' (n + 1) (recC l ++ recC [r]) → w.grownBy w' (Value.slice A n c).ownBlock → (v'.ownBlock = (Value.slice A n c).ownBlock ∨ v'.ownBlock = some w.heap.size) → InsO w B (.slice A n c) (l ++ [r]) (.returned v') w' from fun v' w' h1 h2 h4 => ⟨v', rfl, by
    show World.ownsRow _ _ _ _ _ _ _
    rw [List.length_append, recC_app, hln]; exact h1, h2, fun k hk => h4.elim (fun h => .inl (h ▸ hk)) (fun h => by rw [h] at hk; injection hk with hk; exact .inr (by omega))⟩)
  rw [hln]
  have hcn : n ≤ 100000 := by omega
  have hB' := hid hB
  clear h hn hnil hat hB hb
  rcases A with _ | ad
  · go_enter Tryz.func14, Tryz.ntmps14
    go_wp2_with (at_builtin; refine wpList_append_own_at _ rfl _ _ 48 rfl B 44 i0 (.agg #[.string ⟨#[]⟩, .string ⟨#[]⟩]) 2 32 Tryz.underlying48 hi hz0 hz1 hz2 rfl (by decide) _ n (recC l) rfl HO.out ⟨vb, 0, none⟩ 1 1 (recC [r]) rfl rfl HC.out (recC_one _) ?c3 ?c4 hB'.out ?_)
    case c3 => unfold maxLen; omega
    case c4 => omega
    intro v' w' h1 h2 _ h4
    have h3 := HF.out v' w' h1 h2 h4
    clear h1 h2 h4
    go_wp2
    go_ret
    exact h3
  · go_enter Tryz.func14, Tryz.ntmps14
    go_wp2_with (at_builtin; refine wpList_append_own_at _ rfl _ _ 48 rfl B 44 i0 (.agg #[.string ⟨#[]⟩, .string ⟨#[]⟩]) 2 32 Tryz.underlying48 hi hz0 hz1 hz2 rfl (by decide) _ n (recC l) rfl HO.out ⟨vb, 0, none⟩ 1 1 (recC [r]) rfl rfl HC.out (recC_one _) (by unfold maxLen; omega) (by omega) hB'.out ?_)
    all_goals
      intro v' w' h1 h2 _ h4
      have h3 := HF.out v' w' h1 h2 h4
      clear h1 h2
      go_wp2
      go_ret
      exact h3
/-- both copies of an insert in place -/
theorem shift_row {c0 L r : List Value} {a N : Nat} (hL : c0.take N = L) (hN : L.length = N) (ha : a ≤ N) (hc : N + r.length ≤ c0.length) :
    (((c0.take (a + r.length) ++ L.drop a ++ c0.drop (a + r.length + (L.drop a).length)).take a ++ r ++ (c0.take (a + r.length) ++ L.drop a ++ c0.drop (a + r.length + (L.drop a).length)).drop (a + r.length)).take (N + r.length) = L.take a ++ r ++ L.drop a) ∧
    (c0.take (a + r.length) ++ L.drop a ++ c0.drop (a + r.length + (L.drop a).length)).length = c0.length ∧
    ((c0.take (a + r.length) ++ L.drop a ++ c0.drop (a + r.length + (L.drop a).length)).take a ++ r ++ (c0.take (a + r.length) ++ L.drop a ++ c0.drop (a + r.length + (L.drop a).length)).drop (a + r.length)).length = c0.length := by
  have hd : (L.drop a).length = N - a := by rw [List.length_drop, hN]
  have ht : (c0.take (a + r.length)).length = a + r.length := by rw [List.length_take]; omega
  have e1 : (c0.take (a + r.length) ++ L.drop a ++ c0.drop (a + r.length + (L.drop a).length)).take a = L.take a := by
    rw [List.append_assoc, List.take_append_of_le_length (by omega), List.take_take, Nat.min_eq_left (by omega), ← hL, List.take_take, Nat.min_eq_left ha]
  have e2 : (c0.take (a + r.length) ++ L.drop a ++ c0.drop (a + r.length + (L.drop a).length)).drop (a + r.length) = L.drop a ++ c0.drop (a + r.length + (L.drop a).length) := by
    rw [List.append_assoc, List.drop_left' ht]
  have ha' : (L.take a).length = a := by rw [List.length_take]; omega
  refine ⟨?_, ?_, ?_⟩
  · rw [e1, e2, ← List.append_assoc, List.take_left']
    rw [List.length_append, List.length_append, ha', hd]; omega
  · rw [List.length_append, List.length_append, ht, hd, List.length_drop]; omega
  · rw [e1, e2, List.length_append, List.length_append, ha', List.length_append, hd, List.length_drop]; omega
set_option maxRecDepth 100000 in
set_option maxHeartbeats 4000000 in
theorem insShift_any (B g n c vb i : Nat) (l : List Rec) (r : Rec) (w : World) (h : KRow w B (.slice (some ⟨g, 0, none⟩) n c) l) (hl : l.length = n) (hi : i < n) (hroom : n + 1 ≤ c) (hb : ArgR w vb r) (hne : vb ≠ g) :
    Calls Tryz.prog 14 #[.slice (some ⟨g, 0, none⟩) n c, .int .i64 (i : Int), .slice (some ⟨vb, 0, none⟩) 1 1] w (InsO w B (.slice (some ⟨g, 0, none⟩) n c) (l.take i ++ r :: l.drop i)) := by
  obtain ⟨i0, hi0, hz0, hz1, hz2⟩ := info_parts Tryz.infoRec
  obtain ⟨cur, hg, hc1, hc2, hcs, hct, hBg⟩ : ∃ cur : Array Value, w.heap[g]? = some (.cells cur 44 (0, 0)) ∧ n ≤ c ∧ c ≤ maxLen ∧ cur.size = c * 2 ∧ cur.toList.take (n * 2) = recC l ∧ B ≤ g := by
    rcases h.2 with ⟨h', _⟩ | ⟨g', cap', cur, h', hb, hg, h1, h2, h3, h4⟩
    · cases h'
    · cases h'
      exact ⟨cur, hg, h1, h2, h3, by rw [← h4, hl], hb⟩
  have hrl : (recC [r]).length = 2 := rfl
  have hLl : (recC l).length = n * 2 := by rw [recC_len, hl]
  obtain ⟨s1, s2, s3⟩ := shift_row (r := recC [r]) (a := i * 2) hct hLl (by omega) (by rw [hrl, Array.length_toList]; omega)
  rw [hrl, ← recC_drop] at s1 s2 s3
  obtain ⟨R1, hR1⟩ : ∃ R, cur.toList.take (i * 2 + 2) ++ recC (l.drop i) ++ cur.toList.drop (i * 2 + 2 + (recC (l.drop i)).length) = R := ⟨_, rfl⟩
  rw [hR1] at s1 s2 s3
  obtain ⟨R2, hR2⟩ : ∃ R, R1.take (i * 2) ++ recC [r] ++ R1.drop (i * 2 + 2) = R := ⟨_, rfl⟩
  rw [hR2] at s1 s3
  replace s2 : R1.length = cur.size := s2.trans Array.length_toList
  replace s3 : R2.length = cur.size := s3.trans Array.length_toList
  have e22 : i * 2 + 2 = (i + 1) * 2 := by omega
  have hdl : (recC (l.drop i)).length = (n - i) * 2 := by rw [recC_len, List.length_drop, hl]
  have hov : ∀ lb cb, (callFunc 27 #[.slice (some ⟨vb, 0, none⟩) 1 1, .slice (some ⟨g, (i + 1) * 2, none⟩) lb cb]).run Tryz.prog w = .ok (.value (.bool false)) w := fun lb cb => by
    rw [run_callFunc_extern Tryz.func27 (by kernel_rfl) (by kernel_rfl) (by kernel_rfl) (e := Extern.SlicesOverlaps.overlaps #[48, 48] #[4]) (by kernel_rfl),
      Lib.run_overlaps_apart w 48 4 44 Tryz.underlying48 2 (fun w => by simp [sizeOf, typeInfo, hi0, hz1]) ⟨vb, 0, none⟩ ⟨g, (i + 1) * 2, none⟩ 1 1 lb cb hne 44 44 2 (c * 2) (by
        have hb' : w.heap[vb]? = _ := hb
        simp [World.shape?, hb']) (by simp [World.shape?, hg, hcs]) (by omega) (by
        have hb' : w.heap[vb]? = _ := hb
        simp [World.frozen?, hb']) (by
        have hb' : w.heap[vb]? = _ := hb
        simp [World.frozen?, hb'])]
    rfl
  have hcell : ∀ j u, (recC (l.drop i))[j]? = some u → w.drew.cell? ((⟨g, i * 2, none⟩ : Addr).add j) = some u := fun j u hu => by
    rw [Addr.add_lit]
    have hj := (List.getElem?_eq_some_iff.1 hu).1
    rw [recC_drop, List.getElem?_drop, ← hct, List.getElem?_take, if_pos (by omega)] at hu
    show w.cell? _ = _
    simp only [World.cell?, hg]
    simpa using hu
  have HCell := hid hcell
  have hmin1 : Nat.min (n + 1 - i) (n - i) = n - i := by simp only [Nat.min_def]; split <;> omega
  have hmin2 : Nat.min 1 (n + 1 - i) = 1 := by simp only [Nat.min_def]; split <;> omega
  have HG := hid (show w.drew.heap[g]? = some (.cells cur 44 (0, 0)) from hg)
  have HFit1 := hid (show (i + 1) * 2 + (recC (l.drop i)).length ≤ cur.size from by omega)
  have HDl := hid hdl
  have HC1 := hid (show ∀ w1, w1.heap[g]? = some (.cells (cur.toList.take ((i + 1) * 2) ++ recC (l.drop i) ++ cur.toList.drop ((i + 1) * 2 + (recC (l.drop i)).length)).toArray 44 (0, 0)) → w.drew.grownBy w1 (some g) → w1.heap[g]? = some (.cells R1.toArray 44 (0, 0)) ∧ w.grownBy w1 (some g) ∧ (∀ j u, (recC [r])[j]? = some u → w1.cell? ((⟨vb, 0, none⟩ : Addr).add j) = some u) from fun w1 h1 h2 => by
    rw [← e22, hR1] at h1
    refine ⟨h1, only_of_drew h2, fun j u hu => ?_⟩
    rw [← argR_cells hb j u hu]
    refine World.cell?_of_block ?_
    rw [add0]
    exact h2.block vb hb.lt (by simpa using hne))
  have HFit2 := hid (show i * 2 + (recC [r]).length ≤ R1.toArray.size from by rw [hrl, List.size_toArray, s2, hcs]; omega)
  have HF := hid (show ∀ w1 W, w.grownBy w1 (some g) → W.heap[g]? = some (.cells (R1.toArray.toList.take (i * 2) ++ recC [r] ++ R1.toArray.toList.drop (i * 2 + (recC [r]).length)).toArray 44 (0, 0)) → w1.grownBy W (some g) → InsO w B (.slice (some ⟨g, 0, none⟩) n c) (l.take i ++ r :: l.drop i) (.returned (.slice (some ⟨g, 0, none⟩) (n + 1) c)) W from fun w1 W h1 hW h2 => by
    refine ⟨_, rfl, ⟨?_, .inr ⟨g, c, R2.toArray, ?_, hBg, ?_, ?_, hc2, by rw [List.size_toArray, s3, hcs], ?_⟩⟩, only_trans h1 h2, fun k hk => .inl hk⟩
    · rw [recC_len]
    · have e : (l.take i ++ r :: l.drop i).length = n + 1 := by simp; omega
      rw [e]
    · rw [hW, hrl, ← hR2]
    · have e : (l.take i ++ r :: l.drop i).length = n + 1 := by simp; omega
      omega
    · have e : (l.take i ++ r :: l.drop i).length = n + 1 := by simp; omega
      rw [e, show (n + 1) * 2 = n * 2 + 2 by omega]
      show R2.take _ = _
      rw [s1, ← recC_take, ← recC_app, ← recC_app, List.append_assoc]
      rfl)
  have hz1' : ¬ ((i : Int) = (n : Int)) := by omega
  unfold maxLen at hc2
  have hw1 : IntKind.i64.wrap ((i : Int) + 1) = (i : Int) + 1 := by rw [IntKind.wrap_i64]; omega
  have hin : i ≤ n := by omega
  have htn : ((i : Int) + 1).toNat = i + 1 := by omega
  have hb2 : ¬ (c = i + 1) := by omega
  have hb4 : ¬ (c = i) := by omega
  have hb5 : n + 1 - (i + 1) = n - i := by omega
  have hb1 : (0 : Int) ≤ (i : Int) + 1 := by omega
  have hb3 : (i : Int) + 1 ≤ (n : Int) + 1 := by omega
  have hb6 : (i : Int) ≤ (n : Int) + 1 := by omega
  clear e22 hR1 hR2 s1 s2 s3 hct hcs hg hcell hdl h hb hLl hrl hl
  go_enter Tryz.func14, Tryz.ntmps14
  go_wp2_with (simp only [hov])
  go_region_law (refine step_copy2 rfl _ _ rfl g ((i + 1) * 2) (n - i) (c - (i + 1)) ⟨g, i * 2, none⟩ (n + 1 - i) (c - i) (n - i) (by simp [Act.eval, Act.put]) (by simp [Act.eval, Act.put]) cur 44 HG.out (recC (l.drop i)) hmin1 HDl.out HCell.out HFit1.out (recC_one _) ?_; intro w1 h1 h2)
  have HW1 := hid (HC1.out w1 h1 h2)
  clear h1 h2
  go_wp2_with (refine wpList_copy2 rfl _ _ rfl g (i * 2) (n + 1 - i) (c - i) ⟨vb, 0, none⟩ 1 1 1 rfl rfl R1.toArray 44 HW1.out.1 (recC [r]) hmin2 rfl HW1.out.2.2 HFit2.out (recC_one _) ?_)
  intro w2 h1 h2
  have h3 := HF.out w1 w2 HW1.out.2.1 (by rw [List.append_assoc]; exact h1) h2
  clear h1 h2
  go_wp2
  go_ret
  exact h3
/-- both copies of an insert into a new row -/
theorem grow_row {P Z r D : List Value} {a : Nat} (hP : P.length = a) :
    (P ++ Z).take a ++ (r ++ (P ++ Z).drop (a + r.length)) = P ++ (r ++ Z.drop r.length) ∧
    (P ++ (r ++ Z.drop r.length)).take (a + r.length) ++ (D ++ (P ++ (r ++ Z.drop r.length)).drop (a + r.length + D.length)) = P ++ (r ++ (D ++ (Z.drop r.length).drop D.length)) := by
  refine ⟨?_, ?_⟩
  · rw [List.take_left' hP, ← List.drop_drop, List.drop_left' hP]
  · have e : (P ++ r).length = a + r.length := by rw [List.length_append, hP]
    rw [← List.append_assoc P r, List.take_left' e, ← List.drop_drop (i := D.length) (j := a + r.length), List.drop_left' e, List.append_assoc]
set_option maxRecDepth 100000 in
set_option maxHeartbeats 4000000 in
theorem insGrow_any (B g n c vb i : Nat) (l : List Rec) (r : Rec) (w : World) (h : KRow w B (.slice (some ⟨g, 0, none⟩) n c) l) (hl : l.length = n) (hi : i < n) (hroom : c < n + 1) (hnc : n ≤ c) (hb : ArgR w vb r) (hn : n ≤ 100000) (hB : B ≤ w.heap.size) :
    Calls Tryz.prog 14 #[.slice (some ⟨g, 0, none⟩) n c, .int .i64 (i : Int), .slice (some ⟨vb, 0, none⟩) 1 1] w (InsO w B (.slice (some ⟨g, 0, none⟩) n c) (l.take i ++ r :: l.drop i)) := by
  obtain ⟨i0, hi0, hz0, hz1, hz2⟩ := info_parts Tryz.infoRec
  have hrl : (recC [r]).length = 2 := rfl
  have hLl : (recC l).length = n * 2 := by rw [recC_len, hl]
  have hgl : g < w.heap.size := (h.lt g rfl).2
  have hvl : vb < w.heap.size := hb.lt
  have hcellg : ∀ j u, (recC l)[j]? = some u → w.cell? ⟨g, j, none⟩ = some u := fun j u hu => by
    have h1 := World.ownsRow.cells h (g := g) rfl j u hu
    rwa [add0] at h1
  have hold : (Builtin.firstCells i0.size i (.slice (some ⟨g, 0, none⟩) i c)).run Tryz.prog w.drew = .ok (recC (l.take i)).toArray w.drew := by
    rw [hz1]
    exact run_firstCells_some w.drew 2 i ⟨g, 0, none⟩ i c (recC (l.take i)) (by rw [recC_len, List.length_take]; omega) (fun j v hj => by
      rw [Addr.add_lit, Nat.zero_add]
      rw [recC_take, List.getElem?_take] at hj
      split at hj
      · exact hcellg j v hj
      · cases hj)
  obtain ⟨G, hG⟩ : ∃ G, grownCap w (n + 1) c 44 = G := ⟨_, rfl⟩
  obtain ⟨Z, hZ⟩ : ∃ Z : List Value, (Builtin.zeroCells (Value.agg #[.string ⟨#[]⟩, .string ⟨#[]⟩]).cells (n + 1 - i)).toList ++ (Builtin.zeroCells (Value.agg #[.string ⟨#[]⟩, .string ⟨#[]⟩]).cells (G - (n + 1))).toList = Z := ⟨_, rfl⟩
  have hGn : n + 1 ≤ G := by rw [← hG]; exact grownCap_ge w _ _ _
  have hG63 : G ≤ maxLen := by rw [← hG]; exact grownCap_le_maxLen w (n + 1) c 44 (by unfold maxLen; omega)
  have hzc : ∀ q, (Builtin.zeroCells (Value.agg #[.string ⟨#[]⟩, .string ⟨#[]⟩]).cells q).size = q * 2 := fun q => by
    simp [Builtin.zeroCells, Value.cells]
  have hZl : Z.length = (G - i) * 2 := by
    rw [← hZ, List.length_append, Array.length_toList, Array.length_toList, hzc, hzc]; omega
  have hrz : ∀ ty, (Builtin.append_ #[48, 3] ty #[.slice (some ⟨g, 0, none⟩) i c, .int .i64 ((n : Int) + 1 - (i : Int))]).run Tryz.prog w =
      .ok (.slice (some ⟨w.heap.size, 0, none⟩) (n + 1) G) (w.drew.alloc (.cells (recC (l.take i) ++ Z).toArray 44)) := fun ty => by
    have e1 : i + (n + 1 - i) = n + 1 := by omega
    have h1 := Lib.run_append_grow_zeros w 48 3 ty 44 i0 _ .i64 .i64 Tryz.underlying48 Tryz.underlying3 hi0 hz0 (some ⟨g, 0, none⟩) i c (recC (l.take i)) hold (n + 1 - i) (by omega) (by omega) (by omega) (by omega) (by rw [hz2]; omega) (by rw [hz2, e1]; exact growslice_fits hroom (by omega))
    rw [e1, hG] at h1
    rw [show (n : Int) + 1 - (i : Int) = ((n + 1 - i : Nat) : Int) by omega, h1, ← hZ]
    congr 3
    apply Array.ext'
    simp
  have hdl : (recC (l.drop i)).length = (n - i) * 2 := by rw [recC_len, List.length_drop, hl]
  have htl : (recC (l.take i)).length = i * 2 := by rw [recC_len, List.length_take]; omega
  obtain ⟨g1, g2⟩ := grow_row (r := recC [r]) (D := recC (l.drop i)) (Z := Z) htl
  rw [hrl] at g1 g2
  obtain ⟨W1, hW1⟩ : ∃ W1, w.drew.alloc (.cells (recC (l.take i) ++ Z).toArray 44) = W1 := ⟨_, rfl⟩
  have hw1 : W1.heap[w.heap.size]? = some (.cells (recC (l.take i) ++ Z).toArray 44 (0, 0)) := by rw [← hW1]; exact Blk.new w.drew 44 _
  have hg1 : w.grownBy W1 none := by rw [← hW1]; exact only_alloc (only_drew (only_refl w none)) _
  obtain ⟨N, hN⟩ : ∃ N, w.heap.size = N := ⟨_, rfl⟩
  rw [hN] at hw1 hgl hvl
  rw [hW1, hN] at hrz
  have hcv : ∀ j u, (recC [r])[j]? = some u → W1.cell? ((⟨vb, 0, none⟩ : Addr).add j) = some u := fun j u hu => by
    rw [← argR_cells hb j u hu]
    refine World.cell?_of_block ?_
    rw [add0]
    exact hg1.block vb (by omega) (by simp)
  have HC1 := hid (show ∀ w1, w1.heap[N]? = some (.cells ((recC (l.take i) ++ Z).toArray.toList.take (i * 2) ++ (recC [r] ++ (recC (l.take i) ++ Z).toArray.toList.drop (i * 2 + (recC [r]).length))).toArray 44 (0, 0)) → W1.grownBy w1 (some N) → w1.drew.heap[N]? = some (.cells (recC (l.take i) ++ (recC [r] ++ Z.drop 2)).toArray 44 (0, 0)) ∧ (∀ j u, (recC (l.drop i))[j]? = some u → w1.drew.cell? ((⟨g, i * 2, none⟩ : Addr).add j) = some u) from fun w1 h1 h2 => by
    rw [hrl] at h1
    refine ⟨h1.trans ?_, fun j u hu => ?_⟩
    · show some (Obj.cells ((recC (l.take i) ++ Z).take (i * 2) ++ _).toArray _ _) = _
      rw [← g1]
    · rw [Addr.add_lit]
      have hj := (List.getElem?_eq_some_iff.1 hu).1
      rw [recC_drop, List.getElem?_drop] at hu
      rw [← hcellg _ u hu]
      show w1.cell? _ = _
      refine World.cell?_of_block ?_
      rw [h2.block g (by have := hg1.size; omega) (by simp; omega)]
      exact hg1.block g (by omega) (by simp))
  have HF := hid (show ∀ w1 W, W1.grownBy w1 (some N) → W.heap[N]? = some (.cells ((recC (l.take i) ++ (recC [r] ++ Z.drop 2)).toArray.toList.take ((i + 1) * 2) ++ recC (l.drop i) ++ (recC (l.take i) ++ (recC [r] ++ Z.drop 2)).toArray.toList.drop ((i + 1) * 2 + (recC (l.drop i)).length)).toArray 44 (0, 0)) → w1.drew.grownBy W (some N) → InsO w B (.slice (some ⟨g, 0, none⟩) n c) (l.take i ++ r :: l.drop i) (.returned (.slice (some ⟨N, 0, none⟩) (n + 1) G)) W from fun w1 W h1 hW h2 => by
    have e : (l.take i ++ r :: l.drop i).length = n + 1 := by simp; omega
    have e2 : (recC (l.take i) ++ (recC [r] ++ Z.drop 2)).take ((i + 1) * 2) ++ recC (l.drop i) ++ (recC (l.take i) ++ (recC [r] ++ Z.drop 2)).drop ((i + 1) * 2 + (recC (l.drop i)).length) = recC (l.take i ++ r :: l.drop i) ++ (Z.drop 2).drop (recC (l.drop i)).length := by
      rw [show (i + 1) * 2 = i * 2 + 2 by omega, List.append_assoc, g2, recC_app, List.append_assoc, show r :: l.drop i = [r] ++ l.drop i from rfl, recC_app, List.append_assoc]
    refine ⟨_, rfl, ⟨by rw [recC_len], .inr ⟨N, G, _, by rw [e], by omega, hW, by omega, hG63, ?_, ?_⟩⟩, ⟨?_, ?_, ?_, ?_, fun k hk hkg => ?_⟩, fun k hk => .inr (by
      have e5 : N = k := (by injection hk)
      omega)⟩
    · show (_ : List Value).length = _
      show ((recC (l.take i) ++ (recC [r] ++ Z.drop 2)).take ((i + 1) * 2) ++ recC (l.drop i) ++ (recC (l.take i) ++ (recC [r] ++ Z.drop 2)).drop ((i + 1) * 2 + (recC (l.drop i)).length)).length = _
      rw [e2, List.length_append, recC_len, e, List.length_drop, List.length_drop, hZl, hdl]; omega
    · show ((recC (l.take i) ++ (recC [r] ++ Z.drop 2)).take ((i + 1) * 2) ++ recC (l.drop i) ++ (recC (l.take i) ++ (recC [r] ++ Z.drop 2)).drop ((i + 1) * 2 + (recC (l.drop i)).length)).take _ = _
      rw [e2, List.take_left' (by rw [recC_len])]
    · exact h2.os.trans (h1.os.trans hg1.os)
    · exact h2.tape.trans (h1.tape.trans hg1.tape)
    · exact h2.output.trans (h1.output.trans hg1.output)
    · exact Nat.le_trans hg1.size (Nat.le_trans h1.size h2.size)
    · have hkN : some k ≠ some N := by simp; omega
      have s1 := hg1.size
      have s2 := h1.size
      rw [h2.block k (by show k < w1.heap.size; omega) hkN]
      show w1.heap[k]? = _
      rw [h1.block k (by omega) hkN]
      exact hg1.block k hk (by simp))
  have hz1' : ¬ ((i : Int) = (n : Int)) := by omega
  unfold maxLen at hG63
  have hw1' : IntKind.i64.wrap ((i : Int) + 1) = (i : Int) + 1 := by rw [IntKind.wrap_i64]; omega
  have hin : i ≤ n := by omega
  have hcn : c = n := by omega
  subst hcn
  have hw2' : IntKind.i64.wrap ((c : Int) + 1) = (c : Int) + 1 := by rw [IntKind.wrap_i64]; omega
  have hz3 : ((c : Int) < (c : Int) + 1) := by omega
  have htn : ((i : Int) + 1).toNat = i + 1 := by omega
  have hb1 : (0 : Int) ≤ (i : Int) + 1 := by omega
  have hb2 : (i : Int) + 1 ≤ (c : Int) + 1 := by omega
  have hb3 : (i : Int) ≤ (c : Int) + 1 := by omega
  have hb4 : ¬ (c = i) := by omega
  have hb5 : ¬ (G = i) := by omega
  have hb6 : ¬ (G = i + 1) := by omega
  have hb7 : (i : Int) ≤ (c : Int) := by omega
  have hb8 : c + 1 - (i + 1) = c - i := by omega
  have hmin1 : Nat.min 1 (c + 1 - i) = 1 := by simp only [Nat.min_def]; split <;> omega
  have hmin2 : Nat.min (c - i) (c - i) = c - i := Nat.min_self _
  have HRow := hid hw1
  have HCv := hid hcv
  have HDl := hid hdl
  have HFit1 := hid (show i * 2 + (recC [r]).length ≤ (recC (l.take i) ++ Z).toArray.size from by rw [List.size_toArray, List.length_append, htl, hZl, hrl]; omega)
  have HFit2 := hid (show (i + 1) * 2 + (recC (l.drop i)).length ≤ (recC (l.take i) ++ (recC [r] ++ Z.drop 2)).toArray.size from by rw [List.size_toArray, List.length_append, List.length_append, htl, hrl, List.length_drop, hZl, hdl]; omega)
  clear hold hG hZ hzc hZl g1 g2 hW1 hw1 hg1 hcv hdl htl hrl hLl hcellg h hb hB hl hgl hvl hN hz0 hz1 hz2 hi0 hGn
  go_enter Tryz.func14, Tryz.ntmps14
  go_wp2_with (first
    | (at_builtin; refine Lib.wpList_append_run _ rfl _ _ _ _ rfl _ _ rfl rfl _ _ (hrz _) ?_)
    | (refine wpList_copy2 rfl _ _ rfl N (i * 2) (c + 1 - i) (G - i) ⟨vb, 0, none⟩ 1 1 1 rfl rfl (recC (l.take i) ++ Z).toArray 44 HRow.out (recC [r]) hmin1 rfl HCv.out HFit1.out (recC_one _) ?_))
  intro w1 h1 h2
  have HW1 := hid (HC1.out w1 (by first | exact h1 | (rw [List.append_assoc]; exact h1)) h2)
  have HG1 := hid h2
  clear h1 h2
  go_wp2_with fail
  go_region_law (refine step_copy2 rfl _ _ rfl N ((i + 1) * 2) (c - i) (G - (i + 1)) ⟨g, i * 2, none⟩ (c - i) (c - i) (c - i) (by simp [Act.eval, Act.put]) (by simp [Act.eval, Act.put]) (recC (l.take i) ++ (recC [r] ++ Z.drop 2)).toArray 44 HW1.out.1 (recC (l.drop i)) hmin2 HDl.out HW1.out.2 HFit2.out (recC_one _) ?_; intro w2 h1 h2)
  have h3 := HF.out w1 w2 HG1.out (by first | exact h1 | (rw [List.append_assoc]; exact h1)) h2
  clear h1 h2
  go_wp2
  go_ret
  exact h3
end Go.Proofs.YtkhdgacjgccnnaaGreatDoor
