/- Put together out of 1 texts. Package page's laws: room; a store on a new device. -/
import Derived.Test.YtaonhbmimaiiiaaGreatDoorGKbc
import Derived.Test.YtaonhbmimaiiiaaGreatDoorGKab
namespace Go.Proofs.YtaonhbmimaiiiaaGreatDoor
open Go.RowKit Go.Maps

theorem filt_at {α : Type} (p : α → Bool) (d : α) (l : List α) : (l.filter p).length = ((List.range l.length).filter fun i => p (l.getD i d)).length := by
  have e : l = (List.range l.length).map fun i => l.getD i d := by
    apply List.ext_getElem?
    intro i
    rcases Nat.lt_or_ge i l.length with h | h
    · simp [h]
    · simp [h]
  have h : (l.filter p).length = (((List.range l.length).map fun i => l.getD i d).filter p).length := by rw [← e]
  rw [h, List.filter_map, List.length_map]
  rfl
theorem filt_apart (p q r : Nat → Bool) (l : List Nat) (h1 : ∀ x, x ∈ l → p x = true → q x = true → False) (h2 : ∀ x, x ∈ l → p x = true ∨ q x = true → r x = true) : (l.filter p).length + (l.filter q).length ≤ (l.filter r).length := by
  induction l with
  | nil => simp
  | cons a l ih =>
    have ih := ih (fun x hx => h1 x (List.mem_cons_of_mem _ hx)) (fun x hx => h2 x (List.mem_cons_of_mem _ hx))
    have a1 := h1 a (List.mem_cons_self ..)
    have a2 := h2 a (List.mem_cons_self ..)
    rw [List.filter_cons, List.filter_cons, List.filter_cons]
    rcases hp : p a with _ | _ <;> rcases hq : q a with _ | _ <;> rcases hr : r a with _ | _ <;> rw [hp, hq] at a1 a2 <;> simp only [if_true, Bool.false_eq_true, if_false, List.length_cons] <;> first | omega | exact (a1 rfl rfl).elim | (rw [hr] at a2; exact absurd (a2 (by simp)) (by simp))
theorem rising_filt {m : Nat} {l : List Nat} (h : l.Pairwise (· < ·)) (hm : ∀ x, x ∈ l → x < m) : l.length = ((List.range m).filter fun i => l.contains i).length := by
  have hn : l.Nodup := h.imp (fun h => Nat.ne_of_lt h)
  refine ((List.perm_ext_iff_of_nodup hn (List.nodup_range.filter _)).2 (fun a => ?_)).length_eq
  rw [List.mem_filter, List.mem_range, List.contains_iff_mem]
  exact ⟨fun ha => ⟨hm a ha, ha⟩, fun ha => ha.2⟩
theorem pages_rising (P : PS) (ch : Chg) : (pagesOf P ch).Pairwise (· < ·) := (List.Pairwise.filter _ List.pairwise_lt_range).filter _
section
variable {P : PS} {ch : Chg} {cont : Cont} {H : Nat}
/-- as many pages as will be there, twice, and 40: there is room -/
theorem fits_room (hk : Fine H P cont) {N : Nat} (hN : ∀ i, N ≤ i → contC cont ch i = none) (h : 2 * N + 40 ≤ H) : fitsB P ch H = true := by
  have hcl := cut_len hk.len (keysOf ch)
  have c1 : ((P.cut (keysOf ch)).pgs.filter points).length + (pagesOf P ch).length ≤ N := by
    rw [filt_at points (0, 0), hcl.p, rising_filt (pages_rising P ch) (m := 256) (fun x hx => (pagesOf_is hx).1)]
    refine Nat.le_trans (filt_apart _ _ (fun i => decide (i < N)) _ (fun i hi h1 h2 => ?_) (fun i hi h1 => ?_)) ?_
    · obtain ⟨_, l, hl, _⟩ := pagesOf_is (List.contains_iff_mem.1 h2)
      have hi := List.mem_range.1 hi
      obtain ⟨x, hx⟩ := hcl.page hi
      simp only [List.getD, hx, Option.getD_some] at h1
      rw [cut_pgs, if_pos (keysOf_mem.2 ⟨hi, by rw [hl]; rfl⟩)] at hx
      obtain ⟨y, _, rfl⟩ := Option.map_eq_some_iff.1 hx
      cases h1
    · have hi := List.mem_range.1 hi
      rw [decide_eq_true_eq]
      refine Nat.lt_of_not_le (fun hge => ?_)
      have hn := hN i hge
      rcases h1 with h1 | h1
      · obtain ⟨x, hx⟩ := hcl.page hi
        simp only [List.getD, hx, Option.getD_some] at h1
        rw [cut_pgs] at hx
        by_cases hm : i ∈ keysOf ch
        · rw [if_pos hm] at hx
          obtain ⟨y, _, rfl⟩ := Option.map_eq_some_iff.1 hx
          cases h1
        · rw [if_neg hm] at hx
          have hc : ch i = none := by
            rcases hc : ch i with _ | l
            · rfl
            · exact absurd (keysOf_mem.2 ⟨hi, by rw [hc]; rfl⟩) hm
          rw [contC_none hc] at hn
          rcases hk.page i x hx with ⟨h2, _⟩ | ⟨_, ⟨l, h2, _⟩, _⟩
          · rw [h2] at h1; cases h1
          · rw [hn] at h2; cases h2
      · obtain ⟨_, l, hl, hl1⟩ := pagesOf_is (List.contains_iff_mem.1 h1)
        rw [contC_some hl hl1] at hn; cases hn
    · have := rising_len ((List.range 256).filter fun i => decide (i < N)) 0 (m := N) (List.Pairwise.filter _ List.pairwise_lt_range) (fun x hx => ⟨Nat.zero_le _, by simpa using (List.mem_filter.1 hx).2⟩)
      omega
  have c2 : ((P.cut (keysOf ch)).idx.filter points).length + (indexesOf P ch).length ≤ 7 := by
    rw [filt_at points (0, 0), hcl.i, rising_filt (indexes_rising P ch) (m := 7) (fun x hx => indexesOf_is hx)]
    refine Nat.le_trans (filt_apart _ _ (fun _ => true) _ (fun i hi h1 h2 => ?_) (fun _ _ _ => rfl)) ?_
    · have ht := (indexesOf_iff.1 (List.contains_iff_mem.1 h2)).1
      have hi := List.mem_range.1 hi
      obtain ⟨x, hx⟩ := hcl.index hi
      simp only [List.getD, hx, Option.getD_some] at h1
      rw [cut_idx, if_pos (touched_iff.1 ht)] at hx
      obtain ⟨y, _, rfl⟩ := Option.map_eq_some_iff.1 hx
      cases h1
    · exact Nat.le_trans (List.length_filter_le _ _) (by rw [List.length_range]; exact Nat.le_refl _)
  have h1 := free_len hk.apart
  have h2 := hk.room
  unfold fitsB
  rw [used_len]
  simp only [Bool.and_eq_true, decide_eq_true_eq]
  constructor <;> omega
end
theorem noChg_cont (cont : Cont) : contC cont noChg = cont := contC_nil (fun _ => rfl)
theorem pages_none {n : Nat} {P : PS} {ch : Chg} {cont : Cont} (hk : Fine (halN n) P cont) (h : ∀ i, contC cont ch i = none) : pagesTo P ch 256 = [] := by
  unfold pagesTo
  rw [List.filter_eq_nil_iff]
  intro i hi
  rw [there_cont hk (List.mem_range.1 hi), h i]; decide
section
variable {Real : World → Nat → DSt → (Nat → Prop) → Prop} {PR : World → Nat → Nat → Nat → Nat → (Nat → Prop) → Prop} {S : Nat → Addr} {w0 w w' : World} {d g n q mk : Nat} {T : Nat → Prop} {s : DSt} {P : PS} {ch : Chg} {cont : Cont}
theorem sh_calls (D : DevOk Real) (O : PairOk Real PR) (h : Shop Real PR S w0 w d g n q mk T s P ch) : Calls Tryz.prog 35 #[.pointer (some ⟨d, 0, none⟩)] w fun e w' => e = .returned (.int .i64 (s.calls : Int)) ∧ Shop Real PR S w0 w' d g n q mk T s P ch ∧ Below w.heap.size w w' := by
  have hh := h
  obtain ⟨p, mm, m, F, G, Dm, C, h1, _⟩ := h
  refine (D.calls d s F w h1.real h1.ok).mono ?_
  rintro e w' ⟨rfl, k, rfl⟩
  have hb := below_drewN (Below.refl w.heap.size w) k
  exact ⟨rfl, hh.on D O hb, hb⟩
set_option maxRecDepth 100000 in
set_option maxHeartbeats 4000000 in
theorem opened7_any (D : DevOk Real) (O : PairOk Real PR) (n : Nat) (w : World) (hS : Sent7 w S) (h0 : 300 ≤ n) (h1 : n ≤ 6000) :
    Calls Tryz.prog 14 #[.int .i64 (n : Int)] w fun e w' => ∃ g d T, e = .returned (.tuple #[.pointer (some ⟨g, 0, none⟩), .pointer (some ⟨d, 0, none⟩)]) ∧ Shop Real PR S w w' d g n 0 7 T (DSt.new n) (noPS 0) noChg ∧ Below w.heap.size w w' := by
  have HN := hid (D.new n w (by omega) h1)
  have HOp := hid (fun (w1 : World) (d : Nat) (F : Nat → Prop) (hr : Real w1 d (DSt.new n) F) (hb : Below w.heap.size w w1) (hF : ∀ k, F k → w.heap.size ≤ k) => sh_opened (w0 := w) D O hS hb hr hF (up_new h1) (by omega) h0 h1 (keeps_new h0 h1))
  clear D O hS
  go_enter Tryz.func14, Tryz.ntmps14
  go_wp2_with fail
  refine HN.out.mono ?_
  rintro e w1 ⟨d, F, rfl, hr, hb, hF⟩
  have HO1 := hid (HOp.out w1 d F hr hb hF)
  have HB1 := hid hb
  have HF1 := hid hF
  clear hr hb hF
  go_wp2_with fail
  refine HO1.out.mono ?_
  rintro e w2 ⟨g, T, rfl, hsh, ho, _⟩
  have HF := hid (show Shop Real PR S w w2 d g n 0 7 T (DSt.new n) (noPS 0) noChg ∧ Below w.heap.size w w2 from ⟨hsh, hsh.below⟩)
  clear hsh ho
  go_wp2
  go_ret2
  exact ⟨g, d, T, rfl, HF.out⟩
/-- a slice that the law writes out: one byte -/
theorem sl_one (w : World) (x : Int) : Sl (w.alloc (.cells #[.int .u8 x] 5)) (w.alloc (.cells #[.int .u8 x] 5)).heap.size (some ⟨w.heap.size, 0, none⟩) 1 1 [x] := by
  refine ⟨rfl, Nat.le_refl _, by unfold maxLen; omega, (fun h => by cases h), fun ad ha _ => ?_⟩
  cases ha
  have hb := Blk.new w 5 #[.int .u8 x]
  refine ⟨hb.lt, fun j y hy => ?_⟩
  rw [add0, Blk.cell hb]
  rcases j with _ | j
  · simp at hy; subst hy; rfl
  · simp at hy
theorem byt7 : Byt [7] := fun x hx => by
  have : x = 7 := by simpa using hx
  omega
theorem put_none {ch : Chg} {p : Nat} {l : List Int} (hp : p < 256) : 0 < (keysOf (putC ch p l)).length := by
  have : p ∈ keysOf (putC ch p l) := keysOf_mem.2 ⟨hp, by simp [putC]⟩
  exact List.length_pos_of_mem this
set_option maxRecDepth 100000 in
set_option maxHeartbeats 8000000 in
theorem first7_any (D : DevOk Real) (O : PairOk Real PR) (w : World) (hS : Sent7 w S) : Calls Tryz.prog 12 #[] w (Yes w) := by
  have HD := hid D
  have HO := hid O
  have HS := hid hS
  have HOp := hid (opened7_any D O 500 w hS (by omega) (by omega))
  have hh : halN 500 = 125 := by decide
  have HK0 := hid (keeps_new (n := 500) (by omega) (by omega))
  clear D O hS
  go_enter Tryz.func12, Tryz.ntmps12
  go_wp2_with fail
  refine HOp.out.mono ?_
  rintro e w1 ⟨g, d, T, rfl, hsh, hb⟩
  have HSh1 := hid hsh
  have HB1 := hid hb
  clear hsh hb
  go_wp2_with fail
  refine (sh_pages HSh1.out).mono ?_
  rw [pages_none HK0.out.fine (fun i => by rw [noChg_cont])]
  rintro e w2 ⟨v, rfl, hown, hb⟩
  obtain ⟨A2, c2, rfl, _, _⟩ := hown.form
  have HSh2 := hid (HSh1.out.on HD.out HO.out hb)
  have HB2 := hid (HB1.out.trans (hb.mono HB1.out.size))
  clear hown hb
  go_wp2_with fail
  refine (sh_write HD.out HO.out (HSh2.out.on HD.out HO.out ((Below.refl _ _).alloc (Nat.le_refl _) _)) (i := 3) (by omega) (sl_one w2 7) (by omega) (by omega) byt7).mono ?_
  rintro e w3 ⟨rfl, T3, hsh, _, _⟩
  have HSh3 := hid hsh
  have HB3 := hid hsh.below
  clear hsh
  have hfit : fitsB (noPS 0) (putC noChg 3 [7]) (halN 500) = true := fits_room HK0.out.fine (N := 4) (fun i hi => by
    have h1 : (putC noChg 3 [7]) i = none := by unfold putC noChg; rw [if_neg (by omega)]
    rw [contC_none h1]) (by rw [hh]; omega)
  have HK1 := hid (keeps_commit HK0.out (up_new (by omega)) (by omega) HSh3.out.chg.1 HSh3.out.chg.2 hfit).2.2
  go_wp2_with fail
  refine (sh_commit HD.out HO.out HS.out HSh3.out HK0.out (put_none (by omega)) hfit (by omega)).mono ?_
  rintro e w4 ⟨rfl, T4, hsh, _, _⟩
  have HSh4 := hid hsh
  have HB4 := hid hsh.below
  clear hsh hfit
  go_wp2_with fail
  refine (sh_open HD.out HO.out HS.out HSh4.out (by omega) HK1.out).mono ?_
  rintro e w5 ⟨g5, T5, rfl, hsh, _, _⟩
  have HSh5 := hid hsh
  have HB5 := hid hsh.below
  clear hsh
  go_wp2_with fail
  refine (sh_readYes HD.out HO.out HSh5.out HK1.out (by omega) (by omega) (i := 3) (l := [7]) (by omega) (by rw [noChg_cont]; rfl)).mono ?_
  rintro e w6 ⟨⟨A6, k6, c6, rfl, hs6, _⟩, T6, hsh, _, _⟩
  have HSl6 := hid hs6
  have HB6 := hid hsh.below
  clear hs6 hsh
  go_wp2_with fail
  refine (same_any _ _ _ _ _ _ _ _ _ _ _ (HSl6.out.on ((Below.refl _ _).alloc (Nat.le_refl _) _)) (sl_one w6 7)).mono ?_
  rintro e w7 ⟨rfl, k7, rfl⟩
  rw [same_self]
  have HB7 := hid (below_drewN (HB6.out.alloc HB6.out.size (.cells #[.int .u8 7] 5)) k7)
  go_wp2
  go_ret
  exact ⟨rfl, HB7.out⟩
end
end Go.Proofs.YtaonhbmimaiiiaaGreatDoor
