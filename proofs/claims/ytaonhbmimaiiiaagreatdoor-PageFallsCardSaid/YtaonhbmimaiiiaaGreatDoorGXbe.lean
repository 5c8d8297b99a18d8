/- Put together out of 3 texts. Package page's laws: room; a store on a new device. -/
import Derived.Test.YtaonhbmimaiiiaaGreatDoorGXbd
import Derived.Test.YtaonhbmimaiiiaaGreatDoorGXab
import Derived.Deep.Slices
namespace Go.Proofs.YtaonhbmimaiiiaaGreatDoor
open Go.RowKit Go.Maps

theorem filt_at {α : Type} (p : α → Bool) (d : α) (l : List α) : (l.filter p).length = ((List.range l.length).filter fun i => p (l.getD i d)).length := by
  have e : l = (List.range l.length).map fun i => l.getD i d := by
    apply List.ext_getElem?
    intro i
    rcases Nat.lt_or_ge i l.length with h | h
    · simp [h]
    · simp [h]
  have h : (l.filter p).length = (((List.range l.length).map fun i => l.getD i d).filter p).length := by rw [← e]
  rw [h, List.filter_map, List.length_map]
  rfl
theorem filt_apart (p q r : Nat → Bool) (l : List Nat) (h1 : ∀ x, x ∈ l → p x = true → q x = true → False) (h2 : ∀ x, x ∈ l → p x = true ∨ q x = true → r x = true) : (l.filter p).length + (l.filter q).length ≤ (l.filter r).length := by
  induction l with
  | nil => simp
  | cons a l ih =>
    have ih := ih (fun x hx => h1 x (List.mem_cons_of_mem _ hx)) (fun x hx => h2 x (List.mem_cons_of_mem _ hx))
    have a1 := h1 a (List.mem_cons_self ..)
    have a2 := h2 a (List.mem_cons_self ..)
    rw [List.filter_cons, List.filter_cons, List.filter_cons]
    rcases hp : p a with _ | _ <;> rcases hq : q a with _ | _ <;> rcases hr : r a with _ | _ <;> rw [hp, hq] at a1 a2 <;> simp only [if_true, Bool.false_eq_true, if_false, List.length_cons] <;> first | omega | exact (a1 rfl rfl).elim | (rw [hr] at a2; exact absurd (a2 (by simp)) (by simp))
theorem rising_filt {m : Nat} {l : List Nat} (h : l.Pairwise (· < ·)) (hm : ∀ x, x ∈ l → x < m) : l.length = ((List.range m).filter fun i => l.contains i).length := by
  have hn : l.Nodup := h.imp (fun h => Nat.ne_of_lt h)
  refine ((List.perm_ext_iff_of_nodup hn (List.nodup_range.filter _)).2 (fun a => ?_)).length_eq
  rw [List.mem_filter, List.mem_range, List.contains_iff_mem]
  exact ⟨fun ha => ⟨hm a ha, ha⟩, fun ha => ha.2⟩
theorem pages_rising (P : PS) (ch : Chg) : (pagesOf P ch).Pairwise (· < ·) := (List.Pairwise.filter _ List.pairwise_lt_range).filter _
section
variable {P : PS} {ch : Chg} {cont : Cont} {H : Nat}
/-- as many pages as will be there, twice, and 40: there is room -/
theorem fits_room (hk : Fine H P cont) {N : Nat} (hN : ∀ i, N ≤ i → contC cont ch i = none) (h : 2 * N + 40 ≤ H) : fitsB P ch H = true := by
  have hcl := cut_len hk.len (keysOf ch)
  have c1 : ((P.cut (keysOf ch)).pgs.filter points).length + (pagesOf P ch).length ≤ N := by
    rw [filt_at points (0, 0), hcl.p, rising_filt (pages_rising P ch) (m := 256) (fun x hx => (pagesOf_is hx).1)]
    refine Nat.le_trans (filt_apart _ _ (fun i => decide (i < N)) _ (fun i hi h1 h2 => ?_) (fun i hi h1 => ?_)) ?_
    · obtain ⟨_, l, hl, _⟩ := pagesOf_is (List.contains_iff_mem.1 h2)
      have hi := List.mem_range.1 hi
      obtain ⟨x, hx⟩ := hcl.page hi
      simp only [List.getD, hx, Option.getD_some] at h1
      rw [cut_pgs, if_pos (keysOf_mem.2 ⟨hi, by rw [hl]; rfl⟩)] at hx
      obtain ⟨y, _, rfl⟩ := Option.map_eq_some_iff.1 hx
      cases h1
    · have hi := List.mem_range.1 hi
      rw [decide_eq_true_eq]
      refine Nat.lt_of_not_le (fun hge => ?_)
      have hn := hN i hge
      rcases h1 with h1 | h1
      · obtain ⟨x, hx⟩ := hcl.page hi
        simp only [List.getD, hx, Option.getD_some] at h1
        rw [cut_pgs] at hx
        by_cases hm : i ∈ keysOf ch
        · rw [if_pos hm] at hx
          obtain ⟨y, _, rfl⟩ := Option.map_eq_some_iff.1 hx
          cases h1
        · rw [if_neg hm] at hx
          have hc : ch i = none := by
            rcases hc : ch i with _ | l
            · rfl
            · exact absurd (keysOf_mem.2 ⟨hi, by rw [hc]; rfl⟩) hm
          rw [contC_none hc] at hn
          rcases hk.page i x hx with ⟨h2, _⟩ | ⟨_, ⟨l, h2, _⟩, _⟩
          · rw [h2] at h1; cases h1
          · rw [hn] at h2; cases h2
      · obtain ⟨_, l, hl, hl1⟩ := pagesOf_is (List.contains_iff_mem.1 h1)
        rw [contC_some hl hl1] at hn; cases hn
    · have := rising_len ((List.range 256).filter fun i => decide (i < N)) 0 (m := N) (List.Pairwise.filter _ List.pairwise_lt_range) (fun x hx => ⟨Nat.zero_le _, by simpa using (List.mem_filter.1 hx).2⟩)
      omega
  have c2 : ((P.cut (keysOf ch)).idx.filter points).length + (indexesOf P ch).length ≤ 7 := by
    rw [filt_at points (0, 0), hcl.i, rising_filt (indexes_rising P ch) (m := 7) (fun x hx => indexesOf_is hx)]
    refine Nat.le_trans (filt_apart _ _ (fun _ => true) _ (fun i hi h1 h2 => ?_) (fun _ _ _ => rfl)) ?_
    · have ht := (indexesOf_iff.1 (List.contains_iff_mem.1 h2)).1
      have hi := List.mem_range.1 hi
      obtain ⟨x, hx⟩ := hcl.index hi
      simp only [List.getD, hx, Option.getD_some] at h1
      rw [cut_idx, if_pos (touched_iff.1 ht)] at hx
      obtain ⟨y, _, rfl⟩ := Option.map_eq_some_iff.1 hx
      cases h1
    · exact Nat.le_trans (List.length_filter_le _ _) (by rw [List.length_range]; exact Nat.le_refl _)
  have h1 := free_len hk.apart
  have h2 := hk.room
  unfold fitsB
  rw [used_len]
  simp only [Bool.and_eq_true, decide_eq_true_eq]
  constructor <;> omega
end
theorem noChg_cont (cont : Cont) : contC cont noChg = cont := contC_nil (fun _ => rfl)
theorem pages_none {n : Nat} {P : PS} {ch : Chg} {cont : Cont} (hk : Fine (halN n) P cont) (h : ∀ i, contC cont ch i = none) : pagesTo P ch 256 = [] := by
  unfold pagesTo
  rw [List.filter_eq_nil_iff]
  intro i hi
  rw [there_cont hk (List.mem_range.1 hi), h i]; decide
section
variable {Real : World → Nat → DSt → (Nat → Prop) → Prop} {PR : World → Nat → Nat → Nat → Nat → (Nat → Prop) → Prop} {S : Nat → Addr} {w0 w w' : World} {d g n q mk : Nat} {T : Nat → Prop} {s : DSt} {P : PS} {ch : Chg} {cont : Cont}
set_option maxRecDepth 100000 in
set_option maxHeartbeats 4000000 in
theorem opened7_any (D : DevOk Real) (O : PairOk Real PR) (n : Nat) (w : World) (hS : Sent7 w S) (h0 : 300 ≤ n) (h1 : n ≤ 6000) :
    Calls Tryz.prog 14 #[.int .i64 (n : Int)] w fun e w' => ∃ g d T, e = .returned (.tuple #[.pointer (some ⟨g, 0, none⟩), .pointer (some ⟨d, 0, none⟩)]) ∧ Shop Real PR S w w' d g n 0 7 T (DSt.new n) (noPS 0) noChg ∧ Below w.heap.size w w' := by
  have HN := hid (D.new n w (by omega) h1)
  have HOp := hid (fun (w1 : World) (d : Nat) (F : Nat → Prop) (hr : Real w1 d (DSt.new n) F) (hb : Below w.heap.size w w1) (hF : ∀ k, F k → w.heap.size ≤ k) => sh_opened (w0 := w) D O hS hb hr hF (up_new h1) (by omega) h0 h1 (keeps_new h0 h1))
  clear D O hS
  go_enter Tryz.func14, Tryz.ntmps14
  go_wp2_with fail
  refine HN.out.mono ?_
  rintro e w1 ⟨d, F, rfl, hr, hb, hF⟩
  have HO1 := hid (HOp.out w1 d F hr hb hF)
  have HB1 := hid hb
  have HF1 := hid hF
  clear hr hb hF
  go_wp2_with fail
  refine HO1.out.mono ?_
  rintro e w2 ⟨g, T, rfl, hsh, ho, _⟩
  have HF := hid (show Shop Real PR S w w2 d g n 0 7 T (DSt.new n) (noPS 0) noChg ∧ Below w.heap.size w w2 from ⟨hsh, hsh.below⟩)
  clear hsh ho
  go_wp2
  go_ret2
  exact ⟨g, d, T, rfl, HF.out⟩
/-- a slice that the law writes out: one byte -/
theorem sl_one (w : World) (x : Int) : Sl (w.alloc (.cells #[.int .u8 x] 5)) (w.alloc (.cells #[.int .u8 x] 5)).heap.size (some ⟨w.heap.size, 0, none⟩) 1 1 [x] := by
  refine ⟨rfl, Nat.le_refl _, by unfold maxLen; omega, (fun h => by cases h), fun ad ha _ => ?_⟩
  cases ha
  have hb := Blk.new w 5 #[.int .u8 x]
  refine ⟨hb.lt, fun j y hy => ?_⟩
  rw [add0, Blk.cell hb]
  rcases j with _ | j
  · simp at hy; subst hy; rfl
  · simp at hy
theorem byt7 : Byt [7] := fun x hx => by
  have : x = 7 := by simpa using hx
  omega
theorem put_none {ch : Chg} {p : Nat} {l : List Int} (hp : p < 256) : 0 < (keysOf (putC ch p l)).length := by
  have : p ∈ keysOf (putC ch p l) := keysOf_mem.2 ⟨hp, by simp [putC]⟩
  exact List.length_pos_of_mem this
set_option maxRecDepth 100000 in
set_option maxHeartbeats 8000000 in
theorem first7_any (D : DevOk Real) (O : PairOk Real PR) (w : World) (hS : Sent7 w S) : Calls Tryz.prog 12 #[] w (Yes w) := by
  have HD := hid D
  have HO := hid O
  have HS := hid hS
  have HOp := hid (opened7_any D O 500 w hS (by omega) (by omega))
  have hh : halN 500 = 125 := by decide
  have HK0 := hid (keeps_new (n := 500) (by omega) (by omega))
  clear D O hS
  go_enter Tryz.func12, Tryz.ntmps12
  go_wp2_with fail
  refine HOp.out.mono ?_
  rintro e w1 ⟨g, d, T, rfl, hsh, hb⟩
  have HSh1 := hid hsh
  have HB1 := hid hb
  clear hsh hb
  go_wp2_with fail
  refine (sh_pages HSh1.out).mono ?_
  rw [pages_none HK0.out.fine (fun i => by rw [noChg_cont])]
  rintro e w2 ⟨v, rfl, hown, hb⟩
  obtain ⟨A2, c2, rfl, _, _⟩ := hown.form
  have HSh2 := hid (HSh1.out.on HD.out HO.out hb)
  have HB2 := hid (HB1.out.trans (hb.mono HB1.out.size))
  clear hown hb
  go_wp2_with fail
  refine (sh_write HD.out HO.out (HSh2.out.on HD.out HO.out ((Below.refl _ _).alloc (Nat.le_refl _) _)) (i := 3) (by omega) (sl_one w2 7) (by omega) (by omega) byt7).mono ?_
  rintro e w3 ⟨rfl, T3, hsh, _, _⟩
  have HSh3 := hid hsh
  have HB3 := hid hsh.below
  clear hsh
  have hfit : fitsB (noPS 0) (putC noChg 3 [7]) (halN 500) = true := fits_room HK0.out.fine (N := 4) (fun i hi => by
    have h1 : (putC noChg 3 [7]) i = none := by unfold putC noChg; rw [if_neg (by omega)]
    rw [contC_none h1]) (by rw [hh]; omega)
  have HK1 := hid (keeps_commit HK0.out (up_new (by omega)) (by omega) HSh3.out.chg.1 HSh3.out.chg.2 hfit).2.2
  go_wp2_with fail
  refine (sh_commit HD.out HO.out HS.out HSh3.out HK0.out (put_none (by omega)) hfit (by omega)).mono ?_
  rintro e w4 ⟨rfl, T4, hsh, _, _⟩
  have HSh4 := hid hsh
  have HB4 := hid hsh.below
  clear hsh hfit
  go_wp2_with fail
  refine (sh_open HD.out HO.out HS.out HSh4.out (by omega) HK1.out).mono ?_
  rintro e w5 ⟨g5, T5, rfl, hsh, _, _⟩
  have HSh5 := hid hsh
  have HB5 := hid hsh.below
  clear hsh
  go_wp2_with fail
  refine (sh_readYes HD.out HO.out HSh5.out HK1.out (by omega) (by omega) (i := 3) (l := [7]) (by omega) (by rw [noChg_cont]; rfl)).mono ?_
  rintro e w6 ⟨⟨A6, k6, c6, rfl, hs6, _⟩, T6, hsh, _, _⟩
  have HSl6 := hid hs6
  have HB6 := hid hsh.below
  clear hs6 hsh
  go_wp2_with fail
  refine (same_any _ _ _ _ _ _ _ _ _ _ _ (HSl6.out.on ((Below.refl _ _).alloc (Nat.le_refl _) _)) (sl_one w6 7)).mono ?_
  rintro e w7 ⟨rfl, k7, rfl⟩
  rw [same_self]
  have HB7 := hid (below_drewN (HB6.out.alloc HB6.out.size (.cells #[.int .u8 7] 5)) k7)
  go_wp2
  go_ret
  exact ⟨rfl, HB7.out⟩
end
end Go.Proofs.YtaonhbmimaiiiaaGreatDoor
namespace Go.Proofs.YtaonhbmimaiiiaaGreatDoor
open Go.ChangeShapes Go.WideShapes Go.ChangeAt Go.RowKit

/-- an act -/
structure Stq where
  k : Int
  n : Int
  B : Option Addr
  nB : Nat
  cB : Nat
  lB : List Int
instance : Inhabited Stq := ⟨⟨0, 0, none, 0, 0, []⟩⟩
def Stq.cell (s : Stq) : Nat → Option Value
  | 0 => some (.int .i64 s.k)
  | 1 => some (.int .i64 s.n)
  | 2 => some (.slice s.B s.nB s.cB)
  | _ => none
structure StqOk (w : World) (h : Nat) (s : Stq) : Prop where
  k0 : -9223372036854775808 ≤ s.k
  k1 : s.k ≤ 9223372036854775807
  n0 : -9223372036854775808 ≤ s.n
  n1 : s.n ≤ 9223372036854775807
  hB : Sl w h s.B s.nB s.cB s.lB
  yB : Byt s.lB
/-- a slice of acts in memory -/
structure Doq (w : World) (h : Nat) (A : Option Addr) (len : Nat) (T : Nat → Stq) : Prop where
  nil : A = none → len = 0
  max : len ≤ maxLen
  lt : ∀ ad, A = some ad → 0 < len → ad.block < h
  at_ : ∀ ad, A = some ad → ∀ i, i < len → ∀ j, j < 3 → w.cell? (ad.add (i * 3 + j)) = (T i).cell j
  ok : ∀ i, i < len → StqOk w h (T i)
theorem StqOk.below {w w' : World} {h : Nat} {s : Stq} (o : StqOk w h s) (hb : Below h w w') : StqOk w' h s :=
  { o with hB := o.hB.below hb }
theorem Doq.below {w w' : World} {h len : Nat} {A : Option Addr} {T : Nat → Stq} (d : Doq w h A len T) (hb : Below h w w') : Doq w' h A len T :=
  { d with
    at_ := fun ad ha i hi j hj => (hb.cell (by rw [add_block]; exact d.lt ad ha (by omega))).trans (d.at_ ad ha i hi j hj)
    ok := fun i hi => (d.ok i hi).below hb }
theorem rowQ_of {H : Type} {enc : TypeId × Value → H} {W : World} {k : IntKind} {t e fuel : Nat} {v : Value} {x : DataW H × List MemPlace} (ht : Tryz.prog.underlying t = some (.slice e)) (he : Tryz.prog.underlying e = some (.int k)) (hc : Tryz.prog.cellsOf e = 1)
    (h : DataW.trod enc Tryz.prog W 0 (fun _ => true) true fuel t [v] = some x) : ∃ a len cap zs, v = .slice a len cap ∧ IsRow k W a len cap zs := by
  rcases open_ints ht he hc h with ⟨hcs, _⟩ | ⟨a, l, c, zs, hcs, _, hl, hm, hz, _, hcell, hwz⟩
  · simp at hcs
    exact ⟨none, 0, 0, [], hcs, .inl ⟨rfl, rfl, rfl, rfl⟩⟩
  · simp at hcs
    exact ⟨some a, l, c, zs, hcs, .inr ⟨_, rfl, hl, hm, by simpa using hz, hcell, hwz⟩⟩
theorem len3q {α : Type} {l : List α} (h : l.length = 3) : ∃ a b c, l = [a, b, c] := by
  match l, h with
  | [a, b, c], _ => exact ⟨a, b, c, rfl⟩
theorem stq_cells {s : Stq} {j : Nat} (hj : j < 3) : s.cell j = [Value.int .i64 s.k, .int .i64 s.n, .slice s.B s.nB s.cB][j]? := by
  match j, hj with
  | 0, _ => rfl
  | 1, _ => rfl
  | 2, _ => rfl
set_option maxRecDepth 100000 in
theorem doq_of {H : Type} {enc : TypeId × Value → H} {W : World} {fuel len cap : Nat} {A : Option Addr} {x : DataW H × List MemPlace}
    (h : DataW.trod enc Tryz.prog W 0 (fun _ => true) true fuel 22 [.slice A len cap] = some x) : ∃ T, Doq W W.heap.size A len T := by
  have ce : Tryz.prog.cellsOf 36 = 3 := by kernel_rfl
  rcases Go.Deep.open_slice Tryz.underlying22 h with ⟨hcs, _⟩ | ⟨a, l, c, m, n, D, Pl, hcs, hb, hl, hm, hmm, _, hx⟩
  · simp at hcs
    obtain ⟨rfl, rfl, rfl⟩ := hcs
    exact ⟨fun _ => default, fun _ => rfl, Nat.zero_le _, fun _ h => (by cases h), fun _ h => (by cases h), fun i hi => absurd hi (Nat.not_lt_zero _)⟩
  · simp at hcs
    obtain ⟨rfl, rfl, rfl⟩ := hcs
    have hlm : len ≤ m := by rw [hmm]; simpa using hl
    have each : ∀ i, i < len → ∃ s : Stq, (∀ j, j < 3 → W.cell? (a.add (i * 3 + j)) = s.cell j) ∧ StqOk W W.heap.size s := by
      intro i hi
      obtain ⟨cs', h1, h2⟩ := hx i (by omega)
      rw [ce] at h1
      obtain ⟨_, hlen, hcell⟩ := World.cells?_some h1
      obtain ⟨xs, k, hk, _, _, hxl, hf⟩ := DataW.trod_struct Tryz.underlying36 h2
      obtain ⟨v0, v1, v2, rfl⟩ := len3q hlen
      obtain ⟨y0, y1, y2, rfl⟩ := len3q hxl
      have c3 : Tryz.prog.cellsOf 3 = 1 := by kernel_rfl
      have c5 : Tryz.prog.cellsOf 5 = 1 := by kernel_rfl
      have c33 : Tryz.prog.cellsOf 30 = 1 := by kernel_rfl
      have g0 := hf 0 _ rfl
      have g1 := hf 1 _ rfl
      have g2 := hf 2 _ rfl
      simp [c3] at g0 g1
      simp [c33] at g2
      obtain ⟨n0, e0, _, w0⟩ := DataW.trod_int Tryz.underlying3 g0
      obtain ⟨n1, e1, _, w1⟩ := DataW.trod_int Tryz.underlying3 g1
      obtain ⟨a5, l5, p5, z5, e5, r5⟩ := rowQ_of Tryz.underlying30 Tryz.underlying5 c5 g2
      simp at e0 e1
      subst e0 e1 e5
      have b0 := bounds_i64 w0
      have b1 := bounds_i64 w1
      refine ⟨⟨n0, n1, a5, l5, p5, z5.take l5⟩, fun j hj => ?_, ⟨?_, ?_, ?_, ?_, sl_of_row r5, byt_of_row r5⟩⟩
      · have hc := hcell j hj
        rw [Go.Deep.add_add] at hc
        rw [hc]
        exact (stq_cells (s := ⟨n0, n1, a5, l5, p5, z5.take l5⟩) hj).symm
      all_goals (simp only []; omega)
    obtain ⟨T, hT⟩ := Go.Deep.choose_lt each
    refine ⟨T, fun h => (by cases h), by omega, fun ad ha h0 => ?_, fun ad ha i hi => ?_, fun i hi => (hT i hi).2⟩
    · cases ha
      have := (hT 0 h0).1 0 (by omega)
      exact (by have := World.block_lt_of_cell? W _ this; rwa [add_block] at this)
    · cases ha
      exact (hT i hi).1
/-- few acts, each small -/
def Light (T : Nat → Stq) (len most : Nat) : Prop := len ≤ most ∧ ∀ i, i < len → (T i).nB ≤ 300 ∧ ((T i).n < 30 ∨ 256 ≤ (T i).n)
set_option maxRecDepth 100000 in
set_option maxHeartbeats 4000000 in
theorem light_any (A : Option Addr) (len cap most : Nat) (T : Nat → Stq) (w : World) (hd : Doq w w.heap.size A len T) (hm : most ≤ 1000) :
    Calls Tryz.prog 13 #[.slice A len cap, .int .i64 (most : Int)] w fun e w' => ∃ b, e = .returned (.bool b) ∧ w' = w ∧ (b = true → Light T len most) := by
  have HDos := hid hd
  have HM := hid hm
  have hmx : len ≤ 9223372036854775807 := by have := hd.max; unfold maxLen at this; omega
  clear hd hm
  go_enter Tryz.func13, Tryz.ntmps13
  go_wp2
  go_loopw [5] (fun i wr => ∃ k : Nat, k ≤ len ∧ i = .int .i64 (k : Int) ∧ wr = w ∧ ∀ i, i < k → (T i).nB ≤ 300 ∧ ((T i).n < 30 ∨ 256 ≤ (T i).n)) (fun i _ => len - (intOf i).toNat)
  case atStart => exact ⟨0, Nat.zero_le _, rfl, rfl, fun _ h => by omega⟩
  case round =>
    obtain ⟨k, hk, rfl, rfl, hal⟩ := hrel
    have HAl := hid hal
    clear hal
    by_cases hlt : k < len
    · obtain ⟨ad, had⟩ : ∃ ad, A = some ad := by
        rcases hA : A with _ | ad
        · have := HDos.out.nil hA; omega
        · exact ⟨ad, rfl⟩
      subst had
      have c1 := HDos.out.at_ ad rfl k hlt 1 (by omega)
      have c2 := HDos.out.at_ ad rfl k hlt 2 (by omega)
      have HT := hid (HDos.out.ok k hlt)
      rw [add_atR ad (k * 3) (by omega)] at c1 c2
      simp only [Stq.cell] at c1 c2
      have HX := hid (show ∀ (x : Stq), T k = x → x.nB ≤ 300 → (x.n < 30 ∨ 256 ≤ x.n) → ∀ i, i < k + 1 → (T i).nB ≤ 300 ∧ ((T i).n < 30 ∨ 256 ≤ (T i).n) from fun x hx h1 h2 i hi => by
        by_cases e : i = k
        · subst e; rw [hx]; exact ⟨h1, h2⟩
        · exact HAl.out i (by omega))
      obtain ⟨tk, htk⟩ : ∃ t, T k = t := ⟨_, rfl⟩
      have HK := hid htk
      rw [htk] at c1 c2 HT
      clear htk
      by_cases hb : (300 : Int) < (tk.nB : Int)
      · have h1 : decide ((300 : Int) < (tk.nB : Int)) = true := by simpa using hb
        clear hb
        go_wp2
        go_ret
        exact ⟨_, rfl, rfl, fun h => by cases h⟩
      · have h1 : decide ((300 : Int) < (tk.nB : Int)) = false := by simpa using hb
        have HB := hid (show tk.nB ≤ 300 by omega)
        clear hb
        by_cases hn : (30 : Int) ≤ tk.n
        · have h2 : decide ((30 : Int) ≤ tk.n) = true := by simpa using hn
          have h2' : decide (tk.n < (30 : Int)) = false := by simpa using hn
          by_cases hn2 : tk.n < 256
          · have h3 : decide (tk.n < (256 : Int)) = true := by simpa using hn2
            clear hn hn2
            go_wp2
            go_ret
            exact ⟨_, rfl, rfl, fun h => by cases h⟩
          · have h3 : decide (tk.n < (256 : Int)) = false := by simpa using hn2
            have HN := hid (show (tk.n < 30 ∨ 256 ≤ tk.n) by omega)
            clear hn hn2
            go_wp2
            go_roundw
            case rel => exact ⟨k + 1, by omega, by go_num, by trivial, HX.out tk HK.out HB.out HN.out⟩
            case measure => simp [intOf]; omega
        · have h2 : decide ((30 : Int) ≤ tk.n) = false := by simpa using hn
          have h2' : decide (tk.n < (30 : Int)) = true := by simp; omega
          have HN := hid (show (tk.n < 30 ∨ 256 ≤ tk.n) by omega)
          clear hn
          go_wp2
          go_roundw
          case rel => exact ⟨k + 1, by omega, by go_num, by trivial, HX.out tk HK.out HB.out HN.out⟩
          case measure => simp [intOf]; omega
    · have hke : k = len := by omega
      have HF := hid (show decide ((len : Int) ≤ (most : Int)) = true → Light T len most from fun h => ⟨by have := of_decide_eq_true h; omega, fun i hi => HAl.out i (by omega)⟩)
      go_wp2
      go_ret
      exact ⟨_, rfl, rfl, fun h => HF.out (by simpa using h)⟩
set_option maxRecDepth 100000 in
set_option maxHeartbeats 4000000 in
theorem sameN_any (A A' : Option Addr) (n c n' c' : Nat) (l m : List Int) (B B' : Nat) (w : World) (h : Sn w B A n c l) (h' : Sn w B' A' n' c' m) :
    Calls Tryz.prog 55 #[.slice A n c, .slice A' n' c'] w (Quiet w (.bool (sameB l m))) := by
  have HS := hid h
  have HS' := hid h'
  clear h h'
  have hmx : n ≤ 9223372036854775807 := by have := HS.out.cap; have := HS.out.max; unfold maxLen at this; omega
  by_cases hne : n = n'
  · subst hne
    go_enter Tryz.func55, Tryz.ntmps55
    go_wp2
    go_loopw [5] (fun i wr => ∃ k q : Nat, k ≤ n ∧ i = .int .i64 (k : Int) ∧ l.take k = m.take k ∧ wr = w.drewN q) (fun i _ => n - (intOf i).toNat)
    case atStart => exact ⟨0, 0, Nat.zero_le _, rfl, rfl, rfl⟩
    case round =>
      obtain ⟨k, q, hk, rfl, ht, rfl⟩ := hrel
      have HT := hid ht
      clear ht
      by_cases hlt : k < n
      · obtain ⟨ad, x, rfl, hbl, hx, hc⟩ := HS.out.get hlt
        obtain ⟨ad', y, rfl, hbl', hy, hc'⟩ := HS'.out.get hlt
        have HX := hid hx
        have HY := hid hy
        clear hx hy hbl hbl'
        by_cases hxy : x = y
        · have hb : (x == y) = true := by rw [beq_iff_eq]; exact hxy
          have HXY := hid hxy
          clear hxy
          go_wp2_with fail
          go_quiet (fail)
          go_wp2
          go_roundw
          case rel => exact ⟨k + 1, _, by omega, by go_num, by rw [take_next HX.out, take_next HY.out, HT.out, HXY.out], rfl⟩
          case measure => simp [intOf]; omega
        · have hb : (x == y) = false := by rw [beq_eq_false_iff_ne]; exact hxy
          have HR := hid (same_not HX.out HY.out hxy)
          clear hxy
          go_wp2_with fail
          go_quiet (fail)
          go_wp2
          go_ret
          rw [HR.out]
          exact ⟨rfl, _, rfl⟩
      · go_wp2
        go_ret
        rw [same_end HS.out.len HS'.out.len hlt HT.out]
        exact ⟨rfl, _, rfl⟩
  · have HR := hid (same_len (l := l) (m := m) (by rw [HS.out.len, HS'.out.len]; exact hne))
    have hb : ((n : Int) != (n' : Int)) = true := by rw [bne_iff_ne]; omega
    clear hne
    go_enter Tryz.func55, Tryz.ntmps55
    go_wp2
    go_ret
    rw [HR.out]
    exact ⟨rfl, 0, rfl⟩
end Go.Proofs.YtaonhbmimaiiiaaGreatDoor
namespace Go.Proofs.YtaonhbmimaiiiaaGreatDoor
open Go.RowKit Go.Maps

/-- n cells -/
def fnL (n : Nat) (f : Nat → Value) : List Value := (List.range n).map f
theorem fnL_len (n : Nat) (f : Nat → Value) : (fnL n f).length = n := by simp [fnL]
theorem fnL_at {n i : Nat} (f : Nat → Value) (h : i < n) : (fnL n f)[i]? = some (f i) := by
  unfold fnL; rw [List.getElem?_map, List.getElem?_range h]; rfl
theorem fnL_off {n i : Nat} (f : Nat → Value) (h : n ≤ i) : (fnL n f)[i]? = none := List.getElem?_eq_none (by rw [fnL_len]; exact h)
theorem fnL_of {n : Nat} {f : Nat → Value} {l : List Value} (hl : l.length = n) (h : ∀ i, i < n → l[i]? = some (f i)) : l = fnL n f := by
  apply List.ext_getElem?
  intro j
  rcases Nat.lt_or_ge j n with hj | hj
  · rw [h j hj, fnL_at _ hj]
  · rw [fnL_off _ hj, List.getElem?_eq_none (by omega)]
/-- one cell anew -/
def upF (f : Nat → Value) (p : Nat) (x : Value) : Nat → Value := fun i => if i = p then x else f i
/-- m cells from o on anew -/
def putF (f : Nat → Value) (o m : Nat) (h : Nat → Value) : Nat → Value := fun i => if o ≤ i ∧ i < o + m then h (i - o) else f i
theorem upF_at (f : Nat → Value) (p : Nat) (x : Value) : upF f p x p = x := by unfold upF; rw [if_pos rfl]
theorem upF_ne (f : Nat → Value) {p i : Nat} (x : Value) (h : i ≠ p) : upF f p x i = f i := by unfold upF; rw [if_neg h]
theorem putF_at (f : Nat → Value) {o m i : Nat} (h : Nat → Value) (hi : i < m) : putF f o m h (o + i) = h i := by unfold putF; rw [if_pos ⟨by omega, by omega⟩, Nat.add_sub_cancel_left]
theorem putF_ne (f : Nat → Value) {o m i : Nat} (h : Nat → Value) (hi : i < o ∨ o + m ≤ i) : putF f o m h i = f i := by unfold putF; rw [if_neg (by omega)]
section
variable {w w' : World} {g n : Nat} {t : TypeId} {f : Nat → Value}
theorem blkF_cell (h : Blk w g t (fnL n f).toArray) {i : Nat} (hi : i < n) : w.cell? ⟨g, i, none⟩ = some (f i) := by
  rw [Blk.cell h]; simp only [List.getElem?_toArray]; exact fnL_at f hi
theorem blkF_up (h : Blk w g t (fnL n f).toArray) (p : Nat) (x : Value) : Blk (w.setCell ⟨g, p, none⟩ x) g t (fnL n (upF f p x)).toArray := by
  have h1 := h.put p x
  rw [List.setIfInBounds_toArray] at h1
  have e : (fnL n f).set p x = fnL n (upF f p x) := fnL_of (by rw [List.length_set, fnL_len]) (fun i hi => by
    rw [List.getElem?_set]
    by_cases e : p = i
    · subst e; rw [if_pos rfl, if_pos (by rw [fnL_len]; exact hi), upF_at]
    · rw [if_neg e, fnL_at _ hi, upF_ne _ _ (fun h => e h.symm)])
  rwa [e] at h1
theorem blkF_range (h : Blk w g t (fnL n f).toArray) {o m : Nat} (hm : o + m ≤ n) : w.rangeAt g o (fnL m (fun i => f (o + i))) := fun j v hv => by
  rcases Nat.lt_or_ge j m with hj | hj
  · rw [fnL_at _ hj] at hv
    rw [blkF_cell h (by omega)]; exact hv
  · rw [fnL_off _ hj] at hv; cases hv
theorem blkF_there (h : Blk w g t (fnL n f).toArray) {o m : Nat} (hm : o + m ≤ n) : w.there g o m := fun j hj =>
  ⟨by rw [blkF_cell h (by omega)]; rfl, Blk.free h _⟩
theorem blkF_puts (h : Blk w g t (fnL n f).toArray) {o m : Nat} (hm : o + m ≤ n) (x : Nat → Value) : Blk (w.setCells g o (fnL m x)) g t (fnL n (putF f o m x)).toArray := by
  have e1 : fnL n f = fnL o f ++ (fnL m (fun i => f (o + i)) ++ fnL (n - (o + m)) (fun i => f (o + m + i))) := by
    symm
    refine fnL_of (by simp only [List.length_append, fnL_len]; omega) (fun i hi => ?_)
    rcases Nat.lt_or_ge i o with h1 | h1
    · rw [List.getElem?_append_left (by rw [fnL_len]; exact h1), fnL_at _ h1]
    · rw [List.getElem?_append_right (by rw [fnL_len]; exact h1), fnL_len]
      rcases Nat.lt_or_ge i (o + m) with h2 | h2
      · rw [List.getElem?_append_left (by rw [fnL_len]; omega), fnL_at _ (by omega), show o + (i - o) = i by omega]
      · rw [List.getElem?_append_right (by rw [fnL_len]; omega), fnL_len, fnL_at _ (by omega), show o + m + (i - o - m) = i by omega]
  have e2 : fnL o f ++ (fnL m x ++ fnL (n - (o + m)) (fun i => f (o + m + i))) = fnL n (putF f o m x) := by
    refine fnL_of (by simp only [List.length_append, fnL_len]; omega) (fun i hi => ?_)
    rcases Nat.lt_or_ge i o with h1 | h1
    · rw [List.getElem?_append_left (by rw [fnL_len]; exact h1), fnL_at _ h1, putF_ne _ _ (.inl h1)]
    · rw [List.getElem?_append_right (by rw [fnL_len]; exact h1), fnL_len]
      rcases Nat.lt_or_ge i (o + m) with h2 | h2
      · rw [List.getElem?_append_left (by rw [fnL_len]; omega), fnL_at _ (by omega)]
        have := putF_at f (o := o) (m := m) (i := i - o) x (by omega)
        rw [show o + (i - o) = i by omega] at this; rw [this]
      · rw [List.getElem?_append_right (by rw [fnL_len]; omega), fnL_len, fnL_at _ (by omega), show o + m + (i - o - m) = i by omega, putF_ne _ _ (.inr h2)]
  rw [e1] at h
  have h2 := blk_setCells (fnL m x) (fnL m (fun i => f (o + i))) (fnL o f) w (by rw [fnL_len, fnL_len]) h
  rw [fnL_len, e2] at h2
  exact h2
end
theorem fnL_one {n : Nat} {f : Nat → Value} (h : ∀ i, i < n → (f i).oneCell' = true) : ∀ v ∈ fnL n f, v.oneCell' = true := fun v hv => by
  obtain ⟨i, hi, rfl⟩ := List.mem_map.1 hv
  exact h i (List.mem_range.1 hi)
/-- what a store has: pages by number, as they are, as they were committed -/
structure Mdl where
  now : Nat → List Int
  was : Nat → List Int
  on : Nat → Bool
  had : Nat → Bool
  ep : Int
  tch : Nat → Bool
/-- .. in the cells f; the slices lie outside of T -/
structure MdOk (w : World) (T : Nat → Prop) (f : Nat → Value) (M : Mdl) : Prop where
  now : ∀ i, i < 30 → ∃ A n c, f i = .slice A n c ∧ Sl w w.heap.size A n c (M.now i) ∧ ∀ ad, A = some ad → 0 < n → ¬ T ad.block
  was : ∀ i, i < 30 → ∃ A n c, f (30 + i) = .slice A n c ∧ Sl w w.heap.size A n c (M.was i) ∧ ∀ ad, A = some ad → 0 < n → ¬ T ad.block
  on : ∀ i, i < 30 → f (60 + i) = .bool (M.on i)
  had : ∀ i, i < 30 → f (90 + i) = .bool (M.had i)
  ep : f 120 = .int .i64 M.ep
  tch : ∀ i, i < 30 → f (121 + i) = .bool (M.tch i)
section
variable {w w' : World} {T T' K : Nat → Prop} {f : Nat → Value} {M : Mdl}
theorem sl_apart {A : Option Addr} {n c : Nat} {l : List Int} (h : Sl w w.heap.size A n c l ∧ ∀ ad, A = some ad → 0 < n → ¬ T ad.block) (ho : Only K w w') (hK : ∀ k, K k → T k ∨ w.heap.size ≤ k) (hT : ∀ k, T' k → T k ∨ w.heap.size ≤ k) : Sl w' w'.heap.size A n c l ∧ ∀ ad, A = some ad → 0 < n → ¬ T' ad.block := by
  refine ⟨h.1.only ho (fun ad ha h0 hk => ?_), fun ad ha h0 hk => ?_⟩
  · rcases hK _ hk with h1 | h1
    · exact h.2 ad ha h0 h1
    · have := (h.1.at_ ad ha h0).1; omega
  · rcases hT _ hk with h1 | h1
    · exact h.2 ad ha h0 h1
    · have := (h.1.at_ ad ha h0).1; omega
theorem MdOk.only (h : MdOk w T f M) (ho : Only K w w') (hK : ∀ k, K k → T k ∨ w.heap.size ≤ k) (hT : ∀ k, T' k → T k ∨ w.heap.size ≤ k) : MdOk w' T' f M :=
  { h with
    now := fun i hi => by
      obtain ⟨A, n, c, h1, h2⟩ := h.now i hi
      exact ⟨A, n, c, h1, sl_apart h2 ho hK hT⟩
    was := fun i hi => by
      obtain ⟨A, n, c, h1, h2⟩ := h.was i hi
      exact ⟨A, n, c, h1, sl_apart h2 ho hK hT⟩ }
theorem MdOk.below (h : MdOk w T f M) (hb : Below w.heap.size w w') : MdOk w' T f M := h.only (K := fun _ => False) (Only.of_below hb) (fun _ h => h.elim) (fun _ h => .inl h)
theorem MdOk.setTch (h : MdOk w T f M) (p : Nat) (hp : p < 30) (b : Bool) : MdOk w T (upF f (121 + p) (.bool b)) { M with tch := fun i => if i = p then b else M.tch i } where
  now := fun i hi => by rw [upF_ne _ _ (by omega)]; exact h.now i hi
  was := fun i hi => by rw [upF_ne _ _ (by omega)]; exact h.was i hi
  on := fun i hi => by rw [upF_ne _ _ (by omega)]; exact h.on i hi
  had := fun i hi => by rw [upF_ne _ _ (by omega)]; exact h.had i hi
  ep := by rw [upF_ne _ _ (by omega)]; exact h.ep
  tch := fun i hi => by
    by_cases e : i = p
    · subst e; rw [upF_at]; simp
    · rw [upF_ne _ _ (by omega), h.tch i hi]; simp [e]
theorem MdOk.setOn (h : MdOk w T f M) (p : Nat) (hp : p < 30) (b : Bool) : MdOk w T (upF f (60 + p) (.bool b)) { M with on := fun i => if i = p then b else M.on i } where
  now := fun i hi => by rw [upF_ne _ _ (by omega)]; exact h.now i hi
  was := fun i hi => by rw [upF_ne _ _ (by omega)]; exact h.was i hi
  on := fun i hi => by
    by_cases e : i = p
    · subst e; rw [upF_at]; simp
    · rw [upF_ne _ _ (by omega), h.on i hi]; simp [e]
  had := fun i hi => by rw [upF_ne _ _ (by omega)]; exact h.had i hi
  ep := by rw [upF_ne _ _ (by omega)]; exact h.ep
  tch := fun i hi => by rw [upF_ne _ _ (by omega)]; exact h.tch i hi
theorem MdOk.setNow (h : MdOk w T f M) (p : Nat) (hp : p < 30) {A : Option Addr} {n c : Nat} {l : List Int} (hl : Sl w w.heap.size A n c l) (hA : ∀ ad, A = some ad → 0 < n → ¬ T ad.block) : MdOk w T (upF f p (.slice A n c)) { M with now := fun i => if i = p then l else M.now i } where
  now := fun i hi => by
    by_cases e : i = p
    · subst e; rw [upF_at]; simp only [if_true]; exact ⟨A, n, c, rfl, hl, hA⟩
    · rw [upF_ne _ _ e]; simp only [if_neg e]; exact h.now i hi
  was := fun i hi => by rw [upF_ne _ _ (by omega)]; exact h.was i hi
  on := fun i hi => by rw [upF_ne _ _ (by omega)]; exact h.on i hi
  had := fun i hi => by rw [upF_ne _ _ (by omega)]; exact h.had i hi
  ep := by rw [upF_ne _ _ (by omega)]; exact h.ep
  tch := fun i hi => by rw [upF_ne _ _ (by omega)]; exact h.tch i hi
theorem MdOk.setEp (h : MdOk w T f M) (e : Int) : MdOk w T (upF f 120 (.int .i64 e)) { M with ep := e } where
  now := fun i hi => by rw [upF_ne _ _ (by omega)]; exact h.now i hi
  was := fun i hi => by rw [upF_ne _ _ (by omega)]; exact h.was i hi
  on := fun i hi => by rw [upF_ne _ _ (by omega)]; exact h.on i hi
  had := fun i hi => by rw [upF_ne _ _ (by omega)]; exact h.had i hi
  ep := upF_at ..
  tch := fun i hi => by rw [upF_ne _ _ (by omega)]; exact h.tch i hi
/-- now = was -/
theorem MdOk.backNow (h : MdOk w T f M) : MdOk w T (putF f 0 30 (fun i => f (30 + i))) { M with now := M.was } where
  now := fun i hi => by
    have := putF_at f (o := 0) (m := 30) (i := i) (fun i => f (30 + i)) hi
    rw [Nat.zero_add] at this; rw [this]; exact h.was i hi
  was := fun i hi => by rw [putF_ne _ _ (by omega)]; exact h.was i hi
  on := fun i hi => by rw [putF_ne _ _ (by omega)]; exact h.on i hi
  had := fun i hi => by rw [putF_ne _ _ (by omega)]; exact h.had i hi
  ep := by rw [putF_ne _ _ (by omega)]; exact h.ep
  tch := fun i hi => by rw [putF_ne _ _ (by omega)]; exact h.tch i hi
/-- on = had -/
theorem MdOk.backOn (h : MdOk w T f M) : MdOk w T (putF f 60 30 (fun i => f (90 + i))) { M with on := M.had } where
  now := fun i hi => by rw [putF_ne _ _ (by omega)]; exact h.now i hi
  was := fun i hi => by rw [putF_ne _ _ (by omega)]; exact h.was i hi
  on := fun i hi => by rw [putF_at _ _ hi]; exact h.had i hi
  had := fun i hi => by rw [putF_ne _ _ (by omega)]; exact h.had i hi
  ep := by rw [putF_ne _ _ (by omega)]; exact h.ep
  tch := fun i hi => by rw [putF_ne _ _ (by omega)]; exact h.tch i hi
/-- nothing is touched -/
theorem MdOk.clear (h : MdOk w T f M) : MdOk w T (putF f 121 30 (fun _ => .bool false)) { M with tch := fun _ => false } where
  now := fun i hi => by rw [putF_ne _ _ (by omega)]; exact h.now i hi
  was := fun i hi => by rw [putF_ne _ _ (by omega)]; exact h.was i hi
  on := fun i hi => by rw [putF_ne _ _ (by omega)]; exact h.on i hi
  had := fun i hi => by rw [putF_ne _ _ (by omega)]; exact h.had i hi
  ep := by rw [putF_ne _ _ (by omega)]; exact h.ep
  tch := fun i hi => by rw [putF_at _ _ hi]
theorem MdOk.oneNow (h : MdOk w T f M) : ∀ i, i < 30 → (f i).oneCell' = true := fun i hi => by
  obtain ⟨A, n, c, h1, _⟩ := h.now i hi
  rw [h1]; rfl
theorem MdOk.oneWas (h : MdOk w T f M) : ∀ i, i < 30 → (f (30 + i)).oneCell' = true := fun i hi => by
  obtain ⟨A, n, c, h1, _⟩ := h.was i hi
  rw [h1]; rfl
theorem MdOk.oneOn (h : MdOk w T f M) : ∀ i, i < 30 → (f (60 + i)).oneCell' = true := fun i hi => by rw [h.on i hi]; rfl
theorem MdOk.oneHad (h : MdOk w T f M) : ∀ i, i < 30 → (f (90 + i)).oneCell' = true := fun i hi => by rw [h.had i hi]; rfl
end
/-- a new one -/
def mdl0 : Mdl := ⟨fun _ => [], fun _ => [], fun _ => false, fun _ => false, 0, fun _ => false⟩
def mdl0F : Nat → Value := fun i => if i < 60 then .slice none 0 0 else if i = 120 then .int .i64 0 else .bool false
theorem mdOk_new (w : World) (T : Nat → Prop) : MdOk w T mdl0F mdl0 where
  now := fun i hi => ⟨none, 0, 0, by unfold mdl0F; rw [if_pos (by omega)], Sl.empty _ _, fun _ h => by cases h⟩
  was := fun i hi => ⟨none, 0, 0, by unfold mdl0F; rw [if_pos (by omega)], Sl.empty _ _, fun _ h => by cases h⟩
  on := fun i hi => by unfold mdl0F; rw [if_neg (by omega), if_neg (by omega)]; rfl
  had := fun i hi => by unfold mdl0F; rw [if_neg (by omega), if_neg (by omega)]; rfl
  ep := rfl
  tch := fun i hi => by unfold mdl0F; rw [if_neg (by omega), if_neg (by omega)]; rfl
theorem Tryz.size_bools : (Tryz.prog.info? 32).map (·.size) = some 30 := by kernel_rfl
theorem Tryz.size_pages : (Tryz.prog.info? 31).map (·.size) = some 30 := by kernel_rfl
theorem Tryz.size_model : (Tryz.prog.info? 34).map (·.size) = some 151 := by kernel_rfl
theorem Tryz.built_bools : Tryz.prog.built 32 [] = some (fnL 30 (fun _ => .bool false)).toArray := by kernel_rfl
end Go.Proofs.YtaonhbmimaiiiaaGreatDoor
