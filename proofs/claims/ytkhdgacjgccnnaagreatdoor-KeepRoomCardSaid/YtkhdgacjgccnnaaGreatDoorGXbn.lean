/- Put together out of 3 texts. relaid over any leaves. -/
import Derived.Test.YtkhdgacjgccnnaaGreatDoorGXbm
import Derived.Deep.RegionHeld3
import Derived.Test.YtkhdgacjgccnnaaGreatDoorGXbl
import Derived.Test.YtkhdgacjgccnnaaGreatDoorGXbj
namespace Go.Proofs.YtkhdgacjgccnnaaGreatDoor
open Go.RowKit

theorem RSl.head {w : World} {B n c e : Nat} {A : Option Addr} {l : List Rec} (h : RSl w B A n c l) (he : e ≤ n) : RSl w B A e c (l.take e) := by
  have hl := h.len
  refine ⟨by rw [List.length_take]; omega, by have := h.cap; omega, h.max, h.nil, fun ad ha h0 => ?_⟩
  obtain ⟨h1, h2⟩ := h.at_ ad ha (by omega)
  refine ⟨h1, fun k x hx => h2 k x ?_⟩
  rw [List.getElem?_take] at hx
  split at hx
  · exact hx
  · cases hx
theorem RSl.cut {w : World} {B n c e : Nat} {A : Option Addr} {l : List Rec} (h : RSl w B A n c l) (he : e ≤ n) : RSl w B (if c = e then A else A.map (·.add (e * 2))) (n - e) (c - e) (l.drop e) := by
  have hl := h.len
  have hc := h.cap
  refine ⟨by rw [List.length_drop]; omega, by omega, by have := h.max; omega, ?_, ?_⟩
  · intro hA
    by_cases hce : c = e
    · omega
    · rw [if_neg hce] at hA
      rcases A with _ | a
      · have := h.nil rfl; omega
      · cases hA
  · intro ad ha h0
    rw [if_neg (by omega)] at ha
    rcases A with _ | a
    · cases ha
    · obtain ⟨h1, h2⟩ := h.at_ a rfl (by omega)
      obtain rfl : a.add (e * 2) = ad := by injection ha
      refine ⟨by rw [add_block]; exact h1, fun j x hx => ?_⟩
      rw [List.getElem?_drop] at hx
      obtain ⟨c1, c2⟩ := h2 (e + j) x hx
      rw [add_add', add_add', show e * 2 + j * 2 = (e + j) * 2 by omega, show e * 2 + (j * 2 + 1) = (e + j) * 2 + 1 by omega]
      exact ⟨c1, c2⟩
/-- whose memory the leaves' records are in -/
def QRel (w : World) (A : Option Addr) (z : Nat) : Prop := (∃ a, A = some a ∧ a.block = z) ∨ w.heap.size ≤ z
/-- behind k old leaves -/
structure RelAt (w wr : World) (A Ar : Option Addr) (nr cr : Nat) (L0 : List Lf) (l rest : List Rec) (ov : Value) (R : List Lf) (k : Nat) : Prop where
  recs : RSl w w.heap.size Ar nr cr rest
  sub : ∀ a, Ar = some a → ∃ a0, A = some a0 ∧ a.block = a0.block
  own : LOwn wr w.heap.size (QRel w A) ov R
  rel : ∃ done, RelOk (L0.take k) done R ∧ done ++ rest = l
  bel : Below w.heap.size w wr
theorem RelAt.step {w wr w2 w3 : World} {A Ar : Option Addr} {nr cr e k : Nat} {L0 : List Lf} {l rest : List Rec} {ov v3 : Value} {R : List Lf} {x : Lf} {P : List (List Rec)} (h : RelAt w wr A Ar nr cr L0 l rest ov R k) (hx : L0[k]? = some x) (he : e ≤ nr) (hP : CutOk (rest.take e) P) (hb : Below wr.heap.size wr w2) (ho : LOwn w3 w.heap.size (QAdd w2 (QRel w A) Ar) v3 (addL R x.1 P)) (hn : Only (fun z => ov.ownBlock = some z) w2 w3) :
    RelAt w w3 A (if cr = e then Ar else Ar.map (·.add (e * 2))) (nr - e) (cr - e) L0 l (rest.drop e) v3 (addL R x.1 P) (k + 1) := by
  have hb2 : Below w.heap.size w w2 := h.bel.trans (hb.mono h.bel.size)
  refine ⟨h.recs.cut he, fun a ha => ?_, ho.weak (fun z hz => ?_), ?_, hb2.trans (hn.below hb2.size (fun i hi => (h.own.lt i hi).1))⟩
  · by_cases hce : cr = e
    · rw [if_pos hce] at ha
      exact h.sub a ha
    · rw [if_neg hce] at ha
      rcases Ar with _ | a0
      · cases ha
      · obtain rfl : a0.add (e * 2) = a := by injection ha
        obtain ⟨b0, h1, h2⟩ := h.sub a0 rfl
        exact ⟨b0, h1, by rw [add_block]; exact h2⟩
  · rcases hz with hz | ⟨a, ha, rfl⟩ | hz
    · exact hz
    · obtain ⟨b0, h1, h2⟩ := h.sub a ha
      exact .inl ⟨b0, h1, h2.symm⟩
    · exact .inr (Nat.le_trans hb2.size hz)
  · obtain ⟨done, h1, h2⟩ := h.rel
    exact ⟨done ++ rest.take e, h1.step hx hP, by rw [List.append_assoc, List.take_append_drop]; exact h2⟩
set_option maxRecDepth 100000 in
set_option maxHeartbeats 4000000 in
theorem relaid_any (Ao : Option Addr) (no co : Nat) (L0 : List Lf) (A : Option Addr) (n c : Nat) (l : List Rec) (w : World) (hL0 : LSl w w.heap.size Ao no co L0) (hne : ∀ x, x ∈ L0 → x.2 ≠ []) (h : RSl w w.heap.size A n c l) (hr : Ris l) (hn : n ≤ 800) (hs : RszS l) (h248 : ∀ x, x ∈ l → (recB x).length ≤ 248) (hno : no ≤ 800) (hAb : ∀ a, A = some a → a.block < w.heap.size) :
    Calls Tryz.prog 19 #[.slice Ao no co, .slice A n c] w fun e w' => ∃ v' R, e = .returned v' ∧ LOwn w' w.heap.size (QRel w A) v' R ∧ RelOk L0 l R ∧ Below w.heap.size w w' := by
  have HL0 := hid hL0
  have HNe := hid hne
  have HR := hid h
  have HRs := hid hr
  have HSz := hid (And.intro hs h248)
  have HAb := hid hAb
  have H0 := hid (show RelAt w w A A n c L0 l l (.slice none 0 0) [] 0 from ⟨h, fun a ha => ⟨a, ha, rfl⟩, lown_nil _ _ _, ⟨[], RelOk.start L0, rfl⟩, Below.refl _ _⟩)
  have hnI : (n : Int) ≤ 800 := by omega
  have hoI : (no : Int) ≤ 800 := by omega
  clear hL0 hne h hr hs h248 hAb
  go_enter Tryz.func19, Tryz.ntmps19
  go_wp2
  go_loopw [1, 5, 11] (fun rv ov iv wr => ∃ (k nr cr : Nat) (Ar : Option Addr) (rest : List Rec) (R : List Lf), rv = .slice Ar nr cr ∧ iv = .int .i64 (k : Int) ∧ k ≤ no ∧ Hid (RelAt w wr A Ar nr cr L0 l rest ov R k)) (fun _ _ iv _ => no - (intOf iv).toNat)
  case atStart => exact ⟨0, n, c, A, l, [], rfl, rfl, Nat.zero_le _, H0⟩
  case round =>
    obtain ⟨k, nr, cr, Ar, rest, R, rfl, rfl, hk, HRS⟩ := hrel
    have hsub : ∀ y, y ∈ rest → y ∈ l := fun y hy => by
      obtain ⟨done, _, e⟩ := HRS.out.rel
      rw [← e]
      exact List.mem_append_right _ hy
    have hrr : Ris rest := by
      obtain ⟨done, _, e⟩ := HRS.out.rel
      have h1 := HRs.out
      rw [← e] at h1
      exact (List.pairwise_append.1 h1).2.1
    have hcount : R.length + nr ≤ 800 := by
      obtain ⟨done, h1, e⟩ := HRS.out.rel
      have h2 := h1.ok.count
      rw [h1.recs] at h2
      have h3 := congrArg List.length e
      rw [List.length_append, HRS.out.recs.len, HR.out.len] at h3
      omega
    have HRr := hid hrr
    have HSub := hid hsub
    have HCn := hid hcount
    have HA := hid (fun (W : World) (hb : Below wr.heap.size wr W) (e : Nat) (he : e ≤ nr) (p : Int) => added_any u5 w.heap.size (QRel w A) R p Ar e cr (rest.take e) W (HRS.out.own.on hb) (by obtain ⟨_, h1, _⟩ := HRS.out.rel; exact h1.ok) (Nat.le_trans HRS.out.bel.size hb.size) (RSl.head ((HRS.out.recs.on HRS.out.bel).on hb) he) (by omega) (fun y hy => HSz.out.1 y (hsub y (List.mem_of_mem_take hy))) (fun y hy => HSz.out.2 y (hsub y (List.mem_of_mem_take hy))) (fun a ha g hg e2 => by
        obtain ⟨a0, h1, h2⟩ := HRS.out.sub a ha
        have h3 := HAb.out a0 h1
        have h4 := (HRS.out.own.lt g hg).1
        omega) (by omega) (fun y hy z hz => by
        obtain ⟨done, h1, e3⟩ := HRS.out.rel
        have h4 := recsOf_mem hy hz
        rw [h1.recs] at h4
        exact HSz.out.1 z (by rw [← e3]; exact List.mem_append_left _ h4)))
    have hnr : nr ≤ 800 := by omega
    have hcm : (cr : Int) ≤ 9223372036854775807 := by have := HRS.out.recs.max; unfold maxLen at this; omega
    clear hsub hrr hcount
    by_cases hlt : k < no
    · obtain ⟨ad0, x, r, n', c', rfl, _, hx, c0, c1, _⟩ := ((HL0.out.on HRS.out.bel)).get hlt
      obtain ⟨p, lx⟩ := x
      have HX0 := hid hx
      have HLb := hid (show ¬ u5.ownBlock = some wr.heap.size from fun e => by have := (HRS.out.own.lt _ e).2; omega)
      have hb1 : Below wr.heap.size wr (wr.alloc (.cells #[.int .i64 p, .slice (some r) n' c'] 77)) := (Below.refl _ _).alloc (Nat.le_refl _) _
      have HB1 := hid hb1
      have hk0 := hid ((Blk.new wr 77 #[.int .i64 p, .slice (some r) n' c']).cell 0)
      have HLw := hid (HL0.out.on (HRS.out.bel.trans (hb1.mono HRS.out.bel.size)))
      clear hx hb1
      by_cases hk1 : k + 1 < no
      · obtain ⟨q1, hq1e⟩ : ∃ q1, k + 1 = q1 := ⟨_, rfl⟩
        rw [hq1e] at hk1
        obtain ⟨ad9, y, r2, n2, c2, e9, _, hy, d0, d1, hr2⟩ := HLw.out.get hk1
        obtain rfl : ad9 = ad0 := (Option.some.inj e9).symm
        have hn2 : 0 < n2 := by
          have h2 := hr2.len
          rcases Nat.eq_zero_or_pos n2 with e | e
          · exact absurd (List.eq_nil_of_length_eq_zero (by omega)) (HNe.out y (List.mem_of_getElem? hy))
          · exact e
        obtain ⟨r9, x2, e8, _, hx2, f0, _⟩ := hr2.get hn2
        obtain rfl : r9 = r2 := (Option.some.inj e8).symm
        rw [Nat.zero_mul, Addr.add_zero'] at f0
        have hkk : (k : Int) + 1 = (q1 : Int) := by omega
        have HQ1 := hid hq1e
        have hq1I : (q1 : Int) < no := by omega
        have hn2I : (0 : Int) < n2 := by omega
        clear hy hr2 e9 e8 hx2 hq1e
        go_upto_region 6 with fail
        generalize wr.alloc (.cells #[.int .i64 p, .slice (some r) n' c'] 77) = W1 at HB1 hk0 HLw d0 d1 f0 ⊢
        obtain ⟨lb, hlb⟩ : ∃ lb, wr.heap.size = lb := ⟨_, rfl⟩
        rw [hlb] at HLb hk0 ⊢
        have HLbw := hid hlb
        clear c0 c1 hlb
        go_wp2_with fail
        refine (findR_any Ar nr cr rest x2.1 W1 ((HRS.out.recs.on HRS.out.bel).on HB1.out) HRr.out (by have := HRS.out.recs.len; omega)).mono ?_
        rintro e w2 ⟨ie, rfl, hlow, hb2⟩
        have HIe := hid (show ie ≤ nr from by have := hlow.le; have := HRS.out.recs.len; omega)
        have HB2 := hid (HB1.out.trans (hb2.mono HB1.out.size))
        have kz : w2.cell? ⟨lb, 0, none⟩ = some (.int .i64 p) := (hb2.cell (World.block_lt_of_cell? W1 _ hk0.out)).trans hk0.out
        generalize isAt rest x2.1 ie = bt
        clear hlow hb2 d0 d1 f0 hk0
        have HSO := hid (And.intro HB2.out HIe.out)
        have hec : (ie : Int) ≤ (cr : Int) := by have := HRS.out.recs.cap; have := HSO.out.2; omega
        have hen : (ie : Int) ≤ (nr : Int) := by have := HSO.out.2; omega
        go_upto_region 8 with fail
        have k1 : w2.drew.cell? ⟨lb, 0, none⟩ = some (.int .i64 p) := kz
        have HK1 := hid k1
        have HCL := hid (HA.out w2.drew (HSO.out.1.drew) ie HSO.out.2 p)
        go_region_held3 (fun w' => w'.cell? ⟨lb, 0, none⟩ = some (.int .i64 p)) (first | exact k1 | exact k2)
          ((first
            | (go_at_call 33; refine HCL.out.mono ?_; rintro e w3 ⟨v3, P, rfl, hct, ho3, hon3, hbl3⟩; have k2 : w3.cell? ⟨lb, 0, none⟩ = some (.int .i64 p) := (World.cell?_of_block (hon3.block lb (World.block_lt_of_cell? _ _ HK1.out) HLb.out)).trans HK1.out; have HC3 := hid hct; have HO3 := hid ho3; have HN3 := hid hon3; clear hct ho3 hon3 hbl3)))
        have HST := hid (HRS.out.step HX0.out HSO.out.2 HC3.out HSO.out.1.drew HO3.out HN3.out)
        rw [HQ1.out] at HST
        clear HA HCL
        by_cases hce : cr = ie
        · rw [if_pos hce] at HST
          go_wp2
          refine ⟨⟨q1, _, _, _, _, _, rfl, rfl, by omega, hid (by have h9 := HST.out; simp only [hce, Nat.sub_self] at h9 ⊢; exact h9)⟩, ?_⟩
          have := HQ1.out
          simp [intOf]; omega
        · rw [if_neg hce] at HST
          go_wp2
          refine ⟨⟨q1, _, _, _, _, _, rfl, rfl, by omega, hid (by have h9 := HST.out; exact h9)⟩, ?_⟩
          have := HQ1.out
          simp [intOf]; omega
      · go_upto_region 6 with fail
        generalize wr.alloc (.cells #[.int .i64 p, .slice (some r) n' c'] 77) = W1 at HB1 hk0 HLw ⊢
        obtain ⟨lb, hlb⟩ : ∃ lb, wr.heap.size = lb := ⟨_, rfl⟩
        rw [hlb] at HLb hk0 ⊢
        have kz : W1.cell? ⟨lb, 0, none⟩ = some (.int .i64 p) := hk0.out
        have hkt : decide (k + 1 < no) = false := decide_eq_false hk1
        clear hk0 c0 c1 hlb
        have HSO := hid (And.intro HB1.out (Nat.le_refl nr))
        have hec : (nr : Int) ≤ (cr : Int) := by have := HRS.out.recs.cap; have := HSO.out.2; omega
        have hen : (nr : Int) ≤ (nr : Int) := by have := HSO.out.2; omega
        go_upto_region 8 with fail
        have k1 : W1.drew.cell? ⟨lb, 0, none⟩ = some (.int .i64 p) := kz
        have HK1 := hid k1
        have HCL := hid (HA.out W1.drew (HSO.out.1.drew) nr HSO.out.2 p)
        go_region_held3 (fun w' => w'.cell? ⟨lb, 0, none⟩ = some (.int .i64 p)) (first | exact k1 | exact k2)
          ((first
            | (go_at_call 33; refine HCL.out.mono ?_; rintro e w3 ⟨v3, P, rfl, hct, ho3, hon3, hbl3⟩; have k2 : w3.cell? ⟨lb, 0, none⟩ = some (.int .i64 p) := (World.cell?_of_block (hon3.block lb (World.block_lt_of_cell? _ _ HK1.out) HLb.out)).trans HK1.out; have HC3 := hid hct; have HO3 := hid ho3; have HN3 := hid hon3; clear hct ho3 hon3 hbl3)))
        have HST := hid (HRS.out.step HX0.out HSO.out.2 HC3.out HSO.out.1.drew HO3.out HN3.out)
        clear HA HCL
        by_cases hce : cr = nr
        · rw [if_pos hce] at HST
          go_wp2
          refine ⟨⟨k + 1, _, _, _, _, _, rfl, by go_num, by omega, hid (by have h9 := HST.out; simp only [hce, Nat.sub_self] at h9 ⊢; exact h9)⟩, ?_⟩
          simp [intOf]; omega
        · rw [if_neg hce] at HST
          go_wp2
          refine ⟨⟨k + 1, _, _, _, _, _, rfl, by go_num, by omega, hid (by have h9 := HST.out; (try simp only [Nat.sub_self] at h9); exact h9)⟩, ?_⟩
          simp [intOf]; omega

    · have hkn : k = no := by omega
      have HCL := hid (HA.out wr (Below.refl _ _) nr (Nat.le_refl nr) (-1))
      have hkf : decide (k < no) = false := decide_eq_false hlt
      clear HA
      go_wp2_with fail
      refine HCL.out.mono ?_
      rintro e w3 ⟨v3, P, rfl, hct, ho3, hon3, _⟩
      have hrt : rest.take nr = rest := List.take_of_length_le (by rw [HRS.out.recs.len]; exact Nat.le_refl _)
      rw [hrt] at hct
      have HRel := hid (show RelOk L0 l (addL R (-1) P) from by
        obtain ⟨done, h1, h2⟩ := HRS.out.rel
        rw [hkn, List.take_of_length_le (by rw [HL0.out.len]; exact Nat.le_refl _)] at h1
        rw [← h2]
        exact h1.last hct)
      have HO3 := hid (show LOwn w3 w.heap.size (QRel w A) v3 (addL R (-1) P) from ho3.weak (fun z hz => by
        rcases hz with hz | ⟨a, ha, rfl⟩ | hz
        · exact hz
        · obtain ⟨b0, h1, h2⟩ := HRS.out.sub a ha
          exact .inl ⟨b0, h1, h2.symm⟩
        · exact .inr (Nat.le_trans HRS.out.bel.size hz)))
      have HB3 := hid (HRS.out.bel.trans (hon3.below HRS.out.bel.size (fun i hi => (HRS.out.own.lt i hi).1)))
      clear hct ho3 hon3 hrt hkn
      go_wp2
      go_ret
      exact ⟨v3, _, rfl, HO3.out, HRel.out, HB3.out⟩
end Go.Proofs.YtkhdgacjgccnnaaGreatDoor
namespace Go.Proofs.YtkhdgacjgccnnaaGreatDoor
open Go.RowKit

/-- what comes to be changed, up to page p -/
def wrK (P : PS) (R5 R6 : Nat → List Rec) : Nat → Chg
  | 0 => noChg
  | p + 1 => if R6 p = [] then dropC P (wrK P R5 R6 p) p else if R6 p = R5 p then wrK P R5 R6 p else putC (wrK P R5 R6 p) p (laidR (R6 p))
/-- a table of slices of records, read -/
def TabR (w : World) (T : Nat → Prop) (f : Nat → Value) (R : Nat → List Rec) : Prop := ∀ p, ∃ A n c, f p = .slice A n c ∧ RSl w w.heap.size A n c (R p) ∧ ∀ a, A = some a → 0 < n → ¬ T a.block
theorem TabR.one {w : World} {T : Nat → Prop} {f : Nat → Value} {R : Nat → List Rec} (h : TabR w T f R) (p : Nat) : (f p).oneCell' = true := by
  obtain ⟨A, n, c, e, _⟩ := h p
  rw [e]; rfl
theorem TabR.at_ {w w' : World} {T : Nat → Prop} {f : Nat → Value} {R : Nat → List Rec} (h : TabR w T f R) (hs : w.heap.size ≤ w'.heap.size) (hk : ∀ k, k < w.heap.size → ¬ T k → w'.heap[k]? = w.heap[k]?) (p : Nat) : ∃ A n c, f p = .slice A n c ∧ RSl w' w'.heap.size A n c (R p) := by
  obtain ⟨A, n, c, e, hr, hT⟩ := h p
  exact ⟨A, n, c, e, hr.same hs (fun a ha h0 => hk _ (hr.at_ a ha h0).1 (hT a ha h0))⟩
section
variable {Real : World → Nat → DSt → (Nat → Prop) → Prop} {PR : World → Nat → Nat → Nat → Nat → (Nat → Prop) → Prop} {S : Nat → Addr} {w0 w : World} {d g n q mk : Nat} {T : Nat → Prop} {s : DSt} {P : PS}
theorem eqRec_yesK (A A' : Option Addr) (n c n' c' : Nat) (l : List Rec) (B B' : Nat) (w : World) (h : RSl w B A n c l) (h' : RSl w B' A' n' c' l) :
    Calls Tryz.prog 15 #[.slice A n c, .slice A' n' c'] w (Quiet w (.bool true)) := by
  refine (eqRec_any A A' n c n' c' l l B B' w h h').mono ?_
  rintro e w' ⟨b, q, rfl, hb, rfl⟩
  refine ⟨?_, q, rfl⟩
  rcases b with _ | _
  · exact absurd (hb.2 rfl) (by decide)
  · rfl
set_option maxRecDepth 100000 in
set_option maxHeartbeats 8000000 in
theorem kWriteK_any (D : DevOk Real) (O : PairOk Real PR) (kb : Nat) (nv lv lw : Value) (f5 f6 : Nat → Value) (R5 R6 : Nat → List Rec)
    (h : Shop Real PR S w0 w d g n q mk T s P noChg) (hkb : Blk w kb 51 #[.pointer (some ⟨g, 0, none⟩), nv, lv]) (hkT : ¬ T kb)
    (hby5 : ∀ W, Below w.heap.size w W → Calls Tryz.prog 42 #[lv] W fun e w' => e = .returned (.agg (arS f5)) ∧ Below W.heap.size W w')
    (hby6 : ∀ W, Below w.heap.size w W → Calls Tryz.prog 42 #[lw] W fun e w' => e = .returned (.agg (arS f6)) ∧ Below W.heap.size W w')
    (h5 : TabR w T f5 R5) (h6 : TabR w T f6 R6) (hfit : ∀ p, (laidR (R6 p)).length ≤ 248 ∧ RszS (R6 p) ∧ (R6 p).length ≤ 10000) :
    Calls Tryz.prog 31 #[.pointer (some ⟨kb, 0, none⟩), lw] w fun e w' => e = .returned .nilIface ∧ ShopUpd Real PR S w0 w d g n q mk T s P (wrK P R5 R6 256) w' := by
  have HD := hid D
  have HO := hid O
  have HSh := hid h
  have HKb := hid hkb
  have HBy5 := hid hby5
  have HBy6 := hid hby6
  have HT5 := hid h5
  have HT6 := hid h6
  have HFit := hid hfit
  have HkT := hid (And.intro hkT hkb.lt)
  have HTl := hid (h.lt D O)
  have a0 := hkb.cell 0
  have a2 := hkb.cell 2
  simp at a0 a2
  clear D O h hkb hby5 hby6 h5 h6 hfit hkT
  go_enter Tryz.func31, Tryz.ntmps31
  go_wp2_with fail
  refine (HBy5.out _ (Below.refl _ _)).mono ?_
  rintro e w1 ⟨rfl, hb1⟩
  have HB1 := hid hb1
  clear hb1
  go_wp2_with fail
  refine (HBy6.out w1 HB1.out).mono ?_
  rintro e w2 ⟨rfl, hb2⟩
  have HB2 := hid (HB1.out.trans (hb2.mono HB1.out.size))
  clear hb2
  have e5 : (Blk ((w2.alloc (.cells Tryz.zeroCells103 103)).alloc (.cells Tryz.zeroCells103 103)) w2.heap.size 103 Tryz.zeroCells103) := (Blk.new w2 _ _).alloc _
  have e6 : (Blk ((w2.alloc (.cells Tryz.zeroCells103 103)).alloc (.cells Tryz.zeroCells103 103)) (w2.heap.size + 1) 103 Tryz.zeroCells103) := by
    have h := Blk.new (w2.alloc (.cells Tryz.zeroCells103 103)) 103 Tryz.zeroCells103
    rwa [World.size_alloc] at h
  have E5 := hid e5
  have E6 := hid e6
  clear e5 e6
  go_upto_region 2 with (first
    | (refine wpList_store_row rfl 103 (.tmp 5) (.tmp 13) rfl w2.heap.size (arS f5) rfl rfl 103 Tryz.zeroCells103 E5.out (by rw [arS_size]; exact Tryz.size256) (by rw [Tryz.zero256]; simp only [arS_size]) (arS_one HT5.out.one) ?_)
    | (refine wpList_store_row rfl 103 (.tmp 6) (.tmp 15) rfl (w2.heap.size + 1) (arS f6) rfl rfl 103 Tryz.zeroCells103 (E6.out.setRow (by omega) _) (by rw [arS_size]; exact Tryz.size256) (by rw [Tryz.zero256]; simp only [arS_size]) (arS_one HT6.out.one) ?_))
  have h5 : Blk ((((w2.alloc (.cells Tryz.zeroCells103 103)).alloc (.cells Tryz.zeroCells103 103)).setRow w2.heap.size (arS f5)).setRow (w2.heap.size + 1) (arS f6)) w2.heap.size 103 (arS f5) := Blk.setRow (setRow_heap _ _ _ _ _ _ E5.out) (by omega) _
  have h6 : Blk ((((w2.alloc (.cells Tryz.zeroCells103 103)).alloc (.cells Tryz.zeroCells103 103)).setRow w2.heap.size (arS f5)).setRow (w2.heap.size + 1) (arS f6)) (w2.heap.size + 1) 103 (arS f6) := setRow_heap _ _ _ _ _ _ (E6.out.setRow (by omega) _)
  have hb3 : Below w2.heap.size w2 ((((w2.alloc (.cells Tryz.zeroCells103 103)).alloc (.cells Tryz.zeroCells103 103)).setRow w2.heap.size (arS f5)).setRow (w2.heap.size + 1) (arS f6)) := below_setRow (below_setRow (((Below.refl _ _).alloc (Nat.le_refl _) _).alloc (by simp) _) (Nat.le_refl _) _) (by omega) _
  generalize ((((w2.alloc (.cells Tryz.zeroCells103 103)).alloc (.cells Tryz.zeroCells103 103)).setRow w2.heap.size (arS f5)).setRow (w2.heap.size + 1) (arS f6)) = w3 at h5 h6 hb3 ⊢
  have H5 := hid h5
  have H6 := hid h6
  have HB3 := hid (HB2.out.trans (hb3.mono HB2.out.size))
  have HSh3 := hid (HSh.out.on HD.out HO.out HB3.out)
  have HKb3 := hid (HKb.out.below HB3.out HKb.out.lt)
  have HNT := hid (show (¬ T (w2.heap.size + 1) ∧ w2.heap.size + 1 < w3.heap.size) ∧ (¬ T w2.heap.size ∧ w2.heap.size < w3.heap.size) from ⟨⟨fun hk => by have h1 := HTl.out _ hk; have h2 := HB2.out.size; omega, h6.lt⟩, ⟨fun hk => by have h1 := HTl.out _ hk; have h2 := HB2.out.size; omega, h5.lt⟩⟩)
  obtain ⟨tb, htb⟩ : ∃ tb, w2.heap.size = tb := ⟨_, rfl⟩
  rw [htb] at H5 H6 HNT ⊢
  clear h5 h6 hb3 E5 E6 a0 a2 htb HB2 HB1
  go_wp2
  go_loopw [16] (fun iv wr => ∃ p : Nat, p ≤ 256 ∧ iv = .int .i64 (p : Int) ∧ Hid (ShopUpd Real PR S w0 w3 d g n q mk T s P (wrK P R5 R6 p) wr)) (fun iv _ => 256 - (intOf iv).toNat)
  case atStart => exact ⟨0, Nat.zero_le _, rfl, ⟨T, HSh3.out, Only.refl _ _, fun k hk => .inl hk⟩⟩
  case round =>
    obtain ⟨p, hp, rfl, HUp⟩ := hrel
    by_cases hp2 : p < 256
    · obtain ⟨T1, hs1, ho1, ht1⟩ := HUp.out
      have HHeap := hid (show ∀ k, k < w.heap.size → ¬ T k → wr.heap[k]? = w.heap[k]? from fun k hk hT => (ho1.block k (Nat.lt_of_lt_of_le hk HB3.out.size) hT).trans (HB3.out.block k hk))
      have HSize := hid (show w.heap.size ≤ wr.heap.size from Nat.le_trans HB3.out.size ho1.size)
      obtain ⟨A5, n5, c5, e5, hr5⟩ := HT5.out.at_ HSize.out HHeap.out p
      obtain ⟨A6, n6, c6, e6, hr6⟩ := HT6.out.at_ HSize.out HHeap.out p
      have HR5 := hid hr5
      have HR6 := hid hr6
      have x1 : wr.cell? ⟨kb, 0, none⟩ = some (.pointer (some ⟨g, 0, none⟩)) := (World.cell?_of_block (a := ⟨kb, 0, none⟩) (shopUpd_cell HUp.out HKb3.out.lt HkT.out.1)).trans (by have := HKb3.out.cell 0; simpa using this)
      have x6 : wr.cell? ⟨tb + 1, p, none⟩ = some (.slice A6 n6 c6) := by
        have h1 := arS_cell (Blk.same H6.out (shopUpd_cell HUp.out HNT.out.1.2 HNT.out.1.1)) hp2
        rw [e6] at h1
        exact h1
      have x5 : wr.cell? ⟨tb, p, none⟩ = some (.slice A5 n5 c5) := by
        have h1 := arS_cell (Blk.same H5.out (shopUpd_cell HUp.out HNT.out.2.2 HNT.out.2.1)) hp2
        rw [e5] at h1
        exact h1
      have HC := hid (show ∀ W, Below wr.heap.size wr W → (W.cell? ⟨kb, 0, none⟩ = some (.pointer (some ⟨g, 0, none⟩)) ∧ W.cell? ⟨tb + 1, p, none⟩ = some (.slice A6 n6 c6)) from fun W hb => ⟨(hb.cell (World.block_lt_of_cell? wr _ x1)).trans x1, (hb.cell (World.block_lt_of_cell? wr _ x6)).trans x6⟩)
      have HS1 := hid hs1
      have HOn := hid ho1
      have HT1 := hid ht1
      have hpI : (p : Int) < 256 := by omega
      have HNb := hid (show (¬ T1 kb ∧ kb < wr.heap.size) ∧ (¬ T1 (tb + 1) ∧ tb + 1 < wr.heap.size) from ⟨⟨fun hk => by
        rcases ht1 kb hk with h1 | h1
        · exact HkT.out.1 h1
        · have := HKb3.out.lt; omega, Nat.lt_of_lt_of_le HKb3.out.lt ho1.size⟩, ⟨fun hk => by
        rcases ht1 _ hk with h1 | h1
        · exact HNT.out.1.1 h1
        · have := HNT.out.1.2; omega, Nat.lt_of_lt_of_le HNT.out.1.2 ho1.size⟩⟩)
      clear hs1 ho1 ht1 hr5 hr6 e5 e6
      by_cases hz : R6 p = []
      · have hn6 : n6 = 0 := by have := HR6.out.len; rw [hz] at this; exact this.symm
        have HWn := hid (show wrK P R5 R6 (p + 1) = dropC P (wrK P R5 R6 p) p from if_pos hz)
        have HDr := hid (sh_drop HD.out HO.out HS1.out hp2)
        have g6 : ((n6 : Int) == 0) = true := by rw [hn6]; rfl
        subst hn6
        clear hz
        go_wp2_with fail
        refine HDr.out.mono ?_
        rintro e w4 ⟨rfl, hd⟩
        rw [← HWn.out] at hd
        have HU := hid (updSeq HOn.out HT1.out hd)
        clear hd
        go_wp2
        go_roundw
        case rel => exact ⟨p + 1, by omega, by go_num, HU⟩
        case measure => simp [intOf]; omega
      · have hn6 : 0 < n6 ∧ n6 ≤ 10000 := by
          have h1 := HR6.out.len
          have h2 : (R6 p).length ≠ 0 := fun e => hz (List.eq_nil_of_length_eq_zero e)
          have h3 := (HFit.out p).2.2
          omega
        have HN6 := hid hn6
        have g6 : ((n6 : Int) == 0) = false := beq_eq_false_iff_ne.2 (by omega)
        have g7 : ¬ n6 = 0 := by omega
        by_cases he : R6 p = R5 p
        · have HWn := hid (show wrK P R5 R6 (p + 1) = wrK P R5 R6 p from (if_neg hz).trans (if_pos he))
          have HR5' := hid (show RSl wr wr.heap.size A5 n5 c5 (R6 p) from by rw [he]; exact HR5.out)
          clear hz he hn6
          go_wp2_with fail
          go_quiet ((go_at_call 15; refine Calls.quiet_of (eqRec_yesK _ _ _ _ _ _ (R6 p) _ _ _ (HR6.out.below (below_drewN (Below.refl _ _) _)) (HR5'.out.below (below_drewN (Below.refl _ _) _)))))
          have HU := hid (HUp.out.then_ HD.out HO.out (Below.refl _ _) (below_drewN (Below.refl wr.heap.size wr) nq))
          go_wp2
          go_roundw
          case rel => exact ⟨p + 1, by omega, by go_num, by rw [HWn.out]; exact HU⟩
          case measure => simp [intOf]; omega
        · have HWn := hid (show wrK P R5 R6 (p + 1) = putC (wrK P R5 R6 p) p (laidR (R6 p)) from (if_neg hz).trans (if_neg he))
          have HBt := hid (show 1 ≤ (laidR (R6 p)).length ∧ (laidR (R6 p)).length ≤ 248 ∧ Byt (laidR (R6 p)) from ⟨laidR_pos hz, (HFit.out p).1, laidR_byt (HFit.out p).2.1⟩)
          have HNe := hid he
          clear hz he hn6
          go_wp2_with fail
          go_quiet ((go_at_call 15; refine Calls.quiet_of (eqRec_no _ _ _ _ _ _ (R6 p) (R5 p) _ _ _ (HR6.out.below (below_drewN (Below.refl _ _) _)) (HR5.out.below (below_drewN (Below.refl _ _) _)) HNe.out)))
          go_wp2_with fail
          obtain ⟨W4, hW4⟩ : ∃ W, wr.drewN nq = W := ⟨_, rfl⟩
          have hbw : Below wr.heap.size wr W4.drew := by rw [← hW4]; exact (below_drewN (Below.refl _ _) _).drew
          rw [hW4]
          clear hW4 x5 x6 x1
          have HBw := hid hbw
          have HL4 := hid (kLaid_any A6 n6 c6 (R6 p) W4.drew (HR6.out.on hbw) HN6.out.2 (HFit.out p).2.1 (by have := HBt.out.2.1; omega))
          have k0 := HC.out _ hbw
          clear hbw
          go_region_held3 (fun w' => w'.cell? ⟨kb, 0, none⟩ = some (.pointer (some ⟨g, 0, none⟩)) ∧ w'.cell? ⟨tb + 1, p, none⟩ = some (.slice A6 n6 c6)) (first | exact k0 | exact k5 | exact k6)
            ((first
              | (go_at_call 45; refine HL4.out.mono ?_; rintro e w5 hm; obtain ⟨A8, m8, c8, rfl, hs5, hb5⟩ := hm.get; have k5 := HC.out w5 (HBw.out.trans (hb5.mono HBw.out.size)); have HS5 := hid hs5; have HB5 := hid (HBw.out.trans (hb5.mono HBw.out.size)); clear hm hs5 hb5)
              | (go_at_call 44; refine (sh_write HD.out HO.out (HS1.out.on HD.out HO.out HB5.out) (i := p) (by omega) HS5.out (by rw [← HS5.out.len]; exact HBt.out.1) (by rw [← HS5.out.len]; exact HBt.out.2.1) HBt.out.2.2).mono ?_; rintro e w6 ⟨rfl, hup⟩; have k6 : w6.cell? ⟨kb, 0, none⟩ = some (.pointer (some ⟨g, 0, none⟩)) ∧ w6.cell? ⟨tb + 1, p, none⟩ = some (.slice A6 n6 c6) := ⟨(World.cell?_of_block (a := ⟨kb, 0, none⟩) (shopUpd_cell hup (Nat.lt_of_lt_of_le HNb.out.1.2 HB5.out.size) HNb.out.1.1)).trans k5.1, (World.cell?_of_block (a := ⟨tb + 1, p, none⟩) (shopUpd_cell hup (Nat.lt_of_lt_of_le HNb.out.2.2 HB5.out.size) HNb.out.2.1)).trans k5.2⟩; have HUp2 := hid hup; clear hup)))
          have HU := hid (updSeq HOn.out HT1.out (HUp2.out.then_ HD.out HO.out HB5.out (Below.refl _ _)))
          go_wp2
          go_roundw
          case rel => exact ⟨p + 1, by omega, by go_num, by rw [HWn.out]; exact HU⟩
          case measure => simp [intOf]; omega
    · obtain rfl : p = 256 := by omega
      go_wp2
      go_ret
      exact ⟨rfl, HUp.out.then_ HD.out HO.out HB3.out (Below.refl _ _)⟩
end
end Go.Proofs.YtkhdgacjgccnnaaGreatDoor
namespace Go.Proofs.YtkhdgacjgccnnaaGreatDoor
open Go.RowKit

/-- the records on page p -/
def recAt (L : List Lf) (p : Nat) : List Rec := match L.find? (fun x => decide (x.1 = (p : Int))) with
  | some x => x.2
  | none => []
theorem recAt_none {L : List Lf} {p : Nat} (h : ∀ x, x ∈ L → x.1 ≠ (p : Int)) : recAt L p = [] := by
  have : L.find? (fun x => decide (x.1 = (p : Int))) = none := List.find?_eq_none.2 (fun x hx => by simpa using h x hx)
  unfold recAt
  rw [this]
theorem recAt_mem {L : List Lf} (hp : PgOk L) {x : Lf} {p : Nat} (hx : x ∈ L) (h : x.1 = (p : Int)) : recAt L p = x.2 := by
  rcases e : L.find? (fun x => decide (x.1 = (p : Int))) with _ | y
  · exact absurd h (by simpa using List.find?_eq_none.1 e x hx)
  · have hy := List.find?_some e
    have hm := List.mem_of_find?_eq_some e
    rw [decide_eq_true_iff] at hy
    obtain ⟨i, hi⟩ := List.getElem?_of_mem hx
    obtain ⟨j, hj⟩ := List.getElem?_of_mem hm
    have hij := hp.2 i j x y hi hj (by rw [h, hy]) (by rw [h]; omega)
    subst hij
    rw [hi] at hj
    cases hj
    unfold recAt
    rw [e]
theorem recAt_or (L : List Lf) (p : Nat) : recAt L p = [] ∨ ∃ x, x ∈ L ∧ x.1 = (p : Int) ∧ recAt L p = x.2 := by
  rcases e : L.find? (fun x => decide (x.1 = (p : Int))) with _ | y
  · exact .inl (by unfold recAt; rw [e])
  · have hy := List.find?_some e
    rw [decide_eq_true_iff] at hy
    exact .inr ⟨y, List.mem_of_find?_eq_some e, hy, by unfold recAt; rw [e]⟩
/-- pages' contents: the leaves -/
def ContL (cont : Cont) (L : List Lf) : Prop := ∀ p, cont p = if recAt L p = [] then none else some (laidR (recAt L p))
theorem ContL.some {cont : Cont} {L : List Lf} (h : ContL cont L) (p : Nat) : (cont p).isSome = !decide (recAt L p = []) := by
  rw [h p]
  by_cases e : recAt L p = []
  · rw [if_pos e, decide_eq_true e]; rfl
  · rw [if_neg e, decide_eq_false e]; rfl
theorem nodup_le : ∀ (a b : List Int), a.Nodup → (∀ z, z ∈ a → z ∈ b) → a.length ≤ b.length
  | [], _, _, _ => Nat.zero_le _
  | x :: a, b, h, hs => by
    obtain ⟨h1, h2⟩ := List.nodup_cons.1 h
    have hx := hs x (by simp)
    have h3 := nodup_le a (b.erase x) h2 (fun z hz => (List.mem_erase_of_ne (show z ≠ x from fun e => h1 (by rw [← e]; exact hz))).2 (hs z (by simp [hz])))
    rw [List.length_erase_of_mem hx] at h3
    have h4 : b.length ≠ 0 := fun e => by
      rw [List.eq_nil_of_length_eq_zero e] at hx
      cases hx
    rw [List.length_cons]
    omega
section
variable {P : PS} {ch : Chg} {cont : Cont} {n : Nat}
theorem wrK_off (P : PS) (R5 R6 : Nat → List Rec) : ∀ (k p : Nat), k ≤ p → wrK P R5 R6 k p = none
  | 0, _, _ => rfl
  | k + 1, p, h => by
    have ih := wrK_off P R5 R6 k p (by omega)
    unfold wrK
    have hpk : ¬ p = k := by omega
    split
    · unfold dropC
      split
      · unfold putC; rw [if_neg hpk]; exact ih
      · exact ih
    · split
      · exact ih
      · unfold putC; rw [if_neg hpk]; exact ih
theorem wrK_at (hk : Fine (halN n) P cont) (R5 R6 : Nat → List Rec) : ∀ (k p : Nat), p < k → k ≤ 256 → wrK P R5 R6 k p = (if R6 p = [] then (if (cont p).isSome = true then some [] else none) else if R6 p = R5 p then none else some (laidR (R6 p)))
  | 0, _, h, _ => absurd h (Nat.not_lt_zero _)
  | k + 1, p, h, h256 => by
    by_cases e : p = k
    · subst e
      have h0 := wrK_off P R5 R6 p p (Nat.le_refl _)
      have ht : thereB P (wrK P R5 R6 p) p = (cont p).isSome := by
        have h1 := there_cont (ch := wrK P R5 R6 p) hk (by omega : p < 256)
        rw [h1, contC_none h0]
      unfold wrK
      split
      · unfold dropC
        rw [ht]
        split
        · unfold putC; rw [if_pos rfl]
        · exact h0
      · split
        · exact h0
        · unfold putC; rw [if_pos rfl]
    · have ih := wrK_at hk R5 R6 k p (by omega) (by omega)
      rw [← ih]
      conv => lhs; unfold wrK
      split
      · unfold dropC
        split
        · unfold putC; rw [if_neg e]
        · rfl
      · split
        · rfl
        · unfold putC; rw [if_neg e]
/-- what the pages have behind it: the new leaves -/
theorem wrK_cont {L0 M : List Lf} (hk : Fine (halN n) P cont) (h : ContL cont L0) (hM : ∀ x, x ∈ M → x.1 < 256) : ContL (contC cont (wrK P (recAt L0) (recAt M) 256)) M := by
  intro p
  by_cases hp : p < 256
  · have h1 := wrK_at hk (recAt L0) (recAt M) 256 p hp (Nat.le_refl _)
    by_cases e : recAt M p = []
    · rw [if_pos e] at h1 ⊢
      by_cases e2 : (cont p).isSome = true
      · rw [if_pos e2] at h1
        exact contC_drop h1 rfl
      · rw [if_neg e2] at h1
        rw [contC_none h1]
        rcases hc : cont p with _ | l
        · rfl
        · rw [hc] at e2; exact absurd rfl e2
    · rw [if_neg e] at h1 ⊢
      by_cases e2 : recAt M p = recAt L0 p
      · rw [if_pos e2] at h1
        rw [contC_none h1, h p, if_neg (by rw [← e2]; exact e), e2]
      · rw [if_neg e2] at h1
        exact contC_some h1 (laidR_pos e)
  · have h1 := wrK_off P (recAt L0) (recAt M) 256 p (by omega)
    have h2 : recAt M p = [] := recAt_none (fun x hx e => by have := hM x hx; omega)
    rw [contC_none h1, if_pos h2]
    exact hk.off p (by omega)
/-- as many pages as there will be, twice, and 40: there is room -/
theorem fits_set (hk : Fine (halN n) P cont) {N : Nat} (hN : ((List.range 256).filter fun i => (contC cont ch i).isSome).length ≤ N) (h : 2 * N + 40 ≤ halN n) : fitsB P ch (halN n) = true := by
  have hcl := cut_len hk.len (keysOf ch)
  have c1 : ((P.cut (keysOf ch)).pgs.filter points).length + (pagesOf P ch).length ≤ N := by
    rw [filt_at points (0, 0), hcl.p, rising_filt (pages_rising P ch) (m := 256) (fun x hx => (pagesOf_is hx).1)]
    refine Nat.le_trans (filt_apart _ _ (fun i => (contC cont ch i).isSome) _ (fun i hi h1 h2 => ?_) (fun i hi h1 => ?_)) hN
    · obtain ⟨_, l, hl, _⟩ := pagesOf_is (List.contains_iff_mem.1 h2)
      have hi := List.mem_range.1 hi
      obtain ⟨x, hx⟩ := hcl.page hi
      simp only [List.getD, hx, Option.getD_some] at h1
      rw [cut_pgs, if_pos (keysOf_mem.2 ⟨hi, by rw [hl]; rfl⟩)] at hx
      obtain ⟨y, _, rfl⟩ := Option.map_eq_some_iff.1 hx
      cases h1
    · have hi := List.mem_range.1 hi
      rcases h1 with h1 | h1
      · obtain ⟨x, hx⟩ := hcl.page hi
        simp only [List.getD, hx, Option.getD_some] at h1
        rw [cut_pgs] at hx
        by_cases hm : i ∈ keysOf ch
        · rw [if_pos hm] at hx
          obtain ⟨y, _, rfl⟩ := Option.map_eq_some_iff.1 hx
          cases h1
        · rw [if_neg hm] at hx
          have hc : ch i = none := by
            rcases hc : ch i with _ | l
            · rfl
            · exact absurd (keysOf_mem.2 ⟨hi, by rw [hc]; rfl⟩) hm
          rw [contC_none hc]
          rcases hk.page i x hx with ⟨h2, _⟩ | ⟨_, ⟨l, h2, _⟩, _⟩
          · rw [h2] at h1; cases h1
          · rw [h2]; rfl
      · obtain ⟨_, l, hl, hl1⟩ := pagesOf_is (List.contains_iff_mem.1 h1)
        rw [contC_some hl hl1]; rfl
  have c2 : ((P.cut (keysOf ch)).idx.filter points).length + (indexesOf P ch).length ≤ 7 := by
    rw [filt_at points (0, 0), hcl.i, rising_filt (indexes_rising P ch) (m := 7) (fun x hx => indexesOf_is hx)]
    refine Nat.le_trans (filt_apart _ _ (fun _ => true) _ (fun i hi h1 h2 => ?_) (fun _ _ _ => rfl)) ?_
    · have ht := (indexesOf_iff.1 (List.contains_iff_mem.1 h2)).1
      have hi := List.mem_range.1 hi
      obtain ⟨x, hx⟩ := hcl.index hi
      simp only [List.getD, hx, Option.getD_some] at h1
      rw [cut_idx, if_pos (touched_iff.1 ht)] at hx
      obtain ⟨y, _, rfl⟩ := Option.map_eq_some_iff.1 hx
      cases h1
    · exact Nat.le_trans (List.length_filter_le _ _) (by rw [List.length_range]; exact Nat.le_refl _)
  have h1 := free_len hk.apart
  have h2 := hk.room
  unfold fitsB
  rw [used_len]
  simp only [Bool.and_eq_true, decide_eq_true_eq]
  constructor <;> omega
theorem contL_count {L : List Lf} (h : ContL cont L) : ((List.range 256).filter fun i => (cont i).isSome).length ≤ L.length := by
  have h1 := nodup_le (((List.range 256).filter fun i => (cont i).isSome).map (fun i : Nat => (i : Int))) (L.map (·.1)) (List.Pairwise.map _ (fun a b hab e => hab (by omega)) (List.nodup_range.filter _)) (fun z hz => by
    obtain ⟨i, hi, rfl⟩ := List.mem_map.1 hz
    have h2 := (List.mem_filter.1 hi).2
    rw [h.some] at h2
    rcases recAt_or L i with e | ⟨x, hx, hxi, _⟩
    · rw [e] at h2; simp at h2
    · exact List.mem_map.2 ⟨x, hx, hxi⟩)
  rw [List.length_map, List.length_map] at h1
  exact h1
theorem wrK_fits {L0 M : List Lf} (hk : Fine (halN n) P cont) (h : ContL cont L0) (hM : ∀ x, x ∈ M → x.1 < 256) (h40 : 2 * M.length + 40 ≤ halN n) : fitsB P (wrK P (recAt L0) (recAt M) 256) (halN n) = true :=
  fits_set hk (contL_count (wrK_cont hk h hM)) h40
/-- the same records on the same pages -/
theorem wrK_none {L0 M : List Lf} (hk : Fine (halN n) P cont) (h : ContL cont L0) (hz : (keysOf (wrK P (recAt L0) (recAt M) 256)).length = 0) (p : Nat) (hp : p < 256) : recAt M p = recAt L0 p := by
  have h0 : wrK P (recAt L0) (recAt M) 256 p = none := by
    rcases e : wrK P (recAt L0) (recAt M) 256 p with _ | l
    · rfl
    · have := keysOf_mem.2 (⟨hp, by rw [e]; rfl⟩ : p < 256 ∧ (wrK P (recAt L0) (recAt M) 256 p).isSome = true)
      rw [List.eq_nil_of_length_eq_zero hz] at this
      cases this
  rw [wrK_at hk _ _ 256 p hp (Nat.le_refl _)] at h0
  by_cases e : recAt M p = []
  · rw [if_pos e, h.some] at h0
    rcases e2 : decide (recAt L0 p = []) with _ | _
    · rw [e2] at h0; simp at h0
    · rw [e, of_decide_eq_true e2]
  · rw [if_neg e] at h0
    by_cases e2 : recAt M p = recAt L0 p
    · exact e2
    · rw [if_neg e2] at h0; cases h0
end
theorem recsOf_sub {L0 M : List Lf} (hM : PgOk M) (hg : ∀ x, x ∈ M → x.1 ≠ -1) (h : ∀ p, p < 256 → recAt M p = recAt L0 p) (r : Rec) (hr : r ∈ recsOf M) : r ∈ recsOf L0 := by
  obtain ⟨x, hx, hrx⟩ := List.mem_flatMap.1 hr
  have h1 := hM.1 x hx
  have h2 := hg x hx
  obtain ⟨p, hp⟩ : ∃ p : Nat, x.1 = (p : Int) := ⟨x.1.toNat, by omega⟩
  have h3 := h p (by omega)
  rw [recAt_mem hM hx hp] at h3
  rcases recAt_or L0 p with e | ⟨y, hy, _, e⟩
  · rw [e] at h3; rw [h3] at hrx; cases hrx
  · rw [e] at h3
    exact List.mem_flatMap.2 ⟨y, hy, by rw [← h3]; exact hrx⟩
theorem ris_eq : ∀ {a b : List Rec}, Ris a → Ris b → (∀ x, x ∈ a ↔ x ∈ b) → a = b
  | [], [], _, _, _ => rfl
  | [], y :: b, _, _, h => by have := (h y).2 (by simp); cases this
  | x :: a, [], _, _, h => by have := (h x).1 (by simp); cases this
  | x :: a, y :: b, ha, hb, h => by
    obtain ⟨a1, a2⟩ := List.pairwise_cons.1 ha
    obtain ⟨b1, b2⟩ := List.pairwise_cons.1 hb
    have hxy : x = y := by
      rcases List.mem_cons.1 ((h x).1 (by simp)) with e | e
      · exact e
      · rcases List.mem_cons.1 ((h y).2 (by simp)) with f | f
        · exact f.symm
        · have h1 := b1 x e
          have h2 := a1 y f
          rw [kc_swap] at h1
          omega
    subst hxy
    have hns : ∀ z, kc x.1 z.1 < 0 → z ≠ x := fun z hz e => by
      rw [e, kc_self] at hz
      omega
    rw [ris_eq (a := a) (b := b) a2 b2 (fun z => ⟨fun hz => (List.mem_cons.1 ((h z).1 (by simp [hz]))).resolve_left (hns z (a1 z hz)), fun hz => (List.mem_cons.1 ((h z).2 (by simp [hz]))).resolve_left (hns z (b1 z hz))⟩)]
theorem recsOf_map {L M : List Lf} (h : M.map (·.2) = L.map (·.2)) : recsOf M = recsOf L := by
  unfold recsOf
  rw [List.flatMap_def, List.flatMap_def, h]
theorem lf_map {L M : List Lf} (h : M.map (·.2) = L.map (·.2)) {x : Lf} (hx : x ∈ M) : ∃ y, y ∈ L ∧ y.2 = x.2 := by
  have h1 : x.2 ∈ L.map (·.2) := by rw [← h]; exact List.mem_map.2 ⟨x, hx, rfl⟩
  exact List.mem_map.1 h1
/-- leaves with other records: something is written -/
theorem wrK_keys {P : PS} {cont : Cont} {n : Nat} {L0 M : List Lf} (hk : Fine (halN n) P cont) (h : ContL cont L0) (h0 : PgOk L0) (hM : PgOk M) (hg0 : ∀ x, x ∈ L0 → x.1 ≠ -1) (hg : ∀ x, x ∈ M → x.1 ≠ -1) (hr0 : Ris (recsOf L0)) (hr : Ris (recsOf M)) (hne : recsOf M ≠ recsOf L0) : 0 < (keysOf (wrK P (recAt L0) (recAt M) 256)).length := by
  rcases Nat.eq_zero_or_pos (keysOf (wrK P (recAt L0) (recAt M) 256)).length with e | e
  · have h1 := wrK_none hk h e
    exact absurd (ris_eq hr hr0 (fun x => ⟨recsOf_sub hM hg h1 x, recsOf_sub h0 hg0 (fun p hp => (h1 p hp).symm) x⟩)) hne
  · exact e
end Go.Proofs.YtkhdgacjgccnnaaGreatDoor
