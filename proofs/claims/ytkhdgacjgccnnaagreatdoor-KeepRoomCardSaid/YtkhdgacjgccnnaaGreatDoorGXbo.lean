/- Put together out of 6 texts. commit, the inner one, over any leaves. -/
import Derived.Test.YtkhdgacjgccnnaaGreatDoorGXbn
import Derived.Test.YtkhdgacjgccnnaaGreatDoorGXbj
import Derived.Test.YtkhdgacjgccnnaaGreatDoorGXbk
import Derived.Shelf.SlGeneric
import Derived.Shelf.SlLaysF0
import Derived.Ground.SlsfProg
import Derived.Test.YtkhdgacjgccnnaaGreatDoorProg
import Derived.BigQuiet
import Derived.Sort.Grow
namespace Go.Proofs.YtkhdgacjgccnnaaGreatDoor
open Go.RowKit

theorem LOwn.only {w w' : World} {B : Nat} {Q G : Nat → Prop} {v : Value} {L : List Lf} (h : LOwn w B Q v L) (ho : Only G w w') (hv : ∀ k, v.ownBlock = some k → ¬ G k) (hQ : ∀ k, Q k → ¬ G k) : LOwn w' B Q v L := by
  obtain ⟨xs, h1, h2, h3⟩ := h
  refine ⟨xs, h1, ⟨h2.1, ?_⟩, fun j x hx => ?_⟩
  · rcases h2.2 with hn | ⟨g, cap, cur, rfl, hb, hgg, rest⟩
    · exact .inl hn
    · exact .inr ⟨g, cap, cur, rfl, hb, (ho.block g (Array.getElem?_eq_some_iff.1 hgg).1 (hv g rfl)).trans hgg, rest⟩
  · obtain ⟨r, n, c, e1, e2, e3, e4⟩ := h3 j x hx
    exact ⟨r, n, c, e1, e2.same ho.size (fun ad ha h0 => ho.block _ (e2.at_ ad ha h0).1 (by cases ha; exact hQ _ e3)), e3, e4⟩
theorem LOwn.monoQ {w : World} {B : Nat} {Q Q' : Nat → Prop} {v : Value} {L : List Lf} (h : LOwn w B Q v L) (hne : ∀ x, x ∈ L → x.2 ≠ []) (hQ : ∀ k, Q k → k < w.heap.size → Q' k) : LOwn w B Q' v L := by
  obtain ⟨xs, h1, h2, h3⟩ := h
  refine ⟨xs, h1, h2, fun j x hx => ?_⟩
  obtain ⟨r, n, c, e1, e2, e3, e4⟩ := h3 j x hx
  refine ⟨r, n, c, e1, e2, hQ _ e3 (e2.at_ r rfl ?_).1, e4⟩
  have h4 := e2.len
  have h5 : x.2.length ≠ 0 := fun e => hne x (List.mem_of_getElem? hx) (List.eq_nil_of_length_eq_zero e)
  omega
/-- what byPage tells of leaves -/
theorem lown_tab {w : World} {B : Nat} {Q : Nat → Prop} {v : Value} {L : List Lf} (h : LOwn w B Q v L) (hp : PgOk L) (hl : L.length ≤ 1000) :
    ∃ f, (∀ W, Below w.heap.size w W → Calls Tryz.prog 42 #[v] W fun e w' => e = .returned (.agg (arS f)) ∧ Below W.heap.size W w') ∧
      ∀ z, ∃ A m c, f z = .slice A m c ∧ RSl w w.heap.size A m c (recAt L z) ∧ ∀ a, A = some a → Q a.block := by
  have hz : ∀ W, RSl W W.heap.size none 0 0 [] := fun W => rsl_none _ _ _ _ (by unfold maxLen; omega) (fun _ => rfl)
  have hh := h
  obtain ⟨xs0, h1, h2, h3⟩ := hh
  rcases h2.2 with ⟨rfl, h0⟩ | ⟨g, cap, cur, rfl, _⟩
  · have : L = [] := List.eq_nil_of_length_eq_zero h0
    subst this
    exact ⟨fun _ => nilV, fun W _ => byPageNone_any W, fun z => ⟨none, 0, 0, rfl, by rw [recAt_none (fun x hx => by cases hx)]; exact hz w, fun a ha => by cases ha⟩⟩
  · obtain ⟨xs, hx, _, hat⟩ := h.lx
    have hxp : ∀ (j : Nat) (y : Int × Value), xs[j]? = some y → ∃ x, L[j]? = some x := fun j y hj => by
      have hjn : j < L.length := by rw [← hx.len]; exact (List.getElem?_eq_some_iff.1 hj).1
      exact ⟨_, List.getElem?_eq_getElem hjn⟩
    refine ⟨tbF xs, fun W hb => byPage_any _ _ _ xs W (hx.on hb) hl (fun x hx' => ?_), fun z => ?_⟩
    · obtain ⟨j, hj⟩ := List.getElem?_of_mem hx'
      obtain ⟨y, hy⟩ := hxp j x hj
      obtain ⟨r, m, c, e1, _⟩ := hat j y hy
      rw [hj] at e1
      cases e1
      exact hp.1 y (List.mem_of_getElem? hy)
    · rcases tbF_or xs (fun _ => nilV) z with ⟨h4, h5⟩ | ⟨x, h4, h5, h6⟩
      · refine ⟨none, 0, 0, h5, ?_, fun a ha => by cases ha⟩
        rw [recAt_none (fun x hx' e => ?_)]
        · exact hz w
        · obtain ⟨j, hj⟩ := List.getElem?_of_mem hx'
          obtain ⟨r, m, c, e1, _⟩ := hat j x hj
          exact h4 _ (List.mem_of_getElem? e1) e
      · obtain ⟨j, hj⟩ := List.getElem?_of_mem h4
        obtain ⟨y, hy⟩ := hxp j x hj
        obtain ⟨r, m, c, e1, e2, e3, _⟩ := hat j y hy
        rw [hj] at e1
        cases e1
        refine ⟨some r, m, c, h6, ?_, fun a ha => by cases ha; exact e3⟩
        rw [recAt_mem hp (List.mem_of_getElem? hy) h5]
        exact e2
section
variable {Real : World → Nat → DSt → (Nat → Prop) → Prop} {PR : World → Nat → Nat → Nat → Nat → (Nat → Prop) → Prop} {S : Nat → Addr} {w0 w : World} {d g n q mk : Nat} {T : Nat → Prop} {s : DSt} {P : PS} {ch : Chg} {cont : Cont}
/-- what a keep's commit leaves: L0 the old leaves, L the new ones, M those with their pages -/
def KComK (Real : World → Nat → DSt → (Nat → Prop) → Prop) (PR : World → Nat → Nat → Nat → Nat → (Nat → Prop) → Prop) (S : Nat → Addr) (w0 w : World) (d g n q mk : Nat) (T : Nat → Prop) (s : DSt) (P : PS) (kb : Nat) (nv : Value) (B : Nat) (Q : Nat → Prop) (v2 : Value) (L0 L : List Lf) (e : Ending) (w' : World) : Prop :=
  ∃ M T', e = .returned .nilIface ∧ Blk w' kb 51 #[.pointer (some ⟨g, 0, none⟩), nv, v2] ∧ LOwn w' B (fun k => Q k ∧ ¬ T' k ∧ k ≠ kb) v2 M ∧ M.map (·.2) = L.map (·.2) ∧ PgOk M ∧ (∀ x, x ∈ M → x.1 ≠ -1) ∧
    Shop Real PR S w0 w' d g n (q + 1000) mk T' (comDev P (wrK P (recAt L0) (recAt M) 256) s (halN n)) (commitTo P (wrK P (recAt L0) (recAt M) 256) s (halN n)).2 noChg ∧ ¬ T' kb ∧ (∀ k, v2.ownBlock = some k → ¬ T' k ∧ k ≠ kb) ∧
    Only (fun k => T k ∨ k = kb ∨ v2.ownBlock = some k) w w' ∧ (∀ k, T' k → T k ∨ w.heap.size ≤ k)
set_option maxRecDepth 100000 in
set_option maxHeartbeats 8000000 in
theorem kCommitK_any (D : DevOk Real) (O : PairOk Real PR) (hS : Sent7 w0 S) (kb : Nat) (nv lv : Value) (Bo : Nat) (L0 : List Lf) (Fo : Nat → Prop) (B : Nat) (Q : Nat → Prop) (v2 : Value) (L : List Lf)
    (h : Shop Real PR S w0 w d g n q mk T s P ch) (hK : Keeps s n q P cont) (hc : ContL cont L0) (hq : q ≤ 600000)
    (hkb : Blk w kb 51 #[.pointer (some ⟨g, 0, none⟩), nv, lv]) (hkT : ¬ T kb) (hlv : LOwn w Bo Fo lv L0) (hlF : ∀ k, lv.ownBlock = some k → Fo k) (hp0 : PgOk L0) (hg0 : ∀ x, x ∈ L0 → x.1 ≠ -1) (hl0 : L0.length ≤ 1000) (hFo : ∀ k, Fo k → ¬ T k ∧ k ≠ kb ∧ k < B)
    (hL : LOwn w B Q v2 L) (hQ : ∀ k, Q k → ¬ T k ∧ k ≠ kb) (hB : ∀ k, T k → k < B) (hkB : kb < B) (hkw : w0.heap.size ≤ kb)
    (hne : recsOf L ≠ recsOf L0 ∧ Ris (recsOf L) ∧ Ris (recsOf L0)) (hl : L ≠ []) (hlo : LfOk L) (hp : PgOk L) (hlen : L.length ≤ 200) (h40 : 2 * L.length + 40 ≤ halN n) (hs : RszS (recsOf L)) (hn : (recsOf L).length ≤ 10000) :
    Calls Tryz.prog 18 #[.pointer (some ⟨kb, 0, none⟩), v2] w (KComK Real PR S w0 w d g n q mk T s P kb nv B Q v2 L0 L) := by
  have HNm := hid (numberK_any B Q _ L w hL (fun x hx => (hlo x hx).1) hl (by omega) hp)
  obtain ⟨g2, cap, rfl⟩ : ∃ g cap, v2 = .slice (some ⟨g, 0, none⟩) L.length cap := by
    obtain ⟨xs, h1, h2, _⟩ := hL
    rcases h2.2 with ⟨e, h0⟩ | ⟨g, cap, cur, e, _⟩
    · exact absurd (List.eq_nil_of_length_eq_zero h0) hl
    · exact ⟨g, cap, e⟩
  have hg2 := hL.lt g2 rfl
  generalize hnl : L.length = nl at HNm hL hlen h40 ⊢
  have HNl := hid hnl
  have HT := hid (h.lt D O)
  have HKl := hid hkb.lt
  have HSt := hid (fun (w1 : World) (ho : Only (fun k => k = g2) w w1) => And.intro (h.beside D O ho (fun k hk e => by have := hB k hk; omega) (fun k e => by omega)) (And.intro (Blk.same hkb (ho.block kb hkb.lt (by omega))) (hlv.only ho (fun k hk e => by have := (hFo k (hlF k hk)).2.2; omega) (fun k hk e => by have := (hFo k hk).2.2; omega))))
  have HD := hid D
  have HO := hid O
  have HSe := hid hS
  have HK := hid hK
  have HkT := hid hkT
  have HFo := hid (And.intro hFo hlF)
  have HQ := hid hQ
  have HB := hid hB
  have HC := hid (And.intro hc (And.intro hp0 (And.intro hg0 hl0)))
  have HX := hid (And.intro hne (And.intro hlo (And.intro hs (And.intro h40 hn))))
  have hnI : (nl : Int) ≤ 200 := by omega
  have HG2 := hid hg2
  have HkB := hid hkB
  clear D O hS h hK hc hkb hkT hlv hlF hp0 hg0 hl0 hFo hL hQ hB hkB hne hl hlo hp hlen h40 hs hn hnl hg2
  go_enter Tryz.func18, Tryz.ntmps18
  go_wp2_with fail
  refine HNm.out.mono ?_
  rintro e w1 ⟨rfl, M, pn, hl1, hnu, ho1⟩
  have ho1' : Only (fun k => k = g2) w w1 := ho1.mono (fun i hi => .inl (by injection hi with hi; exact hi.symm))
  obtain ⟨hsh1, hkb1, hlv1⟩ := HSt.out w1 ho1'
  have hMr := hnu.recs
  have hMg : ∀ x, x ∈ M → x.1 ≠ -1 := fun x hx => by
    obtain ⟨j, hj⟩ := List.getElem?_of_mem hx
    refine hnu.given j x ?_ hj
    have h1 := (List.getElem?_eq_some_iff.1 hj).1
    have h2 := hnu.len
    rw [HNl.out] at h2
    omega
  have hMo : LfOk M := fun x hx => by
    obtain ⟨y, hy, e⟩ := lf_map hMr hx
    rw [← e]
    exact HX.out.2.1 y hy
  have hMl : M.length = nl := hnu.len.trans HNl.out
  have HM := hid (And.intro hMr (And.intro hnu.ok (And.intro hMg (And.intro hMo hMl))))
  have HSh1 := hid hsh1
  have HKb1 := hid hkb1
  have HLv1 := hid hlv1
  have HF1 := hid (hl1.monoQ (Q' := fun k => Q k ∧ k < w1.heap.size) (fun x hx => (hMo x hx).1) (fun k h1 h2 => ⟨h1, h2⟩))
  have HOn1 := hid ho1'
  have a0 := hkb1.cell 0
  simp at a0
  clear hl1 ho1 ho1' hsh1 hkb1 hlv1 hnu hMr hMg hMo hMl
  go_wp2_with fail
  refine (sh_abort HD.out HO.out HSh1.out).mono ?_
  rintro e w2 ⟨rfl, T2, hsh2, ho2, ht2⟩
  have hnt2 : ∀ k, k < w1.heap.size → ¬ T k → ¬ T2 k := fun k hk hn hk2 => by
    rcases ht2 k hk2 with h | h
    · exact hn h
    · omega
  have hw1 := HOn1.out.size
  have hFoT : ∀ k, Fo k → ¬ T k ∧ k < w1.heap.size := fun k hk => by
    have h1 := HFo.out.1 k hk
    have h2 := HG2.out
    exact ⟨h1.1, by omega⟩
  have hg2T : ¬ T g2 := fun hk => by have := HB.out _ hk; have := HG2.out; omega
  have HSh2 := hid hsh2
  have HKb2 := hid (Blk.same HKb1.out (ho2.block kb HKb1.out.lt HkT.out))
  have hlv2 := HLv1.out.only ho2 (fun k hk => (hFoT k (HFo.out.2 k hk)).1) (fun k hk => (hFoT k hk).1)
  have hf2 := HF1.out.only ho2 (fun k hk => by cases hk; exact hg2T) (fun k hk => (HQ.out k hk.1).1)
  obtain ⟨f5, hby5, htab5⟩ := lown_tab hlv2 HC.out.2.1 HC.out.2.2.2
  obtain ⟨f6, hby6, htab6⟩ := lown_tab hf2 HM.out.2.1 (by have := HM.out.2.2.2.2; omega)
  have ht5 : TabR w2 T2 f5 (recAt L0) := fun p => by
    obtain ⟨A, m, c, e1, e2, e3⟩ := htab5 p
    exact ⟨A, m, c, e1, e2, fun a ha _ => hnt2 _ (hFoT _ (e3 a ha)).2 (hFoT _ (e3 a ha)).1⟩
  have ht6 : TabR w2 T2 f6 (recAt M) := fun p => by
    obtain ⟨A, m, c, e1, e2, e3⟩ := htab6 p
    exact ⟨A, m, c, e1, e2, fun a ha _ => hnt2 _ (e3 a ha).2 (HQ.out _ (e3 a ha).1).1⟩
  have hfit : ∀ p, (laidR (recAt M p)).length ≤ 248 ∧ RszS (recAt M p) ∧ (recAt M p).length ≤ 10000 := fun p => by
    rcases recAt_or M p with e | ⟨x, hx, _, e⟩
    · rw [e]
      exact ⟨Nat.zero_le _, fun x hx => (by cases hx), Nat.zero_le _⟩
    · rw [e]
      have h1 := recsOf_map HM.out.1
      refine ⟨(HM.out.2.2.2.1 x hx).2, fun r hr => HX.out.2.2.1 r (by rw [← h1]; exact recsOf_mem hx hr), ?_⟩
      obtain ⟨j, hj⟩ := List.getElem?_of_mem hx
      have h2 := recsOf_take hj
      have h3 := recsOf_part M (j + 1)
      have h4 := HX.out.2.2.2.2
      rw [h2, List.length_append, h1] at h3
      omega
  have HkT2 := hid (hnt2 kb (by have h1 := HKl.out; omega) HkT.out)
  have HLv2 := hid hlv2
  have HF2 := hid hf2
  have HOn2 := hid ho2
  have HT2 := hid ht2
  have HW := hid (kWriteK_any HD.out HO.out kb nv lv (.slice (some ⟨g2, 0, none⟩) nl cap) f5 f6 (recAt L0) (recAt M) HSh2.out HKb2.out HkT2.out hby5 hby6 ht5 ht6 hfit)
  have HN2 := hid hnt2
  have HG2T := hid hg2T
  clear hsh2 ho2 ht2 a0 hnt2 hw1 hFoT hg2T hlv2 hf2 hby5 hby6 htab5 htab6 ht5 ht6 hfit
  go_wp2_with fail
  refine HW.out.mono ?_
  rintro e w3 ⟨rfl, T3, hsh3, ho3, ht3⟩
  have HKl1 := hid (show w.heap.size ≤ w1.heap.size from HOn1.out.size)
  have HKl2 := hid (show w1.heap.size ≤ w2.heap.size from HOn2.out.size)
  have HKl3 := hid (show w2.heap.size ≤ w3.heap.size from ho3.size)
  have far3 : ∀ k, k < w1.heap.size → ¬ T k → ¬ T3 k := fun k hk hn hk2 => by
    rcases ht3 k hk2 with h | h
    · exact HN2.out k hk hn h
    · have := HKl2.out; omega
  have hgl : g2 < w1.heap.size := by have h1 := HG2.out; have h2 := HKl1.out; omega
  have HSh3 := hid hsh3
  have HF3 := hid (HF2.out.only ho3 (fun k hk => by cases hk; exact HN2.out g2 hgl HG2T.out) (fun k hk => HN2.out k hk.2 (HQ.out k hk.1).1))
  have HKb3 := hid (Blk.same HKb2.out (ho3.block kb HKb2.out.lt HkT2.out))
  have HOn3 := hid ho3
  have HT3 := hid ht3
  have HN3 := hid far3
  have HkT3 := hid (far3 kb (by have h1 := HKl.out; have h2 := HKl1.out; omega) HkT.out)
  have a0 := HKb3.out.cell 0
  simp at a0
  have HKeys := hid (wrK_keys HK.out.fine HC.out.1 HC.out.2.1 HM.out.2.1 HC.out.2.2.1 HM.out.2.2.1 HX.out.1.2.2 (by rw [recsOf_map HM.out.1]; exact HX.out.1.2.1) (by rw [recsOf_map HM.out.1]; exact HX.out.1.1))
  have HFit := hid (wrK_fits HK.out.fine HC.out.1 (M := M) (fun x hx => (HM.out.2.1.1 x hx).2) (by rw [HM.out.2.2.2.2]; exact HX.out.2.2.2.1))
  clear hsh3 ho3 ht3 far3
  go_wp2_with fail
  refine (sh_commit HD.out HO.out HSe.out HSh3.out HK.out HKeys.out HFit.out hq).mono ?_
  rintro e w4 ⟨rfl, T4, hsh4, ho4, ht4⟩
  have far4 : ∀ k, k < w1.heap.size → ¬ T k → ¬ T4 k := fun k hk hn hk2 => by
    rcases ht4 k hk2 with h | h
    · exact HN3.out k hk hn h
    · have := HKl2.out; have := HKl3.out; omega
  have hkb4 := Blk.same HKb3.out (ho4.block kb HKb3.out.lt HkT3.out)
  have hf4 := HF3.out.only ho4 (fun k hk => by cases hk; exact HN3.out g2 hgl HG2T.out) (fun k hk => HN3.out k hk.2 (HQ.out k hk.1).1)
  have hkT4 := far4 kb (by have h1 := HKl.out; have := HKl1.out; omega) HkT.out
  have a2 := hkb4.cell 2
  have f2 := hkb4.free 2
  simp at a2
  have hgk : g2 ≠ kb := by have := HG2.out; have := HkB.out; omega
  have HFin := hid (show KComK Real PR S w0 w d g n q mk T s P kb nv B Q (.slice (some ⟨g2, 0, none⟩) nl cap) L0 L (.returned .nilIface) (w4.setCell ⟨kb, 2, none⟩ (.slice (some ⟨g2, 0, none⟩) nl cap)) from by
    have ho5 : Only (fun k => k = kb) w4 (w4.setCell ⟨kb, 2, none⟩ (.slice (some ⟨g2, 0, none⟩) nl cap)) := Only.put (F := fun k => k = kb) (Only.refl _ _) (p := ⟨kb, 2, none⟩) rfl _
    have hK1 := HKl1.out
    have hK2 := HKl2.out
    have hK3 := HKl3.out
    refine ⟨M, T4, rfl, hkb4.put 2 (.slice (some ⟨g2, 0, none⟩) nl cap), ?_, HM.out.1, HM.out.2.1, HM.out.2.2.1, hsh4.beside HD.out HO.out ho5 (fun k hk e => hkT4 (e ▸ hk)) (fun k e => by rw [e]; exact hkw), hkT4, fun k hk => by cases hk; exact ⟨far4 g2 hgl HG2T.out, hgk⟩, ?_, fun k hk => ?_⟩
    · exact (hf4.only ho5 (fun k hk => by cases hk; exact hgk) (fun k hk => (HQ.out k hk.1).2)).monoQ (fun x hx => (HM.out.2.2.2.1 x hx).1) (fun k hk _ => ⟨hk.1, far4 k hk.2 (HQ.out k hk.1).1, (HQ.out k hk.1).2⟩)
    · refine ((((HOn1.out.mono (G := fun k => T k ∨ k = kb ∨ (Value.slice (some ⟨g2, 0, none⟩) nl cap).ownBlock = some k) (fun i hi => .inl (.inr (.inr (by rw [hi]; rfl))))).trans HOn2.out (fun i hi => .inl (.inl hi))).trans HOn3.out (fun i hi => ?_)).trans ho4 (fun i hi => ?_)).trans ho5 (fun i hi => .inl (.inr (.inl hi)))
      · rcases HT2.out i hi with h | h
        · exact .inl (.inl h)
        · exact .inr (by omega)
      · rcases HT3.out i hi with h | h
        · rcases HT2.out i h with h | h
          · exact .inl (.inl h)
          · exact .inr (by omega)
        · exact .inr (by omega)
    · rcases ht4 k hk with h | h
      · rcases HT3.out k h with h | h
        · rcases HT2.out k h with h | h
          · exact .inl h
          · exact .inr (by omega)
        · exact .inr (by omega)
      · exact .inr (by omega))
  clear hsh4 ho4 ht4 far4 hkb4 hf4 hkT4 hgk hgl
  go_wp2
  go_ret
  exact HFin.out
end
end Go.Proofs.YtkhdgacjgccnnaaGreatDoor
namespace Go.Proofs.YtkhdgacjgccnnaaGreatDoor
open Go.RowKit

theorem tight_map {L M : List Lf} (h : M.map (·.2) = L.map (·.2)) (ht : TightL L) : TightL M := by
  have key : ∀ (j : Nat) (x : Lf), M[j]? = some x → ∃ y, L[j]? = some y ∧ y.2 = x.2 := fun j x hx => by
    have h1 := congrArg (fun l => l[j]?) h
    simp only [List.getElem?_map, hx, Option.map_some] at h1
    rcases e : L[j]? with _ | y
    · rw [e] at h1; cases h1
    · rw [e] at h1
      exact ⟨y, rfl, (Option.some.inj h1).symm⟩
  intro j x y hx hy
  obtain ⟨x', h1, h2⟩ := key j x hx
  obtain ⟨y', h3, h4⟩ := key (j + 1) y hy
  rw [← h2, ← h4]
  exact ht j x' y' h1 h3
theorem RelOk.pages {L0 R : List Lf} {l : List Rec} (h : RelOk L0 l R) (hp : PgOk L0) : PgOk R := by
  refine pgOk_of (h.pg.nodup hp.nodup) (fun x hx => ?_)
  by_cases e : x.1 = -1
  · rw [e]; decide
  · have h1 := h.pg.subset (pgs_mem.2 ⟨e, x, hx, rfl⟩)
    obtain ⟨_, y, hy, e2⟩ := pgs_mem.1 h1
    rw [← e2]
    exact hp.1 y hy
section
variable {Real : World → Nat → DSt → (Nat → Prop) → Prop} {PR : World → Nat → Nat → Nat → Nat → (Nat → Prop) → Prop} {S : Nat → Addr} {w0 w : World} {d g n q mk : Nat} {T : Nat → Prop} {s : DSt} {P : PS} {ch : Chg} {cont : Cont}
/-- leaves as they were committed: what they are, where they lie -/
structure LvK (w : World) (F : Nat → Prop) (lv : Value) (M : List Lf) (l : List Rec) : Prop where
  own : ∃ B, LOwn w B F lv M
  row : ∀ k, lv.ownBlock = some k → F k
  recs : recsOf M = l
  page : PgOk M
  has : ∀ x, x ∈ M → x.1 ≠ -1
  ok : LfOk M
  tight : TightL M
theorem LvK.on {w w' : World} {F : Nat → Prop} {lv : Value} {M : List Lf} {l : List Rec} (h : LvK w F lv M l) (hb : Below w.heap.size w w') : LvK w' F lv M l :=
  { h with own := by obtain ⟨B, h1⟩ := h.own; exact ⟨B, h1.on hb⟩ }
theorem LvK.count {w : World} {F : Nat → Prop} {lv : Value} {M : List Lf} {l : List Rec} (h : LvK w F lv M l) : M.length ≤ l.length := by
  rw [← h.recs]
  exact h.ok.count
theorem LvK.recOf {w : World} {F : Nat → Prop} {lv : Value} {M : List Lf} {l : List Rec} (h : LvK w F lv M l) (hn : l.length ≤ 10000) : Calls Tryz.prog 16 #[lv] w (RecO w l) := by
  obtain ⟨B, h1⟩ := h.own
  obtain ⟨A, m, c, rfl, h2, _⟩ := h1.lsl
  have h3 := h2.len
  have h4 := h.count
  have := recordsOf_any A m c M w h2 (by omega) (by rw [h.recs]; exact hn)
  rw [h.recs] at this
  exact this
/-- a keep behind a Commit that wrote: its leaves' blocks (Fo), its store's (T'), its own (F) -/
def KNewK (Real : World → Nat → DSt → (Nat → Prop) → Prop) (PR : World → Nat → Nat → Nat → Nat → (Nat → Prop) → Prop) (S : Nat → Addr) (w0 : World) (d g n q mk : Nat) (s : DSt) (P : PS) (b0 kb : Nat) (F : Nat → Prop) (L0 : List Lf) (l : List Rec) (e : Ending) (w' : World) : Prop :=
  e = .returned .nilIface ∧ ∃ lv Fo M T', KpX w' b0 kb (.pointer (some ⟨g, 0, none⟩)) lv F l ∧ LvK w' Fo lv M l ∧ 
    Shop Real PR S w0 w' d g n (q + 1000) mk T' (comDev P (wrK P (recAt L0) (recAt M) 256) s (halN n)) (commitTo P (wrK P (recAt L0) (recAt M) 256) s (halN n)).2 noChg ∧
    (∀ k, F k → ¬ T' k ∧ ¬ Fo k) ∧ (∀ k, Fo k → ¬ T' k ∧ k < w'.heap.size) ∧ 2 * M.length + 40 ≤ halN n
set_option maxRecDepth 100000 in
set_option maxHeartbeats 8000000 in
theorem kComNewK_any (D : DevOk Real) (O : PairOk Real PR) (hS : Sent7 w0 S) (b0 kb : Nat) (lv : Value) (F Fo : Nat → Prop) (L0 : List Lf) (l0 l : List Rec)
    (h : Shop Real PR S w0 w d g n q mk T s P ch) (hK : Keeps s n q P cont) (hc : ContL cont L0) (hq : q ≤ 600000)
    (hx : KpX w b0 kb (.pointer (some ⟨g, 0, none⟩)) lv F l) (hb0 : w0.heap.size ≤ b0) (hlv : LvK w Fo lv L0 l0) (hF : ∀ k, F k → ¬ T k ∧ ¬ Fo k) (hFo : ∀ k, Fo k → ¬ T k ∧ k < w.heap.size)
    (hr0 : Ris l0) (hn0 : l0.length ≤ 800) (hn : l.length ≤ 800) (hne : l ≠ l0) (hl : l ≠ []) (h248 : ∀ x, x ∈ l → (recB x).length ≤ 248) (hcnt : ∀ R, RelOk L0 l R → R.length ≤ 200 ∧ 2 * R.length + 40 ≤ halN n) :
    Calls Tryz.prog 8 #[.pointer (some ⟨kb, 0, none⟩)] w (KNewK Real PR S w0 d g n q mk s P b0 kb F L0 l) := by
  obtain ⟨v, hbox, hrow, hap⟩ := hx.box
  obtain ⟨A, rn, c, rfl, hrs⟩ := hrow.rsl
  have hd : Below w.heap.size w w.drew := (Below.refl _ _).drew
  have HRc := hid ((hlv.on hd).recOf (by omega))
  have HRs := hid (hrs.on hd)
  have HRn := hid (show rn ≤ 10000 from by have := hrs.len; have := hx.len; omega)
  have HMc := hid (show ∀ w2, Below w.heap.size w w2 → w2.cell? ⟨kb, 1, none⟩ = some (.slice A rn c) ∧ w2.cell? ⟨kb, 2, none⟩ = some lv from fun w2 hb => by
    have h1 := hbox.below hb hbox.lt
    exact ⟨by rw [Blk.cell h1]; rfl, by rw [Blk.cell h1]; rfl⟩)
  have k0 := HMc.out w.drew hd
  have HX := hid hx
  have HSh := hid h
  have HTl := hid (h.lt D O)
  have hkbF := hx.own
  have hkbl := hx.lt kb hx.own
  have hkb0 := hx.lo kb hx.own
  have HD := hid D
  have HO := hid O
  have HSe := hid hS
  have HC := hid (fun (W : World) (hb : Below w.heap.size w W) (B : Nat) (Q : Nat → Prop) (v2 : Value) (R : List Lf) (hL : LOwn W B Q v2 R) (hR : RelOk L0 l R) (hQ : ∀ k, Q k → w.heap.size ≤ k) (hB : w.heap.size ≤ B) => by
    obtain ⟨Bo, hown⟩ := (hlv.on hb).own
    exact kCommitK_any (mk := mk) D O hS kb (.slice A rn c) lv Bo L0 Fo B Q v2 R (h.on D O hb) hK hc hq (hbox.below hb hbox.lt) (hF kb hkbF).1 hown hlv.row hlv.page hlv.has (by have := hlv.count; omega) (fun k hk => ⟨(hFo k hk).1, fun e => (hF kb hkbF).2 (e ▸ hk), by have := (hFo k hk).2; omega⟩) hL (fun k hk => ⟨fun ht => by have := h.lt D O k ht; have := hQ k hk; omega, by have := hQ k hk; omega⟩) (fun k hk => by have := h.lt D O k hk; omega) (by omega) (by omega) ⟨by rw [hR.recs, hlv.recs]; exact hne, by rw [hR.recs]; exact hx.ris, by rw [hlv.recs]; exact hr0⟩ (fun e => hl (by rw [← hR.recs, e]; rfl)) hR.ok (hR.pages hlv.page) (hcnt R hR).1 (hcnt R hR).2 (by rw [hR.recs]; exact fun x hx' => by have := hx.siz x hx'; omega) (by rw [hR.recs]; exact hx.len))
  have HF := hid hF
  have HFo := hid hFo
  have HNe := hid (And.intro hne hl)
  have HCn := hid hcnt
  have HRel := hid (fun (W : World) (hb : Below w.heap.size w W) (A2 : Option Addr) (n2 c2 : Nat) (hr : RSl W W.heap.size A2 n2 c2 l) (hA : ∀ a, A2 = some a → a.block < W.heap.size) => show Calls Tryz.prog 19 #[lv, .slice A2 n2 c2] W fun e w' => ∃ v' R, e = .returned v' ∧ LOwn w' W.heap.size (QRel W A2) v' R ∧ RelOk L0 l R ∧ Below W.heap.size W w' from by
    obtain ⟨Bo, hown⟩ := (hlv.on hb).own
    obtain ⟨Ao, no, co, e, h2, _⟩ := hown.lsl
    rw [e]
    exact relaid_any Ao no co L0 A2 n2 c2 l W h2 (fun x hx => (hlv.ok x hx).1) hr hx.ris (by have := hr.len; omega) (fun x hx' => by have := hx.siz x hx'; omega) h248 (by have h5 := h2.len; have h6 := hlv.count; omega) hA)
  have HRow := hid hrow
  have HAp := hid hap
  have HBox := hid hbox
  clear h hK hc hq hx hlv hF hFo hne hl h248 hbox hrow hap hrs hd D O hS hcnt hr0 hn0 hn
  go_enter Tryz.func8, Tryz.ntmps8
  go_upto_region 1 with fail
  go_region_held3 (fun w' => w'.cell? ⟨kb, 1, none⟩ = some (.slice A rn c) ∧ w'.cell? ⟨kb, 2, none⟩ = some lv) (first | exact k0 | exact k1 | exact k2) (first
    | (go_at_call 16; refine HRc.out.mono ?_; rintro e w1 ⟨v1, rfl, hr1, hb1⟩; have HB1 := hid (show Below w.heap.size w w1 from ((Below.refl w.heap.size w).drew).trans hb1); have k1 := HMc.out w1 HB1.out; obtain ⟨A1, n1, c1, rfl, hs1⟩ := hr1.rsl; have HR1 := hid hs1; have HR0 := hid (HRs.out.on hb1); clear hr1 hb1 hs1)
    | (go_at_call 15; refine (eqRec_no _ _ _ _ _ _ _ _ _ _ _ HR0.out HR1.out HNe.out.1).mono ?_; rintro e w2 ⟨rfl, q2, rfl⟩; have HB2 := hid (below_drewN HB1.out q2); have k2 := HMc.out _ HB2.out; have HR2 := hid (HR0.out.on (below_drewN (Below.refl _ _) q2))))
  generalize w1.drewN q2 = w2 at HB2 HR2 k2 ⊢
  obtain ⟨a1, a2⟩ := k2
  clear k0 k1
  go_wp2_with fail
  refine (cloneRec_any A rn c l w2 HR2.out HRn.out).mono ?_
  rintro e w3 ⟨v3, rfl, hr3, hb3⟩
  obtain ⟨A3, n3, c3, rfl, hs3⟩ := hr3.rsl
  have HB3 := hid (HB2.out.trans (hb3.mono HB2.out.size))
  have HQ3 := hid (show ∀ z, QRel w3 A3 z → w.heap.size ≤ z from fun z hz => by
    have h2 := HB2.out.size
    have h3 := hb3.size
    rcases hz with ⟨a, rfl, rfl⟩ | hz
    · have h1 := (hr3.lt a.block rfl).1
      omega
    · omega)
  have HA3 := hid (show ∀ a, A3 = some a → a.block < w3.heap.size from fun a ha => by subst ha; exact (hr3.lt a.block rfl).2)
  have HR3 := hid hs3
  have a3 := (HMc.out w3 HB3.out).2
  clear hr3 hb3 hs3 a1 a2
  go_wp2_with fail
  refine (HRel.out w3 HB3.out _ _ _ HR3.out HA3.out).mono ?_
  rintro e w4 ⟨v4, R, rfl, hL4, hR4, hb4⟩
  have HB4 := hid (HB3.out.trans (hb4.mono HB3.out.size))
  have HC4 := hid (HC.out w4 HB4.out w3.heap.size _ v4 R hL4 hR4 HQ3.out HB3.out.size)
  have HV4 := hid hL4.lt
  have HR4 := hid hR4
  clear hR4 hL4 hb4 a3
  go_wp2_with fail
  refine HC4.out.mono ?_
  rintro e w5 ⟨M, T', rfl, k1, k2, k3, k4, k5, k6, k7, k8, k9, k10⟩
  have eF : w5.cell? ⟨1, 0, none⟩ = some (.iface 261 (.pointer (some (S 4)))) := (HSe.out.on k6.below) 4 (by decide)
  have hq1 := run_eql_iface_nil_left (P := Tryz.prog) (w := w5) 261 (.pointer (some (S 4))) Tryz.underlying31
  have s4 := HB4.out.size
  have s3 := HB3.out.size
  have hFT : ∀ k, F k → ¬ T' k := fun k hk ht => by
    rcases k10 k ht with h1 | h1
    · exact (HF.out k hk).1 h1
    · have := HX.out.lt k hk; omega
  have hap5 := HAp.out
  have hrow5 : KRow w5 b0 (.slice A rn c) l := (HRow.out.on HB4.out).only k9 (fun k hk h1 => by
    obtain ⟨e1, e2⟩ := hap5 k hk
    rcases h1 with h1 | h1 | h1
    · exact (HF.out k e2).1 h1
    · exact e1 h1
    · have := HX.out.lt k e2; have := (HV4.out k h1).1; omega)
  have hM : LfOk M := fun x hx => by
    obtain ⟨y, hy, e⟩ := lf_map k3 hx
    rw [← e]
    exact HR4.out.ok y hy
  have hml : M.length = R.length := by have := congrArg List.length k3; simpa using this
  have HFin := hid (show KNewK Real PR S w0 d g n q mk s P b0 kb F L0 l (.returned .nilIface) w5 from by
    refine ⟨rfl, v4, fun k => (QRel w3 A3 k ∨ v4.ownBlock = some k) ∧ ¬ T' k ∧ w.heap.size ≤ k ∧ k < w5.heap.size, M, T', ⟨⟨_, k1, hrow5, hap5⟩, HX.out.own, fun k hk => ?_, HX.out.lo, HX.out.ris, HX.out.siz, HX.out.len⟩, ⟨⟨_, k2.monoQ (fun x hx => (hM x hx).1) (fun k h1 h2 => ⟨.inl h1.1, h1.2.1, HQ3.out k h1.1, h2⟩)⟩, fun k hk => ⟨.inr hk, (k8 k hk).1, by have := (HV4.out k hk).1; omega, ?_⟩, (recsOf_map k3).trans HR4.out.recs, k4, k5, hM, tight_map k3 HR4.out.tight⟩, k6, fun k hk => ⟨hFT k hk, fun h1 => ?_⟩, fun k hk => ⟨hk.2.1, hk.2.2.2⟩, by rw [hml]; exact (HCn.out R HR4.out).2⟩
    · have h1 := HX.out.lt k hk; have h2 := k9.size; omega
    · have h1 := (HV4.out k hk).2; have h2 := k9.size; omega
    · have h2 := HX.out.lt k hk; have h3 := h1.2.2.1; omega)
  clear k1 k2 k3 k4 k5 k6 k7 k8 k9 k10 s4 s3 hFT hap5 hrow5 hM hml
  go_wp2
  go_ret
  exact HFin.out
end
end Go.Proofs.YtkhdgacjgccnnaaGreatDoor
namespace Go.Proofs.YtkhdgacjgccnnaaGreatDoor
open Go.RowKit

theorem recsOf_cons (x : Lf) (L : List Lf) : recsOf (x :: L) = x.2 ++ recsOf L := by unfold recsOf; simp
/-- two leaves side by side have five records or more -/
theorem tight_count : ∀ (L : List Lf), (∀ x, x ∈ L → x.2 ≠ []) → (∀ (j : Nat) (x y : Lf), L[j]? = some x → L[j + 1]? = some y → 5 ≤ x.2.length + y.2.length) → L.length ≤ 2 * ((recsOf L).length / 5) + 1
  | [], _, _ => Nat.zero_le _
  | [x], _, _ => by simp
  | x :: y :: L, hne, h => by
    have ih := tight_count L (fun z hz => hne z (by simp [hz])) (fun j a b ha hb => h (j + 2) a b (by simpa using ha) (by simpa using hb))
    have h1 := h 0 x y rfl rfl
    rw [recsOf_cons, recsOf_cons, List.length_append, List.length_append, List.length_cons, List.length_cons]
    omega
theorem recB_62 {r : Rec} (h1 : r.1.size = 3) (h2 : r.2.size = 57) : (recB r).length = 62 := by
  unfold recB textB
  rw [List.length_append, List.length_append, List.length_append, str_len, str_len, h1, h2]
  rfl
theorem laidR_62 : ∀ {l : List Rec}, (∀ r, r ∈ l → r.1.size = 3 ∧ r.2.size = 57) → (laidR l).length = 62 * l.length
  | [], _ => rfl
  | x :: l, h => by
    have ih := laidR_62 (l := l) (fun r hr => h r (by simp [hr]))
    have e : laidR (x :: l) = recB x ++ laidR l := by simp [laidR]
    have h1 := h x (by simp)
    rw [e, List.length_append, recB_62 h1.1 h1.2, ih, List.length_cons]
    omega
/-- few leaves enough -/
theorem relOk_few {L0 R : List Lf} {l : List Rec} {H : Nat} (h : RelOk L0 l R) (hl : ∀ r, r ∈ l → r.1.size = 3 ∧ r.2.size = 57) (h1 : l.length + 40 ≤ H) (h2 : 75 ≤ H) (h3 : H ≤ 299) : R.length ≤ 200 ∧ 2 * R.length + 40 ≤ H := by
  have hc := tight_count R (fun x hx => (h.ok x hx).1) (fun j x y hx hy => by
    have ht := h.tight j x y hx hy
    have hx' : ∀ r, r ∈ x.2 → r.1.size = 3 ∧ r.2.size = 57 := fun r hr => hl r (by rw [← h.recs]; exact recsOf_mem (List.mem_of_getElem? hx) hr)
    have hy' : ∀ r, r ∈ y.2 → r.1.size = 3 ∧ r.2.size = 57 := fun r hr => hl r (by rw [← h.recs]; exact recsOf_mem (List.mem_of_getElem? hy) hr)
    rw [laidR_62 hx', laidR_62 hy'] at ht
    omega)
  rw [h.recs] at hc
  omega
end Go.Proofs.YtkhdgacjgccnnaaGreatDoor
namespace Go.Proofs.YtkhdgacjgccnnaaGreatDoor
open Go.RowKit Go.Maps

section
variable {P : PS} {ch : Chg} {Real : World → Nat → DSt → (Nat → Prop) → Prop} {PR : World → Nat → Nat → Nat → Nat → (Nat → Prop) → Prop}
set_option maxRecDepth 100000 in
set_option maxHeartbeats 4000000 in
theorem readDevK_any (DD : DevOk Real) (O : PairOk Real PR) (S : Nat → Addr) (w0 w : World) (g d p mm n m q i f z : Nat) (D : DataW Unit) (C F G : Nat → Prop) (s : DSt) (l : List Int) (h : Sto w g d p mm P ch D C) (hp : Pd Real PR S w0 w d p s n m q F G) (hi : i < 256) (hc : ch i = none) (hx : P.pgs[i]? = some ((f : Int), z)) (hf0 : 0 < f) (hf : f < halN n) (hz : z < 4294967296)
    (hr : (pRead s (halN n) f z).1 = 0) (hrl : (pRead s (halN n) f z).2.1 = pageB l) (h1 : 1 ≤ l.length) (h2 : l.length ≤ 248) (hq : q + 1 ≤ 900000) (hm : m ≤ 1000) (hgF : ¬ F g ∧ ¬ G g) :
    Calls Tryz.prog 68 #[.pointer (some ⟨g, 0, none⟩), .int .i64 (i : Int)] w fun e w' => ∃ A k c, e = .returned (.tuple #[.slice A k c, .nilIface]) ∧ Sl w' w'.heap.size A k c l ∧ Stepped Real PR S w0 w d p (pRead s (halN n) f z).2.2.1 n (m + (pRead s (halN n) f z).2.2.2) (q + 1) F G (fun F' G' => ∀ ad, A = some ad → w.heap.size ≤ ad.block ∧ ¬ F' ad.block ∧ ¬ G' ad.block) w' := by
  have HS := hid h
  have HP := hid hp
  have HO := hid O
  have HD := hid DD
  have hk : numOk (i : Int) = true := by unfold numOk; simp; omega
  have ht : thereB P ch i = true := by rw [thereB_none hc hx]; unfold points; simp; omega
  have HX := hid hx
  have HC := hid hc
  have HR := hid hr
  have HRl := hid hrl
  have HL := hid (show 1 ≤ l.length ∧ l.length ≤ 248 from ⟨h1, h2⟩)
  have HRd := hid (fun (w2 : World) (hb : Below w.heap.size w w2) => pd_read O (hp.on DD O hb) hf hz hq hm)
  clear h hp O DD hx hr hrl h1 h2
  go_enter Tryz.func68, Tryz.ntmps68
  go_wp2_with fail
  refine (isNumber_any (i : Int) _).mono ?_
  rw [hk]
  rintro e w1 ⟨rfl, rfl⟩
  go_wp2_with fail
  refine (pgThere_any g d p mm P ch D C i _ HS.out hi).mono ?_
  rw [ht]
  rintro e w2 ⟨rfl, hb⟩
  have hs2 := HS.out.below hb
  have hbd : Below w.heap.size w w2.drew := hb.drew
  have HBd := hid hbd
  have c0 := hs2.mapc
  have hlk := hs2.chd.lookNo hi HC.out
  have hs3 := HS.out.below hbd
  obtain ⟨x0, x1⟩ := hs3.page HX.out
  have x2 := hs3.prs
  have k0 := And.intro x2 (And.intro x0 x1)
  have HRr := hid (HRd.out _ hbd)
  have hi256 : (i : Int) < 256 := by omega
  have HCe := hid (fun (w' : World) (ho : Only (fun k => F k ∨ G k) w2.drew w') => (show w'.cell? ⟨g, 1, none⟩ = some (.pointer (some ⟨p, 0, none⟩)) ∧ w'.cell? ⟨g, 17 + i * 2, none⟩ = some (.int .i64 (f : Int)) ∧ w'.cell? ⟨g, 17 + i * 2 + 1, none⟩ = some (.int .u32 (z : Int)) from by
    have hbk := ho.block g hs3.box.lt (fun hk => hk.elim hgF.1 hgF.2)
    refine ⟨?_, ?_, ?_⟩
    · rw [← x2]; exact World.cell?_of_block hbk
    · rw [← x0]; exact World.cell?_of_block hbk
    · rw [← x1]; exact World.cell?_of_block hbk))
  clear hb hs2 hbd hs3
  go_upto_region 8 with fail
  go_region_held3 (fun w' => w'.cell? ⟨g, 1, none⟩ = some (.pointer (some ⟨p, 0, none⟩)) ∧ w'.cell? ⟨g, 17 + i * 2, none⟩ = some (.int .i64 (f : Int)) ∧ w'.cell? ⟨g, 17 + i * 2 + 1, none⟩ = some (.int .u32 (z : Int))) (first | exact k0 | exact k2) (first | (go_at_call 101; refine HRr.out.mono ?_; rintro e w3 ⟨A, k, c, v, rfl, hv, hsl, hst⟩; have k2 := HCe.out w3 (by obtain ⟨_, _, _, ho, _⟩ := hst; exact ho); have HV := hid hv; have HSl := hid hsl; have HSt := hid hst; clear hv hsl hst))
  obtain rfl : v = .nilIface := EV.nil (by have := HV.out; rwa [HR.out] at this)
  have hsl3 := HSl.out HR.out
  rw [HRl.out] at hsl3
  obtain rfl : 256 = k := by rw [← hsl3.len]; exact (pageB_len HL.out.2).symm
  have HSl3 := hid hsl3
  clear hsl3 k0 k2
  go_wp2_with fail
  refine (pageOf_any A c l _ HSl3.out HL.out.1 HL.out.2).mono ?_
  rintro e w4 ⟨A4, n4, c4, rfl, hs4, hb4, hA4⟩
  have HS4 := hid hs4
  have HF := hid (show Stepped Real PR S w0 w d p (pRead s (halN n) f z).2.2.1 n (m + (pRead s (halN n) f z).2.2.2) (q + 1) F G (fun F' G' => ∀ ad, A4 = some ad → w.heap.size ≤ ad.block ∧ ¬ F' ad.block ∧ ¬ G' ad.block) w4 from by
    obtain ⟨F', G', s1, s2, s3, s4, _⟩ := HSt.out
    have hlf : ∀ k, F' k ∨ G' k → k < w3.heap.size := fun k hk => by
      rcases hk with hk | hk
      · exact HD.out.lt s1.real k hk
      · exact HO.out.lt s1.pr k hk
    have h2 := s2.size
    have h3 := HBd.out.size
    exact (show Stepped Real PR S w0 w2.drew d p (pRead s (halN n) f z).2.2.1 n (m + (pRead s (halN n) f z).2.2.2) (q + 1) F G (fun F' G' => ∀ ad, A4 = some ad → w.heap.size ≤ ad.block ∧ ¬ F' ad.block ∧ ¬ G' ad.block) w3 from ⟨F', G', s1, s2, s3, s4, fun ad had => by
      have h1 := hA4 ad had
      refine ⟨by omega, fun h => ?_, fun h => ?_⟩
      · have := hlf _ (.inl h); omega
      · have := hlf _ (.inr h); omega⟩).then_ HD.out HO.out HBd.out hb4 (fun _ _ h => h))
  clear hs4 hb4 hA4
  go_wp2
  go_ret2
  exact ⟨A4, n4, c4, rfl, HS4.out, HF.out⟩
end
section
variable {Real : World → Nat → DSt → (Nat → Prop) → Prop} {PR : World → Nat → Nat → Nat → Nat → (Nat → Prop) → Prop} {S : Nat → Addr} {w0 w w' : World} {d g n q mk : Nat} {T : Nat → Prop} {s : DSt} {P : PS} {cont : Cont}
theorem sh_readK (D : DevOk Real) (O : PairOk Real PR) (h : Shop Real PR S w0 w d g n q mk T s P noChg) (hk : Keeps s n q P cont) (hq : q + 1 ≤ 900000) (hmk : mk ≤ 1000) {i : Nat} {l : List Int} (hi : i < 256) (hc : cont i = some l) :
    Calls Tryz.prog 68 #[.pointer (some ⟨g, 0, none⟩), .int .i64 (i : Int)] w fun e w' => ∃ A k c T', e = .returned (.tuple #[.slice A k c, .nilIface]) ∧ Sl w' w'.heap.size A k c l ∧ (∀ ad, A = some ad → w.heap.size ≤ ad.block ∧ ¬ T' ad.block) ∧ Shop Real PR S w0 w' d g n q mk T' s P noChg ∧ Only T w w' ∧ ∀ k, T' k → T k ∨ w.heap.size ≤ k := by
  have hh := h
  obtain ⟨p, mm, m1, F, G, Dm, C, k1, k2, k3, k4, k5, k6, k7, k8⟩ := h
  obtain ⟨x, hx⟩ := hk.fine.len.page hi
  rcases hk.fine.page i x hx with ⟨_, _, h2⟩ | ⟨hp, ⟨l1, e1, e2, e3, e4, e5⟩, _⟩
  · rw [h2] at hc; cases hc
  · rw [e1] at hc
    obtain rfl : l1 = l := by injection hc
    have hit : Item P cont x (pageB l1) := .page hx hp e1
    obtain ⟨⟨f, hf, f2, f3⟩, hz, _, _⟩ := hit.fine hk.fine
    obtain ⟨r1, r2, _, _, _, r6, _⟩ := hk.held.read hk.fine hit k1.up halN_two
    obtain ⟨r7, r8⟩ := r6 hk.clean
    have hx' : x = ((f : Int), x.2) := Prod.ext hf rfl
    rw [hf, Int.toNat_natCast] at r1 r2 r7 r8
    rw [hx'] at hx
    refine (readDevK_any D O S w0 w g d p mm n m1 q i f x.2 Dm C F G s l1 k3 k1 hi rfl hx (by omega) f3 (hk.fine.small.2 _ (List.mem_of_getElem? hx)).2.2 r1 r2 e2 e3 hq (by omega) ⟨fun h => k4 (.inl h), fun h => k4 (.inr h)⟩).mono ?_
    rintro e w' ⟨A, k, c, rfl, hsl, F', G', j1, j2, j3, j4, j5⟩
    rw [r7, r8, Nat.add_zero] at j1
    have hgl := k3.box.lt
    have hml := k3.chd.map.lt
    have out : ∀ k, k < w.heap.size → ¬ (F k ∨ G k) → ¬ (F' k ∨ G' k) := fun k hk hn h => by
      rcases h with h | h
      · rcases j3 k h with h | h | h
        · exact hn (.inl h)
        · exact hn (.inr h)
        · omega
      · rcases j4 k h with h | h | h
        · exact hn (.inl h)
        · exact hn (.inr h)
        · omega
    refine ⟨A, k, c, fun k => F' k ∨ G' k ∨ k = g ∨ k = mm ∨ C k, rfl, hsl, fun ad had => ?_, ⟨p, mm, _, F', G', Dm, C, ⟨j1.real, j1.pr, j1.below, j1.sent0, j1.fn, j1.gn, j1.ap, k1.up, k1.small, j1.n0, j1.n1⟩, k2, k3.only j2 k4 k5 k6, out g hgl k4, out mm hml k5, fun k hk => out k (k3.chd.lt k hk).1 (k6 k hk), k7, fun _ => Iff.rfl⟩, j2.mono (fun i hi => .inl ((k8 i).2 (hi.elim .inl (fun h => .inr (.inl h))))), fun k hk => ?_⟩
    · obtain ⟨b1, b2, b3⟩ := j5 ad had
      refine ⟨b1, fun h => ?_⟩
      rcases h with h | h | h | h | h
      · exact b2 h
      · exact b3 h
      · omega
      · omega
      · have := (k3.chd.lt _ h).1; omega
    · rw [k8]
      rcases hk with h | h | h | h | h
      · rcases j3 k h with h | h | h
        · exact .inl (.inl h)
        · exact .inl (.inr (.inl h))
        · exact .inr h
      · rcases j4 k h with h | h | h
        · exact .inl (.inl h)
        · exact .inl (.inr (.inl h))
        · exact .inr h
      · exact .inl (.inr (.inr (.inl h)))
      · exact .inl (.inr (.inr (.inr (.inl h))))
      · exact .inl (.inr (.inr (.inr (.inr h))))
end
end Go.Proofs.YtkhdgacjgccnnaaGreatDoor
namespace Go.Proofs.YtkhdgacjgccnnaaGreatDoor
open Go.Shelf
def Tryz.sortF_ren : Go.Shelf.Ren := ⟨fun | 6 => 70 | 15 => 113 | 14 => 112 | 28 => 147 | 29 => 148 | 20 => 139 | 21 => 140 | 22 => 141 | 23 => 142 | 24 => 143 | 25 => 144 | 26 => 145 | 27 => 146 | 46 => 160 | 47 => 161 | 48 => 162 | 49 => 163 | 50 => 164 | 57 => 176 | n => n, fun | 22 => 49 | 24 => 77 | 25 => 149 | 3 => 3 | 39 => 28 | 0 => 0 | 53 => 89 | 55 => 153 | 4 => 4 | 46 => 219 | 45 => 218 | 50 => 45 | 5 => 5 | 9 => 9 | 66 => 240 | 70 => 244 | 76 => 255 | 77 => 256 | n => n, fun | n => n⟩
theorem Tryz.sortF : Go.Proofs.SlLaysF0.n6 Tryz.prog Tryz.sortF_ren := {
  mixed := by kernel_rfl
  f6 := ⟨Tryz.f70.name, by decide, Tryz.func70.trans (congrArg some (by kernel_rfl))⟩
  f14 := ⟨Tryz.f112.name, by decide, Tryz.func112.trans (congrArg some (by kernel_rfl))⟩
  f15 := Tryz.func113.trans (congrArg some (by kernel_rfl))
  f20 := ⟨Tryz.f139.name, by decide, Tryz.func139.trans (congrArg some (by kernel_rfl))⟩
  f21 := ⟨Tryz.f140.name, by decide, Tryz.func140.trans (congrArg some (by kernel_rfl))⟩
  f22 := ⟨Tryz.f141.name, by decide, Tryz.func141.trans (congrArg some (by kernel_rfl))⟩
  f23 := ⟨Tryz.f142.name, by decide, Tryz.func142.trans (congrArg some (by kernel_rfl))⟩
  f24 := ⟨Tryz.f143.name, by decide, Tryz.func143.trans (congrArg some (by kernel_rfl))⟩
  f25 := ⟨Tryz.f144.name, by decide, Tryz.func144.trans (congrArg some (by kernel_rfl))⟩
  f26 := ⟨Tryz.f145.name, by decide, Tryz.func145.trans (congrArg some (by kernel_rfl))⟩
  f27 := ⟨Tryz.f146.name, by decide, Tryz.func146.trans (congrArg some (by kernel_rfl))⟩
  f28 := Tryz.func147.trans (congrArg some (by kernel_rfl))
  f29 := Tryz.func148.trans (congrArg some (by kernel_rfl))
  f46 := ⟨Tryz.f160.name, by decide, Tryz.func160.trans (congrArg some (by kernel_rfl))⟩
  f47 := Tryz.func161.trans (congrArg some (by kernel_rfl))
  f48 := Tryz.func162.trans (congrArg some (by kernel_rfl))
  f49 := ⟨Tryz.f163.name, by decide, Tryz.func163.trans (congrArg some (by kernel_rfl))⟩
  f50 := ⟨Tryz.f164.name, by decide, Tryz.func164.trans (congrArg some (by kernel_rfl))⟩
  f57 := ⟨Tryz.f176.name, by decide, Tryz.func176.trans (congrArg some (by kernel_rfl))⟩
  t0 := Tryz.underlying0
  a0 := Tryz.isAgg0
  z0 := Tryz.sizeOf0
  v0 := Tryz.zeroValue0
  t3 := Tryz.underlying3
  a3 := Tryz.isAgg3
  z3 := Tryz.sizeOf3
  v3 := Tryz.zeroValue3
  t4 := Tryz.underlying4
  a4 := Tryz.isAgg4
  z4 := Tryz.sizeOf4
  v4 := Tryz.zeroValue4
  t5 := Tryz.underlying5
  a5 := Tryz.isAgg5
  z5 := Tryz.sizeOf5
  v5 := Tryz.zeroValue5
  t9 := Tryz.underlying9
  a9 := Tryz.isAgg9
  z9 := Tryz.sizeOf9
  v9 := Tryz.zeroValue9
  t22 := Tryz.underlying49
  a22 := Tryz.isAgg49
  z22 := Tryz.sizeOf49
  v22 := Tryz.zeroValue49
  t25 := Tryz.underlying149
  a25 := Tryz.isAgg149
  z25 := Tryz.sizeOf149
  v25 := Tryz.zeroValue149
  t39 := Tryz.underlying28
  a39 := Tryz.isAgg28
  z39 := Tryz.sizeOf28
  v39 := Tryz.zeroValue28
  t45 := Tryz.underlying218
  a45 := Tryz.isAgg218
  z45 := Tryz.sizeOf218
  v45 := Tryz.zeroValue218
  t46 := Tryz.underlying219
  a46 := Tryz.isAgg219
  z46 := Tryz.sizeOf219
  v46 := Tryz.zeroValue219
  t50 := Tryz.underlying45
  a50 := Tryz.isAgg45
  z50 := Tryz.sizeOf45
  v50 := Tryz.zeroValue45
  t53 := Tryz.underlying89
  a53 := Tryz.isAgg89
  z53 := Tryz.sizeOf89
  v53 := Tryz.zeroValue89
  t55 := Tryz.underlying153
  a55 := Tryz.isAgg153
  z55 := Tryz.sizeOf153
  v55 := Tryz.zeroValue153
  t66 := Tryz.underlying240
  a66 := Tryz.isAgg240
  z66 := Tryz.sizeOf240
  v66 := Tryz.zeroValue240
  t70 := Tryz.underlying244
  a70 := Tryz.isAgg244
  z70 := Tryz.sizeOf244
  v70 := Tryz.zeroValue244
  t76 := Tryz.underlying255
  a76 := Tryz.isAgg255
  z76 := Tryz.sizeOf255
  v76 := Tryz.zeroValue255
  t77 := Tryz.underlying256
  a77 := Tryz.isAgg256
  z77 := Tryz.sizeOf256
  v77 := Tryz.zeroValue256 }
end Go.Proofs.YtkhdgacjgccnnaaGreatDoor
namespace Go.Proofs.YtkhdgacjgccnnaaGreatDoor
open Go.RowKit

set_option maxRecDepth 100000 in
set_option maxHeartbeats 1000000 in
theorem leafCmp_any (p1 p2 : Int) (r1 r2 : Addr) (n1 c1 n2 c2 : Nat) (k1 k2 : ByteArray) (w : World) (h1 : w.cell? r1 = some (.string k1)) (h2 : w.cell? r2 = some (.string k2)) (hn1 : 0 < n1 ∧ n1 ≤ 10000) (hn2 : 0 < n2 ∧ n2 ≤ 10000) :
    Calls Tryz.prog 71 #[.agg #[.int .i64 p1, .slice (some r1) n1 c1], .agg #[.int .i64 p2, .slice (some r2) n2 c2]] w fun e w' => e = .returned (.int .i64 (kc k1 k2)) ∧ ∃ q os, w' = Go.Sort.grow (w.drewN q) os := by
  have ea := Go.Sort.alloc_eq_grow w (.cells #[.int .i64 p1, .slice (some r1) n1 c1] 77)
  have ea2 := Go.Sort.alloc_eq_grow (w.alloc (.cells #[.int .i64 p1, .slice (some r1) n1 c1] 77)) (.cells #[.int .i64 p2, .slice (some r2) n2 c2] 77)
  rw [ea, Go.Sort.grow_grow, ← ea] at ea2
  have HE := hid ea2
  have hb : Below w.heap.size w ((w.alloc (.cells #[.int .i64 p1, .slice (some r1) n1 c1] 77)).alloc (.cells #[.int .i64 p2, .slice (some r2) n2 c2] 77)) := ((Below.refl _ _).alloc (Nat.le_refl _) _).alloc (by simp) _
  have b1 := (Blk.new w 77 #[.int .i64 p1, .slice (some r1) n1 c1]).alloc (.cells #[.int .i64 p2, .slice (some r2) n2 c2] 77)
  have b2 := Blk.new (w.alloc (.cells #[.int .i64 p1, .slice (some r1) n1 c1] 77)) 77 #[.int .i64 p2, .slice (some r2) n2 c2]
  rw [World.size_alloc] at b2
  have d1 := (hb.cell (World.block_lt_of_cell? w _ h1)).trans h1
  have d2 := (hb.cell (World.block_lt_of_cell? w _ h2)).trans h2
  have f1 := b1.cell 1
  have f2 := b2.cell 1
  have HF := hid (And.intro (And.intro d1 d2) (And.intro f1 f2))
  clear ea ea2 hb b1 b2 d1 d2 f1 f2 h1 h2
  have m1 : (0 : Int) < n1 := by omega
  have m2 : (0 : Int) < n2 := by omega
  go_enter Tryz.func71, Tryz.ntmps71
  go_upto_region 1 with fail
  generalize (w.alloc (.cells #[.int .i64 p1, .slice (some r1) n1 c1] 77)).alloc (.cells #[.int .i64 p2, .slice (some r2) n2 c2] 77) = W at HE HF ⊢
  obtain ⟨⟨d1, d2⟩, f1, f2⟩ := HF.out
  simp at f1 f2
  go_quiet ((go_at_call 26; refine Calls.quiet_of ((compare_any k1 k2 _).mono (by rintro e w' ⟨rfl, rfl⟩; exact ⟨rfl, 0, rfl⟩))))
  go_wp2
  go_ret
  refine ⟨rfl, nq, #[.cells #[.int .i64 p1, .slice (some r1) n1 c1] 77] ++ #[.cells #[.int .i64 p2, .slice (some r2) n2 c2] 77], ?_⟩
  rw [HE.out]
  rfl
end Go.Proofs.YtkhdgacjgccnnaaGreatDoor
