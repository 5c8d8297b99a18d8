/- Put together out of 3 texts. added over any leaves. -/
import Derived.Maps.AppendAt
import Derived.Test.YtkhdgacjgccnnaaGreatDoorGXbl
namespace Go.Proofs.YtkhdgacjgccnnaaGreatDoor
open Go.RowKit

/-- whose memory the leaves' records are in: where they were, the records added, or new -/
def QAdd (w : World) (Q : Nat → Prop) (A : Option Addr) (z : Nat) : Prop := Q z ∨ (∃ a, A = some a ∧ a.block = z) ∨ w.heap.size ≤ z
theorem LOwn.weak {w : World} {B : Nat} {Q Q' : Nat → Prop} {v : Value} {L : List Lf} (h : LOwn w B Q v L) (hQ : ∀ z, Q z → Q' z) : LOwn w B Q' v L := by
  obtain ⟨xs, h1, h2, h3⟩ := h
  refine ⟨xs, h1, h2, fun j x hx => ?_⟩
  obtain ⟨r, n, c, e1, e2, e3, e4⟩ := h3 j x hx
  exact ⟨r, n, c, e1, e2, hQ _ e3, e4⟩
/-- between two parts -/
def AdAt (w w1 : World) (B : Nat) (Q : Nat → Prop) (A : Option Addr) (v : Value) (L : List Lf) (p : Int) (P : List (List Rec)) (k : Nat) (lv pv : Value) (wr : World) : Prop :=
  pv = .int .i64 (pAt p k) ∧ LOwn wr B (QAdd w Q A) lv (addL L p (P.take k)) ∧ Only (fun z => v.ownBlock = some z) w1 wr ∧ ∀ z, lv.ownBlock = some z → v.ownBlock = some z ∨ w1.heap.size ≤ z
set_option maxRecDepth 100000 in
set_option maxHeartbeats 8000000 in
theorem added_any (v : Value) (B : Nat) (Q : Nat → Prop) (L : List Lf) (p : Int) (A : Option Addr) (n c : Nat) (l : List Rec) (w : World) (hv : LOwn w B Q v L) (hL : LfOk L) (hB : B ≤ w.heap.size) (hr : RSl w w.heap.size A n c l) (hn : n ≤ 10000) (hs : RszS l) (h248 : ∀ x, x ∈ l → (recB x).length ≤ 248) (hAv : ∀ a, A = some a → ∀ g, v.ownBlock = some g → a.block ≠ g) (hm : L.length + n ≤ 900) (hsL : ∀ x, x ∈ L → RszS x.2) :
    Calls Tryz.prog 33 #[v, .int .i64 p, .slice A n c] w fun e w' => ∃ v' P, e = .returned v' ∧ CutOk l P ∧ LOwn w' B (QAdd w Q A) v' (addL L p P) ∧ Only (fun z => v.ownBlock = some z) w w' ∧ ∀ z, v'.ownBlock = some z → v.ownBlock = some z ∨ w.heap.size ≤ z := by
  obtain ⟨i0, hi, hz0, hz1, hz2⟩ := info_parts Tryz.infoLeaf
  have HCt := hid (cut_any A n c l w hr hn hs h248)
  have HV := hid hv
  have HVl := hid hv.lt
  have HLk := hid (And.intro hL (And.intro hsL (And.intro hB hm)))
  have HAv := hid hAv
  have HR := hid hr
  have HSl := hid hs
  clear hv hL hB hr hs h248 hAv hsL hm
  go_enter Tryz.func33, Tryz.ntmps33
  go_wp2_with fail
  refine HCt.out.mono ?_
  rintro e w1 ⟨vp, xs, P, rfl, hown, hpv, hct, hb⟩
  have HPv := hid hpv
  have HCk := hid hct
  have HB := hid hb
  obtain ⟨Ap, cp, rfl, hsv, hAp⟩ := hown.form
  have hPl : xs.length = P.length := hpv.1
  have HOw := hid (show OwnV 48 w1 w.heap.size (.slice Ap P.length cp) xs from by rw [← hPl]; exact hown)
  rw [hPl]
  have HSv := hid (show Sv w1 w1.heap.size Ap P.length cp xs from by rw [← hPl]; exact hsv)
  have HAp := hid hAp
  have H0 := hid (show AdAt w w1 B Q A v L p P 0 v (.int .i64 p) w1 from ⟨rfl, (HV.out.on hb).weak (fun z hz => .inl hz), Only.refl _ _, fun z hz => .inl hz⟩)
  clear HCt hown hpv hct hsv hAp hb
  go_wp2
  go_loopw [0, 1, 13] (fun lv pv iv wr => ∃ k : Nat, k ≤ P.length ∧ iv = .int .i64 (k : Int) ∧ AdAt w w1 B Q A v L p P k lv pv wr) (fun _ _ iv _ => P.length - (intOf iv).toNat)
  case atStart => exact ⟨0, Nat.zero_le _, rfl, H0.out⟩
  case round =>
    obtain ⟨k, hk, rfl, rfl, hlo, ho, hlb⟩ := hrel
    have HLo := hid hlo
    have HOn := hid ho
    have HLb := hid hlb
    clear hlo ho hlb
    by_cases hlt : k < P.length
    · obtain ⟨q, hq⟩ : ∃ q, P[k]? = some q := ⟨_, List.getElem?_eq_getElem hlt⟩
      obtain ⟨ad, n', c', hx0, hrs, ⟨a0, hA0, ha0⟩⟩ := HPv.out.2 k q hq
      have HNx := hid (addL_next hq L p)
      have HQf := hid (HCk.out.fit q (List.mem_of_getElem? hq))
      have HQs := hid (show ∀ y, y ∈ P → RszS y from fun y hy r hr => HSl.out r (by rw [← HCk.out.flat]; exact List.mem_flatten.2 ⟨y, hy, hr⟩))
      obtain ⟨gp, hgp, hgp1, hgp2, _⟩ := OwnV.slot HOw.out (by omega)
      subst hgp
      have hcp := OwnV.cell HOw.out hx0
      have hgpv : ¬ v.ownBlock = some gp := fun e => by have := (HVl.out gp e).2; omega
      have HCp := hid (show ∀ W, Only (fun z => v.ownBlock = some z) w1 W → W.cell? ⟨gp, k, none⟩ = some (.slice (some ad) n' c') from fun W ho => (World.cell?_of_block (ho.block gp hgp2 hgpv)).trans hcp)
      have hadw : ad.block < w.heap.size := by
        have h1 := HR.out
        subst hA0
        have hn0 : 0 < n := by
          have h2 := HQf.out.1
          have h3 := HCk.out.flat
          rcases Nat.eq_zero_or_pos n with e | e
          · exfalso
            have h4 : l = [] := List.eq_nil_of_length_eq_zero (by have := h1.len; omega)
            subst h4
            have h5 : q ∈ P := List.mem_of_getElem? hq
            have h6 := List.flatten_eq_nil_iff.1 h3 q h5
            exact h2 h6
          · exact e
        have := (h1.at_ a0 rfl hn0).1
        omega
      have HRq := hid (show ∀ W, Only (fun z => v.ownBlock = some z) w1 W → RSl W W.heap.size (some ad) n' c' q from fun W ho => by
        have h1 : RSl w1 w1.heap.size (some ad) n' c' q := hrs.more HB.out.size
        refine h1.same ho.size (fun a ha _ => ?_)
        cases ha
        exact ho.block _ (by have := HB.out.size; omega) (fun e => HAv.out a0 hA0 _ e ha0))
      have d0 := HCp.out wr HOn.out
      have hPn : P.length ≤ n := by
        have h1 := parts_len HCk.out.flat (fun x hx => (HCk.out.fit x hx).1)
        have h2 := HR.out.len
        omega
      have hMok : LfOk (addL L p (P.take k)) := addL_ok _ L p HLk.out.1 (fun x hx => HCk.out.fit x (List.mem_of_mem_take hx))
      have hMl : (addL L p (P.take k)).length ≤ 900 := by
        have h1 := addL_len (P.take k) L p
        have h2 : (P.take k).length ≤ k := by rw [List.length_take]; omega
        have h3 := HLk.out.2.2.2
        omega
      have HMs := hid (show ∀ x, x ∈ addL L p (P.take k) → RszS x.2 from fun x hx r hr => by
        have h1 := recsOf_mem hx hr
        rw [recsOf_add, List.mem_append] at h1
        rcases h1 with h1 | h1
        · obtain ⟨y, hy, hry⟩ := List.mem_flatMap.1 h1
          exact HLk.out.2.1 y hy r hry
        · obtain ⟨y, hy, hry⟩ := List.mem_flatten.1 h1
          exact HSl.out r (by rw [← HCk.out.flat]; exact List.mem_flatten.2 ⟨y, List.mem_of_mem_take hy, hry⟩))
      obtain ⟨M, hM⟩ : ∃ M, addL L p (P.take k) = M := ⟨_, rfl⟩
      rw [hM] at HMs
      rw [hM] at HLo HNx hMok hMl
      obtain ⟨xs', g1, g2, g3⟩ := HLo.out
      have hn0' : 0 < n' := by
        have h1 := (HRq.out w1 (Only.refl _ _)).len
        have h2 := HQf.out.1
        rcases Nat.eq_zero_or_pos n' with e | e
        · exact absurd (List.eq_nil_of_length_eq_zero (by omega)) h2
        · exact e
      obtain ⟨A5, n5, c5, rfl, hls, hA5⟩ := HLo.out.lsl
      have HPush := hid (show ∀ W v' w', Below wr.heap.size wr W → joinL M (pAt p k) q = M ++ [(pAt p k, q)] → w'.ownsRow B 77 2 v' (M.length + 1) (lfC xs' ++ [.int .i64 (pAt p k), .slice (some ad) n' c']) → W.grownBy w' (Value.slice A5 n5 c5).ownBlock → (v'.ownBlock = (Value.slice A5 n5 c5).ownBlock ∨ v'.ownBlock = some W.heap.size) → AdAt w w1 B Q A v L p P (k + 1) v' (.int .i64 (-1)) w' from fun W v' w' hb hj ho hg ha => by
        have hone : Only (fun z => v.ownBlock = some z) w1 W := HOn.out.then_below hb
        refine ⟨by unfold pAt; rw [if_neg (by omega)], ?_, ?_, fun z hz => ?_⟩
        · rw [HNx.out, hj]
          refine LOwn.push (Q := QAdd w Q A) g1 (fun j x hx => ?_) (HRq.out W hone) hn0' (.inr (.inl ⟨a0, hA0, ha0⟩)) (fun gz hgz e => ?_) (fun x hx => (hMok x hx).1) ho hg ha
          · obtain ⟨r2, m2, cc2, f1, f2, f3, f4⟩ := g3 j x hx
            exact ⟨r2, m2, cc2, f1, f2.on hb, f3, f4⟩
          · rcases HLb.out gz hgz with h1 | h1
            · exact HAv.out a0 hA0 gz h1 (by rw [ha0]; exact e)
            · have := HB.out.size; omega
        · exact ⟨hg.os.trans hone.os, hg.tape.trans hone.tape, hg.output.trans hone.output, Nat.le_trans hone.size hg.size, fun z hz hn => by
            have h1 := hone.size
            rw [hg.block z (by omega) (fun e => by
              rcases HLb.out z e.symm with h2 | h2
              · exact hn h2
              · omega)]
            exact hone.block z hz hn⟩
        · rcases ha with e | e
          · exact HLb.out z (e ▸ hz)
          · rw [e] at hz
            injection hz with hz
            have h1 := hone.size
            exact .inr (by omega))
      have HG2 := hid g2
      have HHd := hid (And.intro g1 (And.intro hMl hn0'))
      have HM5 := hid (show M.length = n5 from hls.len)
      have hki : (k : Int) < P.length := by omega
      have hkb : (k : Int) < 10000 := by omega
      have HA0 := hid hA0
      have HLs := hid hls
      have HA5 := hid hA5
      clear hx0 hrs hcp g1 g2 g3 hls hMl hA0 hA5
      by_cases hM0 : M = []
      · have hn5 : n5 = 0 := by rw [← HM5.out, hM0]; rfl
        have HJ := hid (show joinL M (pAt p k) q = M ++ [(pAt p k, q)] from by rw [hM0]; rfl)
        subst hn5
        have HBs := hid (show B ≤ wr.heap.size from by have h1 := HLk.out.2.2.1; have h2 := HB.out.size; have h3 := HOn.out.size; omega)
        go_wp2_with (at_builtin; refine wpList_append_own_at _ rfl _ _ 49 rfl B 77 i0 (.agg #[.int .i64 0, .slice none 0 0]) 2 32 Tryz.underlying49 hi hz0 hz1 hz2 rfl (by decide) _ _ _ rfl (World.ownsRow.alloc HG2.out _) ⟨wr.heap.size, 0, none⟩ 1 1 [.int .i64 (pAt p k), .slice (some ad) n' c'] rfl rfl ?c1 ?c2 ?c3 ?c4 ?c5 ?_)
        case c1 =>
          intro j u hu
          rcases j with _ | _ | j
          · simp at hu; subst hu; exact (Blk.new wr _ _).cell 0
          · simp at hu; subst hu; exact (Blk.new wr _ _).cell 1
          · simp at hu
        case c2 => intro u hu; simp at hu; rcases hu with rfl | rfl <;> rfl
        case c3 => have := HHd.out.2.1; unfold maxLen; omega
        case c4 => have := HHd.out.2.1; omega
        case c5 => have := HBs.out; simp; omega
        intro v' w3 hown' hgrow _ hat
        have HN := hid (HPush.out _ v' w3 ((Below.refl _ _).alloc (Nat.le_refl _) _) HJ.out (by rw [hM0]; exact hown') hgrow (by rw [World.size_alloc]; exact hat))
        clear hown' hgrow hat d0
        go_wp2
        go_roundw
        case rel => exact ⟨k + 1, by omega, by go_num, HN.out⟩
        case measure => simp [intOf]; omega
      · have hMl0 : M.length ≠ 0 := fun e => hM0 (List.eq_nil_of_length_eq_zero e)
        obtain ⟨j, hj⟩ : ∃ j, n5 = j + 1 := ⟨n5 - 1, by have := HM5.out; omega⟩
        subst hj
        obtain ⟨adL, x5, r5, m5, cc5, hA5e, _, hx5, _, hcl5, hr5⟩ := HLs.out.get (show j < j + 1 by omega)
        obtain ⟨g, hg5⟩ : ∃ g, A5 = some ⟨g, 0, none⟩ := by
          obtain ⟨e1, _⟩ := HA5.out adL hA5e
          exact ⟨adL.block, by rw [hA5e, ← e1]⟩
        subst hg5
        obtain rfl : adL = ⟨g, 0, none⟩ := (Option.some.inj hA5e).symm
        have HX5 := hid hx5
        have HJn := hid (joinL_last HM5.out hx5 (pAt p k) q)
        have eA : (⟨g, 0, none⟩ : Addr).add (j * 2) = ⟨g, j * 2, none⟩ := by unfold Addr.add; split <;> simp_all
        rw [eA] at hcl5
        have hcl5' : wr.cell? ⟨g, j * 2 + 1, none⟩ = some (.slice (some r5) m5 cc5) := hcl5
        obtain ⟨a, ha⟩ : ∃ a, (laidR x5.2).length = a := ⟨_, rfl⟩
        obtain ⟨b, hb⟩ : ∃ b, (laidR q).length = b := ⟨_, rfl⟩
        rw [ha, hb] at HJn
        have hM5x := hMok x5 (List.mem_of_getElem? hx5)
        have hm5 : m5 ≤ 248 := by have h1 := laidR_long x5.2; have h2 := hr5.len; have h3 := hM5x.2; omega
        have hn5 : n' ≤ 248 := by have h1 := laidR_long q; have h2 := (HRq.out w1 (Only.refl _ _)).len; have h3 := HQf.out.2; omega
        have ha248 : a ≤ 248 := by rw [← ha]; exact hM5x.2
        have hb248 : b ≤ 248 := by rw [← hb]; exact HQf.out.2
        have hm50 : 0 < m5 := by
          have h2 := hr5.len
          rcases Nat.eq_zero_or_pos m5 with e | e
          · exact absurd (List.eq_nil_of_length_eq_zero (by omega)) hM5x.1
          · exact e
        have HSz1 := hid (size_any (some r5) m5 cc5 x5.2 wr hr5 (by omega) (HMs.out x5 (List.mem_of_getElem? hx5)) (by omega))
        have HSq := hid (HQs.out q (List.mem_of_getElem? hq))
        have HR5 := hid hr5
        rw [ha] at HSz1
        have hj9 : (j : Int) ≤ 900 := by have h1 := HM5.out; have h2 := HHd.out.2.1; omega
        have hj8 : wrap64 (j : Int) = (j : Int) := by unfold wrap64; omega
        clear hcl5 eA hx5 hM5x hr5 ha hA5e hM0 hMl0
        go_wp2_with fail
        refine HSz1.out.mono ?_
        rintro e w2 ⟨rfl, hb2⟩
        have HB2 := hid hb2
        have HSz2 := hid (size_any (some ad) n' c' q w2 (HRq.out w2 (HOn.out.then_below hb2)) (by omega) HSq.out (by omega))
        rw [hb] at HSz2
        clear hb2 hb HSz1
        go_wp2_with fail
        refine HSz2.out.mono ?_
        rintro e w3 ⟨rfl, hb3⟩
        have HB3 := hid (HB2.out.trans (hb3.mono HB2.out.size))
        have hO3 : w3.ownsRow B 77 2 (.slice (some ⟨g, 0, none⟩) (j + 1) c5) M.length (lfC xs') := World.ownsRow.kept HG2.out (only_below HB3.out none) (Classical.em _)
        have HO3 := hid hO3
        have hgl : g < wr.heap.size := (World.ownsRow.lt HG2.out g rfl).2
        have d3 : w3.cell? ⟨g, j * 2 + 1, none⟩ = some (.slice (some r5) m5 cc5) := (HB3.out.cell (p := ⟨g, j * 2 + 1, none⟩) hgl).trans hcl5'
        have HBs := hid (show B ≤ wr.heap.size from by have h1 := HLk.out.2.2.1; have h2 := HB.out.size; have h3 := HOn.out.size; omega)
        have hcl6 := hcl5'
        clear hb3 HSz2 hO3 hcl5' d0
        by_cases hab : a + b ≤ 248
        · rw [if_pos hab] at HJn
          have ht : decide (a + b ≤ 248) = true := decide_eq_true hab
          have HCl := hid hcl6
          go_wp2_with fail
          have hblk := Blk.new w3 48 #[.slice (some r5) m5 cc5, .slice (some ad) n' c']
          have hbc : Below wr.heap.size wr (w3.alloc (.cells #[.slice (some r5) m5 cc5, .slice (some ad) n' c'] 48)) := HB3.out.alloc HB3.out.size _
          have HBc := hid hbc
          refine (concatRec_any w3.heap.size r5 ad m5 cc5 n' c' x5.2 q _ hblk (HR5.out.on hbc) (HRq.out _ (HOn.out.then_below hbc)) (by omega) (by omega)).mono ?_
          rintro e w4 ⟨v4, rfl, hkr, hb4⟩
          have HB4 := hid (HBc.out.trans (hb4.mono HBc.out.size))
          obtain ⟨A4, n4, c4, rfl, hl4, _, _, hnil4, hat4⟩ := hkr.form
          obtain ⟨A4', n4', c4', e4, hrs4⟩ := hkr.rsl
          cases e4
          obtain ⟨ad4, hA4⟩ : ∃ ad4, A4 = some ad4 := by
            rcases A4 with _ | ad4
            · have h1 := (hnil4 rfl).1
              rw [List.length_append] at hl4
              have h2 := HHd.out.2.2
              have h3 := (HRq.out w1 (Only.refl _ _)).len
              omega
            · exact ⟨ad4, rfl⟩
          subst hA4
          obtain ⟨g4, rfl, hg4, _, _⟩ := hat4 ad4 rfl
          have hg4w : wr.heap.size ≤ g4 := Nat.le_trans HBc.out.size hg4
          have hO4 : w4.ownsRow B 77 2 (.slice (some ⟨g, 0, none⟩) (j + 1) c5) (j + 1) (lfC xs') := by
            have := World.ownsRow.kept HG2.out (only_below HB4.out none) (Classical.em _)
            rwa [HM5.out] at this
          have f4 := hO4.frozenAt (j * 2 + 1)
          have d4 : w4.cell? ⟨g, j * 2 + 1, none⟩ = some (.slice (some r5) m5 cc5) := (HB4.out.cell (p := ⟨g, j * 2 + 1, none⟩) hgl).trans HCl.out
          have HN := hid (show AdAt w w1 B Q A v L p P (k + 1) (.slice (some ⟨g, 0, none⟩) (j + 1) c5) (.int .i64 (-1)) (w4.setCell ⟨g, j * 2 + 1, none⟩ (.slice (some ⟨g4, 0, none⟩) n4 c4)) from by
            refine ⟨by unfold pAt; rw [if_neg (by omega)], ?_, ?_, fun z hz => HLb.out z hz⟩
            · rw [HNx.out, HJn.out]
              obtain ⟨xp, xl⟩ := x5
              refine (HLo.out.on HB4.out).setR HX5.out hrs4 (.inr (.inr ?_)) (fun e => by have e' : g4 = g := e; omega)
              have h1 := HB.out.size
              have h2 := HOn.out.size
              show w.heap.size ≤ g4
              omega
            · have hone : Only (fun z => v.ownBlock = some z) w1 w4 := HOn.out.then_below HB4.out
              refine ⟨hone.os, hone.tape, hone.output, by simpa using hone.size, fun z hz hn => ?_⟩
              have hzg : z ≠ g := fun e => by
                rcases HLb.out g rfl with h2 | h2
                · exact hn (e ▸ h2)
                · omega
              rw [← hone.block z hz hn]
              exact (World.ownsRow.stored hO4 (j * 2 + 1) (.slice (some ⟨g4, 0, none⟩) n4 c4)).2.block z (by have := hone.size; omega) (fun e => hzg (by injection e)))
          clear hblk hbc hb4 hkr hl4 hnil4 hat4 hrs4 hg4 hO4 d3
          go_wp2
          go_roundw
          case rel => exact ⟨k + 1, by omega, by go_num, HN.out⟩
          case measure => simp [intOf]; omega
        · rw [if_neg hab] at HJn
          have ht : decide (a + b ≤ 248) = false := decide_eq_false hab
          go_wp2_with (at_builtin; refine wpList_append_own_at _ rfl _ _ 49 rfl B 77 i0 (.agg #[.int .i64 0, .slice none 0 0]) 2 32 Tryz.underlying49 hi hz0 hz1 hz2 rfl (by decide) _ _ _ rfl (World.ownsRow.alloc HO3.out _) ⟨w3.heap.size, 0, none⟩ 1 1 [.int .i64 (pAt p k), .slice (some ad) n' c'] rfl rfl ?c1 ?c2 ?c3 ?c4 ?c5 ?_)
          case c1 =>
            intro j u hu
            rcases j with _ | _ | j
            · simp at hu; subst hu; exact (Blk.new w3 _ _).cell 0
            · simp at hu; subst hu; exact (Blk.new w3 _ _).cell 1
            · simp at hu
          case c2 => intro u hu; simp at hu; rcases hu with rfl | rfl <;> rfl
          case c3 => have := HHd.out.2.1; unfold maxLen; omega
          case c4 => have := HHd.out.2.1; omega
          case c5 => have := HBs.out; have := HB3.out.size; simp; omega
          intro v' w4 hown' hgrow _ hat
          have HN := hid (HPush.out _ v' w4 (HB3.out.alloc HB3.out.size _) HJn.out hown' hgrow (by rw [World.size_alloc]; exact hat))
          clear hown' hgrow hat
          go_wp2
          go_roundw
          case rel => exact ⟨k + 1, by omega, by go_num, HN.out⟩
          case measure => simp [intOf]; omega
    · have he : P.take k = P := List.take_of_length_le (by omega)
      rw [he] at HLo
      have hki : ¬ (k : Int) < P.length := by omega
      obtain ⟨A5, n5, c5, rfl, _⟩ := HLo.out.lsl
      go_wp2
      go_ret
      exact ⟨_, rfl, P, HCk.out, HLo.out, (Only.of_below HB.out).trans HOn.out (fun i hi => .inl hi), fun z hz => (HLb.out z hz).imp id (fun h => by have := HB.out.size; omega)⟩
end Go.Proofs.YtkhdgacjgccnnaaGreatDoor
namespace Go.Proofs.YtkhdgacjgccnnaaGreatDoor
open Go.RowKit

set_option maxRecDepth 100000 in
set_option maxHeartbeats 4000000 in
theorem bsearchR_any (A : Option Addr) (n c : Nat) (l : List Rec) (k : ByteArray) (w : World) (h : RSl w w.heap.size A n c l) (hr : Ris l) (hn : l.length ≤ 100000) :
    Calls Tryz.prog 24 #[.slice A n c, .string k, .func (.func 25) #[] #[]] w fun e w' => ∃ i : Nat, e = .returned (.tuple #[.int .i64 (i : Int), .bool (isAt l k i)]) ∧ Low l k i ∧ Below w.heap.size w w' := by
  have hln := h.len
  have HRow := hid h
  have HR := hid hr
  have HL := hid hln
  have hn1 : (n : Int) ≤ 100000 := by omega
  clear h hr hln hn
  go_enter Tryz.func24, Tryz.ntmps24
  go_wp2
  go_loopw [9, 10] (fun iv jv wr => ∃ i j : Nat, iv = .int .i64 (i : Int) ∧ jv = .int .i64 (j : Int) ∧ i ≤ j ∧ j ≤ n ∧ (∀ q x, q < i → l[q]? = some x → kc x.1 k < 0) ∧ (∀ q x, j ≤ q → l[q]? = some x → 0 ≤ kc x.1 k) ∧ Below w.heap.size w wr) (fun iv jv _ => (intOf jv).toNat - (intOf iv).toNat)
  case atStart => exact ⟨0, n, rfl, rfl, Nat.zero_le _, Nat.le_refl _, fun q x h _ => absurd h (by omega), fun q x h hx => absurd (List.getElem?_eq_some_iff.1 hx).1 (by rw [HL.out]; omega), Below.refl _ _⟩
  case round =>
    obtain ⟨i, j, rfl, rfl, hij, hjn, hlo, hhi, hbw⟩ := hrel
    have HBw := hid hbw
    clear hbw
    have HLo := hid hlo
    have HHi := hid hhi
    clear hlo hhi
    have hj1 : (j : Int) ≤ n := by omega
    by_cases hlt : i < j
    · obtain ⟨m, hm⟩ : ∃ m, (i + j) / 2 = m := ⟨_, rfl⟩
      have hmi : ((i : Int) + (j : Int)) / 2 = (m : Int) := by omega
      have HMb := hid (show i ≤ m ∧ m < j from by omega)
      obtain ⟨x, hx⟩ : ∃ x, l[m]? = some x := ⟨_, List.getElem?_eq_getElem (by rw [HL.out]; omega)⟩
      obtain ⟨ad, x9, rfl, _, hx9, c0, c1⟩ := (HRow.out.below HBw.out).get (k := m) (by omega)
      obtain rfl : x9 = x := Option.some.inj (hx9.symm.trans hx)
      clear hx9
      have HX := hid hx
      have hmn : (m : Int) < n := by omega
      have hij2 : (i : Int) < (j : Int) := by omega
      obtain ⟨z, hz⟩ : ∃ z, kc x9.1 k = z := ⟨_, rfl⟩
      obtain ⟨b, hb⟩ : ∃ b, decide (z < 0) = b := ⟨_, rfl⟩
      have HZ := hid hz
      have HBx := hid hb
      clear hx hm hz
      go_wp2_with fail
      refine (findC_any x9 k _).mono ?_
      rw [HZ.out]
      rintro e w1 ⟨rfl, hb1⟩
      have HB1 := hid (HBw.out.trans (hb1.mono HBw.out.size))
      clear hb1
      cases b
      · have HN := hid (show ∀ q y, m ≤ q → l[q]? = some y → 0 ≤ kc y.1 k from fun q y hq hy => by
          have h1 : 0 ≤ kc x9.1 k := by rw [HZ.out]; have := HBx.out; simpa using this
          rcases Nat.lt_or_eq_of_le hq with h2 | rfl
          · by_cases h3 : kc y.1 k < 0
            · have h4 := kc_trans (HR.out.lt h2 HX.out hy) h3
              omega
            · omega
          · rw [HX.out] at hy; injection hy with hy; rw [← hy]; exact h1)
        go_wp2
        go_roundw
        case rel => exact ⟨i, m, rfl, rfl, HMb.out.1, by have := HMb.out; omega, HLo.out, HN.out, HB1.out⟩
        case measure => have := HMb.out; simp [intOf]; omega
      · have HN := hid (show ∀ q y, q < m + 1 → l[q]? = some y → kc y.1 k < 0 from fun q y hq hy => by
          have h1 : kc x9.1 k < 0 := by rw [HZ.out]; have := HBx.out; simpa using this
          rcases Nat.lt_or_eq_of_le (Nat.lt_succ_iff.1 hq) with h2 | rfl
          · exact kc_trans (HR.out.lt h2 hy HX.out) h1
          · rw [HX.out] at hy; injection hy with hy; rw [← hy]; exact h1)
        go_wp2
        go_roundw
        case rel => exact ⟨m + 1, j, by go_num, rfl, by have := HMb.out; omega, hjn, HN.out, HHi.out, HB1.out⟩
        case measure => have := HMb.out; simp [intOf]; omega
    · obtain rfl : i = j := by omega
      have hii : decide (i < i) = false := by simp
      have HLow := hid (show Low l k i from ⟨by rw [HL.out]; exact hjn, HLo.out, HHi.out⟩)
      by_cases hin : i < n
      · obtain ⟨x, hx⟩ : ∃ x, l[i]? = some x := ⟨_, List.getElem?_eq_getElem (by rw [HL.out]; omega)⟩
        obtain ⟨ad, x9, rfl, _, hx9, c0, c1⟩ := (HRow.out.below HBw.out).get (k := i) hin
        obtain rfl : x9 = x := Option.some.inj (hx9.symm.trans hx)
        clear hx9
        have hin2 : (i : Int) < n := by omega
        obtain ⟨z, hz⟩ : ∃ z, kc x9.1 k = z := ⟨_, rfl⟩
        have HI := hid (isAt_get (k := k) hx)
        have HZ := hid hz
        clear hx hlt hij hz
        go_wp2_with fail
        refine (findC_any x9 k _).mono ?_
        rw [HZ.out]
        rintro e w1 ⟨rfl, hb1⟩
        have HB1 := hid (HBw.out.trans (hb1.mono HBw.out.size))
        clear hb1
        go_wp2
        go_ret2
        refine ⟨i, ?_, HLow.out, HB1.out⟩
        rw [HI.out, HZ.out]
        first | rfl | simp [beq_eq_decide]
      · have HI := hid (isAt_no (k := k) (l := l) (i := i) (by rw [HL.out]; exact hin))
        have hin2 : decide (i < n) = false := by simpa using hin
        clear hlt hij
        go_wp2
        go_ret2
        exact ⟨i, by rw [HI.out]; rfl, HLow.out, HBw.out⟩
set_option maxRecDepth 100000 in
set_option maxHeartbeats 1000000 in
theorem findR_any (A : Option Addr) (n c : Nat) (l : List Rec) (k : ByteArray) (w : World) (h : RSl w w.heap.size A n c l) (hr : Ris l) (hn : l.length ≤ 100000) :
    Calls Tryz.prog 13 #[.slice A n c, .string k] w (FindO l k w) := by
  have HB := hid (bsearchR_any A n c l k w h hr hn)
  clear h hr
  go_enter Tryz.func13, Tryz.ntmps13
  go_wp2_with fail
  refine HB.out.mono ?_
  rintro e w1 ⟨i, rfl, hl, hb⟩
  go_wp2
  go_ret2
  exact ⟨i, rfl, hl, hb⟩
end Go.Proofs.YtkhdgacjgccnnaaGreatDoor
namespace Go.Proofs.YtkhdgacjgccnnaaGreatDoor
open Go.RowKit

/-- no two leaves side by side would find room on one page -/
def TightL (L : List Lf) : Prop := ∀ (j : Nat) (x y : Lf), L[j]? = some x → L[j + 1]? = some y → 248 < (laidR x.2).length + (laidR y.2).length
theorem tightL_nil : TightL [] := fun j x y h => by simp at h
theorem last_or (L : List Lf) : L = [] ∨ ∃ j x, L.length = j + 1 ∧ L[j]? = some x := by
  rcases Nat.eq_zero_or_pos L.length with e | e
  · exact .inl (List.eq_nil_of_length_eq_zero e)
  · exact .inr ⟨L.length - 1, L[L.length - 1], by omega, List.getElem?_eq_getElem (by omega)⟩
theorem joinL_nil (p : Int) (q : List Rec) : joinL [] p q = [(p, q)] := rfl
theorem joinL_tight {L : List Lf} (h : TightL L) (p : Int) (q : List Rec) : TightL (joinL L p q) := by
  rcases last_or L with rfl | ⟨j, x, hl, hx⟩
  · rw [joinL_nil]
    intro i a b _ hb
    simp at hb
  · rw [joinL_last hl hx]
    split
    · intro i a b ha hb
      have hbl := (List.getElem?_eq_some_iff.1 hb).1
      rw [List.length_set, hl] at hbl
      by_cases e : i + 1 = j
      · rw [e, List.getElem?_set_self (by omega)] at hb
        cases hb
        rw [List.getElem?_set_ne (by omega)] at ha
        have h1 := h i a x ha (by rw [e]; exact hx)
        show 248 < (laidR a.2).length + (laidR (x.2 ++ q)).length
        rw [laidR_append, List.length_append]
        omega
      · rw [List.getElem?_set_ne (by omega)] at ha hb
        exact h i a b ha hb
    · rename_i hgt
      intro i a b ha hb
      have hbl := (List.getElem?_eq_some_iff.1 hb).1
      rw [List.length_append, hl, List.length_singleton] at hbl
      by_cases e : i = j
      · subst e
        rw [List.getElem?_append_left (by omega), hx] at ha
        cases ha
        rw [List.getElem?_append_right (by omega), hl, Nat.sub_self] at hb
        cases hb
        show 248 < (laidR x.2).length + (laidR q).length
        omega
      · rw [List.getElem?_append_left (by omega)] at ha hb
        exact h i a b ha hb
theorem addL_tight (P : List (List Rec)) : ∀ (L : List Lf) (p : Int), TightL L → TightL (addL L p P) := by
  induction P with
  | nil => intro L p h; exact h
  | cons q P ih => intro L p h; exact ih _ _ (joinL_tight h p q)
/-- the pages that leaves have -/
def pgs (L : List Lf) : List Int := (L.map (·.1)).filter (fun p => decide (p ≠ -1))
def pg1 (p : Int) : List Int := [p].filter (fun p => decide (p ≠ -1))
theorem pgs_append (L M : List Lf) : pgs (L ++ M) = pgs L ++ pgs M := by unfold pgs; rw [List.map_append, List.filter_append]
theorem joinL_pgs (L : List Lf) (p : Int) (q : List Rec) : (pgs (joinL L p q)).Sublist (pgs L ++ pg1 p) := by
  rcases last_or L with rfl | ⟨j, x, hl, hx⟩
  · rw [joinL_nil]
    exact List.Sublist.refl _
  · rw [joinL_last hl hx]
    split
    · have e : (L.set j (x.1, x.2 ++ q)).map (·.1) = L.map (·.1) := by
        apply List.ext_getElem?
        intro i
        rw [List.getElem?_map, List.getElem?_map]
        by_cases ei : i = j
        · subst ei
          rw [List.getElem?_set_self (by omega), hx]
          rfl
        · rw [List.getElem?_set_ne (fun e => ei e.symm)]
      unfold pgs
      rw [e]
      exact List.sublist_append_left _ _
    · rw [pgs_append]
      exact List.Sublist.refl _
theorem addL_pgs (P : List (List Rec)) : ∀ (L : List Lf) (p : Int), (pgs (addL L p P)).Sublist (pgs L ++ pg1 p) := by
  induction P with
  | nil => intro L p; exact List.sublist_append_left _ _
  | cons q P ih =>
    intro L p
    have h := ih (joinL L p q) (-1)
    have e : pg1 (-1) = [] := rfl
    rw [e, List.append_nil] at h
    exact h.trans (joinL_pgs L p q)
theorem pgs_mem {L : List Lf} {p : Int} : p ∈ pgs L ↔ p ≠ -1 ∧ ∃ x, x ∈ L ∧ x.1 = p := by
  unfold pgs
  rw [List.mem_filter, List.mem_map, decide_eq_true_iff]
  exact And.comm
theorem pgs_cons (x : Lf) (L : List Lf) : pgs (x :: L) = pg1 x.1 ++ pgs L := by
  show pgs ([x] ++ L) = _
  rw [pgs_append]
  rfl
theorem PgOk.tail {x : Lf} {L : List Lf} (h : PgOk (x :: L)) : PgOk L :=
  ⟨fun y hy => h.1 y (by simp [hy]), fun i j a b ha hb hab hn => by
    have := h.2 (i + 1) (j + 1) a b (by simpa using ha) (by simpa using hb) hab hn
    omega⟩
theorem PgOk.nodup : ∀ {L : List Lf}, PgOk L → (pgs L).Nodup
  | [], _ => List.nodup_nil
  | x :: L, h => by
    have ih := PgOk.nodup h.tail
    rw [pgs_cons]
    by_cases e : x.1 = -1
    · have : pg1 x.1 = [] := by rw [e]; rfl
      rw [this]
      exact ih
    · have : pg1 x.1 = [x.1] := by unfold pg1; simp [e]
      rw [this]
      refine List.nodup_cons.2 ⟨fun hm => ?_, ih⟩
      obtain ⟨_, y, hy, hyx⟩ := pgs_mem.1 hm
      obtain ⟨j, hj⟩ := List.getElem?_of_mem hy
      have := h.2 0 (j + 1) x y rfl (by simpa using hj) hyx.symm e
      omega
theorem pgOk_of : ∀ {L : List Lf}, (pgs L).Nodup → (∀ x, x ∈ L → -1 ≤ x.1 ∧ x.1 < 256) → PgOk L
  | [], _, _ => ⟨(fun x hx => by cases hx), (fun i j a b ha => by simp at ha)⟩
  | x :: L, h, hr => by
    rw [pgs_cons] at h
    have ih := pgOk_of (L := L) (List.nodup_append.1 h).2.1 (fun y hy => hr y (by simp [hy]))
    refine ⟨hr, fun i j a b ha hb hab hn => ?_⟩
    have key : ∀ (k : Nat) (y : Lf), L[k]? = some y → x.1 = y.1 → x.1 ≠ -1 → False := fun k y hy e hx => by
      have h1 : x.1 ∈ pg1 x.1 := by unfold pg1; simp [hx]
      have h2 : x.1 ∈ pgs L := pgs_mem.2 ⟨hx, y, List.mem_of_getElem? hy, e.symm⟩
      exact (List.nodup_append.1 h).2.2 _ h1 _ h2 rfl
    rcases i with _ | i
    · rcases j with _ | j
      · rfl
      · simp at ha hb
        subst ha
        exact (key j b hb hab hn).elim
    · rcases j with _ | j
      · simp at ha hb
        subst hb
        exact (key i a ha hab.symm (by rw [← hab]; exact hn)).elim
      · simp at ha hb
        rw [ih.2 i j a b ha hb hab hn]
/-- records on leaves, the pages some of the old ones' -/
structure RelOk (L0 : List Lf) (l : List Rec) (R : List Lf) : Prop where
  recs : recsOf R = l
  ok : LfOk R
  tight : TightL R
  pg : (pgs R).Sublist (pgs L0)
theorem RelOk.start (L0 : List Lf) : RelOk (L0.take 0) [] [] := ⟨rfl, (fun x hx => by cases hx), tightL_nil, List.Sublist.refl _⟩
theorem RelOk.step {L0 R : List Lf} {l m : List Rec} {k : Nat} {x : Lf} {P : List (List Rec)} (h : RelOk (L0.take k) l R) (hx : L0[k]? = some x) (hP : CutOk m P) : RelOk (L0.take (k + 1)) (l ++ m) (addL R x.1 P) := by
  refine ⟨by rw [recsOf_add, h.recs, hP.flat], addL_ok P R x.1 h.ok hP.fit, addL_tight P R x.1 h.tight, ?_⟩
  have e : L0.take (k + 1) = L0.take k ++ [x] := by rw [List.take_add_one, hx]; rfl
  rw [e, pgs_append]
  exact (addL_pgs P R x.1).trans (List.Sublist.append h.pg (List.Sublist.refl _))
theorem RelOk.last {L0 R : List Lf} {l m : List Rec} {P : List (List Rec)} (h : RelOk L0 l R) (hP : CutOk m P) : RelOk L0 (l ++ m) (addL R (-1) P) := by
  refine ⟨by rw [recsOf_add, h.recs, hP.flat], addL_ok P R (-1) h.ok hP.fit, addL_tight P R (-1) h.tight, ?_⟩
  have := addL_pgs P R (-1)
  have e : pg1 (-1) = [] := rfl
  rw [e, List.append_nil] at this
  exact this.trans h.pg
theorem LfOk.count : ∀ {L : List Lf}, LfOk L → L.length ≤ (recsOf L).length
  | [], _ => Nat.zero_le _
  | x :: L, h => by
    have ih := LfOk.count (L := L) (fun y hy => h y (by simp [hy]))
    have h1 := (h x (by simp)).1
    have e : recsOf (x :: L) = x.2 ++ recsOf L := by unfold recsOf; simp
    have h2 : x.2.length ≠ 0 := fun e => h1 (List.eq_nil_of_length_eq_zero e)
    rw [e, List.length_append, List.length_cons]
    omega
end Go.Proofs.YtkhdgacjgccnnaaGreatDoor
