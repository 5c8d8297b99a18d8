/- Put together out of 4 texts. Package page's laws: an act told both, the store and the model. -/
import Derived.Test.YtaonhbmimaiiiaaGreatDoorGXbf
namespace Go.Proofs.YtaonhbmimaiiiaaGreatDoor
open Go.RowKit Go.Maps

/-- what the model says was committed of page i -/
def Mdl.old (M : Mdl) : Cont := fun i => if i < 30 ∧ M.had i = true then some (M.was i) else none
/-- store and model are alike -/
structure Agr (P : PS) (ch : Chg) (cont : Cont) (M : Mdl) : Prop where
  ep : P.epoch = M.ep
  cnt : ∀ i, contC cont ch i = M.cont i
  had : ∀ i, cont i = M.old i
  tch : ∀ i, (ch i).isSome = (decide (i < 30) && M.tch i)
theorem contC_put_other' (cont : Cont) (ch : Chg) {p i : Nat} (l : List Int) (h : i ≠ p) : contC cont (putC ch p l) i = contC cont ch i := by
  unfold contC putC; rw [if_neg h]
theorem contC_putP (cont : Cont) (ch : Chg) (p i : Nat) {l : List Int} (h : 1 ≤ l.length) : contC cont (putC ch p l) i = if i = p then some l else contC cont ch i := by
  by_cases e : i = p
  · subst e; rw [if_pos rfl]; exact contC_some (by simp [putC]) h
  · rw [if_neg e]; exact contC_put_other' _ _ _ e
theorem putC_isSome (ch : Chg) (p i : Nat) (l : List Int) : (putC ch p l i).isSome = if i = p then true else (ch i).isSome := by
  unfold putC; split <;> rfl
section
variable {P : PS} {ch : Chg} {cont : Cont} {M : Mdl}
def Mdl.write (M : Mdl) (p : Nat) (l : List Int) : Mdl := { M with tch := fun i => if i = p then true else M.tch i, on := fun i => if i = p then true else M.on i, now := fun i => if i = p then l else M.now i }
def Mdl.drop (M : Mdl) (p : Nat) (l : List Int) : Mdl := { M with tch := fun i => if i = p then (M.tch p || M.on p) else M.tch i, on := fun i => if i = p then false else M.on i, now := fun i => if i = p then l else M.now i }
def Mdl.abort (M : Mdl) : Mdl := { M with now := M.was, on := M.had, tch := fun _ => false }
def Mdl.commit (M : Mdl) (e : Int) : Mdl := { M with was := M.now, had := M.on, tch := fun _ => false, ep := e }
theorem agr_write (h : Agr P ch cont M) {p : Nat} (hp : p < 30) {l : List Int} (hl : 1 ≤ l.length) : Agr P (putC ch p l) cont (M.write p l) where
  ep := h.ep
  cnt := fun i => by
    rw [contC_putP _ _ _ _ hl]
    by_cases e : i = p
    · subst e; rw [if_pos rfl, mcont_yes hp (by simp [Mdl.write])]; simp [Mdl.write]
    · rw [if_neg e, h.cnt i]; unfold Mdl.cont Mdl.write; simp only [if_neg e]
  had := h.had
  tch := fun i => by
    rw [putC_isSome]
    by_cases e : i = p
    · subst e; simp [Mdl.write, hp]
    · rw [if_neg e, h.tch i]; simp only [Mdl.write, if_neg e]
theorem agr_drop {n : Nat} (hk : Fine (halN n) P cont) (h : Agr P ch cont M) {p : Nat} (hp : p < 30) (l : List Int) : Agr P (dropC P ch p) cont (M.drop p l) := by
  have ht : thereB P ch p = M.on p := by
    rw [there_cont hk (by omega), h.cnt p]
    rcases ho : M.on p with _ | _
    · rw [mcont_no ho]; rfl
    · rw [mcont_yes hp ho]; rfl
  refine ⟨h.ep, fun i => ?_, h.had, fun i => ?_⟩
  · unfold dropC
    by_cases e : i = p
    · subst e
      rw [show (M.drop i l).cont i = none from mcont_no (by simp [Mdl.drop])]
      split
      · exact contC_drop (l := []) (by simp [putC]) rfl
      · next hn => rw [h.cnt i]; exact mcont_no (by rw [ht] at hn; simpa using hn)
    · have e1 : (M.drop p l).cont i = M.cont i := by unfold Mdl.cont Mdl.drop; simp only [if_neg e]
      rw [e1, ← h.cnt i]
      split
      · exact contC_put_other' _ _ _ e
      · rfl
  · unfold dropC
    by_cases e : i = p
    · subst e
      rw [show (M.drop i l).tch i = (M.tch i || M.on i) by simp [Mdl.drop]]
      split
      · next hn => rw [putC_isSome, if_pos rfl]; rw [ht] at hn; simp [hp, hn]
      · next hn => rw [h.tch i]; rw [ht] at hn; simp only [Bool.not_eq_true] at hn; rw [hn, Bool.or_false]
    · rw [show (M.drop p l).tch i = M.tch i by simp [Mdl.drop, e], ← h.tch i]
      split
      · rw [putC_isSome, if_neg e]
      · rfl
theorem agr_abort (h : Agr P ch cont M) : Agr P noChg cont M.abort where
  ep := h.ep
  cnt := fun i => by rw [noChg_cont, h.had i]; rfl
  had := fun i => h.had i
  tch := fun i => by simp [noChg, Mdl.abort]
theorem agr_commit {P' : PS} {e : Int} (h : Agr P ch cont M) (he : P'.epoch = e) : Agr P' noChg (contC cont ch) (M.commit e) where
  ep := he
  cnt := fun i => by rw [noChg_cont, h.cnt i]; rfl
  had := fun i => by rw [h.cnt i]; rfl
  tch := fun i => by simp [noChg, Mdl.commit]
/-- how many are touched below i -/
def tchTo (M : Mdl) (i : Nat) : Nat := ((List.range i).filter M.tch).length
theorem tchTo_yes {M : Mdl} {i : Nat} (h : M.tch i = true) : tchTo M (i + 1) = tchTo M i + 1 := by
  unfold tchTo; rw [List.range_succ, List.filter_append]; simp [h]
theorem tchTo_no {M : Mdl} {i : Nat} (h : M.tch i = false) : tchTo M (i + 1) = tchTo M i := by
  unfold tchTo; rw [List.range_succ, List.filter_append]; simp [h]
theorem tchTo_le (M : Mdl) (i : Nat) : tchTo M i ≤ i := by
  have := List.length_filter_le M.tch (List.range i)
  rwa [List.length_range] at this
theorem agr_keys (h : Agr P ch cont M) : (keysOf ch).length = tchTo M 30 := by
  unfold keysOf tchTo
  rw [show (256 : Nat) = 30 + 226 from rfl, List.range_add, List.filter_append]
  have e1 : ((List.range 226).map (30 + ·)).filter (fun p => (ch p).isSome) = [] := by
    rw [List.filter_eq_nil_iff]
    intro a ha
    obtain ⟨j, _, rfl⟩ := List.mem_map.1 ha
    rw [h.tch, decide_eq_false (by omega), Bool.false_and]; decide
  rw [e1, List.append_nil]
  congr 1
  apply List.filter_congr
  intro a ha
  rw [h.tch, decide_eq_true (List.mem_range.1 ha), Bool.true_and]
theorem agr_nokeys (h : Agr P ch cont M) (h0 : (keysOf ch).length = 0) : ch = noChg := by
  have hk : keysOf ch = [] := List.eq_nil_of_length_eq_zero h0
  funext p
  exact keys_nil hk (fun q hq => by
    have := h.tch q
    rw [decide_eq_false (by omega), Bool.false_and] at this
    rcases hc : ch q with _ | l
    · rfl
    · rw [hc] at this; cases this) p
end
section
variable {Real : World → Nat → DSt → (Nat → Prop) → Prop} {PR : World → Nat → Nat → Nat → Nat → (Nat → Prop) → Prop} {S : Nat → Addr} {w0 w w' : World} {d g n q mk hb : Nat} {s : DSt} {P : PS} {ch : Chg} {cont : Cont} {M : Mdl}
/-- a model at hb, beside what lies in T -/
def MdAt (w : World) (T : Nat → Prop) (hb : Nat) (M : Mdl) : Prop := ∃ f, ¬ T hb ∧ Blk w hb 34 (fnL 151 f).toArray ∧ MdOk w (fun k => T k ∨ k = hb) f M
theorem MdAt.only {T T' : Nat → Prop} (h : MdAt w T hb M) (ho : Only T w w') (hT : ∀ k, T' k → T k ∨ w.heap.size ≤ k) : MdAt w' T' hb M := by
  obtain ⟨f, h1, h2, h3⟩ := h
  have := h2.lt
  exact ⟨f, fun h => (hT hb h).elim h1 (fun h => by omega), (ho.block hb h2.lt h1).trans h2, h3.only ho (fun k hk => .inl (.inl hk)) (fun k hk => hk.elim (fun h => (hT k h).imp .inl id) (fun h => .inl (.inr h)))⟩
theorem MdAt.on {T : Nat → Prop} (h : MdAt w T hb M) (hb' : Below w.heap.size w w') : MdAt w' T hb M := h.only (Only.of_below hb') (fun _ h => .inl h)
/-- the store at g and the model at hb -/
def ShM (Real : World → Nat → DSt → (Nat → Prop) → Prop) (PR : World → Nat → Nat → Nat → Nat → (Nat → Prop) → Prop) (S : Nat → Addr) (w0 w : World) (d g n q mk hb : Nat) (s : DSt) (P : PS) (ch : Chg) (cont : Cont) (M : Mdl) : Prop :=
  ∃ T, Shop Real PR S w0 w d g n q mk T s P ch ∧ MdAt w T hb M ∧ w0.heap.size ≤ hb ∧ Agr P ch cont M ∧ Fine (halN n) P cont
theorem ShM.on (D : DevOk Real) (O : PairOk Real PR) (h : ShM Real PR S w0 w d g n q mk hb s P ch cont M) (hbl : Below w.heap.size w w') : ShM Real PR S w0 w' d g n q mk hb s P ch cont M := by
  obtain ⟨T, h1, h2, h3⟩ := h
  exact ⟨T, h1.on D O hbl, h2.on hbl, h3⟩
theorem ShM.upd {q' mk' : Nat} {s' : DSt} {P' : PS} {ch' : Chg} {T : Nat → Prop} (h2 : MdAt w T hb M) (h : ShopUpd Real PR S w0 w d g n q' mk' T s' P' ch' w') : ∃ T', Shop Real PR S w0 w' d g n q' mk' T' s' P' ch' ∧ MdAt w' T' hb M := by
  obtain ⟨T', k1, k2, k3⟩ := h
  exact ⟨T', k1, h2.only k2 k3⟩
/-- the model turns, the store stands -/
theorem ShM.beside {M' : Mdl} {f' : Nat → Value} {T : Nat → Prop} (D : DevOk Real) (O : PairOk Real PR) (h1 : Shop Real PR S w0 w d g n q mk T s P ch) (hT : ¬ T hb) (hw : w0.heap.size ≤ hb) (ho : Only (fun k => k = hb) w w') (hblk : Blk w' hb 34 (fnL 151 f').toArray) (hm : MdOk w (fun k => T k ∨ k = hb) f' M') : Shop Real PR S w0 w' d g n q mk T s P ch ∧ MdAt w' T hb M' :=
  ⟨h1.beside D O ho (fun k hk e => hT (e ▸ hk)) (fun k e => by rw [e]; exact hw), f', hT, hblk, hm.only ho (fun k hk => .inl (.inr hk)) (fun k hk => .inl hk)⟩
end
end Go.Proofs.YtaonhbmimaiiiaaGreatDoor
namespace Go.Proofs.YtaonhbmimaiiiaaGreatDoor
open Go.RowKit Go.Maps

section
variable {Real : World → Nat → DSt → (Nat → Prop) → Prop} {PR : World → Nat → Nat → Nat → Nat → (Nat → Prop) → Prop} {S : Nat → Addr} {w0 w w' : World} {d g n q mk hb : Nat} {s : DSt} {P : PS} {ch : Chg} {cont : Cont} {M : Mdl}
set_option maxRecDepth 100000 in
set_option maxHeartbeats 16000000 in
theorem toldWrite_any (D : DevOk Real) (O : PairOk Real PR) (hS : Sent w0 S) (h : ShM Real PR S w0 w d g n q mk hb s P ch cont M) {p : Nat} (hp : p < 30) {B : Option Addr} {nB cB : Nat} {l : List Int} (hl : Sl w0 w0.heap.size B nB cB l) (h1 : 1 ≤ nB) (h2 : nB ≤ 248) (hy : Byt l) :
    Calls Tryz.prog 16 #[.pointer (some ⟨g, 0, none⟩), .pointer (some ⟨hb, 0, none⟩), .agg #[.int .i64 1, .int .i64 (p : Int), .slice B nB cB]] w fun e w' => e = .returned (.bool true) ∧ ShM Real PR S w0 w' d g n q mk hb s P (putC ch p l) cont (M.write p l) := by
  obtain ⟨T, hsh, hmd, hw, hag, hfi⟩ := h
  have HD := hid D
  have HO := hid O
  have HS := hid hS
  have HSh := hid hsh
  have HMd := hid hmd
  have HW := hid hw
  have HAg := hid (agr_write hag hp (l := l) (by rw [hl.len]; exact h1))
  have HFi := hid hfi
  have HSl := hid hl
  have HY := hid hy
  have h1i : (1 : Int) ≤ (nB : Int) := by omega
  have h2i : (nB : Int) ≤ 248 := by omega
  have b1 : decide ((nB : Int) < 1) = false := by simp; omega
  have b2 : decide ((248 : Int) < (nB : Int)) = false := by simp; omega
  have HN := hid (And.intro h1 h2)
  have hpi : (p : Int) < 30 := by omega
  have HP := hid hp
  have HSlt0 := hid (show hb < w.heap.size from by obtain ⟨f, _, h, _⟩ := hmd; exact h.lt)
  clear D O hS hsh hmd hw hag hfi hl hy h1 h2 hp
  go_enter Tryz.func16, Tryz.ntmps16
  go_upto_region 1 with fail
  obtain ⟨tb, htb⟩ : ∃ tb, w.heap.size = tb := ⟨_, rfl⟩
  have HTb := hid htb
  have HSlt := hid (show tb ≠ hb from fun e => by have := HSlt0.out; omega)
  have HB0 := hid ((Below.refl w.heap.size w).alloc (Nat.le_refl _) (.cells #[.int .i64 1, .int .i64 (p : Int), .slice B nB cB] 36))
  have hbk := Blk.new w 36 #[.int .i64 1, .int .i64 (p : Int), .slice B nB cB]
  generalize w.alloc (.cells #[.int .i64 1, .int .i64 (p : Int), .slice B nB cB] 36) = w1 at *
  rw [htb] at hbk ⊢
  have HBk := hid hbk
  have c0 := hbk.cell 0
  have c1 := hbk.cell 1
  have c2 := hbk.cell 2
  simp at c0 c1 c2
  have HSh1 := hid (HSh.out.on HD.out HO.out HB0.out)
  have HMd1 := hid (HMd.out.on HB0.out)
  clear htb hbk
  go_wp2_with fail
  refine (sh_write HD.out HO.out HSh1.out (i := p) (by have := HP.out; omega) ((HSl.out.below HSh1.out.below).more HSh1.out.below.size) HN.out.1 HN.out.2 HY.out).mono ?_
  rintro e w2 ⟨rfl, T2, hsh, ho, hT2⟩
  have hnT : ¬ T tb := fun h => by have := HSh.out.lt HD.out HO.out tb h; have := HTb.out; omega
  have HBk2 : Hid (Blk w2 tb 36 #[.int .i64 1, .int .i64 (p : Int), .slice B nB cB]) := hid ((ho.block tb HBk.out.lt hnT).trans HBk.out)
  have HSh2 := hid hsh
  have HMd2 := hid (HMd1.out.only ho hT2)
  have HNt2 := hid (show ¬ T2 tb from fun h => (hT2 tb h).elim hnT (fun h => by have := HBk.out.lt; omega))
  clear hsh ho hT2 hnT c0 c1 c2
  go_wp2_with fail
  refine (is_any S 0 0 _ w2 (HS.out.on HSh2.out.below) .fine).mono ?_
  rintro e w3 ⟨rfl, hb3⟩
  have HSh3 := hid (HSh2.out.on HD.out HO.out hb3)
  obtain ⟨f, hf1, hf2, hf3⟩ := HMd2.out.on hb3
  have HMd3 := hid (And.intro hf1 (And.intro hf2 hf3))
  have hk3 := HBk2.out.on hb3
  have HBk3 := hid hk3
  have c0 := hk3.cell 0
  have c1 := hk3.cell 1
  have c2 := hk3.cell 2
  simp at c0 c1 c2
  have d0 : w3.cell? ⟨hb, 121 + p, none⟩ = some (.bool (M.tch p)) := by rw [blkF_cell hf2 (by have := HP.out; omega), hf3.tch p HP.out]
  have d1 : w3.cell? ⟨hb, 60 + p, none⟩ = some (.bool (M.on p)) := by rw [blkF_cell hf2 (by have := HP.out; omega), hf3.on p HP.out]
  have d2 := Blk.free hf2 (121 + p)
  clear hb3 hf1 hf2 hf3 hk3
  have d3 := Blk.free HMd3.out.2.1 (60 + p)
  rcases htc : M.tch p with _ | _
  all_goals
    rw [htc] at d0
    clear htc
    go_upto_region 15 with fail
    go_region
    go_upto_region 16 with fail
    go_region
    obtain ⟨W4, hW4⟩ : ∃ W4, ((w3.setCell ⟨hb, 121 + p, none⟩ (.bool true)).setCell ⟨hb, 60 + p, none⟩ (.bool true)).drew.drew = W4 := ⟨_, rfl⟩
    have hbk4 : Blk W4 hb 34 (fnL 151 (upF (upF f (121 + p) (.bool true)) (60 + p) (.bool true))).toArray := by rw [← hW4]; exact (blkF_up (blkF_up HMd3.out.2.1 _ _) _ _).drew.drew
    have ho4 : Only (fun k => k = hb) w3 W4 := by rw [← hW4]; exact (((Only.refl (fun k => k = hb) w3).put (p := ⟨hb, 121 + p, none⟩) rfl _).put (p := ⟨hb, 60 + p, none⟩) rfl _).drew.drew
    have HSh4 := hid (HSh3.out.beside HD.out HO.out ho4 (fun k hk e => HMd3.out.1 (e ▸ hk)) (fun k e => by rw [e]; exact HW.out))
    have HMd4 := hid (((HMd3.out.2.2.setTch p HP.out true).setOn p HP.out true).only (T' := fun k => T2 k ∨ k = hb) ho4 (fun k hk => .inl (.inr hk)) (fun k hk => .inl hk))
    have HBk4 := hid hbk4
    have hne : tb ≠ hb := fun e => HSlt.out e
    have HBt4 : Hid (Blk W4 tb 36 #[.int .i64 1, .int .i64 (p : Int), .slice B nB cB]) := hid ((ho4.block tb HBk3.out.lt hne).trans HBk3.out)
    have HSl4 := hid ((HSl.out.below HSh4.out.below).more HSh4.out.below.size)
    clear c0 c1 c2 d0 d1 d2 d3 hbk4 ho4 hne
    rw [hW4]
    clear hW4
    have c2 := HBt4.out.cell 2
    simp at c2
    have c2d : W4.drew.cell? ⟨tb, 2, none⟩ = some (.slice B nB cB) := c2
    have HC := hid (fun (w5 : World) (hb5 : Below W4.heap.size W4 w5) => (show w5.cell? ⟨tb, 2, none⟩ = some (.slice B nB cB) ∧ (∀ v, (w5.setCell ⟨hb, p, none⟩ v).cell? ⟨tb, 2, none⟩ = some (.slice B nB cB)) ∧ w5.cell? ⟨hb, p, none⟩ = some ((upF (upF f (121 + p) (.bool true)) (60 + p) (.bool true)) p) ∧ w5.frozen? ⟨hb, p, none⟩ = false from
      ⟨(Blk.below HBt4.out hb5 HBt4.out.lt).cell 2, fun v => ((Blk.below HBt4.out hb5 HBt4.out.lt).far (p := ⟨hb, p, none⟩) HSlt.out v).cell 2, blkF_cell (Blk.below HBk4.out hb5 HBk4.out.lt) (by have := HP.out; omega), Blk.free (Blk.below HBk4.out hb5 HBk4.out.lt) p⟩))
    go_upto_region 17 with fail
    go_region_held3 (fun w' => w'.cell? ⟨tb, 2, none⟩ = some (.slice B nB cB)) (first | exact c2d | exact e2 | exact e3 _)
      ((first | (go_at_call 54; refine (bytes_any B nB cB l _ HSl4.out.drew (by have := HN.out.2; omega)).mono ?_; rintro e w5 ⟨v5, rfl, ho5, hb5⟩; obtain ⟨A5, c5, rfl, hs5, ha5⟩ := ho5.form; have HO5 := hid (And.intro hs5 ha5); have HB5 := hid ((Below.refl W4.heap.size W4).drew.trans hb5); obtain ⟨e2, e3, g0, g1⟩ := HC.out w5 HB5.out; clear ho5 hs5 ha5 hb5)))
    have HF := hid (show ShM Real PR S w0 (w5.setCell ⟨hb, p, none⟩ (.slice A5 l.length c5)) d g n q mk hb s P (putC ch p l) cont (M.write p l) from by
      have hs5 := HSh4.out.on HD.out HO.out HB5.out
      have hb5 := Blk.below HBk4.out HB5.out HBk4.out.lt
      have ho5 : Only (fun k => k = hb) w5 (w5.setCell ⟨hb, p, none⟩ (.slice A5 l.length c5)) := (Only.refl (fun k => k = hb) w5).put (p := ⟨hb, p, none⟩) rfl _
      have hlt := HSh4.out.lt HD.out HO.out
      obtain ⟨z1, z2⟩ := ShM.beside HD.out HO.out hs5 HMd3.out.1 HW.out ho5 (blkF_up hb5 p (.slice A5 l.length c5)) ((HMd4.out.below HB5.out).setNow p HP.out HO5.out.1 (fun ad ha _ h => by
        have := HO5.out.2 ad ha
        rcases h with h | h
        · have := hlt _ h; simp at *; omega
        · have := HBk4.out.lt; simp at *; omega))
      exact ⟨T2, z1, z2, HW.out, HAg.out, HFi.out⟩)
    clear c2 c2d e2 e3 g0 g1
    go_wp2
    go_ret
    exact ⟨rfl, HF.out⟩
end
end Go.Proofs.YtaonhbmimaiiiaaGreatDoor
namespace Go.Proofs.YtaonhbmimaiiiaaGreatDoor
open Go.RowKit Go.Maps

section
variable {Real : World → Nat → DSt → (Nat → Prop) → Prop} {PR : World → Nat → Nat → Nat → Nat → (Nat → Prop) → Prop} {S : Nat → Addr} {w0 w w' : World} {d g n q mk hb : Nat} {s : DSt} {P : PS} {ch : Chg} {cont : Cont} {M : Mdl}
set_option maxRecDepth 100000 in
set_option maxHeartbeats 16000000 in
theorem toldDrop_any (D : DevOk Real) (O : PairOk Real PR) (hS : Sent w0 S) (h : ShM Real PR S w0 w d g n q mk hb s P ch cont M) {p : Nat} (hp : p < 30) {B : Option Addr} {nB cB : Nat} {l : List Int} (hl : Sl w0 w0.heap.size B nB cB l) (h2 : nB ≤ 300) :
    Calls Tryz.prog 16 #[.pointer (some ⟨g, 0, none⟩), .pointer (some ⟨hb, 0, none⟩), .agg #[.int .i64 2, .int .i64 (p : Int), .slice B nB cB]] w fun e w' => e = .returned (.bool true) ∧ ShM Real PR S w0 w' d g n q mk hb s P (dropC P ch p) cont (M.drop p l) := by
  obtain ⟨T, hsh, hmd, hw, hag, hfi⟩ := h
  have HD := hid D
  have HO := hid O
  have HS := hid hS
  have HSh := hid hsh
  have HMd := hid hmd
  have HW := hid hw
  have HAg := hid (agr_drop hfi hag hp l)
  have HFi := hid hfi
  have HSl := hid hl
  have HN := hid (And.intro h2 h2)
  have hpi : (p : Int) < 30 := by omega
  have HP := hid hp
  have HSlt0 := hid (show hb < w.heap.size from by obtain ⟨f, _, h, _⟩ := hmd; exact h.lt)
  clear D O hS hsh hmd hw hag hfi hl h2 hp
  go_enter Tryz.func16, Tryz.ntmps16
  go_upto_region 1 with fail
  obtain ⟨tb, htb⟩ : ∃ tb, w.heap.size = tb := ⟨_, rfl⟩
  have HTb := hid htb
  have HSlt := hid (show tb ≠ hb from fun e => by have := HSlt0.out; omega)
  have HB0 := hid ((Below.refl w.heap.size w).alloc (Nat.le_refl _) (.cells #[.int .i64 2, .int .i64 (p : Int), .slice B nB cB] 36))
  have hbk := Blk.new w 36 #[.int .i64 2, .int .i64 (p : Int), .slice B nB cB]
  generalize w.alloc (.cells #[.int .i64 2, .int .i64 (p : Int), .slice B nB cB] 36) = w1 at *
  rw [htb] at hbk ⊢
  have HBk := hid hbk
  have c0 := hbk.cell 0
  have c1 := hbk.cell 1
  have c2 := hbk.cell 2
  simp at c0 c1 c2
  have HSh1 := hid (HSh.out.on HD.out HO.out HB0.out)
  have HMd1 := hid (HMd.out.on HB0.out)
  clear htb hbk
  go_wp2_with fail
  refine (sh_drop HD.out HO.out HSh1.out (i := p) (by have := HP.out; omega)).mono ?_
  rintro e w2 ⟨rfl, T2, hsh, ho, hT2⟩
  have hnT : ¬ T tb := fun h => by have := HSh.out.lt HD.out HO.out tb h; have := HTb.out; omega
  have HBk2 : Hid (Blk w2 tb 36 #[.int .i64 2, .int .i64 (p : Int), .slice B nB cB]) := hid ((ho.block tb HBk.out.lt hnT).trans HBk.out)
  have HSh2 := hid hsh
  have HMd2 := hid (HMd1.out.only ho hT2)
  have HNt2 := hid (show ¬ T2 tb from fun h => (hT2 tb h).elim hnT (fun h => by have := HBk.out.lt; omega))
  clear hsh ho hT2 hnT c0 c1 c2
  go_wp2_with fail
  refine (is_any S 0 0 _ w2 (HS.out.on HSh2.out.below) .fine).mono ?_
  rintro e w3 ⟨rfl, hb3⟩
  have HSh3 := hid (HSh2.out.on HD.out HO.out hb3)
  obtain ⟨f, hf1, hf2, hf3⟩ := HMd2.out.on hb3
  have HMd3 := hid (And.intro hf1 (And.intro hf2 hf3))
  have hk3 := HBk2.out.on hb3
  have HBk3 := hid hk3
  have c0 := hk3.cell 0
  have c1 := hk3.cell 1
  have c2 := hk3.cell 2
  simp at c0 c1 c2
  have d0 : w3.cell? ⟨hb, 121 + p, none⟩ = some (.bool (M.tch p)) := by rw [blkF_cell hf2 (by have := HP.out; omega), hf3.tch p HP.out]
  have d1 : w3.cell? ⟨hb, 60 + p, none⟩ = some (.bool (M.on p)) := by rw [blkF_cell hf2 (by have := HP.out; omega), hf3.on p HP.out]
  have d2 := Blk.free hf2 (121 + p)
  clear hb3 hf1 hf2 hf3 hk3
  have d3 := Blk.free HMd3.out.2.1 (60 + p)
  obtain ⟨tv, htv⟩ : ∃ tv, M.tch p = tv := ⟨_, rfl⟩
  obtain ⟨ov, hov⟩ : ∃ ov, M.on p = ov := ⟨_, rfl⟩
  have HV := hid (show (M.tch p || M.on p) = (tv || ov) from by rw [htv, hov])
  rw [htv] at d0
  rw [hov] at d1
  clear htv hov
  obtain ⟨xv, hxv⟩ : ∃ xv, (tv || ov) = xv := ⟨_, rfl⟩
  rcases tv with _ | _ <;> rcases ov with _ | _
  all_goals
    simp only [Bool.or_true, Bool.or_false] at hxv
    have HX := hid hxv
    clear hxv
    go_upto_region 15 with fail
    go_region
    go_upto_region 16 with fail
    go_region
    obtain ⟨W4, hW4⟩ : ∃ W4, ((w3.setCell ⟨hb, 121 + p, none⟩ (.bool xv)).setCell ⟨hb, 60 + p, none⟩ (.bool false)).drew.drew = W4 := ⟨_, rfl⟩
    have hbk4 : Blk W4 hb 34 (fnL 151 (upF (upF f (121 + p) (.bool xv)) (60 + p) (.bool false))).toArray := by rw [← hW4]; exact (blkF_up (blkF_up HMd3.out.2.1 _ _) _ _).drew.drew
    have ho4 : Only (fun k => k = hb) w3 W4 := by rw [← hW4]; exact (((Only.refl (fun k => k = hb) w3).put (p := ⟨hb, 121 + p, none⟩) rfl _).put (p := ⟨hb, 60 + p, none⟩) rfl _).drew.drew
    have HSh4 := hid (HSh3.out.beside HD.out HO.out ho4 (fun k hk e => HMd3.out.1 (e ▸ hk)) (fun k e => by rw [e]; exact HW.out))
    have HMd4 := hid (((HMd3.out.2.2.setTch p HP.out xv).setOn p HP.out false).only (T' := fun k => T2 k ∨ k = hb) ho4 (fun k hk => .inl (.inr hk)) (fun k hk => .inl hk))
    have HBk4 := hid hbk4
    have hne : tb ≠ hb := fun e => HSlt.out e
    have HBt4 : Hid (Blk W4 tb 36 #[.int .i64 2, .int .i64 (p : Int), .slice B nB cB]) := hid ((ho4.block tb HBk3.out.lt hne).trans HBk3.out)
    have HSl4 := hid ((HSl.out.below HSh4.out.below).more HSh4.out.below.size)
    clear c0 c1 c2 d0 d1 d2 d3 hbk4 ho4 hne
    rw [← HX.out] at hW4
    rw [hW4]
    clear hW4
    have c2 := HBt4.out.cell 2
    simp at c2
    have c2d : W4.drew.cell? ⟨tb, 2, none⟩ = some (.slice B nB cB) := c2
    have HC := hid (fun (w5 : World) (hb5 : Below W4.heap.size W4 w5) => (show w5.cell? ⟨tb, 2, none⟩ = some (.slice B nB cB) ∧ (∀ v, (w5.setCell ⟨hb, p, none⟩ v).cell? ⟨tb, 2, none⟩ = some (.slice B nB cB)) ∧ w5.cell? ⟨hb, p, none⟩ = some ((upF (upF f (121 + p) (.bool xv)) (60 + p) (.bool false)) p) ∧ w5.frozen? ⟨hb, p, none⟩ = false from
      ⟨(Blk.below HBt4.out hb5 HBt4.out.lt).cell 2, fun v => ((Blk.below HBt4.out hb5 HBt4.out.lt).far (p := ⟨hb, p, none⟩) HSlt.out v).cell 2, blkF_cell (Blk.below HBk4.out hb5 HBk4.out.lt) (by have := HP.out; omega), Blk.free (Blk.below HBk4.out hb5 HBk4.out.lt) p⟩))
    go_upto_region 17 with fail
    go_region_held3 (fun w' => w'.cell? ⟨tb, 2, none⟩ = some (.slice B nB cB)) (first | exact c2d | exact e2 | exact e3 _)
      ((first | (go_at_call 54; refine (bytes_any B nB cB l _ HSl4.out.drew (by have := HN.out.2; omega)).mono ?_; rintro e w5 ⟨v5, rfl, ho5, hb5⟩; obtain ⟨A5, c5, rfl, hs5, ha5⟩ := ho5.form; have HO5 := hid (And.intro hs5 ha5); have HB5 := hid ((Below.refl W4.heap.size W4).drew.trans hb5); obtain ⟨e2, e3, g0, g1⟩ := HC.out w5 HB5.out; clear ho5 hs5 ha5 hb5)))
    have HF := hid (show ShM Real PR S w0 (w5.setCell ⟨hb, p, none⟩ (.slice A5 l.length c5)) d g n q mk hb s P (dropC P ch p) cont (M.drop p l) from by
      have hs5 := HSh4.out.on HD.out HO.out HB5.out
      have hb5 := Blk.below HBk4.out HB5.out HBk4.out.lt
      have ho5 : Only (fun k => k = hb) w5 (w5.setCell ⟨hb, p, none⟩ (.slice A5 l.length c5)) := (Only.refl (fun k => k = hb) w5).put (p := ⟨hb, p, none⟩) rfl _
      have hlt := HSh4.out.lt HD.out HO.out
      obtain ⟨z1, z2⟩ := ShM.beside HD.out HO.out hs5 HMd3.out.1 HW.out ho5 (blkF_up hb5 p (.slice A5 l.length c5)) ((HMd4.out.below HB5.out).setNow p HP.out HO5.out.1 (fun ad ha _ h => by
        have := HO5.out.2 ad ha
        rcases h with h | h
        · have := hlt _ h; simp at *; omega
        · have := HBk4.out.lt; simp at *; omega))
      have e : xv = (M.tch p || M.on p) := by rw [HV.out, ← HX.out]; rfl
      rw [e] at z2
      exact ⟨T2, z1, z2, HW.out, HAg.out, HFi.out⟩)
    clear c2 c2d e2 e3 g0 g1
    go_wp2
    go_ret
    exact ⟨rfl, HF.out⟩
set_option maxRecDepth 100000 in
set_option maxHeartbeats 16000000 in
theorem toldBadN1_any (D : DevOk Real) (O : PairOk Real PR) (hS : Sent w0 S) (h : ShM Real PR S w0 w d g n q mk hb s P ch cont M) {i : Int} (hi : numOk i = false) {B : Option Addr} {nB cB : Nat} :
    Calls Tryz.prog 16 #[.pointer (some ⟨g, 0, none⟩), .pointer (some ⟨hb, 0, none⟩), .agg #[.int .i64 1, .int .i64 i, .slice B nB cB]] w fun e w' => e = .returned (.bool true) ∧ ShM Real PR S w0 w' d g n q mk hb s P ch cont M := by
  obtain ⟨T, hsh, hmd, hw, hag, hfi⟩ := h
  have HD := hid D
  have HO := hid O
  have HS := hid hS
  have HSh := hid hsh
  have HMd := hid hmd
  have HW := hid (And.intro hw (And.intro hag hfi))
  have HI := hid hi
  have hd : decide (i < 0) = true ∨ decide (i < 0) = false ∧ decide ((256 : Int) ≤ i) = true := by
    unfold numOk at hi
    by_cases h0 : i < 0
    · exact .inl (by simpa using h0)
    · refine .inr ⟨by simpa using h0, ?_⟩
      simp at hi ⊢; omega
  have hl : decide ((nB : Int) < 1) = true ∨ decide ((nB : Int) < 1) = false ∧ decide ((248 : Int) < (nB : Int)) = true ∨ decide ((nB : Int) < 1) = false ∧ decide ((248 : Int) < (nB : Int)) = false := by
    rcases h1 : decide ((nB : Int) < 1) with _ | _
    · rcases h2 : decide ((248 : Int) < (nB : Int)) with _ | _
      · exact .inr (.inr ⟨rfl, rfl⟩)
      · exact .inr (.inl ⟨rfl, rfl⟩)
    · exact .inl rfl
  rcases hd with d1 | ⟨d1, d2⟩ <;> rcases hl with l1 | ⟨l1, l2⟩ | ⟨l1, l2⟩
  all_goals
    clear D O hS hsh hmd hw hag hfi hi
    go_enter Tryz.func16, Tryz.ntmps16
    go_upto_region 1 with fail
    obtain ⟨tb, htb⟩ : ∃ tb, w.heap.size = tb := ⟨_, rfl⟩
    have HTb := hid htb
    have HB0 := hid ((Below.refl w.heap.size w).alloc (Nat.le_refl _) (.cells #[.int .i64 1, .int .i64 i, .slice B nB cB] 36))
    have hbk := Blk.new w 36 #[.int .i64 1, .int .i64 i, .slice B nB cB]
    generalize w.alloc (.cells #[.int .i64 1, .int .i64 i, .slice B nB cB] 36) = w1 at *
    rw [htb] at hbk ⊢
    have HBk := hid hbk
    have c0 := hbk.cell 0
    have c1 := hbk.cell 1
    have c2 := hbk.cell 2
    simp at c0 c1 c2
    have HSh1 := hid (HSh.out.on HD.out HO.out HB0.out)
    have HMd1 := hid (HMd.out.on HB0.out)
    clear htb hbk
    go_wp2_with fail
    refine (sh_writeBadN HD.out HO.out (HS.out.seven) HSh1.out HI.out B nB cB).mono ?_
    rintro e w2 ⟨⟨v2, rfl, hv2⟩, T2, hsh, ho, hT2⟩
    have HSh2 := hid hsh
    have HMd2 := hid (HMd1.out.only ho hT2)
    have HV2 := hid hv2
    clear hsh ho hT2 hv2 c0 c1 c2
    go_wp2_with fail
    refine (is_any S 103 103 _ w2 (HS.out.on HSh2.out.below) HV2.out).mono ?_
    rintro e w3 ⟨rfl, hb3⟩
    have HF := hid (show ShM Real PR S w0 w3 d g n q mk hb s P ch cont M from ⟨T2, HSh2.out.on HD.out HO.out hb3, HMd2.out.on hb3, HW.out⟩)
    clear hb3
    go_wp2
    go_ret
    exact ⟨rfl, HF.out⟩
set_option maxRecDepth 100000 in
set_option maxHeartbeats 16000000 in
theorem toldBadN2_any (D : DevOk Real) (O : PairOk Real PR) (hS : Sent w0 S) (h : ShM Real PR S w0 w d g n q mk hb s P ch cont M) {i : Int} (hi : numOk i = false) {B : Option Addr} {nB cB : Nat} :
    Calls Tryz.prog 16 #[.pointer (some ⟨g, 0, none⟩), .pointer (some ⟨hb, 0, none⟩), .agg #[.int .i64 2, .int .i64 i, .slice B nB cB]] w fun e w' => e = .returned (.bool true) ∧ ShM Real PR S w0 w' d g n q mk hb s P ch cont M := by
  obtain ⟨T, hsh, hmd, hw, hag, hfi⟩ := h
  have HD := hid D
  have HO := hid O
  have HS := hid hS
  have HSh := hid hsh
  have HMd := hid hmd
  have HW := hid (And.intro hw (And.intro hag hfi))
  have HI := hid hi
  have hd : decide (i < 0) = true ∨ decide (i < 0) = false ∧ decide ((256 : Int) ≤ i) = true := by
    unfold numOk at hi
    by_cases h0 : i < 0
    · exact .inl (by simpa using h0)
    · refine .inr ⟨by simpa using h0, ?_⟩
      simp at hi ⊢; omega
  rcases hd with d1 | ⟨d1, d2⟩
  all_goals
    clear D O hS hsh hmd hw hag hfi hi
    go_enter Tryz.func16, Tryz.ntmps16
    go_upto_region 1 with fail
    obtain ⟨tb, htb⟩ : ∃ tb, w.heap.size = tb := ⟨_, rfl⟩
    have HTb := hid htb
    have HB0 := hid ((Below.refl w.heap.size w).alloc (Nat.le_refl _) (.cells #[.int .i64 2, .int .i64 i, .slice B nB cB] 36))
    have hbk := Blk.new w 36 #[.int .i64 2, .int .i64 i, .slice B nB cB]
    generalize w.alloc (.cells #[.int .i64 2, .int .i64 i, .slice B nB cB] 36) = w1 at *
    rw [htb] at hbk ⊢
    have HBk := hid hbk
    have c0 := hbk.cell 0
    have c1 := hbk.cell 1
    have c2 := hbk.cell 2
    simp at c0 c1 c2
    have HSh1 := hid (HSh.out.on HD.out HO.out HB0.out)
    have HMd1 := hid (HMd.out.on HB0.out)
    clear htb hbk
    go_wp2_with fail
    refine (sh_dropBad HD.out HO.out (HS.out.seven) HSh1.out HI.out).mono ?_
    rintro e w2 ⟨⟨v2, rfl, hv2⟩, T2, hsh, ho, hT2⟩
    have HSh2 := hid hsh
    have HMd2 := hid (HMd1.out.only ho hT2)
    have HV2 := hid hv2
    clear hsh ho hT2 hv2 c0 c1 c2
    go_wp2_with fail
    refine (is_any S 103 103 _ w2 (HS.out.on HSh2.out.below) HV2.out).mono ?_
    rintro e w3 ⟨rfl, hb3⟩
    have HF := hid (show ShM Real PR S w0 w3 d g n q mk hb s P ch cont M from ⟨T2, HSh2.out.on HD.out HO.out hb3, HMd2.out.on hb3, HW.out⟩)
    clear hb3
    go_wp2
    go_ret
    exact ⟨rfl, HF.out⟩
set_option maxRecDepth 100000 in
set_option maxHeartbeats 16000000 in
theorem toldBadL1_any (D : DevOk Real) (O : PairOk Real PR) (hS : Sent w0 S) (h : ShM Real PR S w0 w d g n q mk hb s P ch cont M) {i : Int} (hi : numOk i = true) {B : Option Addr} {nB cB : Nat} (hm : nB = 0 ∨ 248 < nB) :
    Calls Tryz.prog 16 #[.pointer (some ⟨g, 0, none⟩), .pointer (some ⟨hb, 0, none⟩), .agg #[.int .i64 1, .int .i64 i, .slice B nB cB]] w fun e w' => e = .returned (.bool true) ∧ ShM Real PR S w0 w' d g n q mk hb s P ch cont M := by
  obtain ⟨T, hsh, hmd, hw, hag, hfi⟩ := h
  have HD := hid D
  have HO := hid O
  have HS := hid hS
  have HSh := hid hsh
  have HMd := hid hmd
  have HW := hid (And.intro hw (And.intro hag hfi))
  have HI := hid hi
  have d1 : decide (i < 0) = false := by unfold numOk at hi; simp at hi ⊢; omega
  have d2 : decide ((256 : Int) ≤ i) = false := by unfold numOk at hi; simp at hi ⊢; omega
  have HM := hid hm
  have hl : decide ((nB : Int) < 1) = true ∨ decide ((nB : Int) < 1) = false ∧ decide ((248 : Int) < (nB : Int)) = true := by
    rcases hm with h | h
    · exact .inl (by simp; omega)
    · exact .inr ⟨by simp; omega, by simp; omega⟩
  rcases hl with l1 | ⟨l1, l2⟩
  all_goals
    clear hm D O hS hsh hmd hw hag hfi hi
    go_enter Tryz.func16, Tryz.ntmps16
    go_upto_region 1 with fail
    obtain ⟨tb, htb⟩ : ∃ tb, w.heap.size = tb := ⟨_, rfl⟩
    have HTb := hid htb
    have HB0 := hid ((Below.refl w.heap.size w).alloc (Nat.le_refl _) (.cells #[.int .i64 1, .int .i64 i, .slice B nB cB] 36))
    have hbk := Blk.new w 36 #[.int .i64 1, .int .i64 i, .slice B nB cB]
    generalize w.alloc (.cells #[.int .i64 1, .int .i64 i, .slice B nB cB] 36) = w1 at *
    rw [htb] at hbk ⊢
    have HBk := hid hbk
    have c0 := hbk.cell 0
    have c1 := hbk.cell 1
    have c2 := hbk.cell 2
    simp at c0 c1 c2
    have HSh1 := hid (HSh.out.on HD.out HO.out HB0.out)
    have HMd1 := hid (HMd.out.on HB0.out)
    clear htb hbk
    go_wp2_with fail
    refine (sh_writeBadL HD.out HO.out (HS.out.seven) HSh1.out HI.out B cB HM.out).mono ?_
    rintro e w2 ⟨⟨v2, rfl, hv2⟩, T2, hsh, ho, hT2⟩
    have HSh2 := hid hsh
    have HMd2 := hid (HMd1.out.only ho hT2)
    have HV2 := hid hv2
    clear hsh ho hT2 hv2 c0 c1 c2
    go_wp2_with fail
    refine (is_any S 102 102 _ w2 (HS.out.on HSh2.out.below) HV2.out).mono ?_
    rintro e w3 ⟨rfl, hb3⟩
    have HF := hid (show ShM Real PR S w0 w3 d g n q mk hb s P ch cont M from ⟨T2, HSh2.out.on HD.out HO.out hb3, HMd2.out.on hb3, HW.out⟩)
    clear hb3
    go_wp2
    go_ret
    exact ⟨rfl, HF.out⟩
end
end Go.Proofs.YtaonhbmimaiiiaaGreatDoor
namespace Go.Proofs.YtaonhbmimaiiiaaGreatDoor
open Go.RowKit Go.Maps

section
variable {Real : World → Nat → DSt → (Nat → Prop) → Prop} {PR : World → Nat → Nat → Nat → Nat → (Nat → Prop) → Prop} {S : Nat → Addr} {w0 w w' : World} {d g n q mk hb : Nat} {s : DSt} {P : PS} {ch : Chg} {cont : Cont} {M : Mdl}
theorem only_puts {w : World} {hb : Nat} (o : Nat) (l : List Value) : Only (fun k => k = hb) w (w.setCells hb o l) := by
  have hg : w.grownBy (w.setCells hb o l) (some hb) := only_setCells (only_refl w (some hb)) l o
  exact ⟨hg.os, hg.tape, hg.output, hg.size, fun k hk hn => hg.block k hk (fun e => hn (by injection e))⟩
/-- store and model, laid open -/
def MdO (Real : World → Nat → DSt → (Nat → Prop) → Prop) (PR : World → Nat → Nat → Nat → Nat → (Nat → Prop) → Prop) (S : Nat → Addr) (w0 w : World) (d g n q mk hb : Nat) (T : Nat → Prop) (f : Nat → Value) (s : DSt) (P : PS) (ch : Chg) (M : Mdl) : Prop :=
  Shop Real PR S w0 w d g n q mk T s P ch ∧ ¬ T hb ∧ w0.heap.size ≤ hb ∧ Blk w hb 34 (fnL 151 f).toArray ∧ MdOk w (fun k => T k ∨ k = hb) f M
theorem MdO.puts {T : Nat → Prop} {f x : Nat → Value} {M' : Mdl} {o m : Nat} (D : DevOk Real) (O : PairOk Real PR) (h : MdO Real PR S w0 w d g n q mk hb T f s P ch M) (hm : o + m ≤ 151) (hmd : MdOk w (fun k => T k ∨ k = hb) (putF f o m x) M') : MdO Real PR S w0 (w.setCells hb o (fnL m x)) d g n q mk hb T (putF f o m x) s P ch M' := by
  obtain ⟨h1, h2, h3, h4, h5⟩ := h
  have ho := only_puts (w := w) (hb := hb) o (fnL m x)
  exact ⟨h1.beside D O ho (fun k hk e => h2 (e ▸ hk)) (fun k e => by rw [e]; exact h3), h2, h3, blkF_puts h4 hm x, hmd.only ho (fun k hk => .inl (.inr hk)) (fun k hk => .inl hk)⟩
theorem MdO.up {T : Nat → Prop} {f : Nat → Value} {M' : Mdl} {o : Nat} {x : Value} (D : DevOk Real) (O : PairOk Real PR) (h : MdO Real PR S w0 w d g n q mk hb T f s P ch M) (hmd : MdOk w (fun k => T k ∨ k = hb) (upF f o x) M') : MdO Real PR S w0 (w.setCell ⟨hb, o, none⟩ x) d g n q mk hb T (upF f o x) s P ch M' := by
  obtain ⟨h1, h2, h3, h4, h5⟩ := h
  have ho : Only (fun k => k = hb) w (w.setCell ⟨hb, o, none⟩ x) := (Only.refl (fun k => k = hb) w).put (p := ⟨hb, o, none⟩) rfl x
  exact ⟨h1.beside D O ho (fun k hk e => h2 (e ▸ hk)) (fun k e => by rw [e]; exact h3), h2, h3, blkF_up h4 o x, hmd.only ho (fun k hk => .inl (.inr hk)) (fun k hk => .inl hk)⟩
theorem MdO.there {T : Nat → Prop} {f x : Nat → Value} {o m : Nat} (h : MdO Real PR S w0 w d g n q mk hb T f s P ch M) (hm : o + m ≤ 151) : w.there hb o (fnL m x).toArray.size := by
  rw [List.size_toArray, fnL_len]; exact blkF_there h.2.2.2.1 hm
theorem Tryz.size_boolsL (x : Nat → Value) : (Tryz.prog.info? 32).map (·.size) = some (fnL 30 x).length := by rw [fnL_len]; exact Tryz.size_bools
theorem Tryz.size_pagesL (x : Nat → Value) : (Tryz.prog.info? 31).map (·.size) = some (fnL 30 x).length := by rw [fnL_len]; exact Tryz.size_pages
set_option maxRecDepth 100000 in
set_option maxHeartbeats 16000000 in
theorem toldAbort_any (D : DevOk Real) (O : PairOk Real PR) (h : ShM Real PR S w0 w d g n q mk hb s P ch cont M) {k i : Int} (h1 : (k == 1) = false) (h2 : (k == 2) = false) (h3 : (k == 3) = false) {B : Option Addr} {nB cB : Nat} :
    Calls Tryz.prog 16 #[.pointer (some ⟨g, 0, none⟩), .pointer (some ⟨hb, 0, none⟩), .agg #[.int .i64 k, .int .i64 i, .slice B nB cB]] w fun e w' => e = .returned (.bool true) ∧ ShM Real PR S w0 w' d g n q mk hb s P noChg cont M.abort := by
  obtain ⟨T, hsh, ⟨f, hf1, hf2, hf3⟩, hw, hag, hfi⟩ := h
  have HD := hid D
  have HO := hid O
  have HSh := hid hsh
  have HW := hid (And.intro hw (And.intro (agr_abort hag) hfi))
  have HK := hid (agr_keys hag)
  have H0 := hid (show MdO Real PR S w0 w d g n q mk hb T f s P ch M from ⟨hsh, hf1, hw, hf2, hf3⟩)
  clear D O hsh hf1 hf2 hf3 hw hag hfi
  go_enter Tryz.func16, Tryz.ntmps16
  go_upto_region 1 with fail
  obtain ⟨tb, htb⟩ : ∃ tb, w.heap.size = tb := ⟨_, rfl⟩
  have HTb := hid htb
  have HB0 := hid ((Below.refl w.heap.size w).alloc (Nat.le_refl _) (.cells #[.int .i64 k, .int .i64 i, .slice B nB cB] 36))
  have hbk := Blk.new w 36 #[.int .i64 k, .int .i64 i, .slice B nB cB]
  generalize w.alloc (.cells #[.int .i64 k, .int .i64 i, .slice B nB cB] 36) = w1 at *
  rw [htb] at hbk ⊢
  have HBk := hid hbk
  have c0 := hbk.cell 0
  have c1 := hbk.cell 1
  simp at c0 c1
  have H1 := hid (show MdO Real PR S w0 w1 d g n q mk hb T f s P ch M from ⟨H0.out.1.on HD.out HO.out HB0.out, H0.out.2.1, H0.out.2.2.1, Blk.below H0.out.2.2.2.1 HB0.out H0.out.2.2.2.1.lt, H0.out.2.2.2.2.below HB0.out⟩)
  clear htb hbk
  go_wp2
  go_loopw [10, 9] (fun iv kv wr => ∃ j : Nat, j ≤ 30 ∧ iv = .int .i64 (j : Int) ∧ kv = .int .i64 (tchTo M j : Int) ∧ wr = w1) (fun iv _ _ => 30 - (intOf iv).toNat)
  case atStart => exact ⟨0, Nat.zero_le _, rfl, rfl, rfl⟩
  case round =>
    obtain ⟨j, hj, rfl, rfl, rfl⟩ := hrel
    by_cases hlt : j < 30
    · have hj30 : (j : Int) < 30 := by omega
      have d0 : wr.cell? ⟨hb, 121 + j, none⟩ = some (.bool (M.tch j)) := by rw [blkF_cell H1.out.2.2.2.1 (by omega), H1.out.2.2.2.2.tch j hlt]
      have HLe := hid (tchTo_le M j)
      rcases htc : M.tch j with _ | _
      · rw [htc] at d0
        have HT := hid (tchTo_no htc)
        clear htc
        go_wp2
        go_roundw
        case rel => exact ⟨j + 1, by omega, by go_num, by rw [HT.out], by trivial⟩
        case measure => simp [intOf]; omega
      · rw [htc] at d0
        have HT := hid (tchTo_yes htc)
        clear htc
        have hle : (tchTo M j : Int) ≤ 30 := by have := HLe.out; omega
        go_wp2
        go_roundw
        case rel => exact ⟨j + 1, by omega, by go_num, by rw [HT.out]; go_num, by trivial⟩
        case measure => simp [intOf]; omega
    · have hnlt : decide (j < 30) = false := by simpa using hlt
      obtain rfl : j = 30 := by omega
      go_wp2_with fail
      refine (sh_changed H1.out.1).mono ?_
      rw [HK.out]
      rintro e w2 ⟨rfl, rfl⟩
      go_wp2_with fail
      refine (sh_abort HD.out HO.out H1.out.1).mono ?_
      rintro e w3 ⟨rfl, T3, hsh, ho, hT3⟩
      have H3 := hid (show MdO Real PR S w0 w3 d g n q mk hb T3 f s P noChg M from
        ⟨hsh, fun h => (hT3 hb h).elim H1.out.2.1 (fun h => by have := H1.out.2.2.2.1.lt; omega), H1.out.2.2.1, (ho.block hb H1.out.2.2.2.1.lt H1.out.2.1).trans H1.out.2.2.2.1, H1.out.2.2.2.2.only ho (fun k hk => .inl (.inl hk)) (fun k hk => hk.elim (fun h => (hT3 k h).imp .inl id) (fun h => .inl (.inr h)))⟩)
      clear hsh ho hT3 c0 c1
      have m3 := hid H3.out.2.2.2.2.backNow
      have r3 := hid (blkF_range H3.out.2.2.2.1 (o := 30) (m := 30) (by omega))
      have t3 := hid (H3.out.there (x := fun i => f (30 + i)) (o := 0) (m := 30) (by omega))
      have o3 := hid (all_oneCell_toArray (fnL_one H3.out.2.2.2.2.oneWas))
      have h4 := H3.out.puts HD.out HO.out (by omega) m3.out
      go_upto_region 36 with (first
        | (refine wpList_load_mid rfl 31 (.tmp 151) rfl hb 30 rfl (fnL 30 (fun i => f (30 + i))) _ r3.out Tryz.underlying31 rfl (Tryz.size_pagesL _) ?_)
        | (refine wpList_store_mid rfl 31 (.tmp 154) (.tmp 152) rfl hb 0 (fnL 30 (fun i => f (30 + i))).toArray rfl rfl t3.out (Tryz.size_pagesL _) o3.out ?_))
      obtain ⟨W4, hW4⟩ : ∃ W, w3.setCells hb 0 (fnL 30 (fun i => f (30 + i))) = W := ⟨_, rfl⟩
      obtain ⟨f4, hf4⟩ : ∃ f', putF f 0 30 (fun i => f (30 + i)) = f' := ⟨_, rfl⟩
      rw [hW4, hf4] at h4
      have H4 := hid h4
      rw [hW4]
      clear hW4 hf4 h4 m3 r3 t3 o3
      have m4 := hid H4.out.2.2.2.2.backOn
      have r4 := hid (blkF_range H4.out.2.2.2.1 (o := 90) (m := 30) (by omega))
      have t4 := hid (H4.out.there (x := fun i => f4 (90 + i)) (o := 60) (m := 30) (by omega))
      have o4 := hid (all_oneCell_toArray (fnL_one H4.out.2.2.2.2.oneHad))
      have h5 := H4.out.puts HD.out HO.out (by omega) m4.out
      go_upto_region 37 with (first
        | (refine wpList_load_mid rfl 32 (.tmp 158) rfl hb 90 rfl (fnL 30 (fun i => f4 (90 + i))) _ r4.out Tryz.underlying32 rfl (Tryz.size_boolsL _) ?_)
        | (refine wpList_store_mid rfl 32 (.tmp 161) (.tmp 159) rfl hb 60 (fnL 30 (fun i => f4 (90 + i))).toArray rfl rfl t4.out (Tryz.size_boolsL _) o4.out ?_))
      obtain ⟨W5, hW5⟩ : ∃ W, W4.setCells hb 60 (fnL 30 (fun i => f4 (90 + i))) = W := ⟨_, rfl⟩
      obtain ⟨f5, hf5⟩ : ∃ f', putF f4 60 30 (fun i => f4 (90 + i)) = f' := ⟨_, rfl⟩
      rw [hW5, hf5] at h5
      have H5 := hid h5
      rw [hW5]
      clear hW5 hf5 h5 m4 r4 t4 o4
      have m5 := hid H5.out.2.2.2.2.clear
      have t5 := hid (H5.out.there (x := fun _ => .bool false) (o := 121) (m := 30) (by omega))
      have h6 := H5.out.puts HD.out HO.out (by omega) m5.out
      go_upto_region 38 with (first
        | (refine wpList_built rfl 32 #[] rfl (fnL 30 (fun _ => .bool false)).toArray Tryz.built_bools ?_)
        | (refine wpList_store_mid rfl 32 (.tmp 165) (.tmp 163) rfl hb 121 (fnL 30 (fun _ => .bool false)).toArray rfl rfl t5.out (Tryz.size_boolsL _) (all_oneCell_toArray (fnL_one (fun _ _ => rfl))) ?_))
      obtain ⟨W6, hW6⟩ : ∃ W, W5.setCells hb 121 (fnL 30 (fun _ => .bool false)) = W := ⟨_, rfl⟩
      rw [hW6] at h6
      have H6 := hid h6
      rw [hW6]
      clear hW6 h6 m5 t5
      go_wp2_with fail
      refine (sh_changed H6.out.1).mono ?_
      rintro e w7 ⟨rfl, rfl⟩
      rw [show (keysOf noChg).length = 0 from by decide]
      have HF := hid (show ShM Real PR S w0 _ d g n q mk hb s P noChg cont M.abort from ⟨T3, H6.out.1, ⟨_, H6.out.2.1, H6.out.2.2.2.1, H6.out.2.2.2.2⟩, HW.out⟩)
      go_wp2
      go_ret
      exact ⟨rfl, HF.out⟩
end
end Go.Proofs.YtaonhbmimaiiiaaGreatDoor
