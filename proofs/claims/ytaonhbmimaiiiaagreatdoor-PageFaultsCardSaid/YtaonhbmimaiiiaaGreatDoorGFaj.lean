/- Put together out of 4 texts. Package page's laws: an act told both, the store and the model. -/
import Derived.Test.YtaonhbmimaiiiaaGreatDoorGFai
namespace Go.Proofs.YtaonhbmimaiiiaaGreatDoor
open Go.RowKit Go.Maps

/-- what the model says was committed of page i -/
def Mdl.old (M : Mdl) : Cont := fun i => if i < 30 ∧ M.had i = true then some (M.was i) else none
/-- store and model are alike -/
structure Agr (P : PS) (ch : Chg) (cont : Cont) (M : Mdl) : Prop where
  ep : P.epoch = M.ep
  cnt : ∀ i, contC cont ch i = M.cont i
  had : ∀ i, cont i = M.old i
  tch : ∀ i, (ch i).isSome = (decide (i < 30) && M.tch i)
theorem contC_put_other' (cont : Cont) (ch : Chg) {p i : Nat} (l : List Int) (h : i ≠ p) : contC cont (putC ch p l) i = contC cont ch i := by
  unfold contC putC; rw [if_neg h]
theorem contC_putP (cont : Cont) (ch : Chg) (p i : Nat) {l : List Int} (h : 1 ≤ l.length) : contC cont (putC ch p l) i = if i = p then some l else contC cont ch i := by
  by_cases e : i = p
  · subst e; rw [if_pos rfl]; exact contC_some (by simp [putC]) h
  · rw [if_neg e]; exact contC_put_other' _ _ _ e
theorem putC_isSome (ch : Chg) (p i : Nat) (l : List Int) : (putC ch p l i).isSome = if i = p then true else (ch i).isSome := by
  unfold putC; split <;> rfl
section
variable {P : PS} {ch : Chg} {cont : Cont} {M : Mdl}
def Mdl.write (M : Mdl) (p : Nat) (l : List Int) : Mdl := { M with tch := fun i => if i = p then true else M.tch i, on := fun i => if i = p then true else M.on i, now := fun i => if i = p then l else M.now i }
def Mdl.drop (M : Mdl) (p : Nat) (l : List Int) : Mdl := { M with tch := fun i => if i = p then (M.tch p || M.on p) else M.tch i, on := fun i => if i = p then false else M.on i, now := fun i => if i = p then l else M.now i }
def Mdl.commit (M : Mdl) (e : Int) : Mdl := { M with was := M.now, had := M.on, tch := fun _ => false, ep := e }
theorem agr_write (h : Agr P ch cont M) {p : Nat} (hp : p < 30) {l : List Int} (hl : 1 ≤ l.length) : Agr P (putC ch p l) cont (M.write p l) where
  ep := h.ep
  cnt := fun i => by
    rw [contC_putP _ _ _ _ hl]
    by_cases e : i = p
    · subst e; rw [if_pos rfl, mcont_yes hp (by simp [Mdl.write])]; simp [Mdl.write]
    · rw [if_neg e, h.cnt i]; unfold Mdl.cont Mdl.write; simp only [if_neg e]
  had := h.had
  tch := fun i => by
    rw [putC_isSome]
    by_cases e : i = p
    · subst e; simp [Mdl.write, hp]
    · rw [if_neg e, h.tch i]; simp only [Mdl.write, if_neg e]
theorem agr_commit {P' : PS} {e : Int} (h : Agr P ch cont M) (he : P'.epoch = e) : Agr P' noChg (contC cont ch) (M.commit e) where
  ep := he
  cnt := fun i => by rw [noChg_cont, h.cnt i]; rfl
  had := fun i => by rw [h.cnt i]; rfl
  tch := fun i => by simp [noChg, Mdl.commit]
/-- how many are touched below i -/
def tchTo (M : Mdl) (i : Nat) : Nat := ((List.range i).filter M.tch).length
theorem tchTo_yes {M : Mdl} {i : Nat} (h : M.tch i = true) : tchTo M (i + 1) = tchTo M i + 1 := by
  unfold tchTo; rw [List.range_succ, List.filter_append]; simp [h]
theorem tchTo_no {M : Mdl} {i : Nat} (h : M.tch i = false) : tchTo M (i + 1) = tchTo M i := by
  unfold tchTo; rw [List.range_succ, List.filter_append]; simp [h]
theorem tchTo_le (M : Mdl) (i : Nat) : tchTo M i ≤ i := by
  have := List.length_filter_le M.tch (List.range i)
  rwa [List.length_range] at this
theorem agr_keys (h : Agr P ch cont M) : (keysOf ch).length = tchTo M 30 := by
  unfold keysOf tchTo
  rw [show (256 : Nat) = 30 + 226 from rfl, List.range_add, List.filter_append]
  have e1 : ((List.range 226).map (30 + ·)).filter (fun p => (ch p).isSome) = [] := by
    rw [List.filter_eq_nil_iff]
    intro a ha
    obtain ⟨j, _, rfl⟩ := List.mem_map.1 ha
    rw [h.tch, decide_eq_false (by omega), Bool.false_and]; decide
  rw [e1, List.append_nil]
  congr 1
  apply List.filter_congr
  intro a ha
  rw [h.tch, decide_eq_true (List.mem_range.1 ha), Bool.true_and]
theorem agr_nokeys (h : Agr P ch cont M) (h0 : (keysOf ch).length = 0) : ch = noChg := by
  have hk : keysOf ch = [] := List.eq_nil_of_length_eq_zero h0
  funext p
  exact keys_nil hk (fun q hq => by
    have := h.tch q
    rw [decide_eq_false (by omega), Bool.false_and] at this
    rcases hc : ch q with _ | l
    · rfl
    · rw [hc] at this; cases this) p
end
section
variable {Real : World → Nat → DSt → (Nat → Prop) → Prop} {PR : World → Nat → Nat → Nat → Nat → (Nat → Prop) → Prop} {S : Nat → Addr} {w0 w w' : World} {d g n q mk hb : Nat} {s : DSt} {P : PS} {ch : Chg} {cont : Cont} {M : Mdl}
/-- a model at hb, beside what lies in T -/
def MdAt (w : World) (T : Nat → Prop) (hb : Nat) (M : Mdl) : Prop := ∃ f, ¬ T hb ∧ Blk w hb 34 (fnL 151 f).toArray ∧ MdOk w (fun k => T k ∨ k = hb) f M
theorem MdAt.only {T T' : Nat → Prop} (h : MdAt w T hb M) (ho : Only T w w') (hT : ∀ k, T' k → T k ∨ w.heap.size ≤ k) : MdAt w' T' hb M := by
  obtain ⟨f, h1, h2, h3⟩ := h
  have := h2.lt
  exact ⟨f, fun h => (hT hb h).elim h1 (fun h => by omega), (ho.block hb h2.lt h1).trans h2, h3.only ho (fun k hk => .inl (.inl hk)) (fun k hk => hk.elim (fun h => (hT k h).imp .inl id) (fun h => .inl (.inr h)))⟩
theorem MdAt.on {T : Nat → Prop} (h : MdAt w T hb M) (hb' : Below w.heap.size w w') : MdAt w' T hb M := h.only (Only.of_below hb') (fun _ h => .inl h)
/-- the store at g and the model at hb -/
def ShM (Real : World → Nat → DSt → (Nat → Prop) → Prop) (PR : World → Nat → Nat → Nat → Nat → (Nat → Prop) → Prop) (S : Nat → Addr) (w0 w : World) (d g n q mk hb : Nat) (s : DSt) (P : PS) (ch : Chg) (cont : Cont) (M : Mdl) : Prop :=
  ∃ T, Shop Real PR S w0 w d g n q mk T s P ch ∧ MdAt w T hb M ∧ w0.heap.size ≤ hb ∧ Agr P ch cont M ∧ Fine (halN n) P cont
theorem ShM.on (D : DevOk Real) (O : PairOk Real PR) (h : ShM Real PR S w0 w d g n q mk hb s P ch cont M) (hbl : Below w.heap.size w w') : ShM Real PR S w0 w' d g n q mk hb s P ch cont M := by
  obtain ⟨T, h1, h2, h3⟩ := h
  exact ⟨T, h1.on D O hbl, h2.on hbl, h3⟩
theorem ShM.upd {q' mk' : Nat} {s' : DSt} {P' : PS} {ch' : Chg} {T : Nat → Prop} (h2 : MdAt w T hb M) (h : ShopUpd Real PR S w0 w d g n q' mk' T s' P' ch' w') : ∃ T', Shop Real PR S w0 w' d g n q' mk' T' s' P' ch' ∧ MdAt w' T' hb M := by
  obtain ⟨T', k1, k2, k3⟩ := h
  exact ⟨T', k1, h2.only k2 k3⟩
/-- the model turns, the store stands -/
theorem ShM.beside {M' : Mdl} {f' : Nat → Value} {T : Nat → Prop} (D : DevOk Real) (O : PairOk Real PR) (h1 : Shop Real PR S w0 w d g n q mk T s P ch) (hT : ¬ T hb) (hw : w0.heap.size ≤ hb) (ho : Only (fun k => k = hb) w w') (hblk : Blk w' hb 34 (fnL 151 f').toArray) (hm : MdOk w (fun k => T k ∨ k = hb) f' M') : Shop Real PR S w0 w' d g n q mk T s P ch ∧ MdAt w' T hb M' :=
  ⟨h1.beside D O ho (fun k hk e => hT (e ▸ hk)) (fun k e => by rw [e]; exact hw), f', hT, hblk, hm.only ho (fun k hk => .inl (.inr hk)) (fun k hk => .inl hk)⟩
end
end Go.Proofs.YtaonhbmimaiiiaaGreatDoor
namespace Go.Proofs.YtaonhbmimaiiiaaGreatDoor
open Go.RowKit Go.Maps

section
variable {Real : World → Nat → DSt → (Nat → Prop) → Prop} {PR : World → Nat → Nat → Nat → Nat → (Nat → Prop) → Prop} {S : Nat → Addr} {w0 w w' : World} {d g n q mk hb : Nat} {s : DSt} {P : PS} {ch : Chg} {cont : Cont} {M : Mdl}
end
end Go.Proofs.YtaonhbmimaiiiaaGreatDoor
namespace Go.Proofs.YtaonhbmimaiiiaaGreatDoor
open Go.RowKit Go.Maps

section
variable {Real : World → Nat → DSt → (Nat → Prop) → Prop} {PR : World → Nat → Nat → Nat → Nat → (Nat → Prop) → Prop} {S : Nat → Addr} {w0 w w' : World} {d g n q mk hb : Nat} {s : DSt} {P : PS} {ch : Chg} {cont : Cont} {M : Mdl}
end
end Go.Proofs.YtaonhbmimaiiiaaGreatDoor
namespace Go.Proofs.YtaonhbmimaiiiaaGreatDoor
open Go.RowKit Go.Maps

section
variable {Real : World → Nat → DSt → (Nat → Prop) → Prop} {PR : World → Nat → Nat → Nat → Nat → (Nat → Prop) → Prop} {S : Nat → Addr} {w0 w w' : World} {d g n q mk hb : Nat} {s : DSt} {P : PS} {ch : Chg} {cont : Cont} {M : Mdl}
theorem only_puts {w : World} {hb : Nat} (o : Nat) (l : List Value) : Only (fun k => k = hb) w (w.setCells hb o l) := by
  have hg : w.grownBy (w.setCells hb o l) (some hb) := only_setCells (only_refl w (some hb)) l o
  exact ⟨hg.os, hg.tape, hg.output, hg.size, fun k hk hn => hg.block k hk (fun e => hn (by injection e))⟩
/-- store and model, laid open -/
def MdO (Real : World → Nat → DSt → (Nat → Prop) → Prop) (PR : World → Nat → Nat → Nat → Nat → (Nat → Prop) → Prop) (S : Nat → Addr) (w0 w : World) (d g n q mk hb : Nat) (T : Nat → Prop) (f : Nat → Value) (s : DSt) (P : PS) (ch : Chg) (M : Mdl) : Prop :=
  Shop Real PR S w0 w d g n q mk T s P ch ∧ ¬ T hb ∧ w0.heap.size ≤ hb ∧ Blk w hb 34 (fnL 151 f).toArray ∧ MdOk w (fun k => T k ∨ k = hb) f M
theorem MdO.puts {T : Nat → Prop} {f x : Nat → Value} {M' : Mdl} {o m : Nat} (D : DevOk Real) (O : PairOk Real PR) (h : MdO Real PR S w0 w d g n q mk hb T f s P ch M) (hm : o + m ≤ 151) (hmd : MdOk w (fun k => T k ∨ k = hb) (putF f o m x) M') : MdO Real PR S w0 (w.setCells hb o (fnL m x)) d g n q mk hb T (putF f o m x) s P ch M' := by
  obtain ⟨h1, h2, h3, h4, h5⟩ := h
  have ho := only_puts (w := w) (hb := hb) o (fnL m x)
  exact ⟨h1.beside D O ho (fun k hk e => h2 (e ▸ hk)) (fun k e => by rw [e]; exact h3), h2, h3, blkF_puts h4 hm x, hmd.only ho (fun k hk => .inl (.inr hk)) (fun k hk => .inl hk)⟩
theorem MdO.up {T : Nat → Prop} {f : Nat → Value} {M' : Mdl} {o : Nat} {x : Value} (D : DevOk Real) (O : PairOk Real PR) (h : MdO Real PR S w0 w d g n q mk hb T f s P ch M) (hmd : MdOk w (fun k => T k ∨ k = hb) (upF f o x) M') : MdO Real PR S w0 (w.setCell ⟨hb, o, none⟩ x) d g n q mk hb T (upF f o x) s P ch M' := by
  obtain ⟨h1, h2, h3, h4, h5⟩ := h
  have ho : Only (fun k => k = hb) w (w.setCell ⟨hb, o, none⟩ x) := (Only.refl (fun k => k = hb) w).put (p := ⟨hb, o, none⟩) rfl x
  exact ⟨h1.beside D O ho (fun k hk e => h2 (e ▸ hk)) (fun k e => by rw [e]; exact h3), h2, h3, blkF_up h4 o x, hmd.only ho (fun k hk => .inl (.inr hk)) (fun k hk => .inl hk)⟩
theorem MdO.there {T : Nat → Prop} {f x : Nat → Value} {o m : Nat} (h : MdO Real PR S w0 w d g n q mk hb T f s P ch M) (hm : o + m ≤ 151) : w.there hb o (fnL m x).toArray.size := by
  rw [List.size_toArray, fnL_len]; exact blkF_there h.2.2.2.1 hm
theorem Tryz.size_boolsL (x : Nat → Value) : (Tryz.prog.info? 32).map (·.size) = some (fnL 30 x).length := by rw [fnL_len]; exact Tryz.size_bools
theorem Tryz.size_pagesL (x : Nat → Value) : (Tryz.prog.info? 31).map (·.size) = some (fnL 30 x).length := by rw [fnL_len]; exact Tryz.size_pages
end
end Go.Proofs.YtaonhbmimaiiiaaGreatDoor
