/- Put together out of 2 texts. Package page: change. -/
import Derived.Test.YtkhdgacjgccnnaaGreatDoorGXas
namespace Go.Proofs.YtkhdgacjgccnnaaGreatDoor
open Go.RowKit

def cutTo (P : PS) (K : List Nat) (i : Nat) : PS := (K.take i).foldl PS.cutAt ⟨P.epoch + 1, P.idx, P.pgs⟩
theorem cutTo_next {P : PS} {K : List Nat} {i k : Nat} (h : K[i]? = some k) : cutTo P K (i + 1) = (cutTo P K i).cutAt k := by
  unfold cutTo; rw [takeK_next h, List.foldl_append]; rfl
theorem cutTo_len {P : PS} (h : P.Len) (K : List Nat) (i : Nat) : (cutTo P K i).Len := by
  unfold cutTo
  have : ∀ (l : List Nat) (Q : PS), Q.Len → (l.foldl PS.cutAt Q).Len := fun l => by
    induction l with
    | nil => exact fun Q hq => hq
    | cons a l ih => exact fun Q hq => ih _ (hq.cutAt a)
  exact this _ _ ⟨h.i, h.p⟩
theorem HoldsP.putEpoch {w : World} {g : Nat} {t : TypeId} {B : List Value} {P : PS} (h : HoldsP w g t [] P B) (e : Int) : HoldsP (w.setCell ⟨g, 0, none⟩ (.int .i64 e)) g t [] ⟨e, P.idx, P.pgs⟩ B := by
  have hb := Blk.put h 0 (.int .i64 e)
  simp only [List.setIfInBounds_toArray, List.nil_append] at hb
  exact hb
theorem HoldsP.putBack {w : World} {g : Nat} {t : TypeId} {B : List Value} {P : PS} (h : HoldsP w g t [] P B) (hL : P.Len) (j o : Nat) (ho : o = 527 + j) (u : Value) : HoldsP (w.setCell ⟨g, o, none⟩ u) g t [] P (B.set j u) := by
  subst ho
  have hb := Blk.put h (527 + j) u
  simp only [List.setIfInBounds_toArray, List.nil_append] at hb
  rw [List.set_append_right _ _ (by rw [stL_len hL]; omega), stL_len hL, Nat.add_sub_cancel_left] at hb
  exact hb
/-- a change that is being made: at c, its result at r, the keys at kb; the two lists are the call's own, from block B on -/
structure ChR {P : PS} {ch : Chg} (w wr : World) (c r kb nk ck B g d p mm : Nat) (D : DataW Unit) (C : Nat → Prop) (Q : PS) (vp vi : Value) (lp li K : List Nat) : Prop where
  box : HoldsP wr c 110 [] Q [vp, vi]
  zero : Blk wr r 110 (chL (noPS 0) nilS nilS).toArray
  op : OwnN wr B vp (natsI lp)
  oi : OwnN wr B vi (natsI li)
  ap : ∀ b, vp.ownBlock = some b → vi.ownBlock ≠ some b
  sto : Sto wr g d p mm P ch D C
  keys : Sn wr wr.heap.size (some ⟨kb, 0, none⟩) nk ck (natsI K)
  bel : Below w.heap.size w wr
  lt : c < B ∧ r < B ∧ kb < B ∧ B ≤ wr.heap.size ∧ w.heap.size ≤ c ∧ w.heap.size ≤ r ∧ w.heap.size ≤ kb ∧ c ≠ r ∧ c ≠ kb
  old : g < w.heap.size ∧ mm < w.heap.size ∧ ∀ k, C k → k < w.heap.size
section
variable {P : PS} {ch : Chg} {w wr w' : World} {c r kb nk ck B g d p mm : Nat} {D : DataW Unit} {C : Nat → Prop} {Q Q' : PS} {vp vi v : Value} {lp li K : List Nat}
theorem ChR.below (h : ChR (P := P) (ch := ch) w wr c r kb nk ck B g d p mm D C Q vp vi lp li K) (hb : Below wr.heap.size wr w') : ChR (P := P) (ch := ch) w w' c r kb nk ck B g d p mm D C Q vp vi lp li K :=
  ⟨h.box.below hb h.box.lt, h.zero.below hb h.zero.lt, h.op.on hb, h.oi.on hb, h.ap, h.sto.below hb, sn_on h.keys hb, h.bel.trans (hb.mono h.bel.size), by have := h.lt; have := hb.size; omega, h.old⟩
/-- the state in c is another one: only c has turned -/
theorem ChR.turn (h : ChR (P := P) (ch := ch) w wr c r kb nk ck B g d p mm D C Q vp vi lp li K) (hg : wr.grownBy w' (some c)) (hb : HoldsP w' c 110 [] Q' [vp, vi]) : ChR (P := P) (ch := ch) w w' c r kb nk ck B g d p mm D C Q' vp vi lp li K := by
  have hlt := h.lt
  have hold := h.old
  refine ⟨hb, h.zero.grown hg (by intro e; injection e with e; omega), ?_, ?_, h.ap, h.sto.grown hg (by omega) (by omega) (fun hC => by have := hold.2.2 c hC; omega), ?_, h.bel.grown hg h.bel.size (fun k hk => by injection hk with hk; omega), by have := hg.size; omega, hold⟩
  · refine World.ownsRow.kept h.op hg ?_
    rcases e : vp.ownBlock with _ | b
    · exact .inl rfl
    · exact .inr (fun e2 => by injection e2 with e2; have := (World.ownsRow.lt h.op b e).1; omega)
  · refine World.ownsRow.kept h.oi hg ?_
    rcases e : vi.ownBlock with _ | b
    · exact .inl rfl
    · exact .inr (fun e2 => by injection e2 with e2; have := (World.ownsRow.lt h.oi b e).1; omega)
  · refine ⟨h.keys.len, h.keys.cap, h.keys.max, h.keys.nil, fun ad ha h0 => ?_⟩
    obtain ⟨h2, h3⟩ := h.keys.at_ ad ha h0
    refine ⟨Nat.lt_of_lt_of_le h2 hg.size, fun j x hx => hg.cell (h3 j x hx) (fun e => ?_)⟩
    cases ha
    rw [add_block] at e
    have e2 : kb = c := by simpa using e
    omega
/-- one of the lists has grown, in its own block or a new one, and stands in c -/
theorem ChR.moreP (h : ChR (P := P) (ch := ch) w wr c r kb nk ck B g d p mm D C Q vp vi lp li K) (hL : Q.Len) {x : Nat} {g' cap' n' : Nat} (hw : wr.grownBy w' vp.ownBlock) (ho : OwnN w' B (.slice (some ⟨g', 0, none⟩) n' cap') (natsI (lp ++ [x]))) (hgv : vp.ownBlock = some g' ∨ wr.heap.size ≤ g') :
    ChR (P := P) (ch := ch) w (w'.setCell ⟨c, 527, none⟩ (.slice (some ⟨g', 0, none⟩) n' cap')) c r kb nk ck B g d p mm D C Q (.slice (some ⟨g', 0, none⟩) n' cap') vi (lp ++ [x]) li K := by
  have hlt := h.lt
  have hold := h.old
  have hob : ∀ b, vp.ownBlock = some b → B ≤ b := fun b hb => (World.ownsRow.lt h.op b hb).1
  have hne : ∀ k, k < B → some k ≠ vp.ownBlock := fun k hk e => by have := hob k e.symm; omega
  have hbx : HoldsP w' c 110 [] Q [vp, vi] := h.box.grown hw (hne c hlt.1)
  have hoi : OwnN w' B vi (natsI li) := by
    refine World.ownsRow.kept h.oi hw ?_
    rcases e : vi.ownBlock with _ | b
    · exact .inl rfl
    · exact .inr (fun e2 => h.ap b e2.symm e)
  have hk : Sn w' w'.heap.size (some ⟨kb, 0, none⟩) nk ck (natsI K) := by
    refine ⟨h.keys.len, h.keys.cap, h.keys.max, h.keys.nil, fun ad ha h0 => ?_⟩
    obtain ⟨h2, h3⟩ := h.keys.at_ ad ha h0
    refine ⟨Nat.lt_of_lt_of_le h2 hw.size, fun j x hx => hw.cell (h3 j x hx) (fun e => ?_)⟩
    cases ha
    rw [add_block] at e
    exact hne kb hlt.2.2.1 e
  have hst : Sto w' g d p mm P ch D C := h.sto.same hw.size (hw.block g h.sto.box.lt (hne g (by omega))) (hw.block mm h.sto.chd.map.lt (hne mm (by omega))) (fun k hk => hw.block k (h.sto.chd.lt k hk).1 (hne k (by have := hold.2.2 k hk; omega)))
  have hgl : g' < w'.heap.size := (World.ownsRow.lt ho g' rfl).2
  have hgB : B ≤ g' := (World.ownsRow.lt ho g' rfl).1
  have hc : w'.grownBy (w'.setCell ⟨c, 527, none⟩ (.slice (some ⟨g', 0, none⟩) n' cap')) (some c) := only_put (only_refl _ _) _ _
  have h1 : ChR (P := P) (ch := ch) w (w'.setCell ⟨c, 527, none⟩ (.slice (some ⟨g', 0, none⟩) n' cap')) c r kb nk ck B g d p mm D C Q (.slice (some ⟨g', 0, none⟩) n' cap') vi (lp ++ [x]) li K := by
    refine ⟨hbx.putBack hL 0 527 rfl _, (h.zero.grown hw (hne r hlt.2.1)).far (by show r ≠ c; omega) _, ?_, ?_, ?_, hst.grown hc (by omega) (by omega) (fun hC => by have := hold.2.2 c hC; omega), ?_, (h.bel.grown hw h.bel.size (fun k hk => by have := hob k hk; omega)).setCell (p := ⟨c, 527, none⟩) (by show w.heap.size ≤ c; omega) _, by have := hw.size; simp [World.setCell]; omega, hold⟩
    · exact World.ownsRow.kept ho hc (.inr (fun e => by
        have : g' = c := by simpa [Value.ownBlock] using e
        omega))
    · refine World.ownsRow.kept hoi hc ?_
      rcases e : vi.ownBlock with _ | b
      · exact .inl rfl
      · exact .inr (fun e2 => by injection e2 with e2; have := (World.ownsRow.lt h.oi b e).1; omega)
    · intro b hb
      have hb' : g' = b := by simpa [Value.ownBlock] using hb
      subst hb'
      intro e
      rcases hgv with h2 | h2
      · exact h.ap g' h2 e
      · have := (World.ownsRow.lt h.oi g' e).2; omega
    · exact ⟨hk.len, hk.cap, hk.max, hk.nil, fun ad ha h0 => by
        obtain ⟨h2, h3⟩ := hk.at_ ad ha h0
        refine ⟨by simpa [World.setCell] using h2, fun j x hx => hc.cell (h3 j x hx) (fun e => ?_)⟩
        cases ha
        rw [add_block] at e
        have e2 : kb = c := by simpa using e
        omega⟩
  exact h1
theorem ChR.moreI (h : ChR (P := P) (ch := ch) w wr c r kb nk ck B g d p mm D C Q vp vi lp li K) (hL : Q.Len) {x : Nat} {g' cap' n' : Nat} (hw : wr.grownBy w' vi.ownBlock) (ho : OwnN w' B (.slice (some ⟨g', 0, none⟩) n' cap') (natsI (li ++ [x]))) (hgv : vi.ownBlock = some g' ∨ wr.heap.size ≤ g') :
    ChR (P := P) (ch := ch) w (w'.setCell ⟨c, 528, none⟩ (.slice (some ⟨g', 0, none⟩) n' cap')) c r kb nk ck B g d p mm D C Q vp (.slice (some ⟨g', 0, none⟩) n' cap') lp (li ++ [x]) K := by
  have hlt := h.lt
  have hold := h.old
  have hob : ∀ b, vi.ownBlock = some b → B ≤ b := fun b hb => (World.ownsRow.lt h.oi b hb).1
  have hne : ∀ k, k < B → some k ≠ vi.ownBlock := fun k hk e => by have := hob k e.symm; omega
  have hbx : HoldsP w' c 110 [] Q [vp, vi] := h.box.grown hw (hne c hlt.1)
  have hop : OwnN w' B vp (natsI lp) := by
    refine World.ownsRow.kept h.op hw ?_
    rcases e : vp.ownBlock with _ | b
    · exact .inl rfl
    · exact .inr (fun e2 => h.ap b e e2.symm)
  have hk : Sn w' w'.heap.size (some ⟨kb, 0, none⟩) nk ck (natsI K) := by
    refine ⟨h.keys.len, h.keys.cap, h.keys.max, h.keys.nil, fun ad ha h0 => ?_⟩
    obtain ⟨h2, h3⟩ := h.keys.at_ ad ha h0
    refine ⟨Nat.lt_of_lt_of_le h2 hw.size, fun j x hx => hw.cell (h3 j x hx) (fun e => ?_)⟩
    cases ha
    rw [add_block] at e
    exact hne kb hlt.2.2.1 e
  have hst : Sto w' g d p mm P ch D C := h.sto.same hw.size (hw.block g h.sto.box.lt (hne g (by omega))) (hw.block mm h.sto.chd.map.lt (hne mm (by omega))) (fun k hk => hw.block k (h.sto.chd.lt k hk).1 (hne k (by have := hold.2.2 k hk; omega)))
  have hgl : g' < w'.heap.size := (World.ownsRow.lt ho g' rfl).2
  have hgB : B ≤ g' := (World.ownsRow.lt ho g' rfl).1
  have hc : w'.grownBy (w'.setCell ⟨c, 528, none⟩ (.slice (some ⟨g', 0, none⟩) n' cap')) (some c) := only_put (only_refl _ _) _ _
  have h1 : ChR (P := P) (ch := ch) w (w'.setCell ⟨c, 528, none⟩ (.slice (some ⟨g', 0, none⟩) n' cap')) c r kb nk ck B g d p mm D C Q vp (.slice (some ⟨g', 0, none⟩) n' cap') lp (li ++ [x]) K := by
    refine ⟨hbx.putBack hL 1 528 rfl _, (h.zero.grown hw (hne r hlt.2.1)).far (by show r ≠ c; omega) _, ?_, ?_, ?_, hst.grown hc (by omega) (by omega) (fun hC => by have := hold.2.2 c hC; omega), ?_, (h.bel.grown hw h.bel.size (fun k hk => by have := hob k hk; omega)).setCell (p := ⟨c, 528, none⟩) (by show w.heap.size ≤ c; omega) _, by have := hw.size; simp [World.setCell]; omega, hold⟩
    · refine World.ownsRow.kept hop hc ?_
      rcases e : vp.ownBlock with _ | b
      · exact .inl rfl
      · exact .inr (fun e2 => by injection e2 with e2; have := (World.ownsRow.lt h.op b e).1; omega)
    · exact World.ownsRow.kept ho hc (.inr (fun e => by
        have : g' = c := by simpa [Value.ownBlock] using e
        omega))
    · intro b hb hb2
      have hb' : g' = b := by simpa [Value.ownBlock] using hb2
      subst hb'
      rcases hgv with h2 | h2
      · exact h.ap g' hb h2
      · have := (World.ownsRow.lt h.op g' hb).2; omega
    · exact ⟨hk.len, hk.cap, hk.max, hk.nil, fun ad ha h0 => by
        obtain ⟨h2, h3⟩ := hk.at_ ad ha h0
        refine ⟨by simpa [World.setCell] using h2, fun j x hx => hc.cell (h3 j x hx) (fun e => ?_)⟩
        cases ha
        rw [add_block] at e
        have e2 : kb = c := by simpa using e
        omega⟩
  exact h1
end
end Go.Proofs.YtkhdgacjgccnnaaGreatDoor
namespace Go.Proofs.YtkhdgacjgccnnaaGreatDoor
open Go.RowKit

theorem ownN_some {w : World} {B : Nat} {v : Value} {l : List Int} (h : OwnN w B v l) (h0 : 0 < l.length) : ∃ g cap, v = .slice (some ⟨g, 0, none⟩) l.length cap ∧ B ≤ g ∧ g < w.heap.size ∧ Sn w w.heap.size (some ⟨g, 0, none⟩) l.length cap l := by
  obtain ⟨A, c, rfl, hs⟩ := h.form
  have h' := h
  rcases h'.2 with ⟨e, _⟩ | ⟨g, cap, cur, e, hb, hg, _⟩
  · have e1 : l.length = 0 := by injection e
    omega
  · cases e
    exact ⟨g, _, rfl, hb, (hs.at_ _ rfl h0).1, hs⟩
theorem two_new (w : World) (t : TypeId) (a b : Array Value) : ((w.alloc (.cells a t)).alloc (.cells b t)).heap.size = w.heap.size + 2 ∧ Below w.heap.size w ((w.alloc (.cells a t)).alloc (.cells b t)) ∧ Blk ((w.alloc (.cells a t)).alloc (.cells b t)) w.heap.size t a ∧ Blk ((w.alloc (.cells a t)).alloc (.cells b t)) (w.heap.size + 1) t b := by
  have hz : (w.alloc (.cells a t)).heap.size = w.heap.size + 1 := by simp
  refine ⟨by simp, ((Below.refl _ _).alloc (Nat.le_refl _) _).alloc (by rw [hz]; omega) _, (Blk.new w t a).below ((Below.refl (w.heap.size + 1) _).alloc (by rw [hz]; omega) _) (by omega), ?_⟩
  have := Blk.new (w.alloc (.cells a t)) t b
  rwa [hz] at this
section
variable {P : PS} {ch : Chg} {w wr : World} {c r kb nk ck B g d p mm : Nat} {D : DataW Unit} {C : Nat → Prop} {Q : PS} {vp vi : Value} {lp li K : List Nat}
theorem ChR.putP (h : ChR (P := P) (ch := ch) w wr c r kb nk ck B g d p mm D C Q vp vi lp li K) (hL : Q.Len) {k : Nat} (hk : k < 256) :
    ChR (P := P) (ch := ch) w ((wr.setCell ⟨c, 15 + k * 2, none⟩ (.int .i64 0)).setCell ⟨c, 15 + k * 2 + 1, none⟩ (.int .u32 0)) c r kb nk ck B g d p mm D C ⟨Q.epoch, Q.idx, Q.pgs.set k (0, 0)⟩ vp vi lp li K := by
  obtain ⟨x, hx⟩ := hL.page hk
  exact h.turn (only_put (only_put (only_refl wr (some c)) (15 + k * 2) (.int .i64 0)) (15 + k * 2 + 1) (.int .u32 0)) (h.box.putPage hL hx (0, 0) (by simp) (by simp))
theorem ChR.putI (h : ChR (P := P) (ch := ch) w wr c r kb nk ck B g d p mm D C Q vp vi lp li K) (hL : Q.Len) {k : Nat} (hk : k < 7) :
    ChR (P := P) (ch := ch) w ((wr.setCell ⟨c, 1 + k * 2, none⟩ (.int .i64 0)).setCell ⟨c, 1 + k * 2 + 1, none⟩ (.int .u32 0)) c r kb nk ck B g d p mm D C ⟨Q.epoch, Q.idx.set k (0, 0), Q.pgs⟩ vp vi lp li K := by
  obtain ⟨x, hx⟩ := hL.index hk
  exact h.turn (only_put (only_put (only_refl wr (some c)) (1 + k * 2) (.int .i64 0)) (1 + k * 2 + 1) (.int .u32 0)) (h.box.putIndex hL hx (0, 0) (by simp) (by simp))
/-- the cells of page k, and of its index, as they may be written -/
theorem ChR.cellP (h : ChR (P := P) (ch := ch) w wr c r kb nk ck B g d p mm D C Q vp vi lp li K) (hL : Q.Len) {k : Nat} (hk : k < 256) : ∃ x : Int × Nat, wr.cell? ⟨c, 15 + k * 2, none⟩ = some (.int .i64 x.1) ∧ wr.cell? ⟨c, 15 + k * 2 + 1, none⟩ = some (.int .u32 (x.2 : Int)) ∧ wr.frozen? ⟨c, 15 + k * 2, none⟩ = false ∧ wr.frozen? ⟨c, 15 + k * 2 + 1, none⟩ = false := by
  obtain ⟨x, hx⟩ := hL.page hk
  obtain ⟨h1, h2⟩ := h.box.page hL hx
  simp only [List.length_nil, Nat.zero_add] at h1 h2
  exact ⟨x, h1, h2, Blk.free h.box _, Blk.free h.box _⟩
theorem ChR.cellI (h : ChR (P := P) (ch := ch) w wr c r kb nk ck B g d p mm D C Q vp vi lp li K) (hL : Q.Len) {k : Nat} (hk : k < 7) : ∃ x : Int × Nat, wr.cell? ⟨c, 1 + k * 2, none⟩ = some (.int .i64 x.1) ∧ wr.cell? ⟨c, 1 + k * 2 + 1, none⟩ = some (.int .u32 (x.2 : Int)) ∧ wr.frozen? ⟨c, 1 + k * 2, none⟩ = false ∧ wr.frozen? ⟨c, 1 + k * 2 + 1, none⟩ = false := by
  obtain ⟨x, hx⟩ := hL.index hk
  obtain ⟨h1, h2⟩ := h.box.index hL hx
  simp only [List.length_nil, Nat.zero_add] at h1 h2
  exact ⟨x, h1, h2, Blk.free h.box _, Blk.free h.box _⟩
theorem ChR.backs (h : ChR (P := P) (ch := ch) w wr c r kb nk ck B g d p mm D C Q vp vi lp li K) (hL : Q.Len) : wr.cell? ⟨c, 527, none⟩ = some vp ∧ wr.cell? ⟨c, 528, none⟩ = some vi ∧ wr.frozen? ⟨c, 527, none⟩ = false ∧ wr.frozen? ⟨c, 528, none⟩ = false := by
  have h1 := h.box.back hL 0
  have h2 := h.box.back hL 1
  simp only [List.length_nil, Nat.zero_add] at h1 h2
  exact ⟨h1, h2, Blk.free h.box _, Blk.free h.box _⟩
/-- .. also behind an append to one of the lists -/
theorem ChR.backsG (h : ChR (P := P) (ch := ch) w wr c r kb nk ck B g d p mm D C Q vp vi lp li K) (hL : Q.Len) {w' : World} {row : Option Nat} (hr : row = vp.ownBlock ∨ row = vi.ownBlock) (hw : wr.grownBy w' row) : w'.cell? ⟨c, 527, none⟩ = some vp ∧ w'.cell? ⟨c, 528, none⟩ = some vi ∧ w'.frozen? ⟨c, 527, none⟩ = false ∧ w'.frozen? ⟨c, 528, none⟩ = false := by
  have hb : HoldsP w' c 110 [] Q [vp, vi] := h.box.grown hw (fun e => by
    have hc := h.lt.1
    rcases hr with hr | hr
    · rw [hr] at e; have := (World.ownsRow.lt h.op c e.symm).1; omega
    · rw [hr] at e; have := (World.ownsRow.lt h.oi c e.symm).1; omega)
  have h1 := hb.back hL 0
  have h2 := hb.back hL 1
  simp only [List.length_nil, Nat.zero_add] at h1 h2
  exact ⟨h1, h2, Blk.free hb _, Blk.free hb _⟩
end
/-- a list's reading, in a block from B on -/
def LsN (w : World) (B : Nat) (v : Value) (l : List Nat) : Prop := ∃ A c, v = .slice A l.length c ∧ Sn w w.heap.size A l.length c (natsI l) ∧ ∀ a, A = some a → B ≤ a.block ∧ a.block < w.heap.size
theorem lsN_own {w : World} {B B' : Nat} {v : Value} {l : List Nat} (h : OwnN w B v (natsI l)) (hB : B' ≤ B) : LsN w B' v l := by
  obtain ⟨A, c, rfl, hs⟩ := h.form
  rw [natsI_len] at hs ⊢
  refine ⟨A, c, rfl, hs, fun a ha => ?_⟩
  subst ha
  have := World.ownsRow.lt h a.block rfl
  omega
theorem only_setRow (w : World) (g : Nat) (cs : Array Value) : w.grownBy (w.setRow g cs) (some g) := ⟨rfl, rfl, rfl, by simp, fun k _ hk => setRow_other w g k _ (fun e => hk (by rw [e]))⟩
theorem rowN_grown {w w' : World} {g : Nat} {l : List Int} {T : List Value} {row : Option Nat} (h : RowN w g l T) (hg : w.grownBy w' row) (hne : some g ≠ row) : RowN w' g l T := Blk.grown h hg hne
theorem ChR.done {P : PS} {ch : Chg} {w wr w3 : World} {c r kb nk ck B g d p mm : Nat} {D : DataW Unit} {C : Nat → Prop} {Q : PS} {vp : Value} {lp li K q : List Nat} {gi n ci m : Nat} {T : List Value} (h : ChR (P := P) (ch := ch) w wr c r kb nk ck B g d p mm D C Q vp (.slice (some ⟨gi, 0, none⟩) n ci) lp li K) (hL : Q.Len) (hg : wr.grownBy w3 (some gi)) (hrow : RowN w3 gi (natsI q) T) (hm : q.length = m) (hmc : m ≤ ci) (hcm : ci ≤ maxLen) :
    (w3.cell? ⟨c, 528, none⟩ = some (.slice (some ⟨gi, 0, none⟩) n ci) ∧ w3.frozen? ⟨c, 528, none⟩ = false) ∧ HoldsP (w3.setCell ⟨c, 528, none⟩ (.slice (some ⟨gi, 0, none⟩) m ci)) c 110 [] Q [vp, .slice (some ⟨gi, 0, none⟩) m ci] ∧ Blk (w3.setCell ⟨c, 528, none⟩ (.slice (some ⟨gi, 0, none⟩) m ci)) r 110 (chL (noPS 0) nilS nilS).toArray ∧
    ∀ W5, (w3.setCell ⟨c, 528, none⟩ (.slice (some ⟨gi, 0, none⟩) m ci)).setRow r (chL Q vp (.slice (some ⟨gi, 0, none⟩) m ci)).toArray = W5 → Blk W5 r 110 (chL Q vp (.slice (some ⟨gi, 0, none⟩) m ci)).toArray ∧ LsN W5 w.heap.size vp lp ∧ LsN W5 w.heap.size (.slice (some ⟨gi, 0, none⟩) m ci) q ∧ Below w.heap.size w W5 := by
  have hlt := h.lt
  have hgi : B ≤ gi := (World.ownsRow.lt h.oi gi rfl).1
  have hbx : HoldsP w3 c 110 [] Q [vp, .slice (some ⟨gi, 0, none⟩) n ci] := h.box.grown hg (by intro e; injection e with e; omega)
  have hz := h.zero.grown hg (by intro e; injection e with e; omega)
  have h2 := hbx.back hL 1
  simp only [List.length_nil, Nat.zero_add] at h2
  have hc : w3.grownBy (w3.setCell ⟨c, 528, none⟩ (.slice (some ⟨gi, 0, none⟩) m ci)) (some c) := only_put (only_refl _ _) _ _
  have hz2 : Blk (w3.setCell ⟨c, 528, none⟩ (.slice (some ⟨gi, 0, none⟩) m ci)) r 110 (chL (noPS 0) nilS nilS).toArray := hz.far (by show r ≠ c; omega) _
  refine ⟨⟨h2, Blk.free hbx _⟩, hbx.putBack hL 1 528 rfl _, hz2, fun W5 hW5 => ?_⟩
  have hr : (w3.setCell ⟨c, 528, none⟩ (.slice (some ⟨gi, 0, none⟩) m ci)).grownBy W5 (some r) := by rw [← hW5]; exact only_setRow _ _ _
  have hop : OwnN W5 B vp (natsI lp) := by
    have k1 : ∀ b, b < B ∨ b = gi → (some b = vp.ownBlock → False) := fun b hb e => by
      have := (World.ownsRow.lt h.op b e.symm).1
      rcases hb with hb | hb
      · omega
      · subst hb; exact h.ap b e.symm rfl
    refine World.ownsRow.kept (World.ownsRow.kept (World.ownsRow.kept h.op hg ?_) hc ?_) hr ?_
    · rcases e : vp.ownBlock with _ | b
      · exact .inl rfl
      · exact .inr (fun e2 => k1 gi (.inr rfl) (by rw [e]; exact e2.symm))
    · rcases e : vp.ownBlock with _ | b
      · exact .inl rfl
      · exact .inr (fun e2 => k1 c (.inl hlt.1) (by rw [e]; exact e2.symm))
    · rcases e : vp.ownBlock with _ | b
      · exact .inl rfl
      · exact .inr (fun e2 => k1 r (.inl hlt.2.1) (by rw [e]; exact e2.symm))
  have hrw : RowN W5 gi (natsI q) T := rowN_grown (rowN_grown hrow hc (by intro e; injection e with e; omega)) hr (by intro e; injection e with e; omega)
  refine ⟨by rw [← hW5]; exact setRow_heap _ _ _ _ _ _ hz2, lsN_own hop (by omega), ?_, ?_⟩
  · refine ⟨some ⟨gi, 0, none⟩, ci, by rw [hm], ?_, fun a ha => by cases ha; exact ⟨by show w.heap.size ≤ gi; omega, hrw.lt⟩⟩
    rw [hm]
    exact rowN_sn hrw (by rw [natsI_len]; exact hm) hmc hcm
  · have b1 := h.bel.grown hg h.bel.size (fun k hk => by injection hk with hk; omega)
    have b2 := b1.grown hc b1.size (fun k hk => by injection hk with hk; omega)
    exact b2.grown hr b2.size (fun k hk => by injection hk with hk; omega)
theorem once_natsI (l : List Nat) : once (natsI l) = natsI (once l) := by
  unfold once onceTo natsI
  rw [List.map_filterMap, List.length_map]
  congr 1
  funext i
  rw [List.getElem?_map, List.getElem?_map]
  by_cases h : i ≠ 0 ∧ l[i]? = l[i - 1]?
  · rw [if_pos h, if_pos ⟨h.1, by rw [h.2]⟩]; rfl
  · rw [if_neg h, if_neg]
    rintro ⟨h1, h2⟩
    refine h ⟨h1, ?_⟩
    rcases e1 : l[i]? with _ | x <;> rcases e2 : l[i - 1]? with _ | y <;> rw [e1, e2] at h2
    · cases h2
    · cases h2
    · have h3 : x = y := by simp at h2; omega
      rw [h3]
theorem once_mem {l : List Nat} {x : Nat} (h : x ∈ once l) : x ∈ l := by
  unfold once onceTo at h
  obtain ⟨i, _, hi⟩ := List.mem_filterMap.1 h
  split at hi
  · cases hi
  · exact List.mem_of_getElem? hi
theorem cutTo_cut {P : PS} {K : List Nat} {i k j : Nat} (h : K[i]? = some k) (hj : k / 42 = j) : (⟨(cutTo P K i).epoch, (cutTo P K i).idx.set j (0, 0), (cutTo P K i).pgs.set k (0, 0)⟩ : PS) = cutTo P K (i + 1) := by
  rw [cutTo_next h, ← hj]; rfl
theorem filter_next {q : Nat → Bool} {K : List Nat} {i k : Nat} (h : K[i]? = some k) : (K.take (i + 1)).filter q = if q k then (K.take i).filter q ++ [k] else (K.take i).filter q := by
  rw [takeK_next h, List.filter_append]
  by_cases hq : q k <;> simp [hq]
theorem div_next {K : List Nat} {i k j : Nat} (h : K[i]? = some k) (hj : k / 42 = j) : (K.take (i + 1)).map (· / 42) = (K.take i).map (· / 42) ++ [j] := by
  rw [takeK_next h, List.map_append, ← hj]; rfl
/-- what a change comes to -/
def ChgR {P : PS} {ch : Chg} (w : World) (e : Ending) (w' : World) : Prop := ∃ vp vi, e = .returned (.agg (chL (P.cut (keysOf ch)) vp vi).toArray) ∧ LsN w' w.heap.size vp (pagesOf P ch) ∧ LsN w' w.heap.size vi (indexesOf P ch) ∧ Below w.heap.size w w'
set_option maxRecDepth 100000 in
set_option maxHeartbeats 4000000 in
theorem change_any {P : PS} {ch : Chg} (g d p mm : Nat) (D : DataW Unit) (C : Nat → Prop) (w : World) (h : Sto w g d p mm P ch D C) (h0 : 0 < (keysOf ch).length) (he0 : 0 ≤ P.epoch) (he1 : P.epoch < 4611686018427387904) :
    Calls Tryz.prog 46 #[.pointer (some ⟨g, 0, none⟩)] w (ChgR (P := P) (ch := ch) w) := by
  obtain ⟨i0, hi, hz0, hz1, hz2⟩ := info_parts Tryz.info3
  have HSt := hid h
  have hst1 := h.below (w' := w.alloc (.cells (chL (noPS 0) nilS nilS).toArray 110)) ((Below.refl _ _).alloc (Nat.le_refl _) _)
  have HSt1 := hid hst1
  have HLn := hid h.len
  have hzc := fun W => (zero_of_info Tryz.zeroChange).1 W
  have HGl := hid (show g < w.heap.size ∧ mm < w.heap.size ∧ ∀ k, C k → k < w.heap.size from ⟨h.box.lt, h.chd.map.lt, fun k hk => (h.chd.lt k hk).1⟩)
  obtain ⟨K, hK⟩ : ∃ K, keysOf ch = K := ⟨_, rfl⟩
  have HKe := hid hK
  have HK0 := hid (show 0 < K.length ∧ K.length ≤ 256 from by rw [← hK]; exact ⟨h0, keysOf_le ch⟩)
  have HK6 := hid (show ∀ k, k ∈ K → k < 256 from by rw [← hK]; exact fun k hk => (keysOf_mem.1 hk).1)
  clear h hst1 hK h0
  go_enter Tryz.func46, Tryz.ntmps46
  go_upto_region 2 with (first | (refine wpList_load_mid rfl 95 (.tmp 8) rfl g 2 rfl (stL P) _ HSt1.out.box.range Tryz.underlying95 rfl (size_of_state HLn.out) ?_) | (refine wpList_built1 rfl 110 0 (.tmp 9) rfl (.agg (stL P).toArray) rfl (chL P nilS nilS).toArray (built_change HLn.out) ?_) | (refine wpList_store_last rfl 110 (.tmp 3) (.tmp 10) rfl (w.heap.size + 1) (by simp) (chL (noPS 0) nilS nilS).toArray (chL P nilS nilS).toArray rfl rfl ?b1 ?b2 ?b3 ?_))
  case b1 => rw [List.size_toArray]; exact size_of_change HLn.out _ _
  case b2 => rw [List.size_toArray, List.size_toArray, chL_len HLn.out, chL_len (noPS_len 0)]
  case b3 => exact chL_one P rfl rfl
  obtain ⟨W, hW⟩ : ∃ W, ((w.alloc (.cells (chL (noPS 0) nilS nilS).toArray 110)).alloc (.cells (chL P nilS nilS).toArray 110)) = W := ⟨_, rfl⟩
  obtain ⟨z1, z2, z3, z4⟩ := two_new w 110 (chL (noPS 0) nilS nilS).toArray (chL P nilS nilS).toArray
  rw [hW] at z1 z2 z3 z4
  have HSz := hid z1
  have HB1 := hid z2
  have HRb := hid z3
  have HCb := hid (show HoldsP W (w.heap.size + 1) 110 [] P [nilS, nilS] from z4)
  clear z1 z2 z3 z4
  rw [hW]
  have HSt2 := hid (HSt.out.below HB1.out)
  have c0 := HCb.out.epoch
  have f0 := Blk.free HCb.out 0
  have hlc : ([] : List Value).length = 0 := rfl
  rw [hlc] at c0
  clear hW
  go_upto_region 3 with fail
  obtain ⟨W2, hW2⟩ : ∃ W2, W.setCell ⟨w.heap.size + 1, 0, none⟩ (.int .i64 (P.epoch + 1)) = W2 := ⟨_, rfl⟩
  have z1 := HCb.out.putEpoch (P.epoch + 1)
  have z2 := HB1.out.setCell (p := ⟨w.heap.size + 1, 0, none⟩) (by show w.heap.size ≤ w.heap.size + 1; omega) (.int .i64 (P.epoch + 1))
  have z3 := HRb.out.far (p := ⟨w.heap.size + 1, 0, none⟩) (by show w.heap.size ≠ w.heap.size + 1; omega) (.int .i64 (P.epoch + 1))
  have z4 : (W.setCell ⟨w.heap.size + 1, 0, none⟩ (.int .i64 (P.epoch + 1))).heap.size = w.heap.size + 2 := by rw [← HSz.out]; simp [World.setCell]
  rw [hW2] at z1 z2 z3 z4
  have HC2 := hid z1
  have HB2 := hid z2
  have HR2 := hid z3
  have HS2 := hid z4
  rw [hW2]
  clear z1 z2 z3 z4 c0 f0 hW2 HCb HB1 HRb HSz HSt2
  have HSt3 := hid (HSt.out.below HB2.out)
  have cm := HSt3.out.mapc
  go_wp2_with fail
  refine (keysS_any (some mm) _).mono ?_
  rintro e W3 ⟨rfl, rfl⟩
  have z1 := (Below.refl W2.heap.size W2).alloc (Nat.le_refl _) (.cells #[.map (some mm)] 88)
  have HB3 := hid (HB2.out.trans (z1.mono HB2.out.size))
  have HC3 := hid (HC2.out.below z1 HC2.out.lt)
  have HR3 := hid (HR2.out.below z1 HR2.out.lt)
  have HSt4 := hid (HSt3.out.below z1)
  have cg : (W2.alloc (.cells #[.map (some mm)] 88)).cell? ⟨W2.heap.size, 0, none⟩ = some (.map (some mm)) := by
    have := cell_one_new W2 (.map (some mm)) 88 0 _ rfl
    rwa [add0] at this
  clear z1 cm
  go_wp2_with fail
  refine (sortedS_any W2.heap.size mm _ D _ _ cg HSt4.out.chd.map (by rw [HSt4.out.chd.size]; have := keysOf_le ch; omega)).mono ?_
  rintro e W4 ⟨v, ss, rfl, hp, hown, hb4⟩
  rw [HSt4.out.chd.sorted hp, HKe.out] at hown
  obtain ⟨kb, ck, rfl, q1, q2, q3⟩ := ownN_some hown (by rw [natsI_len]; exact HK0.out.1)
  rw [natsI_len] at q3
  have HB4 := hid (HB3.out.trans (hb4.mono HB3.out.size))
  have HCh := hid (show ChR (P := P) (ch := ch) w W4 (w.heap.size + 1) w.heap.size kb K.length ck W4.heap.size g d p mm D C ⟨P.epoch + 1, P.idx, P.pgs⟩ nilS nilS [] [] K from by
    have hz : (W2.alloc (.cells #[.map (some mm)] 88)).heap.size = w.heap.size + 3 := by simp; have := HS2.out; omega
    rw [hz] at q1
    have h4 := hb4.size
    rw [hz] at h4
    exact ⟨HC3.out.below hb4 HC3.out.lt, HR3.out.below hb4 HR3.out.lt, World.ownsRow_nil _ _ _ _, World.ownsRow_nil _ _ _ _, (fun _ h => by cases h), HSt4.out.below hb4, q3, HB4.out, by omega, HGl.out⟩)
  obtain ⟨B, hB⟩ : ∃ B, W4.heap.size = B := ⟨_, rfl⟩
  have HBs := hid hB
  rw [hB] at HCh
  obtain ⟨n, hn⟩ : ∃ n, K.length = n := ⟨_, rfl⟩
  have HN := hid (show K.length = n ∧ n ≤ 256 from ⟨hn, by rw [← hn]; exact HK0.out.2⟩)
  have hn0 : 0 < n := by rw [← hn]; exact HK0.out.1
  have hn2 : (n : Int) ≤ 256 := by have := HN.out; omega
  rw [natsI_len, hn]
  rw [hn] at HCh
  clear q1 q2 q3 hown hb4 hp HC3 HR3 HB3 HB2 HC2 HR2 HSt3 HSt4 cg HB4 hB hn HK0
  go_wp2
  go_loopw [24] (fun iv wx => ∃ (i : Nat) (vp vi : Value), i ≤ n ∧ iv = .int .i64 (i : Int) ∧ ChR (P := P) (ch := ch) w wx (w.heap.size + 1) w.heap.size kb n ck B g d p mm D C (cutTo P K i) vp vi ((K.take i).filter (thereB P ch)) ((K.take i).map (· / 42)) K) (fun iv _ => n - (intOf iv).toNat)
  case atStart => exact ⟨0, nilS, nilS, Nat.zero_le _, rfl, HCh.out⟩
  case round =>
    rename World => wx
    obtain ⟨i, vp, vi, hi1, rfl, hr⟩ := hrel
    obtain ⟨lp, hlp⟩ : ∃ lp, (K.take i).filter (thereB P ch) = lp := ⟨_, rfl⟩
    obtain ⟨li, hli⟩ : ∃ li, (K.take i).map (· / 42) = li := ⟨_, rfl⟩
    rw [hlp, hli] at hr
    by_cases hlt : i < n
    · obtain ⟨ad2, y, had2, hbl, hy, c0⟩ := hr.keys.get hlt
      obtain rfl : (⟨kb, 0, none⟩ : Addr) = ad2 := by injection had2
      rw [add0] at c0
      obtain ⟨k, hk, hyk⟩ : ∃ k, K[i]? = some k ∧ y = (k : Int) := by
        unfold natsI at hy
        rw [List.getElem?_map] at hy
        rcases hq : K[i]? with _ | k
        · rw [hq] at hy; cases hy
        · rw [hq] at hy; exact ⟨k, rfl, by simpa using hy.symm⟩
      subst hyk
      have hk6 := HK6.out k (List.mem_of_getElem? hk)
      have HK := hid hk
      have hQ := cutTo_len HLn.out K i
      obtain ⟨x, s0, s1, s2, s3⟩ := hr.cellP hQ hk6
      have HR1 := hid (hr.putP hQ hk6)
      have HQl := hid hQ
      have hk256 : (k : Int) < 256 := by omega
      have hin : (i : Int) < n := by omega
      clear hbl hy had2 hk hr hQ hlt
      go_upto_region 7 with fail
      obtain ⟨W5, hW5⟩ : ∃ W5, ((wx.setCell ⟨w.heap.size + 1, 15 + k * 2, none⟩ (.int .i64 0)).setCell ⟨w.heap.size + 1, 15 + k * 2 + 1, none⟩ (.int .u32 0)) = W5 := ⟨_, rfl⟩
      rw [hW5] at HR1
      rw [hW5]
      clear hW5 s0 s1 s2 s3 x
      obtain ⟨j, hj⟩ : ∃ j, k / 42 = j := ⟨_, rfl⟩
      have HJ := hid hj
      have hj7 : j < 7 := by omega
      have hQ1 : PS.Len ⟨(cutTo P K i).epoch, (cutTo P K i).idx, (cutTo P K i).pgs.set k (0, 0)⟩ := ⟨HQl.out.i, by simp [HQl.out.p]⟩
      obtain ⟨x, s0, s1, s2, s3⟩ := HR1.out.cellI hQ1 hj7
      have HR2 := hid (HR1.out.putI hQ1 hj7)
      have hq42 : (k : Int) / 42 = (j : Int) := by omega
      have hj7i : (j : Int) < 7 := by omega
      clear hQ1 hj
      go_upto_region 8 with fail
      obtain ⟨W6, hW6⟩ : ∃ W6, ((W5.setCell ⟨w.heap.size + 1, 1 + j * 2, none⟩ (.int .i64 0)).setCell ⟨w.heap.size + 1, 1 + j * 2 + 1, none⟩ (.int .u32 0)) = W6 := ⟨_, rfl⟩
      rw [hW6] at HR2
      rw [hW6]
      rw [cutTo_cut HK.out HJ.out] at HR2
      clear hW6 s0 s1 s2 s3 x HR1
      have HQ2 := hid (cutTo_len HLn.out K (i + 1))
      go_wp2_with fail
      refine (pgThere_any g d p mm P ch D C k _ HR2.out.sto hk6).mono ?_
      obtain ⟨b, hb⟩ : ∃ b, thereB P ch k = b := ⟨_, rfl⟩
      have HBb := hid hb
      rw [hb]
      rintro e W7 ⟨rfl, hb7⟩
      have HR3 := hid (HR2.out.below hb7)
      have HFn := hid (filter_next (q := thereB P ch) HK.out)
      have HDn := hid (div_next HK.out HJ.out)
      rw [hlp] at HFn
      rw [hli] at HDn
      have HLe := hid (show lp.length ≤ 256 ∧ li.length ≤ 256 from by
        rw [← hlp, ← hli, List.length_map]
        have h1 := List.length_filter_le (thereB P ch) (K.take i)
        have h2 := List.length_take_le i K
        have h3 := HN.out.2
        omega)
      clear hlp hli
      clear hb hb7 HR2
      cases b
      · rw [HBb.out] at HFn
        obtain ⟨s0, s1, s2, s3⟩ := HR3.out.backs HQ2.out
        obtain ⟨L, hL⟩ : ∃ L, (natsI li).length = L := ⟨_, rfl⟩
        have HLl := hid (show (natsI li).length = L ∧ L ≤ 256 from ⟨hL, by rw [← hL, natsI_len]; exact HLe.out.2⟩)
        have HOl := hid (show W7.ownsRow B 3 1 vi L ((natsI li).map (Value.int .i64)) from by
          have := HR3.out.oi; unfold OwnN at this; rwa [hL] at this)
        have HBz := hid (show B ≤ W7.heap.size from HR3.out.lt.2.2.2.1)
        clear hL
        go_wp2_with (at_builtin; refine wpList_append_lies _ rfl _ _ 108 rfl B 3 i0 (.int .i64 0) 1 8 Tryz.underlying108 hi hz0 hz1 hz2 rfl (by decide) _ L _ rfl (World.ownsRow.alloc HOl.out _) ⟨W7.heap.size, 0, none⟩ 1 1 [.int .i64 (j : Int)] rfl rfl (cell_one_new _ _ _) ?c2 (by decide) ?c3 ?c4 ?c5 (W7.heap.size + 1) ?c6 ?_)
        case c2 => intro u hu; simp at hu; subst hu; rfl
        case c3 => have := HLl.out.2; unfold maxLen; omega
        case c4 => have := HLl.out.2; omega
        case c5 => have := HBz.out; simp; omega
        case c6 => simp
        intro g' cap' Wg hown' hgrow hgv _
        have hRa := HR3.out.below ((Below.refl W7.heap.size W7).alloc (Nat.le_refl _) (.cells #[.int .i64 (j : Int)] 3))
        have ho : OwnN Wg B (.slice (some ⟨g', 0, none⟩) (L + 1) cap') (natsI (li ++ [j])) := by
          unfold natsI
          rw [List.map_append]
          rw [← HLl.out.1] at hown' ⊢
          exact ownN_more hown' HR3.out.oi
        have HRmI := hid (hRa.moreI HQ2.out (x := j) hgrow ho (by
          rcases hgv with h | h
          · exact .inl h
          · exact .inr (by rw [h]; simp)))
        clear s0 s1 s2 s3
        obtain ⟨s0, s1, s2, s3⟩ := hRa.backsG HQ2.out (.inr rfl) hgrow
        clear hown' hgrow hgv hRa ho HLl HOl HBz
        go_wp2
        go_roundw
        case rel => exact ⟨i + 1, vp, _, by omega, by go_num, by rw [HDn.out, show (List.take (i + 1) K).filter (thereB P ch) = lp from HFn.out]; exact HRmI.out⟩
        case measure => simp [intOf]; omega
      · rw [HBb.out] at HFn
        obtain ⟨s0, s1, s2, s3⟩ := HR3.out.backs HQ2.out
        obtain ⟨L, hL⟩ : ∃ L, (natsI lp).length = L := ⟨_, rfl⟩
        have HLl := hid (show (natsI lp).length = L ∧ L ≤ 256 from ⟨hL, by rw [← hL, natsI_len]; exact HLe.out.1⟩)
        have HOl := hid (show W7.ownsRow B 3 1 vp L ((natsI lp).map (Value.int .i64)) from by
          have := HR3.out.op; unfold OwnN at this; rwa [hL] at this)
        have HBz := hid (show B ≤ W7.heap.size from HR3.out.lt.2.2.2.1)
        clear hL
        go_wp2_with (at_builtin; refine wpList_append_lies _ rfl _ _ 108 rfl B 3 i0 (.int .i64 0) 1 8 Tryz.underlying108 hi hz0 hz1 hz2 rfl (by decide) _ L _ rfl (World.ownsRow.alloc HOl.out _) ⟨W7.heap.size, 0, none⟩ 1 1 [.int .i64 (k : Int)] rfl rfl (cell_one_new _ _ _) ?c2 (by decide) ?c3 ?c4 ?c5 (W7.heap.size + 1) ?c6 ?_)
        case c2 => intro u hu; simp at hu; subst hu; rfl
        case c3 => have := HLl.out.2; unfold maxLen; omega
        case c4 => have := HLl.out.2; omega
        case c5 => have := HBz.out; simp; omega
        case c6 => simp
        intro g' cap' Wg hown' hgrow hgv _
        have hRa := HR3.out.below ((Below.refl W7.heap.size W7).alloc (Nat.le_refl _) (.cells #[.int .i64 (k : Int)] 3))
        have ho : OwnN Wg B (.slice (some ⟨g', 0, none⟩) (L + 1) cap') (natsI (lp ++ [k])) := by
          unfold natsI
          rw [List.map_append]
          rw [← HLl.out.1] at hown' ⊢
          exact ownN_more hown' HR3.out.op
        have HRmP := hid (hRa.moreP HQ2.out (x := k) hgrow ho (by
          rcases hgv with h | h
          · exact .inl h
          · exact .inr (by rw [h]; simp)))
        clear s0 s1 s2 s3
        obtain ⟨s0, s1, s2, s3⟩ := hRa.backsG HQ2.out (.inl rfl) hgrow
        clear hown' hgrow hgv hRa ho HLl HOl HBz
        go_upto_region 10 with fail
        obtain ⟨W8, hW8⟩ : ∃ W8, Wg.setCell ⟨w.heap.size + 1, 527, none⟩ (.slice (some ⟨g', 0, none⟩) (L + 1) cap') = W8 := ⟨_, rfl⟩
        rw [hW8] at HRmP
        rw [hW8]
        obtain ⟨v8, hv8⟩ : ∃ v8, Value.slice (some ⟨g', 0, none⟩) (L + 1) cap' = v8 := ⟨_, rfl⟩
        rw [hv8] at HRmP
        have HR4 := hid HRmP.out
        clear hW8 s0 s1 s2 s3 HRmP HR3 hv8
        obtain ⟨s0, s1, s2, s3⟩ := HR4.out.backs HQ2.out
        obtain ⟨L2, hL⟩ : ∃ L2, (natsI li).length = L2 := ⟨_, rfl⟩
        have HLl := hid (show (natsI li).length = L2 ∧ L2 ≤ 256 from ⟨hL, by rw [← hL, natsI_len]; exact HLe.out.2⟩)
        have HOl := hid (show W8.ownsRow B 3 1 vi L2 ((natsI li).map (Value.int .i64)) from by
          have := HR4.out.oi; unfold OwnN at this; rwa [hL] at this)
        have HBz := hid (show B ≤ W8.heap.size from HR4.out.lt.2.2.2.1)
        clear hL
        go_wp2_with (at_builtin; refine wpList_append_lies _ rfl _ _ 108 rfl B 3 i0 (.int .i64 0) 1 8 Tryz.underlying108 hi hz0 hz1 hz2 rfl (by decide) _ L2 _ rfl (World.ownsRow.alloc HOl.out _) ⟨W8.heap.size, 0, none⟩ 1 1 [.int .i64 (j : Int)] rfl rfl (cell_one_new _ _ _) ?c2 (by decide) ?c3 ?c4 ?c5 (W8.heap.size + 1) ?c6 ?_)
        case c2 => intro u hu; simp at hu; subst hu; rfl
        case c3 => have := HLl.out.2; unfold maxLen; omega
        case c4 => have := HLl.out.2; omega
        case c5 => have := HBz.out; simp; omega
        case c6 => simp
        intro g2 cap2 Wh hown' hgrow hgv _
        have hRa := HR4.out.below ((Below.refl W8.heap.size W8).alloc (Nat.le_refl _) (.cells #[.int .i64 (j : Int)] 3))
        have ho : OwnN Wh B (.slice (some ⟨g2, 0, none⟩) (L2 + 1) cap2) (natsI (li ++ [j])) := by
          unfold natsI
          rw [List.map_append]
          rw [← HLl.out.1] at hown' ⊢
          exact ownN_more hown' HR4.out.oi
        have HRmI := hid (hRa.moreI HQ2.out (x := j) hgrow ho (by
          rcases hgv with h | h
          · exact .inl h
          · exact .inr (by rw [h]; simp)))
        clear s0 s1 s2 s3
        obtain ⟨s0, s1, s2, s3⟩ := hRa.backsG HQ2.out (.inr rfl) hgrow
        clear hown' hgrow hgv hRa ho HLl HOl HBz
        go_wp2
        go_roundw
        case rel => exact ⟨i + 1, _, _, by omega, by go_num, by rw [HDn.out, show (List.take (i + 1) K).filter (thereB P ch) = lp ++ [k] from HFn.out]; exact HRmI.out⟩
        case measure => simp [intOf]; omega
    · have hin : i = n := by omega
      have hnlt : decide (i < n) = false := by simpa using hlt
      have hti : K.take i = K := List.take_of_length_le (by have := HN.out.1; omega)
      have hQ := cutTo_len HLn.out K i
      have hcut : cutTo P K i = P.cut (keysOf ch) := by unfold cutTo PS.cut; rw [hti, HKe.out]
      rw [hcut] at hr hQ
      rw [hti] at hlp hli
      obtain ⟨gi, ci, rfl, q1, q2, q3⟩ := ownN_some hr.oi (by rw [natsI_len, ← hli, List.length_map]; exact HN.out.1 ▸ hn0)
      have hlin : (natsI li).length = n := by rw [natsI_len, ← hli, List.length_map]; exact HN.out.1
      rw [hlin] at hr q3
      have HQ := hid hQ
      have HR := hid hr
      have HLi := hid (show n ≤ 256 ∧ li.length = n from ⟨HN.out.2, by rw [← hlin, natsI_len]⟩)
      have HLq := hid hli
      have HLp := hid (show pagesOf P ch = lp from by unfold pagesOf; rw [HKe.out]; exact hlp)
      obtain ⟨s0, s1, s2, s3⟩ := hr.backs hQ
      clear q1 q2 q3 hr hQ hcut hlin hlp hli hti hlt hi1
      go_wp2_with fail
      refine (compact_any B gi n ci (natsI li) _ (by have := HR.out.oi; unfold OwnN at this ⊢; rw [natsI_len, HLi.out.2] at this ⊢; exact this) (by have := HLi.out; omega) hn0).mono ?_
      rw [once_natsI]
      rintro e w2 ⟨m, rfl, ⟨T, hrow⟩, hlm, hmc, hcm, hg⟩
      rw [natsI_len] at hlm
      have HRw := hid hrow
      have HM := hid (show (once li).length = m ∧ m ≤ ci ∧ ci ≤ maxLen ∧ m ≤ 1000 from ⟨hlm, hmc, hcm, by
        have := onceTo_len li li.length
        have h2 : (once li).length ≤ li.length := this
        have := HLi.out
        omega⟩)
      have HG := hid hg
      have HApx := hid (show gi ≠ g ∧ gi ≠ mm ∧ ¬ C gi from by
        have h1 : B ≤ gi := (World.ownsRow.lt HR.out.oi gi rfl).1
        have h2 := HR.out.lt
        have h3 := HGl.out
        refine ⟨by omega, by omega, fun hC => ?_⟩
        have := h3.2.2 gi hC
        omega)
      have HS2 := hid (HR.out.sto.grown hg HApx.out.1 HApx.out.2.1 HApx.out.2.2)
      have HKm := hid (show ∀ k, k ∈ once li → k < 7 from fun k hk => by
        have h1 := once_mem hk
        rw [← HLq.out] at h1
        obtain ⟨y, hy, rfl⟩ := List.mem_map.1 h1
        have := HK6.out y hy
        omega)
      clear hrow hlm hmc hcm hg
      go_wp2_with fail
      refine (deleteEmpty_any g d p mm gi m ci D C (once li) T _ HS2.out HRw.out HM.out.1 HM.out.2.1 HM.out.2.2.1 HM.out.2.2.2 HKm.out HApx.out.1 HApx.out.2.1 HApx.out.2.2).mono ?_
      rintro e w3 ⟨m2, rfl, ⟨T2, hrow2⟩, hlm2, hmc2, hcm2, hg2⟩
      have hie : (once li).filter (fun k => !emptyB P ch k) = indexesOf P ch := by unfold indexesOf; rw [HKe.out, HLq.out]
      rw [hie] at hrow2 hlm2
      rw [natsI_len] at hlm2
      have HD := HR.out.done HQ.out (only_trans HG.out hg2) hrow2 hlm2 hmc2 hcm2
      obtain ⟨⟨s0, s1⟩, s2, s3, s4⟩ := HD
      have HC4 := hid s2
      have HR4 := hid s3
      have HF4 := hid s4
      clear s2 s3 s4 hrow2 hlm2 hmc2 hcm2 hg2 hie
      go_upto_region 13 with fail
      obtain ⟨W4', hW4⟩ : ∃ W4', w3.setCell ⟨w.heap.size + 1, 528, none⟩ (.slice (some ⟨gi, 0, none⟩) m2 ci) = W4' := ⟨_, rfl⟩
      rw [hW4] at HC4 HR4 HF4
      rw [hW4]
      obtain ⟨v4, hv4⟩ : ∃ v4, Value.slice (some ⟨gi, 0, none⟩) m2 ci = v4 := ⟨_, rfl⟩
      rw [hv4] at HC4 HF4
      have hone : ∀ u ∈ chL (P.cut (keysOf ch)) vp v4, u.oneCell' = true := chL_one _ (by obtain ⟨A, c, e, _⟩ := HR.out.op.form; rw [e]; rfl) (by rw [← hv4]; rfl)
      obtain ⟨W5, hW5⟩ : ∃ W5, W4'.setRow w.heap.size (chL (P.cut (keysOf ch)) vp v4).toArray = W5 := ⟨_, rfl⟩
      obtain ⟨HB5, HP5, HI5, HBe⟩ := HF4.out W5 hW5
      have H5 := hid HB5
      have HFin := hid (show ChgR (P := P) (ch := ch) w (.returned (.agg (chL (P.cut (keysOf ch)) vp v4).toArray)) W5 from ⟨vp, v4, rfl, by rw [HLp.out]; exact HP5, HI5, HBe⟩)
      have HW5 := hid hW5
      have hsz : (Tryz.prog.info? 110).map (·.size) = some (chL (P.cut (keysOf ch)) vp v4).toArray.size := by rw [List.size_toArray]; exact size_of_change HQ.out _ _
      have HSz := hid hsz
      clear hW4 hv4 HB5 HP5 HI5 HBe hW5 s0 s1 hsz
      go_wp2_with (first | (refine wpList_load_row rfl 110 (.tmp 3) rfl (w.heap.size + 1) rfl 110 (chL (P.cut (keysOf ch)) vp v4).toArray (0, 0) _ HC4.out Tryz.underlying110 rfl HSz.out ?_) | (refine wpList_store_row rfl 110 (.tmp 2) (.tmp 63) rfl w.heap.size (chL (P.cut (keysOf ch)) vp v4).toArray rfl rfl 110 (chL (noPS 0) nilS nilS).toArray HR4.out HSz.out ?b2 ?b3 ?_))
      case b2 => rw [List.size_toArray, List.size_toArray, chL_len HQ.out, chL_len (noPS_len 0)]
      case b3 => exact Array.all_eq_true_iff_forall_mem.2 (fun v hv => hone v (by simpa using hv))
      rw [HW5.out]
      exact bodyPost_ret_by (results_cell_row (p := 2) rfl _ _ w.heap.size 110 _ (0, 0) _ rfl H5.out Tryz.underlying110 rfl HSz.out) rfl HFin.out
end Go.Proofs.YtkhdgacjgccnnaaGreatDoor
