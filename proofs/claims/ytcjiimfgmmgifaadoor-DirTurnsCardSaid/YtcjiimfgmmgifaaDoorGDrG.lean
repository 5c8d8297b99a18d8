/- Package dir: Del. -/
import Derived.Test.YtcjiimfgmmgifaaDoorGDrF
namespace Go.Proofs.YtcjiimfgmmgifaaDoor
open Go.RowKit Go.Shelf Go.Sort

theorem Only.putNew {F : Nat → Prop} {a b : World} {p : Addr} (h : Only F a b) (hp : a.heap.size ≤ p.block) (u : Value) : Only F a (b.setCell p u) :=
  ⟨h.os, h.tape, h.output, Nat.le_trans h.size (by simp [World.setCell]), fun k hk hF => (Below.heap_setCell b p u k (by omega)).trans (h.block k hk hF)⟩
theorem Kept.put {F : Nat → Prop} {a b : World} {p : Addr} (h : Kept F a b) (hp : ¬ F p.block) (u : Value) : Kept F a (b.setCell p u) :=
  ⟨fun k hk => (Below.heap_setCell b p u k (fun e => hp (e ▸ hk))).trans (h.1 k hk), Nat.le_trans h.2 (by simp [World.setCell])⟩
theorem ris_del {D : List En} (h : RisE D) (i : Nat) : RisE (D.take i ++ D.drop (i + 1)) := by
  have e : D = D.take i ++ D.drop i := (List.take_append_drop _ _).symm
  unfold RisE at h ⊢
  refine List.Pairwise.sublist ?_ h
  conv => rhs; rw [e]
  exact List.Sublist.append (List.Sublist.refl _) (by rw [← List.drop_drop (i := 1)]; exact List.drop_sublist _ _)
theorem ris_ins {D : List En} {s : Nam} {i : Nat} (h : RisE D) (hl : LowAt D s i) (e : En) (he : e.s = s) (hn : ∀ x, D[i]? = some x → x.s ≠ s) : RisE (D.take i ++ e :: D.drop i) := by
  unfold RisE at h ⊢
  rw [List.pairwise_append]
  refine ⟨List.Pairwise.sublist (List.take_sublist _ _) h, List.pairwise_cons.2 ⟨fun x hx => ?_, List.Pairwise.sublist (List.drop_sublist _ _) h⟩, fun x hx y hy => ?_⟩
  · obtain ⟨q, hq⟩ := List.getElem?_of_mem hx
    rw [List.getElem?_drop] at hq
    rw [he]
    have h1 := hl.hi _ x (by omega) hq
    rcases nam_tri s x.s with h2 | h2 | h2
    · exact h2
    · exfalso
      rcases Nat.eq_zero_or_pos q with h3 | h3
      · subst h3
        exact hn x hq h2.symm
      · have hin : i < D.length := by have := (List.getElem?_eq_some_iff.1 hq).1; omega
        have h4 := RisE.lt h (show i < i + q by omega) (List.getElem?_eq_getElem hin) hq
        rw [← h2] at h4
        exact hl.hi i _ (Nat.le_refl _) (List.getElem?_eq_getElem hin) h4
    · exact absurd h2 h1
  · obtain ⟨q, hq⟩ := List.getElem?_of_mem hx
    rw [List.getElem?_take] at hq
    split at hq
    · have h1 := hl.lo q x (by omega) hq
      rcases List.mem_cons.1 hy with rfl | hy
      · rw [he]; exact h1
      · obtain ⟨p, hp⟩ := List.getElem?_of_mem hy
        rw [List.getElem?_drop] at hp
        exact RisE.lt h (by omega) hq hp
    · cases hq
section
variable {w : World} {g : Nat} {D : List En} {F : Nat → Prop}
set_option maxRecDepth 100000 in
set_option maxHeartbeats 4000000 in
theorem dirDel_any (s : Nam) (h : DirR w g D F) (hD : D.length ≤ 100000) :
    Calls Tryd.prog 16 #[.pointer (some ⟨g, 0, none⟩), encStr s] w fun r w' => (∃ x, r = .returned (.tuple #[enV x, .bool (isIn D s)]) ∧ ∀ e, D[fnd D s]? = some e → x = e) ∧ Turned (fun w F => DirR w g (delE D s) F) w F w' := by
  have hb0 : Below w.heap.size w (w.alloc (Obj.cells #[.string ⟨#[]⟩, .int .i64 0, .int .i64 0] 29)) := (Below.refl _ _).alloc (Nat.le_refl _) _
  have HH := hid (h.on hb0)
  have HP := hid (place_any s HH.out hD)
  have HB := hid hb0
  have HBk := hid (Blk.new w 29 #[.string ⟨#[]⟩, .int .i64 0, .int .i64 0])
  have HR := hid h.ris
  have HD := hid hD
  have HG := hid (h.lt)
  have HHw := hid h
  clear h hD hb0
  go_enter Tryd.func16, Tryd.ntmps16
  go_wp2_with fail
  refine HP.out.mono ?_
  rintro e w1 ⟨i, rfl, hl, hb⟩
  have HB1 := hid (HB.out.trans (hb.mono HB.out.size))
  have HL := hid hl
  have HBk1 := hid (HBk.out.below hb (by simp))
  have HH1 := hid (HH.out.on hb)
  have HSz := hid (show w.heap.size < w1.heap.size from by have := hb.size; simp at this; omega)
  clear hl hb
  rcases HL.out.ways HR.out with ⟨hi, hlt, hf, x, hx, hxs⟩ | ⟨hi, hf, hn⟩
  · have HI := hid hi
    rw [hi]
    obtain ⟨v, hbx, ho, hap⟩ := HH1.out.box
    obtain ⟨A, n, c, rfl, hln, hnc, hcm, hnil, hat⟩ := ho.formK
    cases A with
    | none => have := (hnil rfl).1; omega
    | some ad =>
    obtain ⟨r, rfl, _, hrl⟩ := hat ad rfl
    have hrg := hap r rfl
    have d0 := hbx.cell 0
    simp at d0
    obtain ⟨A0, c9, hA0, hsl, h9⟩ := ho.form
    clear h9
    simp only [Value.slice.injEq] at hA0
    obtain ⟨rfl, hq9, rfl⟩ := hA0
    clear hq9
    obtain ⟨b, o, x2, hbo, hbl, hx2, c0, c1, c2⟩ := hsl.get (k := i) (by omega)
    obtain rfl : x2 = x := Option.some.inj (hx2.symm.trans hx)
    simp only [Option.some.injEq, Addr.mk.injEq, and_true] at hbo
    obtain ⟨rfl, rfl⟩ := hbo
    rw [Nat.zero_add] at c0 c1 c2
    have HBx := hid hbx
    have HO := hid ho
    have HAp := hid hap
    have HX := hid hx
    have HLn := hid hln
    have hlt2 : (i : Int) < (n : Int) := by omega
    have hnb : (n : Int) ≤ 100000 := by have := HD.out; omega
    have hw : IntKind.i64.wrap ((i : Int) + 1) = (i : Int) + 1 := by rw [IntKind.wrap_i64]; omega
    clear hbx hsl hx hx2 hxs hbl hi hat hnil ho hap hln
    obtain ⟨xs, xn, xk⟩ := x2
    have hb2 : Below w1.heap.size w1 (w1.alloc (Obj.cells #[encStr xs, .int .i64 xn, .int .i64 xk] 29)) := (Below.refl _ _).alloc (Nat.le_refl _) _
    have e0 : (w1.alloc (Obj.cells #[encStr xs, .int .i64 xn, .int .i64 xk] 29)).cell? ⟨g, 0, none⟩ = some (.slice (some ⟨r, 0, none⟩) n c) := (hb2.cell (show (⟨g, 0, none⟩ : Addr).block < w1.heap.size from HBx.out.lt)).trans d0
    have HB2 := hid hb2
    have HDl := hid (deleteE_any 0 r n c i D (w1.alloc (Obj.cells #[encStr xs, .int .i64 xn, .int .i64 xk] 29)) (HO.out.on hb2) HLn.out (by omega) (by omega))
    have HLo := hid (Blk.new w1 29 #[encStr xs, .int .i64 xn, .int .i64 xk])
    have hgl : g < w.heap.size := HG.out g HHw.out.own
    have hrl2 : r < w.heap.size := HG.out r hrg.2
    clear hb2
    go_wp2_with fail
    refine HDl.out.mono ?_
    rintro e w3 ⟨rfl, ho3, hg3⟩
    have hbx3 : Blk w3 g 27 #[.slice (some ⟨r, 0, none⟩) n c] := (HBx.out.below HB2.out HBx.out.lt).grown hg3 (fun e => hrg.1 (Option.some.inj e).symm)
    have hbk3 : Blk w3 w.heap.size 29 #[.string ⟨#[]⟩, .int .i64 0, .int .i64 0] := (HBk1.out.below HB2.out HBk1.out.lt).grown hg3 (fun e => by have := Option.some.inj e; omega)
    have hlo3 : Blk w3 w1.heap.size 29 #[encStr xs, .int .i64 xn, .int .i64 xk] := HLo.out.grown hg3 (fun e => by have := Option.some.inj e; omega)
    have HFin := hid (show Turned (fun w F => DirR w g (delE D s) F) w F ((((w3.setCell ⟨g, 0, none⟩ (.slice (some ⟨r, 0, none⟩) (n - 1) c)).setCell ⟨w.heap.size, 0, none⟩ (encStr xs)).setCell ⟨w.heap.size, 1, none⟩ (.int .i64 xn)).setCell ⟨w.heap.size, 2, none⟩ (.int .i64 xk)) from by
      have e1 : delE D s = D.take i ++ D.drop (i + 1) := by unfold delE; rw [hf, if_pos hlt]
      rw [e1]
      have hsz : w.heap.size ≤ w3.heap.size := by have h1 := HB1.out.size; have h2 := HB2.out.size; have h3 := hg3.size; omega
      have hFw : ¬ F w.heap.size := fun hF => by have := HG.out _ hF; omega
      have hd : DirR (w3.setCell ⟨g, 0, none⟩ (.slice (some ⟨r, 0, none⟩) (n - 1) c)) g (D.take i ++ D.drop (i + 1)) F := by
        refine ⟨⟨_, hbx3.put 0 _, ?_, fun k hk => HAp.out k hk⟩, HHw.out.own, fun k hk => ?_, ris_del HR.out i⟩
        · exact World.ownsRow.kept ho3 (only_put (only_refl w3 (some g)) 0 _) (.inr fun e => hrg.1 (Option.some.inj e))
        · have := HG.out k hk
          simp
          omega
      have hk3 : Kept F (w3.setCell ⟨g, 0, none⟩ (.slice (some ⟨r, 0, none⟩) (n - 1) c)) ((((w3.setCell ⟨g, 0, none⟩ (.slice (some ⟨r, 0, none⟩) (n - 1) c)).setCell ⟨w.heap.size, 0, none⟩ (encStr xs)).setCell ⟨w.heap.size, 1, none⟩ (.int .i64 xn)).setCell ⟨w.heap.size, 2, none⟩ (.int .i64 xk)) :=
        Kept.put (Kept.put (Kept.put ⟨fun _ _ => rfl, Nat.le_refl _⟩ hFw _) hFw _) hFw _
      refine ⟨F, (DirR.stays g _).kept hd hk3, ?_, fun _ hk => .inl hk⟩
      refine Only.putNew (Only.putNew (Only.putNew (Only.put ?_ HHw.out.own _) (Nat.le_refl _) _) (Nat.le_refl _) _) (Nat.le_refl _) _
      refine (Only.of_below HB1.out).trans (G := fun k => k = r) ((Only.of_below HB2.out).trans (G := fun k => k = r) ⟨hg3.os, hg3.tape, hg3.output, hg3.size, fun k hk hn => hg3.block k hk (fun e => hn (Option.some.inj e))⟩ (fun k hk => ?_)) (fun k hk => ?_)
      · exact .inl hk
      · subst hk; exact .inl hrg.2)
    have hgc := hbx3.cell 0
    have hgf := hbx3.free 0
    have b0 := hbk3.cell 0
    have b1 := hbk3.cell 1
    have b2 := hbk3.cell 2
    have f0 := hbk3.free 0
    have f1 := hbk3.free 1
    have f2 := hbk3.free 2
    have l0 := hlo3.cell 0
    have l1 := hlo3.cell 1
    have l2 := hlo3.cell 2
    simp at hgc b0 b1 b2 l0 l1 l2
    have n1 : ¬ (g = w.heap.size) := by omega
    have n2 : ¬ (w.heap.size = g) := by omega
    have n3 : ¬ (w1.heap.size = g) := by have := HSz.out; omega
    have n4 : ¬ (w1.heap.size = w.heap.size) := by have := HSz.out; omega
    have HF0 := hid (show ∀ e, D[fnd D s]? = some e → (⟨xs, xn, xk⟩ : En) = e from fun e he => by rw [hf, HX.out] at he; exact Option.some.inj he)
    clear hbx3 hbk3 hlo3 ho3 hg3 hf e0 c0 c1 c2 d0
    go_wp2
    refine bodyPost_ret (v := .tuple #[enV ⟨xs, xn, xk⟩, .bool true]) (by simp [results, Tryd.results16, go_sem, *]) rfl ⟨⟨⟨xs, xn, xk⟩, by rw [HI.out], HF0.out⟩, HFin.out⟩
  · have HI := hid hi
    rw [hi]
    have HF0 := hid (show ∀ (x e : En), D[fnd D s]? = some e → x = e from fun x e he => by rw [hf] at he; simp at he)
    have HF := hid (show ∀ w2, Below w.heap.size w w2 → Turned (fun w F => DirR w g (delE D s) F) w F w2 from fun w2 hb2 => by
      have e1 : delE D s = D := by unfold delE; rw [if_neg (by rw [hf]; simp)]
      rw [e1]
      exact ⟨F, HHw.out.on hb2, Only.of_below hb2, fun _ hk => .inl hk⟩)
    have b0 := HBk1.out.cell 0
    have b1 := HBk1.out.cell 1
    have b2 := HBk1.out.cell 2
    have f0 := HBk1.out.free 0
    have f1 := HBk1.out.free 1
    have f2 := HBk1.out.free 2
    simp at b0 b1 b2
    clear hi hf hn
    go_wp2
    refine bodyPost_ret (v := .tuple #[enV ⟨[], 0, 0⟩, .bool false]) (by simp [results, Tryd.results16, go_sem, *]) rfl ⟨⟨⟨[], 0, 0⟩, by rw [HI.out], HF0.out _⟩, HF.out _ ?_⟩
    exact ((HB1.out.setCell (by simp) _).setCell (by simp) _).setCell (by simp) _
end
end Go.Proofs.YtcjiimfgmmgifaaDoor
