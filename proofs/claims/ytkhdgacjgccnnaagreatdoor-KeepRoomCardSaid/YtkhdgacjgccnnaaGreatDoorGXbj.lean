/- Put together out of 4 texts. One leaf's number. -/
import Derived.Test.YtkhdgacjgccnnaaGreatDoorGXbi
import Derived.Test.YtkhdgacjgccnnaaGreatDoorGXbe
import Derived.Deep.QuietTactic
import Derived.Deep.RegionHeld3
import Derived.BigQuiet
import Derived.RegionTactic
namespace Go.Proofs.YtkhdgacjgccnnaaGreatDoor
open Go.RowKit

/-- one leaf, as it lies -/
structure Lf1 (w : World) (B g cap : Nat) (r : Addr) (n c : Nat) (p : Int) (l : List Rec) : Prop where
  lo : B ≤ g
  lt : g < w.heap.size
  c0 : w.cell? ⟨g, 0, none⟩ = some (.int .i64 p)
  c1 : w.cell? ⟨g, 1, none⟩ = some (.slice (some r) n c)
  f0 : w.frozen? ⟨g, 0, none⟩ = false
  rs : RSl w w.heap.size (some r) n c l
  ap : r.block ≠ g
  cap1 : 1 ≤ cap
  capm : cap ≤ maxLen
theorem LOwn.one {w : World} {B : Nat} {Q : Nat → Prop} {v : Value} {p : Int} {l : List Rec} (h : LOwn w B Q v [(p, l)]) : ∃ g cap r n c, v = .slice (some ⟨g, 0, none⟩) 1 cap ∧ Lf1 w B g cap r n c p l ∧ Q r.block := by
  obtain ⟨xs, h1, h2, h3⟩ := h
  rcases h2.2 with ⟨rfl, h0⟩ | ⟨g, cap, cur, rfl, hb, hg, hn, hm, hs, ht⟩
  · simp at h0
  · obtain ⟨r, n, c, e1, e2, e4, e3⟩ := h3 0 (p, l) rfl
    obtain ⟨g1, g2⟩ := lfC_get e1
    refine ⟨g, cap, r, n, c, rfl, ⟨hb, (World.ownsRow.lt h2 g rfl).2, ?_, ?_, h2.frozenAt 0, e2, e3 g rfl, hn, hm⟩, e4⟩
    · rw [h2.cellAt 0 (by simp)]; exact g1
    · rw [h2.cellAt 1 (by simp)]; exact g2
theorem LOwn.num {w : World} {B g cap : Nat} {Q : Nat → Prop} {p : Int} {l : List Rec} (h : LOwn w B Q (.slice (some ⟨g, 0, none⟩) 1 cap) [(p, l)]) (q : Int) : LOwn (w.setCell ⟨g, 0, none⟩ (.int .i64 q)) B Q (.slice (some ⟨g, 0, none⟩) 1 cap) [(q, l)] := by
  obtain ⟨xs, h1, h2, h3⟩ := h
  obtain ⟨r, n, c, e1, e2, e4, e3⟩ := h3 0 (p, l) rfl
  obtain ⟨x0, rfl⟩ : ∃ x0, xs = [x0] := by
    match xs, h1 with
    | [x0], _ => exact ⟨x0, rfl⟩
  obtain rfl : x0 = (p, .slice (some r) n c) := by simpa using e1
  obtain ⟨k1, k2⟩ := h2.stored 0 (.int .i64 q)
  refine ⟨[(q, .slice (some r) n c)], rfl, k1, fun j x hx => ?_⟩
  rcases j with _ | j
  · simp at hx
    subst hx
    refine ⟨r, n, c, rfl, ?_, e4, e3⟩
    refine e2.same (by simp) (fun ad ha h0 => ?_)
    cases ha
    exact k2.block _ (e2.at_ r rfl h0).1 (by simpa using e3 g rfl)
  · simp at hx
end Go.Proofs.YtkhdgacjgccnnaaGreatDoor
namespace Go.Proofs.YtkhdgacjgccnnaaGreatDoor
open Go.RowKit

theorem Lf1.kept {w w' : World} {B g cap n c : Nat} {r : Addr} {p : Int} {l : List Rec} (h : Lf1 w B g cap r n c p l) (hs : w.heap.size ≤ w'.heap.size) (h1 : w'.heap[g]? = w.heap[g]?) (h2 : w'.heap[r.block]? = w.heap[r.block]?) : Lf1 w' B g cap r n c p l where
  lo := h.lo
  lt := Nat.lt_of_lt_of_le h.lt hs
  c0 := (World.cell?_of_block (a := ⟨g, 0, none⟩) h1).trans h.c0
  c1 := (World.cell?_of_block (a := ⟨g, 1, none⟩) h1).trans h.c1
  f0 := (World.frozen?_of_block (a := ⟨g, 0, none⟩) h1).trans h.f0
  rs := h.rs.same hs (fun ad ha _ => by cases ha; exact h2)
  ap := h.ap
  cap1 := h.cap1
  capm := h.capm
section
variable {Real : World → Nat → DSt → (Nat → Prop) → Prop} {PR : World → Nat → Nat → Nat → Nat → (Nat → Prop) → Prop} {S : Nat → Addr} {w0 w w' : World} {d g n q mk : Nat} {T : Nat → Prop} {s : DSt} {P : PS} {ch : Chg}
theorem updSeq {w1 w2 : World} {T1 : Nat → Prop} {q' mk' : Nat} {s2 : DSt} {P2 : PS} {c2 : Chg} (h2 : Only T w w1) (h3 : ∀ k, T1 k → T k ∨ w.heap.size ≤ k) (k : ShopUpd Real PR S w0 w1 d g n q' mk' T1 s2 P2 c2 w2) : ShopUpd Real PR S w0 w d g n q' mk' T s2 P2 c2 w2 := by
  obtain ⟨T2, k1, k2, k3⟩ := k
  refine ⟨T2, k1, h2.trans k2 (fun i hi => h3 i hi), fun k hk => ?_⟩
  rcases k3 k hk with hk | hk
  · exact h3 k hk
  · exact .inr (Nat.le_trans h2.size hk)
end
theorem laidR_byt {l : List Rec} (hs : RszS l) : Byt (laidR l) := by
  unfold laidR
  intro x hx
  obtain ⟨r, hr, hx⟩ := List.mem_flatMap.1 hx
  obtain ⟨h1, h2⟩ := hs r hr
  unfold recB textB at hx
  have b1 : Byt (enc (r.1.size : Int)) := enc_byt (by omega) (by omega)
  have b2 : Byt (enc (r.2.size : Int)) := enc_byt (by omega) (by omega)
  exact ((b1.append (str_byt _)).append (b2.append (str_byt _))) x hx
theorem enc_pos (n : Int) : 0 < (enc n).length := (enc_len n).1
theorem laidR_pos {l : List Rec} (hl : l ≠ []) : 1 ≤ (laidR l).length := by
  rcases l with _ | ⟨x, l⟩
  · exact absurd rfl hl
  · have e : laidR (x :: l) = recB x ++ laidR l := by simp [laidR]
    rw [e, List.length_append]
    unfold recB textB
    have := enc_pos (x.1.size : Int)
    simp only [List.length_append]
    omega
theorem Blk.setRow {w : World} {g k : Nat} {t : TypeId} {cs : Array Value} (h : Blk w g t cs) (hne : g ≠ k) (c : Array Value) : Blk (w.setRow k c) g t cs := (setRow_other w k g c hne).trans h
section
variable {Real : World → Nat → DSt → (Nat → Prop) → Prop} {PR : World → Nat → Nat → Nat → Nat → (Nat → Prop) → Prop} {S : Nat → Addr} {w0 w : World} {d g n q mk : Nat} {T : Nat → Prop} {s : DSt} {P : PS}
theorem eqRec_no (A A' : Option Addr) (n c n' c' : Nat) (l m : List Rec) (B B' : Nat) (w : World) (h : RSl w B A n c l) (h' : RSl w B' A' n' c' m) (hne : l ≠ m) :
    Calls Tryz.prog 15 #[.slice A n c, .slice A' n' c'] w (Quiet w (.bool false)) := by
  refine (eqRec_any A A' n c n' c' l m B B' w h h').mono ?_
  rintro e w' ⟨b, q, rfl, hb, rfl⟩
  refine ⟨?_, q, rfl⟩
  rcases b with _ | _
  · rfl
  · exact absurd (hb.1 rfl) hne
theorem shopUpd_cell {w1 wr : World} {ch : Chg} (h : ShopUpd Real PR S w0 w1 d g n q mk T s P ch wr) {k : Nat} (hk : k < w1.heap.size) (hT : ¬ T k) : wr.heap[k]? = w1.heap[k]? := by
  obtain ⟨T1, _, h2, _⟩ := h
  exact h2.block k hk hT
end
end Go.Proofs.YtkhdgacjgccnnaaGreatDoor
namespace Go.Proofs.YtkhdgacjgccnnaaGreatDoor
open Go.RowKit

theorem Only.at {F : Nat → Prop} {w w' : World} (h : Only F w w') {k : Nat} (hk : k < w.heap.size) (hF : ¬ F k) : w'.heap[k]? = w.heap[k]? := h.block k hk hF
/-- the keep's leaves as they were committed last: none, or one on the page 0; F: the blocks of them -/
def LvO (w : World) (F : Nat → Prop) (lv : Value) (Ao : Option Addr) (no co : Nat) (l0 : List Rec) : Prop :=
  (lv = .slice none 0 0 ∧ Ao = none ∧ no = 0 ∧ co = 0 ∧ l0 = []) ∨
  ∃ Bo go capo ro, lv = .slice (some ⟨go, 0, none⟩) 1 capo ∧ Lf1 w Bo go capo ro no co 0 l0 ∧ Ao = some ro ∧ F go ∧ F ro.block ∧ l0 ≠ []
theorem Lf1.pos {w : World} {B g cap n c : Nat} {r : Addr} {p : Int} {l : List Rec} (h : Lf1 w B g cap r n c p l) (hl : l ≠ []) : 0 < n := by
  have h1 := h.rs.len
  have h2 : l.length ≠ 0 := fun e => hl (List.eq_nil_of_length_eq_zero e)
  omega
theorem Lf1.only {w w' : World} {B g cap n c : Nat} {r : Addr} {p : Int} {l : List Rec} {G : Nat → Prop} (h : Lf1 w B g cap r n c p l) (hl : l ≠ []) (ho : Only G w w') (h1 : ¬ G g) (h2 : ¬ G r.block) : Lf1 w' B g cap r n c p l :=
  h.kept ho.size (ho.block _ h.lt h1) (ho.block _ (h.rs.at_ r rfl (h.pos hl)).1 h2)
theorem LvO.only {w w' : World} {F G : Nat → Prop} {lv : Value} {Ao : Option Addr} {no co : Nat} {l0 : List Rec} (h : LvO w F lv Ao no co l0) (ho : Only G w w') (hG : ∀ k, F k → ¬ G k) : LvO w' F lv Ao no co l0 := by
  rcases h with h | ⟨Bo, go, capo, ro, h1, h2, h3, h4, h5, h6⟩
  · exact .inl h
  · exact .inr ⟨Bo, go, capo, ro, h1, h2.only h6 ho (hG _ h4) (hG _ h5), h3, h4, h5, h6⟩
theorem LvO.rsl {w : World} {F : Nat → Prop} {lv : Value} {Ao : Option Addr} {no co : Nat} {l0 : List Rec} (h : LvO w F lv Ao no co l0) : RSl w w.heap.size Ao no co l0 := by
  rcases h with ⟨_, rfl, rfl, rfl, rfl⟩ | ⟨Bo, go, capo, ro, h1, h2, rfl, _⟩
  · exact rsl_none _ _ _ _ (by unfold maxLen; omega) (fun _ => rfl)
  · exact h2.rs
theorem tb_nil (p : Int) : tb p (.slice none 0 0) = fun _ => nilV := by
  funext i
  unfold tb nilV
  split <;> rfl
theorem LvO.byPage {w : World} {F : Nat → Prop} {lv : Value} {Ao : Option Addr} {no co : Nat} {l0 : List Rec} (h : LvO w F lv Ao no co l0) (W : World) (hb : Below w.heap.size w W) :
    Calls Tryz.prog 42 #[lv] W fun e w' => e = .returned (.agg (arS (tb 0 (.slice Ao no co)))) ∧ Below W.heap.size W w' := by
  rcases h with ⟨rfl, rfl, rfl, rfl, rfl⟩ | ⟨Bo, go, capo, ro, rfl, h2, rfl, _, _, h6⟩
  · rw [tb_nil]
    exact byPageNone_any W
  · have h3 := h2.only h6 (Only.of_below (F := fun _ => False) hb) (fun h => h) (fun h => h)
    exact byPageOne_any ⟨go, 0, none⟩ ro capo no co 0 W h3.c0 h3.c1 h3.lt (by omega) (by omega)
theorem LvO.lt {w : World} {F : Nat → Prop} {lv : Value} {Ao : Option Addr} {no co : Nat} {l0 : List Rec} (h : LvO w F lv Ao no co l0) : lv = .slice none 0 0 ∨ ∃ A c, lv = .slice (some A) 1 c ∧ F A.block ∧ A.block < w.heap.size := by
  rcases h with ⟨rfl, _⟩ | ⟨Bo, go, capo, ro, rfl, h2, _, h4, _⟩
  · exact .inl rfl
  · exact .inr ⟨⟨go, 0, none⟩, capo, rfl, h4, h2.lt⟩
section
variable {Real : World → Nat → DSt → (Nat → Prop) → Prop} {PR : World → Nat → Nat → Nat → Nat → (Nat → Prop) → Prop} {S : Nat → Addr} {w0 w : World} {d g n q mk : Nat} {T : Nat → Prop} {s : DSt} {P : PS} {ch : Chg} {cont : Cont}
end
end Go.Proofs.YtkhdgacjgccnnaaGreatDoor
namespace Go.Proofs.YtkhdgacjgccnnaaGreatDoor
open Go.RowKit

theorem kpX_new {w : World} {B kb : Nat} {s lv : Value} (h : Blk w kb 51 #[s, .slice none 0 0, lv]) (hB : B ≤ kb) : KpX w B kb s lv (fun k => k = kb) [] where
  box := ⟨.slice none 0 0, h, krow_nil w B, fun k hk => by cases hk⟩
  own := rfl
  lt := fun k hk => by subst hk; exact h.lt
  lo := fun k hk => by subst hk; exact hB
  ris := List.Pairwise.nil
  siz := fun r h => by cases h
  len := Nat.zero_le _
section
variable {Real : World → Nat → DSt → (Nat → Prop) → Prop} {PR : World → Nat → Nat → Nat → Nat → (Nat → Prop) → Prop} {S : Nat → Addr} {w0 : World} {d g n q mk : Nat} {T : Nat → Prop} {s : DSt}
set_option maxRecDepth 100000 in
set_option maxHeartbeats 4000000 in
theorem kpXOpen_new (D : DevOk Real) (O : PairOk Real PR) (w : World) (h : Shop Real PR S w0 w d g n q mk T s (noPS 0) noChg) (hk : Keeps s n q (noPS 0) (fun _ => none)) :
    Calls Tryz.prog 22 #[.pointer (some ⟨g, 0, none⟩)] w fun e w' => ∃ kb T', e = .returned (.tuple #[.pointer (some ⟨kb, 0, none⟩), .nilIface]) ∧ KpX w' w.heap.size kb (.pointer (some ⟨g, 0, none⟩)) (.slice none 0 0) (fun k => k = kb) [] ∧ Shop Real PR S w0 w' d g n q mk T' s (noPS 0) noChg ∧ ¬ T' kb ∧ Only T w w' := by
  have HAb := hid (sh_abort D O h)
  have HD := hid D
  have HO := hid O
  have HK := hid hk
  clear D O h hk
  go_enter Tryz.func22, Tryz.ntmps22
  go_wp2_with fail
  refine HAb.out.mono ?_
  rintro e w1 ⟨rfl, T1, hsh, ho, ht⟩
  have HSh1 := hid hsh
  have HOn1 := hid ho
  clear hsh ho ht
  go_wp2_with fail
  refine (leavesOf_new w1 HSh1.out HK.out).mono ?_
  rintro e w2 ⟨rfl, hb⟩
  have HSh2 := hid (HSh1.out.on HD.out HO.out hb)
  have HOn2 := hid (HOn1.out.then_below hb)
  clear hb
  go_wp2_with fail
  refine (recordsOf_0 _).mono ?_
  rintro e w3 ⟨rfl, rfl⟩
  obtain ⟨W, hW⟩ : ∃ W, w3.alloc (.cells #[.pointer (some ⟨g, 0, none⟩), .slice none 0 0, .slice none 0 0] 51) = W := ⟨_, rfl⟩
  have z1 : Below w3.heap.size w3 W := by rw [← hW]; exact (Below.refl _ _).alloc (Nat.le_refl _) _
  have z2 : Blk W w3.heap.size 51 #[.pointer (some ⟨g, 0, none⟩), .slice none 0 0, .slice none 0 0] := by rw [← hW]; exact Blk.new w3 _ _
  have HF := hid (show KpX W w.heap.size w3.heap.size (.pointer (some ⟨g, 0, none⟩)) (.slice none 0 0) (fun k => k = w3.heap.size) [] ∧ Shop Real PR S w0 W d g n q mk T1 s (noPS 0) noChg ∧ ¬ T1 w3.heap.size ∧ Only T w W from ⟨kpX_new z2 HOn2.out.size, HSh2.out.on HD.out HO.out z1, fun hk => Nat.lt_irrefl _ (HSh2.out.lt HD.out HO.out _ hk), HOn2.out.then_below z1⟩)
  clear z1 z2
  go_wp2
  go_ret2
  first
    | exact ⟨_, _, rfl, HF.out⟩
    | (rw [hW]; exact ⟨_, _, rfl, HF.out⟩)
set_option maxRecDepth 100000 in
set_option maxHeartbeats 4000000 in
theorem reopenedX_new (D : DevOk Real) (O : PairOk Real PR) (hS : Sent7 w0 S) {F : Nat → Prop} (w : World) (hb0 : Below w0.heap.size w0 w) (hr : Real w d s F) (hF : ∀ k, F k → w0.heap.size ≤ k) (u : Up s n q) (hq : q ≤ 690000) (n0 : 300 ≤ n) (n1 : n ≤ 6000) (hk : Keeps s n q (noPS 0) (fun _ => none)) :
    Calls Tryz.prog 9 #[.pointer (some ⟨d, 0, none⟩)] w fun e w' => ∃ kb g T, e = .returned (.pointer (some ⟨kb, 0, none⟩)) ∧ KpX w' w0.heap.size kb (.pointer (some ⟨g, 0, none⟩)) (.slice none 0 0) (fun k => k = kb) [] ∧ Shop Real PR S w0 w' d g n q 7 T s (noPS 0) noChg ∧ ¬ T kb := by
  have HOp := hid (sh_opened (w0 := w0) D O hS hb0 hr hF u hq n0 n1 hk)
  have HD := hid D
  have HO := hid O
  have HK := hid hk
  have HB0 := hid hb0
  clear D O hS hb0 hr hF u hk
  go_enter Tryz.func9, Tryz.ntmps9
  go_wp2_with fail
  refine HOp.out.mono ?_
  rintro e w1 ⟨g, T, rfl, hsh, ho, _⟩
  have HSh1 := hid hsh
  have HOn := hid ho
  clear hsh ho
  go_wp2_with fail
  refine (kpXOpen_new HD.out HO.out w1 HSh1.out HK.out).mono ?_
  rintro e w2 ⟨kb, T2, rfl, hkp, hsh, hn, _⟩
  have HF := hid (show KpX w2 w0.heap.size kb (.pointer (some ⟨g, 0, none⟩)) (.slice none 0 0) (fun k => k = kb) [] ∧ Shop Real PR S w0 w2 d g n q 7 T2 s (noPS 0) noChg ∧ ¬ T2 kb from ⟨{ hkp with
    box := by
      obtain ⟨v, h1, h2, h3⟩ := hkp.box
      refine ⟨v, h1, ?_, h3⟩
      rcases h2.2 with ⟨rfl, _⟩ | ⟨g', cap, cu, rfl, hg, rest⟩
      · exact krow_nil _ _
      · exact ⟨h2.1, .inr ⟨g', cap, cu, rfl, by have := HB0.out.size; have := HOn.out.size; omega, rest⟩⟩
    lo := fun k hk => by have h1 := hkp.lo k hk; have := HB0.out.size; have := HOn.out.size; omega }, hsh, hn⟩)
  clear hkp hsh hn
  go_wp2
  go_ret
  exact ⟨kb, g, T2, rfl, HF.out⟩
end
section
variable {Real : World → Nat → DSt → (Nat → Prop) → Prop} {PR : World → Nat → Nat → Nat → Nat → (Nat → Prop) → Prop} {S : Nat → Addr}
set_option maxRecDepth 100000 in
set_option maxHeartbeats 4000000 in
theorem opened8X_any (D : DevOk Real) (O : PairOk Real PR) (n : Nat) (w : World) (hS : Sent7 w S) (h0 : 300 ≤ n) (h1 : n ≤ 6000) :
    Calls Tryz.prog 6 #[.int .i64 (n : Int)] w fun e w' => ∃ kb g d T, e = .returned (.tuple #[.pointer (some ⟨kb, 0, none⟩), .pointer (some ⟨d, 0, none⟩)]) ∧ KpX w' w.heap.size kb (.pointer (some ⟨g, 0, none⟩)) (.slice none 0 0) (fun k => k = kb) [] ∧ Shop Real PR S w w' d g n 0 7 T (DSt.new n) (noPS 0) noChg ∧ ¬ T kb := by
  have HN := hid (D.new n w (by omega) h1)
  have HOp := hid (fun (w1 : World) (d : Nat) (F : Nat → Prop) (hr : Real w1 d (DSt.new n) F) (hb : Below w.heap.size w w1) (hF : ∀ k, F k → w.heap.size ≤ k) => reopenedX_new (w0 := w) D O hS w1 hb hr hF (up_new h1) (by omega) h0 h1 (keeps_new h0 h1))
  clear D O hS
  go_enter Tryz.func6, Tryz.ntmps6
  go_wp2_with fail
  refine HN.out.mono ?_
  rintro e w1 ⟨d, F, rfl, hr, hb, hF⟩
  have HO1 := hid (HOp.out w1 d F hr hb hF)
  clear hr hb hF
  go_wp2_with fail
  refine HO1.out.mono ?_
  rintro e w2 ⟨kb, g, T, rfl, hkp, hsh, hn⟩
  have HF := hid (And.intro hkp (And.intro hsh hn))
  clear hkp hsh hn
  go_wp2
  go_ret2
  exact ⟨kb, g, d, T, rfl, HF.out⟩
end
end Go.Proofs.YtkhdgacjgccnnaaGreatDoor
