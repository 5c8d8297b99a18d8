/- Put together out of 4 texts. One leaf's number. -/
import Derived.Test.YtajcfhhnmjcmjaaGreatDoorGXbk
import Derived.Test.YtajcfhhnmjcmjaaGreatDoorGXbf
import Derived.Deep.QuietTactic
import Derived.Deep.RegionHeld3
import Derived.BigQuiet
import Derived.RegionTactic
namespace Go.Proofs.YtajcfhhnmjcmjaaGreatDoor
open Go.RowKit

/-- one leaf, as it lies -/
structure Lf1 (w : World) (B g cap : Nat) (r : Addr) (n c : Nat) (p : Int) (l : List Rec) : Prop where
  lo : B ≤ g
  lt : g < w.heap.size
  c0 : w.cell? ⟨g, 0, none⟩ = some (.int .i64 p)
  c1 : w.cell? ⟨g, 1, none⟩ = some (.slice (some r) n c)
  f0 : w.frozen? ⟨g, 0, none⟩ = false
  rs : RSl w w.heap.size (some r) n c l
  ap : r.block ≠ g
  cap1 : 1 ≤ cap
  capm : cap ≤ maxLen
theorem LOwn.one {w : World} {B : Nat} {Q : Nat → Prop} {v : Value} {p : Int} {l : List Rec} (h : LOwn w B Q v [(p, l)]) : ∃ g cap r n c, v = .slice (some ⟨g, 0, none⟩) 1 cap ∧ Lf1 w B g cap r n c p l ∧ Q r.block := by
  obtain ⟨xs, h1, h2, h3⟩ := h
  rcases h2.2 with ⟨rfl, h0⟩ | ⟨g, cap, cur, rfl, hb, hg, hn, hm, hs, ht⟩
  · simp at h0
  · obtain ⟨r, n, c, e1, e2, e4, e3⟩ := h3 0 (p, l) rfl
    obtain ⟨g1, g2⟩ := lfC_get e1
    refine ⟨g, cap, r, n, c, rfl, ⟨hb, (World.ownsRow.lt h2 g rfl).2, ?_, ?_, h2.frozenAt 0, e2, e3 g rfl, hn, hm⟩, e4⟩
    · rw [h2.cellAt 0 (by simp)]; exact g1
    · rw [h2.cellAt 1 (by simp)]; exact g2
theorem LOwn.num {w : World} {B g cap : Nat} {Q : Nat → Prop} {p : Int} {l : List Rec} (h : LOwn w B Q (.slice (some ⟨g, 0, none⟩) 1 cap) [(p, l)]) (q : Int) : LOwn (w.setCell ⟨g, 0, none⟩ (.int .i64 q)) B Q (.slice (some ⟨g, 0, none⟩) 1 cap) [(q, l)] := by
  obtain ⟨xs, h1, h2, h3⟩ := h
  obtain ⟨r, n, c, e1, e2, e4, e3⟩ := h3 0 (p, l) rfl
  obtain ⟨x0, rfl⟩ : ∃ x0, xs = [x0] := by
    match xs, h1 with
    | [x0], _ => exact ⟨x0, rfl⟩
  obtain rfl : x0 = (p, .slice (some r) n c) := by simpa using e1
  obtain ⟨k1, k2⟩ := h2.stored 0 (.int .i64 q)
  refine ⟨[(q, .slice (some r) n c)], rfl, k1, fun j x hx => ?_⟩
  rcases j with _ | j
  · simp at hx
    subst hx
    refine ⟨r, n, c, rfl, ?_, e4, e3⟩
    refine e2.same (by simp) (fun ad ha h0 => ?_)
    cases ha
    exact k2.block _ (e2.at_ r rfl h0).1 (by simpa using e3 g rfl)
  · simp at hx
set_option maxRecDepth 100000 in
set_option maxHeartbeats 4000000 in
theorem numOld_any (B : Nat) (Q : Nat → Prop) (v : Value) (k : Nat) (l : List Rec) (w : World) (h : LOwn w B Q v [((k : Int), l)]) (hk : k < 256) :
    Calls Tryz.prog 37 #[v] w fun e w' => e = .returned (.tuple #[]) ∧ Below w.heap.size w w' := by
  obtain ⟨g, cap, r, n', c', rfl, h1, _⟩ := h.one
  have HL := hid h
  have HBy := hid (byPageOne_any ⟨g, 0, none⟩ r cap n' c' ((k : Int)) w h1.c0 h1.c1 h1.lt (by omega) (by omega))
  have H1 := hid h1
  have c0 := h1.c0
  have c1 := h1.c1
  clear h h1
  go_enter Tryz.func37, Tryz.ntmps37
  go_upto_region 1 with (first
    | (go_at_call 50; refine HBy.out.mono ?_; rintro e w1 ⟨rfl, hb⟩; have HB := hid hb; clear hb)
    | (refine wpList_store_row rfl 111 (.tmp 2) (.tmp 7) rfl w1.heap.size (arS (tb ((k : Int)) (.slice (some r) n' c'))) rfl rfl 111 Tryz.zeroCells111 (Blk.new w1 _ _) (by rw [arS_size]; exact Tryz.size256) (by rw [Tryz.zero256]; simp only [arS_size]) (arS_one (tb_one _ _ rfl)) ?_))
  have hbt : Blk ((w1.alloc (.cells Tryz.zeroCells111 111)).setRow w1.heap.size (arS (tb ((k : Int)) (.slice (some r) n' c')))) w1.heap.size 111 (arS (tb ((k : Int)) (.slice (some r) n' c'))) := setRow_heap _ _ _ _ _ _ (Blk.new w1 _ _)
  have hbb : Below w1.heap.size w1 ((w1.alloc (.cells Tryz.zeroCells111 111)).setRow w1.heap.size (arS (tb ((k : Int)) (.slice (some r) n' c')))) := below_setRow ((Below.refl _ _).alloc (Nat.le_refl _) _) (Nat.le_refl _) _
  generalize ((w1.alloc (.cells Tryz.zeroCells111 111)).setRow w1.heap.size (arS (tb ((k : Int)) (.slice (some r) n' c')))) = w2 at hbt hbb ⊢
  have HBt := hid hbt
  have HB2 := hid (HB.out.trans (hbb.mono HB.out.size))
  clear hbt hbb c0 c1
  have d0 := (HB2.out.cell (p := ⟨g, 0, none⟩) H1.out.lt).trans H1.out.c0
  have d1 := (HB2.out.cell (p := ⟨g, 1, none⟩) H1.out.lt).trans H1.out.c1
  go_wp2
  go_loopw [3, 10] (fun pv iv wr => pv = .int .i64 0 ∧ ((iv = .int .i64 0 ∧ wr = w2) ∨ (iv = .int .i64 1 ∧ Below w2.heap.size w2 wr))) (fun _ iv _ => 1 - (intOf iv).toNat)
  case atStart => exact ⟨rfl, .inl ⟨rfl, rfl⟩⟩
  case round =>
    obtain ⟨rfl, (⟨rfl, rfl⟩ | ⟨rfl, hb⟩)⟩ := hrel
    · have g1 : ((k : Int) != -1) = true := by rw [bne_iff_ne]; omega
      go_wp2
      go_roundw
      case rel => exact ⟨rfl, .inr ⟨by go_num, (Below.refl _ _).alloc (Nat.le_refl _) _⟩⟩
      case measure => simp [intOf]
    · have HF := hid (HB2.out.trans (hb.mono HB2.out.size))
      clear hb
      go_wp2
      go_end0
      exact ⟨rfl, HF.out⟩
set_option maxRecDepth 100000 in
set_option maxHeartbeats 4000000 in
theorem numNew_any (B : Nat) (Q : Nat → Prop) (v : Value) (l : List Rec) (w : World) (h : LOwn w B Q v [(-1, l)]) :
    Calls Tryz.prog 37 #[v] w fun e w' => e = .returned (.tuple #[]) ∧ LOwn w' B Q v [(0, l)] ∧ Only (fun k => v.ownBlock = some k) w w' := by
  obtain ⟨g, cap, r, n', c', rfl, h1, _⟩ := h.one
  have HL := hid h
  have HBy := hid (byPageOne_any ⟨g, 0, none⟩ r cap n' c' (-1) w h1.c0 h1.c1 h1.lt (by omega) (by omega))
  have H1 := hid h1
  have c0 := h1.c0
  have c1 := h1.c1
  clear h h1
  go_enter Tryz.func37, Tryz.ntmps37
  go_upto_region 1 with (first
    | (go_at_call 50; refine HBy.out.mono ?_; rintro e w1 ⟨rfl, hb⟩; have HB := hid hb; clear hb)
    | (refine wpList_store_row rfl 111 (.tmp 2) (.tmp 7) rfl w1.heap.size (arS (tb (-1) (.slice (some r) n' c'))) rfl rfl 111 Tryz.zeroCells111 (Blk.new w1 _ _) (by rw [arS_size]; exact Tryz.size256) (by rw [Tryz.zero256]; simp only [arS_size]) (arS_one (tb_one _ _ rfl)) ?_))
  have hbt : Blk ((w1.alloc (.cells Tryz.zeroCells111 111)).setRow w1.heap.size (arS (tb (-1) (.slice (some r) n' c')))) w1.heap.size 111 (arS (tb (-1) (.slice (some r) n' c'))) := setRow_heap _ _ _ _ _ _ (Blk.new w1 _ _)
  have hbb : Below w1.heap.size w1 ((w1.alloc (.cells Tryz.zeroCells111 111)).setRow w1.heap.size (arS (tb (-1) (.slice (some r) n' c')))) := below_setRow ((Below.refl _ _).alloc (Nat.le_refl _) _) (Nat.le_refl _) _
  generalize ((w1.alloc (.cells Tryz.zeroCells111 111)).setRow w1.heap.size (arS (tb (-1) (.slice (some r) n' c')))) = w2 at hbt hbb ⊢
  have HBt := hid hbt
  have HB2 := hid (HB.out.trans (hbb.mono HB.out.size))
  clear hbt hbb c0 c1
  have d0 := (HB2.out.cell (p := ⟨g, 0, none⟩) H1.out.lt).trans H1.out.c0
  have d1 := (HB2.out.cell (p := ⟨g, 1, none⟩) H1.out.lt).trans H1.out.c1
  have z0 : w2.cell? ⟨w1.heap.size, 0, none⟩ = some (.slice none 0 0) := by
    have hz := HBt.out
    rw [tb_none] at hz
    exact arS_cell (f := fun _ => nilV) hz (by omega)
  have hz1 := HBt.out.lt
  have hg2 : g < w2.heap.size := Nat.lt_of_lt_of_le H1.out.lt HB2.out.size
  have fz : w2.frozen? ⟨g, 0, none⟩ = false := by
    rw [← H1.out.f0]
    exact World.frozen?_of_block (HB2.out.block g H1.out.lt)
  have hne : ¬ g = w2.heap.size := by omega
  have HL2 := hid (show LOwn ((w2.setCell ⟨g, 0, none⟩ (.int .i64 0)).alloc (.cells #[.int .i64 (-1), .slice (some r) n' c'] 85)) B Q (.slice (some ⟨g, 0, none⟩) 1 cap) [(0, l)] from ((HL.out.on HB2.out).num 0).on ((Below.refl _ _).alloc (Nat.le_refl _) _))
  have HO2 := hid (show Only (fun k => (Value.slice (some ⟨g, 0, none⟩) 1 cap).ownBlock = some k) w ((w2.setCell ⟨g, 0, none⟩ (.int .i64 0)).alloc (.cells #[.int .i64 (-1), .slice (some r) n' c'] 85)) from (Only.put (F := fun k => (Value.slice (some ⟨g, 0, none⟩) 1 cap).ownBlock = some k) (Only.of_below HB2.out) (p := ⟨g, 0, none⟩) rfl _).then_below ((Below.refl _ _).alloc (Nat.le_refl _) _))
  go_wp2
  go_loopw [3, 10] (fun pv iv wr => (pv = .int .i64 0 ∧ iv = .int .i64 0 ∧ wr = w2) ∨ (pv = .int .i64 1 ∧ iv = .int .i64 1 ∧ LOwn wr B Q (.slice (some ⟨g, 0, none⟩) 1 cap) [(0, l)] ∧ Only (fun k => (Value.slice (some ⟨g, 0, none⟩) 1 cap).ownBlock = some k) w wr)) (fun _ iv _ => 1 - (intOf iv).toNat)
  case atStart => exact .inl ⟨rfl, rfl, rfl⟩
  case round =>
    rcases hrel with ⟨rfl, rfl, rfl⟩ | ⟨rfl, rfl, hl, ho⟩
    · go_wp2
      go_loopw [3] (fun pv wx => pv = .int .i64 0 ∧ wx = wr.alloc (.cells #[.int .i64 (-1), .slice (some r) n' c'] 85)) (fun _ _ => 0)
      case atStart => exact ⟨rfl, rfl⟩
      case round =>
        obtain ⟨rfl, rfl⟩ := hrel
        go_wp2
        exact ⟨.inr ⟨rfl, rfl, HL2.out, HO2.out⟩, by simp [intOf]⟩
    · have HLo := hid hl
      have HOo := hid ho
      clear hl ho
      go_wp2
      go_end0
      exact ⟨rfl, HLo.out, HOo.out⟩
end Go.Proofs.YtajcfhhnmjcmjaaGreatDoor
namespace Go.Proofs.YtajcfhhnmjcmjaaGreatDoor
open Go.RowKit

theorem Lf1.kept {w w' : World} {B g cap n c : Nat} {r : Addr} {p : Int} {l : List Rec} (h : Lf1 w B g cap r n c p l) (hs : w.heap.size ≤ w'.heap.size) (h1 : w'.heap[g]? = w.heap[g]?) (h2 : w'.heap[r.block]? = w.heap[r.block]?) : Lf1 w' B g cap r n c p l where
  lo := h.lo
  lt := Nat.lt_of_lt_of_le h.lt hs
  c0 := (World.cell?_of_block (a := ⟨g, 0, none⟩) h1).trans h.c0
  c1 := (World.cell?_of_block (a := ⟨g, 1, none⟩) h1).trans h.c1
  f0 := (World.frozen?_of_block (a := ⟨g, 0, none⟩) h1).trans h.f0
  rs := h.rs.same hs (fun ad ha _ => by cases ha; exact h2)
  ap := h.ap
  cap1 := h.cap1
  capm := h.capm
section
variable {Real : World → Nat → DSt → (Nat → Prop) → Prop} {PR : World → Nat → Nat → Nat → Nat → (Nat → Prop) → Prop} {S : Nat → Addr} {w0 w w' : World} {d g n q mk : Nat} {T : Nat → Prop} {s : DSt} {P : PS} {ch : Chg}
theorem updSeq {w1 w2 : World} {T1 : Nat → Prop} {q' mk' : Nat} {s2 : DSt} {P2 : PS} {c2 : Chg} (h2 : Only T w w1) (h3 : ∀ k, T1 k → T k ∨ w.heap.size ≤ k) (k : ShopUpd Real PR S w0 w1 d g n q' mk' T1 s2 P2 c2 w2) : ShopUpd Real PR S w0 w d g n q' mk' T s2 P2 c2 w2 := by
  obtain ⟨T2, k1, k2, k3⟩ := k
  refine ⟨T2, k1, h2.trans k2 (fun i hi => h3 i hi), fun k hk => ?_⟩
  rcases k3 k hk with hk | hk
  · exact h3 k hk
  · exact .inr (Nat.le_trans h2.size hk)
end
theorem laidR_byt {l : List Rec} (hs : RszS l) : Byt (laidR l) := by
  unfold laidR
  intro x hx
  obtain ⟨r, hr, hx⟩ := List.mem_flatMap.1 hx
  obtain ⟨h1, h2⟩ := hs r hr
  unfold recB textB at hx
  have b1 : Byt (enc (r.1.size : Int)) := enc_byt (by omega) (by omega)
  have b2 : Byt (enc (r.2.size : Int)) := enc_byt (by omega) (by omega)
  exact ((b1.append (str_byt _)).append (b2.append (str_byt _))) x hx
theorem enc_pos (n : Int) : 0 < (enc n).length := (enc_len n).1
theorem laidR_pos {l : List Rec} (hl : l ≠ []) : 1 ≤ (laidR l).length := by
  rcases l with _ | ⟨x, l⟩
  · exact absurd rfl hl
  · have e : laidR (x :: l) = recB x ++ laidR l := by simp [laidR]
    rw [e, List.length_append]
    unfold recB textB
    have := enc_pos (x.1.size : Int)
    simp only [List.length_append]
    omega
/-- the changes while pages are written, of which p are done -/
def wrC (p : Nat) (b : List Int) : Chg := if p = 0 then noChg else putC noChg 0 b
theorem wrC_next {P : PS} {p : Nat} {b : List Int} (hp : 1 ≤ p) (hp2 : p < 256) (hth : ∀ i, 1 ≤ i → i < 256 → points (P.pgs.getD i (0, 0)) = false) : dropC P (wrC p b) p = wrC (p + 1) b := by
  have e : wrC p b = putC noChg 0 b := by unfold wrC; rw [if_neg (by omega)]
  have e2 : wrC (p + 1) b = putC noChg 0 b := by unfold wrC; rw [if_neg (by omega)]
  have ht : thereB P (putC noChg 0 b) p = false := by
    have h0 : putC noChg 0 b p = none := by unfold putC noChg; rw [if_neg (by omega)]
    unfold thereB
    rw [h0]
    exact hth p hp hp2
  unfold dropC
  rw [e, e2, ht, if_neg (by decide)]
theorem Blk.setRow {w : World} {g k : Nat} {t : TypeId} {cs : Array Value} (h : Blk w g t cs) (hne : g ≠ k) (c : Array Value) : Blk (w.setRow k c) g t cs := (setRow_other w k g c hne).trans h
section
variable {Real : World → Nat → DSt → (Nat → Prop) → Prop} {PR : World → Nat → Nat → Nat → Nat → (Nat → Prop) → Prop} {S : Nat → Addr} {w0 w : World} {d g n q mk : Nat} {T : Nat → Prop} {s : DSt} {P : PS}
theorem eqRec_no (A A' : Option Addr) (n c n' c' : Nat) (l m : List Rec) (B B' : Nat) (w : World) (h : RSl w B A n c l) (h' : RSl w B' A' n' c' m) (hne : l ≠ m) :
    Calls Tryz.prog 21 #[.slice A n c, .slice A' n' c'] w (Quiet w (.bool false)) := by
  refine (eqRec_any A A' n c n' c' l m B B' w h h').mono ?_
  rintro e w' ⟨b, q, rfl, hb, rfl⟩
  refine ⟨?_, q, rfl⟩
  rcases b with _ | _
  · rfl
  · exact absurd (hb.1 rfl) hne
theorem shopUpd_cell {w1 wr : World} {ch : Chg} (h : ShopUpd Real PR S w0 w1 d g n q mk T s P ch wr) {k : Nat} (hk : k < w1.heap.size) (hT : ¬ T k) : wr.heap[k]? = w1.heap[k]? := by
  obtain ⟨T1, _, h2, _⟩ := h
  exact h2.block k hk hT
set_option maxRecDepth 100000 in
set_option maxHeartbeats 8000000 in
theorem kWrite_any (D : DevOk Real) (O : PairOk Real PR) (kb : Nat) (nv lv sv : Value) (Ao : Option Addr) (no co : Nat) (l0 : List Rec) (B g2 cap n' c' : Nat) (r : Addr) (l : List Rec)
    (h : Shop Real PR S w0 w d g n q mk T s P noChg) (hkb : Blk w kb 59 #[.pointer (some ⟨g, 0, none⟩), nv, lv]) (hkT : ¬ T kb)
    (hby : ∀ W, Below w.heap.size w W → Calls Tryz.prog 50 #[lv] W fun e w' => e = .returned (.agg (arS (tb 0 sv))) ∧ Below W.heap.size W w')
    (hsv : sv = .slice Ao no co) (hold : RSl w w.heap.size Ao no co l0) (hnew : Lf1 w B g2 cap r n' c' 0 l) (hne : l ≠ l0) (hl : l ≠ []) (hs : RszS l) (h248 : (laidR l).length ≤ 248) (hn : l.length ≤ 10000)
    (hth : ∀ i, 1 ≤ i → i < 256 → points (P.pgs.getD i (0, 0)) = false) :
    Calls Tryz.prog 39 #[.pointer (some ⟨kb, 0, none⟩), .slice (some ⟨g2, 0, none⟩) 1 cap] w fun e w' => e = .returned .nilIface ∧ ShopUpd Real PR S w0 w d g n q mk T s P (wrC 256 (laidR l)) w' := by
  have HD := hid D
  have HO := hid O
  have HSh := hid h
  have HKb := hid hkb
  have HBy := hid hby
  have HNw := hid hnew
  have HOl := hid hold
  have HTh := hid hth
  have HNe := hid hne
  have HLn := hid (show 0 < n' ∧ n' ≤ 10000 from by have h1 := hnew.rs.len; have h2 : l.length ≠ 0 := fun e => hl (List.eq_nil_of_length_eq_zero e); omega)
  have HBt := hid (show 1 ≤ (laidR l).length ∧ (laidR l).length ≤ 248 ∧ Byt (laidR l) from ⟨laidR_pos hl, h248, laidR_byt hs⟩)
  have HSz := hid hs
  have HkT := hid (And.intro hkT hkb.lt)
  have HTl := hid (h.lt D O)
  have HSv := hid hsv
  have a0 := hkb.cell 0
  have a2 := hkb.cell 2
  simp at a0 a2
  clear D O h hkb hby hnew hold hth hne hl hs h248 hn hkT hsv
  go_enter Tryz.func39, Tryz.ntmps39
  go_wp2_with fail
  refine (HBy.out _ (Below.refl _ _)).mono ?_
  rintro e w1 ⟨rfl, hb1⟩
  have HB1 := hid hb1
  have HNw1 := hid (HNw.out.kept hb1.size (hb1.block _ HNw.out.lt) (hb1.block _ (HNw.out.rs.at_ r rfl HLn.out.1).1))
  clear hb1
  go_wp2_with fail
  refine (byPageOne_any ⟨g2, 0, none⟩ r cap n' c' 0 w1 HNw1.out.c0 HNw1.out.c1 HNw1.out.lt (by omega) (by omega)).mono ?_
  rintro e w2 ⟨rfl, hb2⟩
  have HB2 := hid (HB1.out.trans (hb2.mono HB1.out.size))
  clear hb2
  have e5 : (Blk ((w2.alloc (.cells Tryz.zeroCells111 111)).alloc (.cells Tryz.zeroCells111 111)) w2.heap.size 111 Tryz.zeroCells111) := (Blk.new w2 _ _).alloc _
  have e6 : (Blk ((w2.alloc (.cells Tryz.zeroCells111 111)).alloc (.cells Tryz.zeroCells111 111)) (w2.heap.size + 1) 111 Tryz.zeroCells111) := by
    have h := Blk.new (w2.alloc (.cells Tryz.zeroCells111 111)) 111 Tryz.zeroCells111
    rwa [World.size_alloc] at h
  have E5 := hid e5
  have E6 := hid e6
  clear e5 e6
  go_upto_region 2 with (first
    | (refine wpList_store_row rfl 111 (.tmp 5) (.tmp 13) rfl w2.heap.size (arS (tb 0 sv)) rfl rfl 111 Tryz.zeroCells111 E5.out (by rw [arS_size]; exact Tryz.size256) (by rw [Tryz.zero256]; simp only [arS_size]) (arS_one (tb_one _ _ (by rw [HSv.out]; rfl))) ?_)
    | (refine wpList_store_row rfl 111 (.tmp 6) (.tmp 15) rfl (w2.heap.size + 1) (arS (tb 0 (.slice (some r) n' c'))) rfl rfl 111 Tryz.zeroCells111 (E6.out.setRow (by omega) _) (by rw [arS_size]; exact Tryz.size256) (by rw [Tryz.zero256]; simp only [arS_size]) (arS_one (tb_one _ _ rfl)) ?_))
  have h5 : Blk ((((w2.alloc (.cells Tryz.zeroCells111 111)).alloc (.cells Tryz.zeroCells111 111)).setRow w2.heap.size (arS (tb 0 sv))).setRow (w2.heap.size + 1) (arS (tb 0 (.slice (some r) n' c')))) w2.heap.size 111 (arS (tb 0 sv)) := Blk.setRow (setRow_heap _ _ _ _ _ _ E5.out) (by omega) _
  have h6 : Blk ((((w2.alloc (.cells Tryz.zeroCells111 111)).alloc (.cells Tryz.zeroCells111 111)).setRow w2.heap.size (arS (tb 0 sv))).setRow (w2.heap.size + 1) (arS (tb 0 (.slice (some r) n' c')))) (w2.heap.size + 1) 111 (arS (tb 0 (.slice (some r) n' c'))) := setRow_heap _ _ _ _ _ _ (E6.out.setRow (by omega) _)
  have hb3 : Below w2.heap.size w2 ((((w2.alloc (.cells Tryz.zeroCells111 111)).alloc (.cells Tryz.zeroCells111 111)).setRow w2.heap.size (arS (tb 0 sv))).setRow (w2.heap.size + 1) (arS (tb 0 (.slice (some r) n' c')))) := below_setRow (below_setRow (((Below.refl _ _).alloc (Nat.le_refl _) _).alloc (by simp) _) (Nat.le_refl _) _) (by omega) _
  generalize ((((w2.alloc (.cells Tryz.zeroCells111 111)).alloc (.cells Tryz.zeroCells111 111)).setRow w2.heap.size (arS (tb 0 sv))).setRow (w2.heap.size + 1) (arS (tb 0 (.slice (some r) n' c')))) = w3 at h5 h6 hb3 ⊢
  have H5 := hid h5
  have H6 := hid h6
  have HB3 := hid (HB2.out.trans (hb3.mono HB2.out.size))
  have HSh3 := hid (HSh.out.on HD.out HO.out HB3.out)
  have HKb3 := hid (HKb.out.below HB3.out HKb.out.lt)
  have HNw3 := hid (HNw.out.kept HB3.out.size (HB3.out.block _ HNw.out.lt) (HB3.out.block _ (HNw.out.rs.at_ r rfl HLn.out.1).1))
  have HOl3 := hid (HOl.out.on HB3.out)
  have HNT := hid (show ¬ T (w2.heap.size + 1) ∧ w2.heap.size + 1 < w3.heap.size from ⟨fun hk => by have h1 := HTl.out _ hk; have h2 := HB2.out.size; omega, h6.lt⟩)
  have a3 := HKb3.out.cell 0
  have z6 := arS_cell H6.out (i := 0) (by omega)
  have z5 := arS_cell H5.out (i := 0) (by omega)
  have t0 : tb 0 sv 0 = sv := rfl
  have t1 : tb 0 (.slice (some r) n' c') 0 = .slice (some r) n' c' := rfl
  rw [t1] at z6
  rw [t0, HSv.out] at z5
  simp at a3
  clear h5 h6 hb3 E5 E6 a0 a2 t0 t1
  go_wp2
  go_loopw [16] (fun iv wr => ∃ p : Nat, p ≤ 256 ∧ iv = .int .i64 (p : Int) ∧ ((p = 0 ∧ wr = w3) ∨ (1 ≤ p ∧ ShopUpd Real PR S w0 w3 d g n q mk T s P (wrC p (laidR l)) wr))) (fun iv _ => 256 - (intOf iv).toNat)
  case atStart => exact ⟨0, Nat.zero_le _, rfl, .inl ⟨rfl, rfl⟩⟩
  case round =>
    obtain ⟨p, hp, rfl, (⟨rfl, rfl⟩ | ⟨hp1, hup⟩)⟩ := hrel
    · have g0 : ((n' : Int) == 0) = false := by have := HLn.out.1; simp; omega
      go_wp2_with fail
      go_quiet ((go_at_call 21; refine Calls.quiet_of (eqRec_no _ _ _ _ _ _ l l0 _ _ _ (HNw3.out.rs.below (below_drewN (Below.refl _ _) _)) (HOl3.out.below (below_drewN (Below.refl _ _) _)) HNe.out)))
      go_wp2_with fail
      obtain ⟨W4, hW4⟩ : ∃ W, wr.drewN nq = W := ⟨_, rfl⟩
      have hbw : Below wr.heap.size wr W4.drew := by rw [← hW4]; exact (below_drewN (Below.refl _ _) _).drew
      rw [hW4]
      clear hW4 z5 z6 a3
      have HBw := hid hbw
      have HL4 := hid (kLaid_any (some r) n' c' l W4.drew (HNw3.out.rs.on hbw) HLn.out.2 HSz.out (by have := HBt.out.2.1; omega))
      have HC4 := hid (show ∀ W, Below wr.heap.size wr W → W.cell? ⟨kb, 0, none⟩ = some (.pointer (some ⟨g, 0, none⟩)) ∧ W.cell? ⟨w2.heap.size + 1, 0, none⟩ = some (.slice (some r) n' c') from fun W hb => by
        have h1 := (HKb3.out.below hb HKb3.out.lt).cell 0
        have h2 := arS_cell (H6.out.below hb H6.out.lt) (i := 0) (by omega)
        simp at h1
        exact ⟨h1, h2⟩)
      have k0 := HC4.out _ hbw
      clear hbw
      go_region_held3 (fun w' => w'.cell? ⟨kb, 0, none⟩ = some (.pointer (some ⟨g, 0, none⟩)) ∧ w'.cell? ⟨w2.heap.size + 1, 0, none⟩ = some (.slice (some r) n' c')) (first | exact k0 | exact k5 | exact k6)
        ((first
          | (go_at_call 53; refine HL4.out.mono ?_; rintro e w5 hm; obtain ⟨A5, m5, c5, rfl, hs5, hb5⟩ := hm.get; have k5 := HC4.out w5 (HBw.out.trans (hb5.mono HBw.out.size)); have HS5 := hid hs5; have HB5 := hid (HBw.out.trans (hb5.mono HBw.out.size)); clear hm hs5 hb5)
          | (go_at_call 52; refine (sh_write HD.out HO.out (HSh3.out.on HD.out HO.out HB5.out) (i := 0) (by omega) HS5.out (by rw [← HS5.out.len]; exact HBt.out.1) (by rw [← HS5.out.len]; exact HBt.out.2.1) HBt.out.2.2).mono ?_; rintro e w6 ⟨rfl, hup⟩; have k6 : w6.cell? ⟨kb, 0, none⟩ = some (.pointer (some ⟨g, 0, none⟩)) ∧ w6.cell? ⟨w2.heap.size + 1, 0, none⟩ = some (.slice (some r) n' c') := ⟨(World.cell?_of_block (a := ⟨kb, 0, none⟩) (shopUpd_cell hup (Nat.lt_of_lt_of_le HKb3.out.lt HB5.out.size) HkT.out.1)).trans k5.1, (World.cell?_of_block (a := ⟨w2.heap.size + 1, 0, none⟩) (shopUpd_cell hup (Nat.lt_of_lt_of_le HNT.out.2 HB5.out.size) HNT.out.1)).trans k5.2⟩; have HUp := hid hup; clear hup)))
      have HU := hid (show ShopUpd Real PR S w0 wr d g n q mk T s P (wrC 1 (laidR l)) w6 from HUp.out.then_ HD.out HO.out HB5.out (Below.refl _ _))
      go_wp2
      go_roundw
      case rel => exact ⟨1, by omega, by go_num, .inr ⟨by omega, HU.out⟩⟩
      case measure => simp [intOf]
    · by_cases hp2 : p < 256
      · obtain ⟨T1, hs1, ho1, ht1⟩ := hup
        have hup : ShopUpd Real PR S w0 w3 d g n q mk T s P (wrC p (laidR l)) wr := ⟨T1, hs1, ho1, ht1⟩
        have e1 : wr.cell? ⟨kb, 0, none⟩ = some (.pointer (some ⟨g, 0, none⟩)) := (World.cell?_of_block (a := ⟨kb, 0, none⟩) (shopUpd_cell hup HKb3.out.lt HkT.out.1)).trans a3
        have e2 : wr.cell? ⟨w2.heap.size + 1, p, none⟩ = some (.slice none 0 0) := by
          have h1 := arS_cell (Blk.same H6.out (shopUpd_cell hup HNT.out.2 HNT.out.1)) hp2
          have h2 : tb 0 (.slice (some r) n' c') p = nilV := by unfold tb; rw [if_neg (by omega)]
          rw [h2] at h1
          exact h1
        have HDr := hid (sh_drop HD.out HO.out hs1 hp2)
        have HOn := hid ho1
        have HT1 := hid ht1
        have HWn := hid (wrC_next (P := P) (b := laidR l) hp1 hp2 HTh.out)
        have hpI : (p : Int) < 256 := by omega
        clear hs1 ho1 ht1 hup z5 z6 a3
        go_wp2_with fail
        refine HDr.out.mono ?_
        rintro e w4 ⟨rfl, hd⟩
        rw [HWn.out] at hd
        have HU := hid (updSeq HOn.out HT1.out hd)
        clear hd
        go_wp2
        go_roundw
        case rel => exact ⟨p + 1, by omega, by go_num, .inr ⟨by omega, HU.out⟩⟩
        case measure => simp [intOf]; omega
      · obtain rfl : p = 256 := by omega
        have HU := hid hup
        have HB3' := hid HB3.out
        clear hup z5 z6 a3
        go_wp2
        go_ret
        exact ⟨rfl, HU.out.then_ HD.out HO.out HB3'.out (Below.refl _ _)⟩
end
end Go.Proofs.YtajcfhhnmjcmjaaGreatDoor
namespace Go.Proofs.YtajcfhhnmjcmjaaGreatDoor
open Go.RowKit

theorem Only.at {F : Nat → Prop} {w w' : World} (h : Only F w w') {k : Nat} (hk : k < w.heap.size) (hF : ¬ F k) : w'.heap[k]? = w.heap[k]? := h.block k hk hF
/-- the keep's leaves as they were committed last: none, or one on the page 0; F: the blocks of them -/
def LvO (w : World) (F : Nat → Prop) (lv : Value) (Ao : Option Addr) (no co : Nat) (l0 : List Rec) : Prop :=
  (lv = .slice none 0 0 ∧ Ao = none ∧ no = 0 ∧ co = 0 ∧ l0 = []) ∨
  ∃ Bo go capo ro, lv = .slice (some ⟨go, 0, none⟩) 1 capo ∧ Lf1 w Bo go capo ro no co 0 l0 ∧ Ao = some ro ∧ F go ∧ F ro.block ∧ l0 ≠ []
theorem Lf1.pos {w : World} {B g cap n c : Nat} {r : Addr} {p : Int} {l : List Rec} (h : Lf1 w B g cap r n c p l) (hl : l ≠ []) : 0 < n := by
  have h1 := h.rs.len
  have h2 : l.length ≠ 0 := fun e => hl (List.eq_nil_of_length_eq_zero e)
  omega
theorem Lf1.only {w w' : World} {B g cap n c : Nat} {r : Addr} {p : Int} {l : List Rec} {G : Nat → Prop} (h : Lf1 w B g cap r n c p l) (hl : l ≠ []) (ho : Only G w w') (h1 : ¬ G g) (h2 : ¬ G r.block) : Lf1 w' B g cap r n c p l :=
  h.kept ho.size (ho.block _ h.lt h1) (ho.block _ (h.rs.at_ r rfl (h.pos hl)).1 h2)
theorem LvO.only {w w' : World} {F G : Nat → Prop} {lv : Value} {Ao : Option Addr} {no co : Nat} {l0 : List Rec} (h : LvO w F lv Ao no co l0) (ho : Only G w w') (hG : ∀ k, F k → ¬ G k) : LvO w' F lv Ao no co l0 := by
  rcases h with h | ⟨Bo, go, capo, ro, h1, h2, h3, h4, h5, h6⟩
  · exact .inl h
  · exact .inr ⟨Bo, go, capo, ro, h1, h2.only h6 ho (hG _ h4) (hG _ h5), h3, h4, h5, h6⟩
theorem LvO.rsl {w : World} {F : Nat → Prop} {lv : Value} {Ao : Option Addr} {no co : Nat} {l0 : List Rec} (h : LvO w F lv Ao no co l0) : RSl w w.heap.size Ao no co l0 := by
  rcases h with ⟨_, rfl, rfl, rfl, rfl⟩ | ⟨Bo, go, capo, ro, h1, h2, rfl, _⟩
  · exact rsl_none _ _ _ _ (by unfold maxLen; omega) (fun _ => rfl)
  · exact h2.rs
theorem tb_nil (p : Int) : tb p (.slice none 0 0) = fun _ => nilV := by
  funext i
  unfold tb nilV
  split <;> rfl
theorem LvO.byPage {w : World} {F : Nat → Prop} {lv : Value} {Ao : Option Addr} {no co : Nat} {l0 : List Rec} (h : LvO w F lv Ao no co l0) (W : World) (hb : Below w.heap.size w W) :
    Calls Tryz.prog 50 #[lv] W fun e w' => e = .returned (.agg (arS (tb 0 (.slice Ao no co)))) ∧ Below W.heap.size W w' := by
  rcases h with ⟨rfl, rfl, rfl, rfl, rfl⟩ | ⟨Bo, go, capo, ro, rfl, h2, rfl, _, _, h6⟩
  · rw [tb_nil]
    exact byPageNone_any W
  · have h3 := h2.only h6 (Only.of_below (F := fun _ => False) hb) (fun h => h) (fun h => h)
    exact byPageOne_any ⟨go, 0, none⟩ ro capo no co 0 W h3.c0 h3.c1 h3.lt (by omega) (by omega)
theorem LvO.lt {w : World} {F : Nat → Prop} {lv : Value} {Ao : Option Addr} {no co : Nat} {l0 : List Rec} (h : LvO w F lv Ao no co l0) : lv = .slice none 0 0 ∨ ∃ A c, lv = .slice (some A) 1 c ∧ F A.block ∧ A.block < w.heap.size := by
  rcases h with ⟨rfl, _⟩ | ⟨Bo, go, capo, ro, rfl, h2, _, h4, _⟩
  · exact .inl rfl
  · exact .inr ⟨⟨go, 0, none⟩, capo, rfl, h4, h2.lt⟩
/-- a number given, or not wanted -/
theorem number_leaf (B : Nat) (Q : Nat → Prop) (v : Value) (p : Int) (l : List Rec) (w : World) (h : LOwn w B Q v [(p, l)]) (hp : p = -1 ∨ p = 0) :
    Calls Tryz.prog 37 #[v] w fun e w' => e = .returned (.tuple #[]) ∧ LOwn w' B Q v [(0, l)] ∧ Only (fun k => v.ownBlock = some k) w w' := by
  rcases hp with rfl | rfl
  · exact numNew_any B Q v l w h
  · refine (numOld_any B Q v 0 l w h (by omega)).mono ?_
    rintro e w' ⟨rfl, hb⟩
    exact ⟨rfl, h.on hb, Only.of_below hb⟩
section
variable {Real : World → Nat → DSt → (Nat → Prop) → Prop} {PR : World → Nat → Nat → Nat → Nat → (Nat → Prop) → Prop} {S : Nat → Addr} {w0 w : World} {d g n q mk : Nat} {T : Nat → Prop} {s : DSt} {P : PS} {ch : Chg} {cont : Cont}
/-- what a keep's commit leaves: b the page's bytes -/
def KComO (Real : World → Nat → DSt → (Nat → Prop) → Prop) (PR : World → Nat → Nat → Nat → Nat → (Nat → Prop) → Prop) (S : Nat → Addr) (w0 w : World) (d g n q mk : Nat) (T : Nat → Prop) (s : DSt) (P : PS) (kb : Nat) (nv : Value) (B : Nat) (Q : Nat → Prop) (l : List Rec) (e : Ending) (w' : World) : Prop :=
  ∃ g2 cap r n' c' T', e = .returned .nilIface ∧ Blk w' kb 59 #[.pointer (some ⟨g, 0, none⟩), nv, .slice (some ⟨g2, 0, none⟩) 1 cap] ∧ Lf1 w' B g2 cap r n' c' 0 l ∧
    Shop Real PR S w0 w' d g n (q + 1000) mk T' (comDev P (wrC 256 (laidR l)) s (halN n)) (commitTo P (wrC 256 (laidR l)) s (halN n)).2 noChg ∧ ¬ T' kb ∧ ¬ T' g2 ∧ ¬ T' r.block ∧ g2 ≠ kb ∧ r.block ≠ kb ∧ Q r.block ∧
    Only (fun k => T k ∨ k = kb ∨ k = g2) w w' ∧ (∀ k, T' k → T k ∨ w.heap.size ≤ k)
theorem keys_wrC (b : List Int) : 0 < (keysOf (wrC 256 b)).length := by
  have h : 0 ∈ keysOf (wrC 256 b) := keysOf_mem.2 ⟨by omega, rfl⟩
  exact List.length_pos_of_mem h
theorem wrC_off (b : List Int) (i : Nat) (hi : 1 ≤ i) : wrC 256 b i = none := by
  unfold wrC putC noChg
  rw [if_neg (by omega), if_neg (by omega)]
set_option maxRecDepth 100000 in
set_option maxHeartbeats 8000000 in
theorem kCommitOne_any (D : DevOk Real) (O : PairOk Real PR) (hS : Sent7 w0 S) (kb : Nat) (nv lv : Value) (Ao : Option Addr) (no co : Nat) (l0 : List Rec) (Fo : Nat → Prop) (B : Nat) (Q : Nat → Prop) (v2 : Value) (p : Int) (l : List Rec)
    (h : Shop Real PR S w0 w d g n q mk T s P ch) (hK : Keeps s n q P cont) (hc : ∀ i, 1 ≤ i → cont i = none) (h42 : 42 ≤ halN n) (hq : q ≤ 600000)
    (hkb : Blk w kb 59 #[.pointer (some ⟨g, 0, none⟩), nv, lv]) (hkT : ¬ T kb) (hlv : LvO w Fo lv Ao no co l0) (hFo : ∀ k, Fo k → ¬ T k ∧ k ≠ kb ∧ k < B)
    (hL : LOwn w B Q v2 [(p, l)]) (hp : p = -1 ∨ p = 0) (hQ : ∀ k, Q k → ¬ T k ∧ k ≠ kb) (hB : ∀ k, T k → k < B) (hkB : kb < B) (hkw : w0.heap.size ≤ kb)
    (hne : l ≠ l0) (hl : l ≠ []) (hs : RszS l) (h248 : (laidR l).length ≤ 248) (hn : l.length ≤ 10000) :
    Calls Tryz.prog 24 #[.pointer (some ⟨kb, 0, none⟩), v2] w (KComO Real PR S w0 w d g n q mk T s P kb nv B Q l) := by
  obtain ⟨g2, cap, _, _, _, rfl, hz, _⟩ := hL.one
  have hgB := hz.lo
  have hgl := hz.lt
  have HT := hid (h.lt D O)
  have HKl := hid hkb.lt
  have HNm := hid (number_leaf B Q _ p l w hL hp)
  have HSt := hid (fun (w1 : World) (ho : Only (fun k => k = g2) w w1) => And.intro (h.beside D O ho (fun k hk e => by have := hB k hk; omega) (fun k e => by omega)) (And.intro (Blk.same hkb (ho.block kb hkb.lt (by omega))) (hlv.only ho (fun k hk e => by have := (hFo k hk).2.2; omega))))
  have HTh := hid (show ∀ i, 1 ≤ i → i < 256 → points (P.pgs.getD i (0, 0)) = false from fun i h1 hi => by
    have h2 : thereB P noChg i = points (P.pgs.getD i (0, 0)) := rfl
    rw [← h2, there_cont hK.fine hi, contC_none (ch := noChg) rfl, hc i h1]
    rfl)
  have HFit := hid (fits_room (ch := wrC 256 (laidR l)) hK.fine (N := 1) (fun i hi => by rw [contC_none (wrC_off _ i hi)]; exact hc i hi) (by omega))
  have HD := hid D
  have HO := hid O
  have HSe := hid hS
  have HK := hid hK
  have HkT := hid hkT
  have HFo := hid hFo
  have HQ := hid hQ
  have HB := hid hB
  have HX := hid (And.intro hne (And.intro hl (And.intro hs (And.intro h248 hn))))
  clear D O hS h hK hc h42 hkb hkT hlv hFo hL hp hQ hB hne hl hs h248 hn hz
  go_enter Tryz.func24, Tryz.ntmps24
  go_wp2_with fail
  refine HNm.out.mono ?_
  rintro e w1 ⟨rfl, hl1, ho1⟩
  have ho1' : Only (fun k => k = g2) w w1 := ho1.mono (fun i hi => .inl (by injection hi with hi; exact hi.symm))
  obtain ⟨hsh1, hkb1, hlv1⟩ := HSt.out w1 ho1'
  obtain ⟨g2', cap', r, n', c', e, hf1, hq1⟩ := hl1.one
  cases e
  have HSh1 := hid hsh1
  have HKb1 := hid hkb1
  have HLv1 := hid hlv1
  have HF1 := hid hf1
  have HQr := hid hq1
  have HOn1 := hid ho1'
  have a0 := hkb1.cell 0
  simp at a0
  clear hl1 ho1 ho1' hsh1 hkb1 hlv1 hf1 hq1
  go_wp2_with fail
  refine (sh_abort HD.out HO.out HSh1.out).mono ?_
  rintro e w2 ⟨rfl, T2, hsh2, ho2, ht2⟩
  have HSh2 := hid hsh2
  have HKb2 := hid (Blk.same HKb1.out (ho2.block kb HKb1.out.lt HkT.out))
  have HLv2 := hid (HLv1.out.only ho2 (fun k hk => (HFo.out k hk).1))
  have HF2 := hid (HF1.out.only HX.out.2.1 ho2 (fun hk => by have := HB.out _ hk; have := HF1.out.lo; omega) (HQ.out _ HQr.out).1)
  have HOn2 := hid ho2
  have HT2 := hid ht2
  have HkT2 := hid (show ¬ T2 kb from fun hk => by
    rcases ht2 kb hk with h | h
    · exact HkT.out h
    · have h1 := HKl.out; have h2 := HOn1.out.size; omega)
  clear hsh2 ho2 ht2 a0
  go_wp2_with fail
  refine (kWrite_any HD.out HO.out kb nv lv (.slice Ao no co) Ao no co l0 B g2 cap n' c' r l HSh2.out HKb2.out HkT2.out HLv2.out.byPage rfl HLv2.out.rsl HF2.out HX.out.1 HX.out.2.1 HX.out.2.2.1 HX.out.2.2.2.1 HX.out.2.2.2.2 HTh.out).mono ?_
  rintro e w3 ⟨rfl, T3, hsh3, ho3, ht3⟩
  have HKl1 := hid (show w.heap.size ≤ w1.heap.size from HOn1.out.size)
  have HKl2 := hid (show w1.heap.size ≤ w2.heap.size from HOn2.out.size)
  have HKl3 := hid (show w2.heap.size ≤ w3.heap.size from ho3.size)
  have far2 : ∀ k, k < w1.heap.size → ¬ T k → ¬ T2 k := fun k hk hn hk2 => by
    rcases HT2.out k hk2 with h | h
    · exact hn h
    · omega
  have far3 : ∀ k, k < w1.heap.size → ¬ T k → ¬ T3 k := fun k hk hn hk2 => by
    rcases ht3 k hk2 with h | h
    · exact far2 k hk hn h
    · have := HKl2.out; omega
  have hg2T : ¬ T g2 := fun hk => by have := HB.out _ hk; have := HF1.out.lo; omega
  have hrl : r.block < w1.heap.size := (HF1.out.rs.at_ r rfl (HF1.out.pos HX.out.2.1)).1
  have hrT := (HQ.out _ HQr.out)
  have HSh3 := hid hsh3
  have HF3 := hid (HF2.out.only HX.out.2.1 ho3 (far2 _ HF1.out.lt hg2T) (far2 _ hrl hrT.1))
  have HKb3 := hid (Blk.same HKb2.out (ho3.block kb HKb2.out.lt HkT2.out))
  have HOn3 := hid ho3
  have HT3 := hid ht3
  have HkT3 := hid (far3 kb (by have h1 := HKl.out; have h2 := HKl1.out; omega) HkT.out)
  have HgT3 := hid (far3 g2 HF1.out.lt hg2T)
  have HrT3 := hid (far3 r.block hrl hrT.1)
  have Hrl := hid hrl
  have HrK := hid hrT.2
  have a0 := HKb3.out.cell 0
  simp at a0
  clear hsh3 ho3 ht3 far2 far3 hg2T hrl hrT
  go_wp2_with fail
  refine (sh_commit HD.out HO.out HSe.out HSh3.out HK.out (keys_wrC _) HFit.out hq).mono ?_
  rintro e w4 ⟨rfl, T4, hsh4, ho4, ht4⟩
  have far4 : ∀ k, k < w1.heap.size → ¬ T3 k → ¬ T4 k := fun k hk hn hk2 => by
    rcases ht4 k hk2 with h | h
    · exact hn h
    · have := HKl2.out; have := HKl3.out; omega
  have hkb4 := Blk.same HKb3.out (ho4.block kb HKb3.out.lt HkT3.out)
  have hf4 := HF3.out.only HX.out.2.1 ho4 HgT3.out HrT3.out
  have hkT4 := far4 kb (by have h1 := HKl.out; have := HKl1.out; omega) HkT3.out
  have a2 := hkb4.cell 2
  have f2 := hkb4.free 2
  simp at a2
  have hgk : g2 ≠ kb := by have := HF1.out.lo; omega
  have HFin := hid (show KComO Real PR S w0 w d g n q mk T s P kb nv B Q l (.returned .nilIface) (w4.setCell ⟨kb, 2, none⟩ (.slice (some ⟨g2, 0, none⟩) 1 cap)) from by
    have ho5 : Only (fun k => k = kb) w4 (w4.setCell ⟨kb, 2, none⟩ (.slice (some ⟨g2, 0, none⟩) 1 cap)) := Only.put (F := fun k => k = kb) (Only.refl _ _) (p := ⟨kb, 2, none⟩) rfl _
    have hK1 := HKl1.out
    have hK2 := HKl2.out
    have hK3 := HKl3.out
    refine ⟨g2, cap, r, n', c', T4, rfl, ?_, hf4.only HX.out.2.1 ho5 hgk HrK.out, hsh4.beside HD.out HO.out ho5 (fun k hk e => hkT4 (e ▸ hk)) (fun k e => by rw [e]; exact hkw), hkT4, far4 g2 HF1.out.lt HgT3.out, far4 _ Hrl.out HrT3.out, hgk, HrK.out, HQr.out, ?_, fun k hk => ?_⟩
    · exact hkb4.put 2 (.slice (some ⟨g2, 0, none⟩) 1 cap)
    · refine ((((HOn1.out.mono (G := fun k => T k ∨ k = kb ∨ k = g2) (fun i hi => .inl (.inr (.inr hi)))).trans HOn2.out (fun i hi => .inl (.inl hi))).trans HOn3.out (fun i hi => ?_)).trans ho4 (fun i hi => ?_)).trans ho5 (fun i hi => .inl (.inr (.inl hi)))
      · rcases HT2.out i hi with h | h
        · exact .inl (.inl h)
        · exact .inr (by omega)
      · rcases HT3.out i hi with h | h
        · rcases HT2.out i h with h | h
          · exact .inl (.inl h)
          · exact .inr (by omega)
        · exact .inr (by omega)
    · rcases ht4 k hk with h | h
      · rcases HT3.out k h with h | h
        · rcases HT2.out k h with h | h
          · exact .inl h
          · exact .inr (by omega)
        · exact .inr (by omega)
      · exact .inr (by omega))
  clear hsh4 ho4 ht4 far4 hkb4 hf4 hkT4 hgk
  go_wp2
  go_ret
  exact HFin.out
end
end Go.Proofs.YtajcfhhnmjcmjaaGreatDoor
namespace Go.Proofs.YtajcfhhnmjcmjaaGreatDoor
open Go.RowKit

theorem kpX_new {w : World} {B kb : Nat} {s lv : Value} (h : Blk w kb 59 #[s, .slice none 0 0, lv]) (hB : B ≤ kb) : KpX w B kb s lv (fun k => k = kb) [] where
  box := ⟨.slice none 0 0, h, krow_nil w B, fun k hk => by cases hk⟩
  own := rfl
  lt := fun k hk => by subst hk; exact h.lt
  lo := fun k hk => by subst hk; exact hB
  ris := List.Pairwise.nil
  siz := fun r h => by cases h
  len := Nat.zero_le _
section
variable {Real : World → Nat → DSt → (Nat → Prop) → Prop} {PR : World → Nat → Nat → Nat → Nat → (Nat → Prop) → Prop} {S : Nat → Addr} {w0 : World} {d g n q mk : Nat} {T : Nat → Prop} {s : DSt}
set_option maxRecDepth 100000 in
set_option maxHeartbeats 4000000 in
theorem kpXOpen_new (D : DevOk Real) (O : PairOk Real PR) (w : World) (h : Shop Real PR S w0 w d g n q mk T s (noPS 0) noChg) (hk : Keeps s n q (noPS 0) (fun _ => none)) :
    Calls Tryz.prog 28 #[.pointer (some ⟨g, 0, none⟩)] w fun e w' => ∃ kb T', e = .returned (.tuple #[.pointer (some ⟨kb, 0, none⟩), .nilIface]) ∧ KpX w' w.heap.size kb (.pointer (some ⟨g, 0, none⟩)) (.slice none 0 0) (fun k => k = kb) [] ∧ Shop Real PR S w0 w' d g n q mk T' s (noPS 0) noChg ∧ ¬ T' kb ∧ Only T w w' := by
  have HAb := hid (sh_abort D O h)
  have HD := hid D
  have HO := hid O
  have HK := hid hk
  clear D O h hk
  go_enter Tryz.func28, Tryz.ntmps28
  go_wp2_with fail
  refine HAb.out.mono ?_
  rintro e w1 ⟨rfl, T1, hsh, ho, ht⟩
  have HSh1 := hid hsh
  have HOn1 := hid ho
  clear hsh ho ht
  go_wp2_with fail
  refine (leavesOf_new w1 HSh1.out HK.out).mono ?_
  rintro e w2 ⟨rfl, hb⟩
  have HSh2 := hid (HSh1.out.on HD.out HO.out hb)
  have HOn2 := hid (HOn1.out.then_below hb)
  clear hb
  go_wp2_with fail
  refine (recordsOf_0 _).mono ?_
  rintro e w3 ⟨rfl, rfl⟩
  obtain ⟨W, hW⟩ : ∃ W, w3.alloc (.cells #[.pointer (some ⟨g, 0, none⟩), .slice none 0 0, .slice none 0 0] 59) = W := ⟨_, rfl⟩
  have z1 : Below w3.heap.size w3 W := by rw [← hW]; exact (Below.refl _ _).alloc (Nat.le_refl _) _
  have z2 : Blk W w3.heap.size 59 #[.pointer (some ⟨g, 0, none⟩), .slice none 0 0, .slice none 0 0] := by rw [← hW]; exact Blk.new w3 _ _
  have HF := hid (show KpX W w.heap.size w3.heap.size (.pointer (some ⟨g, 0, none⟩)) (.slice none 0 0) (fun k => k = w3.heap.size) [] ∧ Shop Real PR S w0 W d g n q mk T1 s (noPS 0) noChg ∧ ¬ T1 w3.heap.size ∧ Only T w W from ⟨kpX_new z2 HOn2.out.size, HSh2.out.on HD.out HO.out z1, fun hk => Nat.lt_irrefl _ (HSh2.out.lt HD.out HO.out _ hk), HOn2.out.then_below z1⟩)
  clear z1 z2
  go_wp2
  go_ret2
  first
    | exact ⟨_, _, rfl, HF.out⟩
    | (rw [hW]; exact ⟨_, _, rfl, HF.out⟩)
set_option maxRecDepth 100000 in
set_option maxHeartbeats 4000000 in
theorem reopenedX_new (D : DevOk Real) (O : PairOk Real PR) (hS : Sent7 w0 S) {F : Nat → Prop} (w : World) (hb0 : Below w0.heap.size w0 w) (hr : Real w d s F) (hF : ∀ k, F k → w0.heap.size ≤ k) (u : Up s n q) (hq : q ≤ 690000) (n0 : 300 ≤ n) (n1 : n ≤ 6000) (hk : Keeps s n q (noPS 0) (fun _ => none)) :
    Calls Tryz.prog 10 #[.pointer (some ⟨d, 0, none⟩)] w fun e w' => ∃ kb g T, e = .returned (.pointer (some ⟨kb, 0, none⟩)) ∧ KpX w' w0.heap.size kb (.pointer (some ⟨g, 0, none⟩)) (.slice none 0 0) (fun k => k = kb) [] ∧ Shop Real PR S w0 w' d g n q 7 T s (noPS 0) noChg ∧ ¬ T kb := by
  have HOp := hid (sh_opened (w0 := w0) D O hS hb0 hr hF u hq n0 n1 hk)
  have HD := hid D
  have HO := hid O
  have HK := hid hk
  have HB0 := hid hb0
  clear D O hS hb0 hr hF u hk
  go_enter Tryz.func10, Tryz.ntmps10
  go_wp2_with fail
  refine HOp.out.mono ?_
  rintro e w1 ⟨g, T, rfl, hsh, ho, _⟩
  have HSh1 := hid hsh
  have HOn := hid ho
  clear hsh ho
  go_wp2_with fail
  refine (kpXOpen_new HD.out HO.out w1 HSh1.out HK.out).mono ?_
  rintro e w2 ⟨kb, T2, rfl, hkp, hsh, hn, _⟩
  have HF := hid (show KpX w2 w0.heap.size kb (.pointer (some ⟨g, 0, none⟩)) (.slice none 0 0) (fun k => k = kb) [] ∧ Shop Real PR S w0 w2 d g n q 7 T2 s (noPS 0) noChg ∧ ¬ T2 kb from ⟨{ hkp with
    box := by
      obtain ⟨v, h1, h2, h3⟩ := hkp.box
      refine ⟨v, h1, ?_, h3⟩
      rcases h2.2 with ⟨rfl, _⟩ | ⟨g', cap, cu, rfl, hg, rest⟩
      · exact krow_nil _ _
      · exact ⟨h2.1, .inr ⟨g', cap, cu, rfl, by have := HB0.out.size; have := HOn.out.size; omega, rest⟩⟩
    lo := fun k hk => by have h1 := hkp.lo k hk; have := HB0.out.size; have := HOn.out.size; omega }, hsh, hn⟩)
  clear hkp hsh hn
  go_wp2
  go_ret
  exact ⟨kb, g, T2, rfl, HF.out⟩
end
section
variable {Real : World → Nat → DSt → (Nat → Prop) → Prop} {PR : World → Nat → Nat → Nat → Nat → (Nat → Prop) → Prop} {S : Nat → Addr}
set_option maxRecDepth 100000 in
set_option maxHeartbeats 4000000 in
theorem opened8X_any (D : DevOk Real) (O : PairOk Real PR) (n : Nat) (w : World) (hS : Sent7 w S) (h0 : 300 ≤ n) (h1 : n ≤ 6000) :
    Calls Tryz.prog 7 #[.int .i64 (n : Int)] w fun e w' => ∃ kb g d T, e = .returned (.tuple #[.pointer (some ⟨kb, 0, none⟩), .pointer (some ⟨d, 0, none⟩)]) ∧ KpX w' w.heap.size kb (.pointer (some ⟨g, 0, none⟩)) (.slice none 0 0) (fun k => k = kb) [] ∧ Shop Real PR S w w' d g n 0 7 T (DSt.new n) (noPS 0) noChg ∧ ¬ T kb := by
  have HN := hid (D.new n w (by omega) h1)
  have HOp := hid (fun (w1 : World) (d : Nat) (F : Nat → Prop) (hr : Real w1 d (DSt.new n) F) (hb : Below w.heap.size w w1) (hF : ∀ k, F k → w.heap.size ≤ k) => reopenedX_new (w0 := w) D O hS w1 hb hr hF (up_new h1) (by omega) h0 h1 (keeps_new h0 h1))
  clear D O hS
  go_enter Tryz.func7, Tryz.ntmps7
  go_wp2_with fail
  refine HN.out.mono ?_
  rintro e w1 ⟨d, F, rfl, hr, hb, hF⟩
  have HO1 := hid (HOp.out w1 d F hr hb hF)
  clear hr hb hF
  go_wp2_with fail
  refine HO1.out.mono ?_
  rintro e w2 ⟨kb, g, T, rfl, hkp, hsh, hn⟩
  have HF := hid (And.intro hkp (And.intro hsh hn))
  clear hkp hsh hn
  go_wp2
  go_ret2
  exact ⟨kb, g, d, T, rfl, HF.out⟩
end
end Go.Proofs.YtajcfhhnmjcmjaaGreatDoor
