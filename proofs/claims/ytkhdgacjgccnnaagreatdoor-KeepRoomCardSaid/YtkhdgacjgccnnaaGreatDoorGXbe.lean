/- Put together out of 5 texts. A keep in memory: carried; Put, Len. -/
import Derived.RegionTactic
import Derived.Test.YtkhdgacjgccnnaaGreatDoorGXbd
import Derived.Test.YtkhdgacjgccnnaaGreatDoorGXbc
namespace Go.Proofs.YtkhdgacjgccnnaaGreatDoor
open Go.RowKit

theorem insert_any (v : Value) (B vb i : Nat) (l : List Rec) (r : Rec) (w : World) (h : KRow w B v l) (hn : l.length ≤ 100000) (hB : B ≤ w.heap.size) (hb : ArgR w vb r) (hv : ∀ k, v.ownBlock = some k → vb ≠ k) (hi : i ≤ l.length) :
    Calls Tryz.prog 14 #[v, .int .i64 (i : Int), .slice (some ⟨vb, 0, none⟩) 1 1] w (InsO w B v (l.take i ++ r :: l.drop i)) := by
  by_cases he : i = l.length
  · subst he
    rw [List.take_length, List.drop_length]
    exact insEnd_any v B vb l r w h hn hB hb
  · obtain ⟨A, n, c, rfl, hln, hnc, _, hnil, hat⟩ := h.form
    cases A with
    | none => have := (hnil rfl).1; omega
    | some ad =>
      obtain ⟨g, rfl, _⟩ := hat ad rfl
      by_cases hr : n + 1 ≤ c
      · exact insShift_any B g n c vb i l r w h hln (by omega) hr hb (hv g rfl)
      · exact insGrow_any B g n c vb i l r w h hln (by omega) (by omega) hnc hb (by omega) hB
/-- a keep at kb, in the blocks F, with the records l -/
structure Kp (w : World) (b0 kb : Nat) (F : Nat → Prop) (l : List Rec) : Prop where
  box : ∃ s v lv, Blk w kb 51 #[s, v, lv] ∧ KRow w b0 v l ∧ (∀ k, v.ownBlock = some k → k ≠ kb ∧ F k)
  own : F kb
  lt : ∀ k, F k → k < w.heap.size
  lo : ∀ k, F k → b0 ≤ k
  ris : Ris l
  siz : ∀ r, r ∈ l → r.1.size ≤ 60 ∧ r.2.size ≤ 120
  len : l.length ≤ 10000
theorem Kp.on {w w' : World} {b0 kb : Nat} {F : Nat → Prop} {l : List Rec} (h : Kp w b0 kb F l) (hb : Below w.heap.size w w') : Kp w' b0 kb F l where
  box := by
    obtain ⟨s, v, lv, h1, h2, h3⟩ := h.box
    exact ⟨s, v, lv, h1.below hb h1.lt, h2.on hb, h3⟩
  own := h.own
  lt := fun k hk => Nat.lt_of_lt_of_le (h.lt k hk) hb.size
  lo := h.lo
  ris := h.ris
  siz := h.siz
  len := h.len
/-- what a put leaves -/
def PutO (w : World) (b0 kb : Nat) (F : Nat → Prop) (l : List Rec) (r : Rec) (e : Ending) (w' : World) : Prop := ∃ i, Low l r.1 i ∧ e = .returned .nilIface ∧ ∃ F', Kp w' b0 kb F' (putR l i r) ∧ Only F w w'
/-- a keep at kb, in the blocks F, with the records l -/
structure KpX (w : World) (b0 kb : Nat) (s lv : Value) (F : Nat → Prop) (l : List Rec) : Prop where
  box : ∃ v, Blk w kb 51 #[s, v, lv] ∧ KRow w b0 v l ∧ (∀ k, v.ownBlock = some k → k ≠ kb ∧ F k)
  own : F kb
  lt : ∀ k, F k → k < w.heap.size
  lo : ∀ k, F k → b0 ≤ k
  ris : Ris l
  siz : ∀ r, r ∈ l → r.1.size ≤ 60 ∧ r.2.size ≤ 120
  len : l.length ≤ 10000
theorem KpX.on {w w' : World} {b0 kb : Nat} {s lv : Value} {F : Nat → Prop} {l : List Rec} (h : KpX w b0 kb s lv F l) (hb : Below w.heap.size w w') : KpX w' b0 kb s lv F l where
  box := by
    obtain ⟨v, h1, h2, h3⟩ := h.box
    exact ⟨v, h1.below hb h1.lt, h2.on hb, h3⟩
  own := h.own
  lt := fun k hk => Nat.lt_of_lt_of_le (h.lt k hk) hb.size
  lo := h.lo
  ris := h.ris
  siz := h.siz
  len := h.len
/-- what a put leaves -/
def PutX (w : World) (b0 kb : Nat) (s lv : Value) (F : Nat → Prop) (l : List Rec) (r : Rec) (e : Ending) (w' : World) : Prop := ∃ i, Low l r.1 i ∧ e = .returned .nilIface ∧ ∃ F', KpX w' b0 kb s lv F' (putR l i r) ∧ Only F w w' ∧ ∀ k, F' k → F k ∨ w.heap.size ≤ k
theorem putR_siz {l : List Rec} {i : Nat} {r : Rec} (h : ∀ x, x ∈ l → x.1.size ≤ 60 ∧ x.2.size ≤ 120) (hr : r.1.size ≤ 60 ∧ r.2.size ≤ 120) : ∀ x, x ∈ putR l i r → x.1.size ≤ 60 ∧ x.2.size ≤ 120 := fun x hx => by
  rcases putR_mem hx with rfl | hx
  · exact hr
  · exact h x hx
theorem putR_le {l : List Rec} {i : Nat} {r : Rec} (hi : i ≤ l.length) (h : l.length + 1 ≤ 10000) : (putR l i r).length ≤ 10000 := by
  rw [putR_len hi]
  split <;> omega
set_option maxRecDepth 100000 in
set_option maxHeartbeats 4000000 in
theorem putX_any (b0 kb : Nat) (s lv : Value) (F : Nat → Prop) (l : List Rec) (A A2 : Option Addr) (n c n2 c2 : Nat) (kl vl : List Int) (w : World) (h : KpX w b0 kb s lv F l) (hk : Sl w w.heap.size A n c kl) (hv : Sl w w.heap.size A2 n2 c2 vl) (hyk : Byt kl) (hyv : Byt vl) (h1 : 1 ≤ n) (h40 : n ≤ 40) (h120 : n2 ≤ 120) (hl : l.length + 1 ≤ 10000) :
    Calls Tryz.prog 7 #[.pointer (some ⟨kb, 0, none⟩), .slice A n c, .slice A2 n2 c2] w (PutX w b0 kb s lv F l (strOfNums kl, strOfNums vl)) := by
  have HK := hid h
  have HSk := hid hk
  have HSv := hid hv
  obtain ⟨v, hbox, hrow, hap⟩ := h.box
  obtain ⟨A3, n3, c3, rfl, hln, hnc, hcm, hnil, hat⟩ := hrow.form
  have HRow := hid hrow
  have HBox := hid hbox
  have HAp := hid hap
  have HNil := hid hnil
  have HL3 := hid (And.intro hln hnc)
  have hn3 : (n3 : Int) ≤ 10000 := by omega
  have HLe := hid hl
  obtain ⟨K, hKe⟩ : ∃ K, strOfNums kl = K := ⟨_, rfl⟩
  obtain ⟨V, hVe⟩ : ∃ V, strOfNums vl = V := ⟨_, rfl⟩
  have hKs : K.size ≤ 60 := by rw [← hKe, str_size hyk, hk.len]; omega
  have hVs : V.size ≤ 120 := by rw [← hVe, str_size hyv, hv.len]; omega
  have HSz := hid (And.intro hKs hVs)
  have hq1 : ∀ W, Below w.heap.size w W → (convert 29 9 (.slice A n c)).run Tryz.prog W = .ok (.string K) W := fun W hb => by rw [← hKe]; exact conv_any (hk.below hb)
  have hq2 : ∀ W, Below w.heap.size w W → (convert 29 9 (.slice A2 n2 c2)).run Tryz.prog W = .ok (.string V) W := fun W hb => by rw [← hVe]; exact conv_any (hv.below hb)
  have HQ1 := hid hq1
  have HQ2 := hid hq2
  have h63 : (n : Int) ≤ 40 := by omega
  have h64 : (1 : Int) ≤ (n : Int) := by omega
  have h65 : (n2 : Int) ≤ 120 := by omega
  have hn0 : decide ((n : Int) < 1) = false := by simp; omega
  have hn1 : decide ((40 : Int) < (n : Int)) = false := by simp; omega
  have hn2 : decide ((120 : Int) < (n2 : Int)) = false := by simp; omega
  rw [hKe, hVe]
  clear h hk hv hyk hyv h1 h40 h120 hq1 hq2 hKe hVe hKs hVs hbox hrow hap hnil hat hln hnc hcm
  go_enter Tryz.func7, Tryz.ntmps7
  have hqa := HQ1.out w (Below.refl _ _)
  have hqb := HQ2.out w (Below.refl _ _)
  go_wp2_with fail
  obtain ⟨rb, hrb⟩ : ∃ rb, w.heap.size = rb := ⟨_, rfl⟩
  obtain ⟨W1, hW1⟩ : ∃ W1, w.alloc (.cells #[.string K, .string V] 44) = W1 := ⟨_, rfl⟩
  have HB1 := hid (show Below w.heap.size w W1 from by rw [← hW1]; exact (Below.refl _ _).alloc (Nat.le_refl _) _)
  have HRb := hid (show ArgR W1 rb (K, V) from by rw [← hW1, ← hrb]; exact Blk.new w _ _)
  have HRbs := hid (show w.heap.size = rb from hrb)
  rw [hrb, hW1]
  have hdr := HB1.out.drew
  have HFi := hid (kpFind_any (.slice A3 n3 c3) b0 l K W1.drew (HRow.out.on hdr) HK.out.ris (by have := HK.out.len; omega))
  have HMc := hid (show ∀ w2, Below W1.heap.size W1.drew w2 → w2.cell? ⟨kb, 1, none⟩ = some (.slice A3 n3 c3) ∧ w2.cell? ⟨rb, 0, none⟩ = some (.string K) from fun w2 hb => by
    have h1 := HBox.out.below (hdr.trans (hb.mono hdr.size)) HBox.out.lt
    have h2 := HRb.out.below ((Below.refl W1.heap.size W1).drew.trans hb) HRb.out.lt
    exact ⟨by rw [Blk.cell h1]; rfl, by rw [Blk.cell h2]; rfl⟩)
  have k0 := HMc.out W1.drew (Below.refl _ _)
  clear hW1 hrb hqa hqb hdr
  go_region_held3 (fun w' => w'.cell? ⟨kb, 1, none⟩ = some (.slice A3 n3 c3) ∧ w'.cell? ⟨rb, 0, none⟩ = some (.string K)) (first | exact k0 | exact k2) (first | (go_at_call 13; refine HFi.out.mono ?_; rintro e w2 ⟨i, he, hl2, hb2⟩; have k2 := HMc.out w2 hb2; generalize hbq : isAt l K i = b at he; subst he; have HF := hid (And.intro hl2 (And.intro hb2 hbq)); clear hl2 hb2 hbq))
  have HB2 := hid (show Below W1.heap.size W1 w2 from (Below.refl W1.heap.size W1).drew.trans HF.out.2.1)
  clear k0 k2
  have HRow2 := hid ((HRow.out.on HB1.out).on HB2.out)
  have HBox2 := hid ((HBox.out.below HB1.out HBox.out.lt).below HB2.out (HBox.out.below HB1.out HBox.out.lt).lt)
  have HRb2 := hid (HRb.out.below HB2.out HRb.out.lt)
  have HBw := hid (HB1.out.trans (HB2.out.mono HB1.out.size))
  have c1 : w2.cell? ⟨kb, 1, none⟩ = some (.slice A3 n3 c3) := by rw [Blk.cell HBox2.out]; rfl
  have c2' : w2.cell? ⟨rb, 0, none⟩ = some (.string K) := by rw [Blk.cell HRb2.out]; rfl
  have c3' : w2.cell? ⟨rb, 1, none⟩ = some (.string V) := by rw [Blk.cell HRb2.out]; rfl
  have hi0 : i ≤ n3 := by have := HF.out.1.le; have := HL3.out.1; omega
  cases b
  · obtain ⟨W4, hW4⟩ : ∃ W, (w2.alloc (.cells #[.string K, .string V] 44)).drew = W := ⟨_, rfl⟩
    obtain ⟨vb, hvb⟩ : ∃ vb, w2.heap.size = vb := ⟨_, rfl⟩
    have hb4 : Below w2.heap.size w2 W4 := by rw [← hW4]; exact ((Below.refl _ _).alloc (Nat.le_refl _) _).drew
    have hr4 : ArgR W4 vb (K, V) := by rw [← hW4, ← hvb]; exact (Blk.new w2 _ _).drew
    have HIn := hid (insert_any (.slice A3 n3 c3) b0 vb i l (K, V) W4 (HRow2.out.on hb4) (by have := HK.out.len; omega) (by have h1 := HK.out.lo kb HK.out.own; have h2 := HK.out.lt kb HK.out.own; have h3 := HBw.out.size; have h4 := hb4.size; omega) hr4 (fun k hk => by have := (HRow2.out.lt k hk).2; omega) (by have := HL3.out.1; omega))
    have HB4 := hid hb4
    have HMd := hid (show ∀ w3, W4.grownBy w3 (Value.slice A3 n3 c3).ownBlock → w3.frozen? ⟨kb, 1, none⟩ = false ∧ ∃ u, w3.cell? ⟨kb, 1, none⟩ = some u from fun w3 hg => by
      have h1 := HBox2.out.below HB4.out HBox2.out.lt
      have h2 : Blk w3 kb 51 #[s, .slice A3 n3 c3, lv] := h1.grown hg (fun e => (HAp.out kb e.symm).1 rfl)
      exact ⟨h2.free 1, _, by rw [Blk.cell h2]; rfl⟩)
    have HGo := hid (show ∀ w3 v', KRow w3 b0 v' (l.take i ++ (K, V) :: l.drop i) → W4.grownBy w3 (Value.slice A3 n3 c3).ownBlock → (∀ k, v'.ownBlock = some k → (Value.slice A3 n3 c3).ownBlock = some k ∨ W4.heap.size ≤ k) → PutX w b0 kb s lv F l (K, V) (.returned .nilIface) (w3.setCell ⟨kb, 1, none⟩ v') from fun w3 v' h1 h2 h5 => by
      have e : putR l i (K, V) = l.take i ++ (K, V) :: l.drop i := by unfold putR; rw [if_neg (by rw [HF.out.2.2]; decide)]
      have hp := ris_put (r := (K, V)) HK.out.ris HF.out.1
      have hs := putR_siz (i := i) (r := (K, V)) HK.out.siz HSz.out
      have hlen : (putR l i (K, V)).length ≤ 10000 := putR_le HF.out.1.le HLe.out
      have hbx : Blk w3 kb 51 #[s, .slice A3 n3 c3, lv] := (HBox2.out.below HB4.out HBox2.out.lt).grown h2 (fun e => (HAp.out kb e.symm).1 rfl)
      have hlw : w.heap.size ≤ w3.heap.size := Nat.le_trans HBw.out.size (Nat.le_trans HB4.out.size h2.size)
      have hkl := HK.out.lt kb HK.out.own
      have hne : ∀ k, v'.ownBlock = some k → k ≠ kb := fun k hk e2 => by
        subst e2
        rcases h1.2 with ⟨rfl, _⟩ | ⟨g', cap, cu, rfl, _, hg, _⟩
        · cases hk
        · have e3 : g' = k := by injection hk
          rw [e3] at hg
          have := hg.symm.trans hbx
          injection this with this
          injection this with _ this
          exact absurd this (by decide)
      refine ⟨i, HF.out.1, rfl, fun k => F k ∨ (v'.ownBlock = some k), ?_, ?_, ?_⟩
      · rw [e] at hp hs hlen ⊢
        refine ⟨⟨v', hbx.put 1 v', h1.kept (only_put (only_refl w3 (some kb)) 1 v') hne, fun k hk => ⟨hne k hk, .inr hk⟩⟩, .inl HK.out.own, fun k hk => ?_, fun k hk => hk.elim (HK.out.lo k) (fun hk => (h1.lt k hk).1), hp, hs, hlen⟩
        show k < (w3.setCell _ _).heap.size
        rcases hk with hk | hk
        · have := HK.out.lt k hk
          simp; omega
        · have := (h1.lt k hk).2
          simp; omega
      · refine Only.put (p := ⟨kb, 1, none⟩) ?_ HK.out.own _
        exact ⟨h2.os.trans (HB4.out.os.trans HBw.out.os), h2.tape.trans (HB4.out.tape.trans HBw.out.tape), h2.output.trans (HB4.out.output.trans HBw.out.output), hlw, fun k hk hkF => by
          have s1 := HBw.out.size
          have s2 := HB4.out.size
          rw [h2.block k (by omega) (fun e => hkF (HAp.out k e.symm).2), HB4.out.block k (by omega), HBw.out.block k hk]⟩
      · rintro k (hk | hk)
        · exact .inl hk
        · rcases h5 k hk with h | h
          · exact .inl (HAp.out k h).2
          · have s1 := HBw.out.size
            have s2 := HB4.out.size
            exact .inr (by omega))
    clear hb4 hr4
    subst hW4
    subst hvb
    have a1 : (w2.alloc (.cells #[.string K, .string V] 44)).cell? ⟨kb, 1, none⟩ = some (.slice A3 n3 c3) := (Blk.cell (HBox2.out.below HB4.out HBox2.out.lt) 1).trans rfl
    have a2 : (w2.alloc (.cells #[.string K, .string V] 44)).cell? ⟨rb, 0, none⟩ = some (.string K) := (Blk.cell (HRb2.out.below HB4.out HRb2.out.lt) 0).trans rfl
    have a3 : (w2.alloc (.cells #[.string K, .string V] 44)).cell? ⟨rb, 1, none⟩ = some (.string V) := (Blk.cell (HRb2.out.below HB4.out HRb2.out.lt) 1).trans rfl
    go_wp2
    go_region_law (first | (go_simp; go_at_call 14; refine HIn.out.mono ?_; rintro e w3 ⟨v', rfl, h1, h2, h5⟩; obtain ⟨fz, u, hu⟩ := HMd.out w3 h2; have HF3 := hid (HGo.out w3 v' h1 h2 h5); obtain ⟨A5, n5, c5, rfl, _⟩ := h1.form; clear h1 h2 h5))
    all_goals (go_wp2; go_ret; exact HF3.out)
  · obtain ⟨x, hx, hxk⟩ := isAt_some HF.out.2.2
    have hin : i < n3 := by have := (List.getElem?_eq_some_iff.1 hx).1; have := HL3.out.1; omega
    cases A3 with
    | none => exact absurd (HNil.out rfl).1 (by omega)
    | some ad =>
    obtain ⟨g, rfl⟩ := krow_addr HRow2.out
    obtain ⟨d0, d1, f0, f1⟩ := HRow2.out.cells hx
    have hin2 : (i : Int) < n3 := by omega
    have HFin := hid (show PutX w b0 kb s lv F l (K, V) (.returned .nilIface) ((w2.setCell ⟨g, i * 2, none⟩ (.string K)).setCell ⟨g, i * 2 + 1, none⟩ (.string V)).drew from by
      refine ⟨i, HF.out.1, rfl, F, ?_, ?_, fun k hk => .inl hk⟩
      · have hgF := HAp.out g rfl
        have e : putR l i (K, V) = l.set i (K, V) := by unfold putR; rw [HF.out.2.2]; rfl
        have hrow3 := HRow2.out.put (r := (K, V)) HL3.out.1 hin
        have hp := ris_put (r := (K, V)) HK.out.ris HF.out.1
        have hs := putR_siz (i := i) (r := (K, V)) HK.out.siz HSz.out
        have hlen : (putR l i (K, V)).length ≤ 10000 := putR_le HF.out.1.le HLe.out
        rw [e] at hp hs hlen
        rw [e]
        refine ⟨⟨_, ?_, hrow3, fun k hk => HAp.out k hk⟩, HK.out.own, fun k hk => ?_, HK.out.lo, hp, hs, hlen⟩
        · exact ((HBox2.out.far (p := ⟨g, i * 2, none⟩) (fun e => hgF.1 e.symm) _).far (p := ⟨g, i * 2 + 1, none⟩) (fun e => hgF.1 e.symm) _).drew
        · have := HK.out.lt k hk
          have := HBw.out.size
          show k < ((w2.setCell _ _).setCell _ _).heap.size
          simp
          omega
      · exact (((Only.of_below HBw.out).put (HAp.out g rfl).2 _).put (HAp.out g rfl).2 _).drew)
    clear hx hxk
    go_wp2
    go_region
    go_wp2
    go_ret
    exact HFin.out
theorem Kp.x {w : World} {b0 kb : Nat} {F : Nat → Prop} {l : List Rec} (h : Kp w b0 kb F l) : ∃ s lv, KpX w b0 kb s lv F l := by
  obtain ⟨s, v, lv, h1⟩ := h.box
  exact ⟨s, lv, ⟨v, h1⟩, h.own, h.lt, h.lo, h.ris, h.siz, h.len⟩
theorem KpX.kp {w : World} {b0 kb : Nat} {s lv : Value} {F : Nat → Prop} {l : List Rec} (h : KpX w b0 kb s lv F l) : Kp w b0 kb F l := by
  obtain ⟨v, h1⟩ := h.box
  exact ⟨⟨s, v, lv, h1⟩, h.own, h.lt, h.lo, h.ris, h.siz, h.len⟩
theorem put_any (b0 kb : Nat) (F : Nat → Prop) (l : List Rec) (A A2 : Option Addr) (n c n2 c2 : Nat) (kl vl : List Int) (w : World) (h : Kp w b0 kb F l) (hk : Sl w w.heap.size A n c kl) (hv : Sl w w.heap.size A2 n2 c2 vl) (hyk : Byt kl) (hyv : Byt vl) (h1 : 1 ≤ n) (h40 : n ≤ 40) (h120 : n2 ≤ 120) (hl : l.length + 1 ≤ 10000) :
    Calls Tryz.prog 7 #[.pointer (some ⟨kb, 0, none⟩), .slice A n c, .slice A2 n2 c2] w (PutO w b0 kb F l (strOfNums kl, strOfNums vl)) := by
  obtain ⟨s, lv, hx⟩ := h.x
  refine (putX_any b0 kb s lv F l A A2 n c n2 c2 kl vl w hx hk hv hyk hyv h1 h40 h120 hl).mono ?_
  rintro e w' ⟨i, k1, k2, F', k3, k4, _⟩
  exact ⟨i, k1, k2, F', k3.kp, k4⟩
end Go.Proofs.YtkhdgacjgccnnaaGreatDoor
namespace Go.Proofs.YtkhdgacjgccnnaaGreatDoor
open Go.RowKit

theorem Tryz.infoPr : (Tryz.prog.info? 40).map (fun i => (i.zero, i.size, i.bytes)) = some (some (.agg #[.slice none 0 0, .slice none 0 0]), 2, 48) := by kernel_rfl
/-- the pairs handed out -/
def ScanO (w : World) (l : List Rec) (e : Ending) (w' : World) : Prop := ∃ v, e = .returned v ∧ PrsAt w' v l ∧ Below w.heap.size w w'
theorem prsAt_nil (w : World) : PrsAt w (.slice none 0 0) [] := ⟨0, [], ⟨rfl, .inl ⟨rfl, rfl⟩⟩, prsOf_nil _ _⟩
set_option maxRecDepth 100000 in
set_option maxHeartbeats 4000000 in
theorem scan_any (b0 kb : Nat) (F : Nat → Prop) (l : List Rec) (A A2 : Option Addr) (n c n2 c2 bg en : Nat) (fl tl : List Int) (w : World) (h : Kp w b0 kb F l) (hf : Sl w w.heap.size A n c fl) (ht : Sl w w.heap.size A2 n2 c2 tl) (hbg : Low l (strOfNums fl) bg) (hen : (n2 = 0 ∧ en = l.length) ∨ (0 < n2 ∧ Low l (strOfNums tl) en)) (hle : bg ≤ en) :
    Calls Tryz.prog 11 #[.pointer (some ⟨kb, 0, none⟩), .slice A n c, .slice A2 n2 c2] w (ScanO w ((l.drop bg).take (en - bg))) := by
  have HK := hid h
  have HF := hid hf
  have HT := hid ht
  obtain ⟨s, v, lv, hbox, hrow, hap⟩ := h.box
  obtain ⟨A3, n3, c3, rfl, hln, hnc, hcm, hnil, hat⟩ := hrow.form
  have HRow := hid hrow
  have HBox := hid hbox
  have HNil := hid hnil
  have HL3 := hid (And.intro hln hnc)
  have hlen := h.len
  have hn3 : (n3 : Int) ≤ 10000 := by omega
  have hc3 : (c3 : Int) ≤ 9223372036854775807 := by unfold maxLen at hcm; omega
  have hen3 : en ≤ n3 := by
    rcases hen with ⟨_, h1⟩ | ⟨_, h1⟩
    · omega
    · have := h1.le; omega
  have HLow := hid hbg
  obtain ⟨K, hKe⟩ : ∃ K, strOfNums fl = K := ⟨_, rfl⟩
  have HQ1 := hid (show ∀ W, Below w.heap.size w W → (convert 29 9 (.slice A n c)).run Tryz.prog W = .ok (.string K) W from fun W hb => by rw [← hKe]; exact conv_any (hf.below hb))
  have HLow := hid (show Low l K bg from by rw [← hKe]; exact hbg)
  have HBoxL := hid (show kb < w.heap.size from hbox.lt)
  have k0 : w.drew.cell? ⟨kb, 1, none⟩ = some (.slice A3 n3 c3) ∧ (convert 29 9 (.slice A n c)).run Tryz.prog w.drew = .ok (.string K) w.drew := ⟨by rw [Blk.cell hbox.drew]; rfl, HQ1.out _ (Below.refl _ _).drew⟩
  have HFi := hid (kpFind_any (.slice A3 n3 c3) b0 l K w.drew (hrow.on (Below.refl _ _).drew) h.ris (by omega))
  have HEn := hid hen
  clear h hf ht hbox hrow hap hnil hat hbg hen hlen hln hnc hcm hKe
  go_enter Tryz.func11, Tryz.ntmps11
  go_upto_region 1 with fail
  go_region_held3 (fun w' => w'.cell? ⟨kb, 1, none⟩ = some (.slice A3 n3 c3) ∧ (convert 29 9 (.slice A n c)).run Tryz.prog w' = .ok (.string K) w') (first | exact k0 | exact k2) (first | (go_at_call 13; refine HFi.out.mono ?_; rintro e w2 ⟨i, he, hl2, hb2⟩; obtain rfl := HLow.out.eq hl2; have k2 := And.intro ((Blk.cell (HBox.out.below ((Below.refl w.heap.size w).drew.trans hb2) HBoxL.out) 1).trans (rfl : _ = some (Value.slice A3 n3 c3))) (HQ1.out w2 ((Below.refl w.heap.size w).drew.trans hb2)); generalize hbq : isAt l K bg = b at he; subst he; have HB2 := hid (show Below w.heap.size w w2 from (Below.refl w.heap.size w).drew.trans hb2); clear hl2 hb2 hbq))
  clear HF HFi k0 k2
  have k1 : w2.cell? ⟨kb, 1, none⟩ = some (.slice A3 n3 c3) := (Blk.cell (HBox.out.below HB2.out HBoxL.out) 1).trans rfl
  have hle2 := hid hle
  have hbi : (0 : Int) ≤ (bg : Int) := by omega
  rcases HEn.out with ⟨h0, he0⟩ | ⟨h0, he0⟩
  focus
    have g0 : decide (0 < n2) = false := by simp; omega
    have hen0 : n3 = en := by have := HL3.out.1; omega
    clear h0 he0
    go_upto_region 5 with fail
    rw [hen0]
    have HB3 := hid HB2.out
    rename World => w3
    have k3 : w3.cell? ⟨kb, 1, none⟩ = some (.slice A3 n3 c3) := k1
    clear k1 hen0 g0 hle2
    skip
  rotate_left
  focus
    have g0 : decide (0 < n2) = true := by simp; omega
    obtain ⟨K2, hKe2⟩ : ∃ K, strOfNums tl = K := ⟨_, rfl⟩
    have HQ2 := hid (show ∀ W, Below w.heap.size w W → (convert 29 9 (.slice A2 n2 c2)).run Tryz.prog W = .ok (.string K2) W from fun W hb => by rw [← hKe2]; exact conv_any (HT.out.below hb))
    have HLow2 := hid (show Low l K2 en from by rw [← hKe2]; exact he0)
    have HFi2 := hid (kpFind_any (.slice A3 n3 c3) b0 l K2 w2.drew ((HRow.out.on HB2.out).on (Below.refl _ _).drew) HK.out.ris (by have := HK.out.len; omega))
    have k0 : w2.drew.cell? ⟨kb, 1, none⟩ = some (.slice A3 n3 c3) ∧ (convert 29 9 (.slice A2 n2 c2)).run Tryz.prog w2.drew = .ok (.string K2) w2.drew := ⟨k1, HQ2.out _ HB2.out.drew⟩
    clear h0 he0 hKe2
    go_upto_region 4 with fail
    go_region_held3 (fun w' => w'.cell? ⟨kb, 1, none⟩ = some (.slice A3 n3 c3) ∧ (convert 29 9 (.slice A2 n2 c2)).run Tryz.prog w' = .ok (.string K2) w') (first | exact k0 | exact k3) (first | (go_at_call 13; refine HFi2.out.mono ?_; rintro e w3 ⟨i, he, hl2, hb2⟩; obtain rfl := HLow2.out.eq hl2; have HB3 := hid (show Below w.heap.size w w3 from HB2.out.trans (((Below.refl w2.heap.size w2).drew.trans hb2).mono HB2.out.size)); have k3 := And.intro ((Blk.cell (HBox.out.below HB3.out HBoxL.out) 1).trans (rfl : _ = some (Value.slice A3 n3 c3))) (HQ2.out w3 HB3.out); generalize hbq : isAt l K2 en = b at he; subst he; clear hl2 hb2 hbq))
    replace k3 : w3.cell? ⟨kb, 1, none⟩ = some (.slice A3 n3 c3) := k3.1
    clear k0 g0 k1 hle2
    skip
  all_goals
    have HRow3 := hid (HRow.out.on HB3.out)
    by_cases hbe : bg < en
    · cases A3 with
      | none => exact absurd (HNil.out rfl).1 (by omega)
      | some ad =>
      obtain ⟨g, rfl⟩ := krow_addr HRow3.out
      have hcb : ¬ (c3 = bg) := by have := HL3.out; omega
      have hbe1 : (bg : Int) < (en : Int) := by omega
      have hbe2 : (bg : Int) ≤ (en : Int) := by omega
      have hen4 : (en : Int) ≤ (n3 : Int) := by omega
      have hen5 : (en : Int) ≤ (c3 : Int) := by have := HL3.out; omega
      have HM := hid (show ∃ m, en - bg = m from ⟨_, rfl⟩)
      obtain ⟨m, hm⟩ : ∃ m, en - bg = m := ⟨_, rfl⟩
      have hme : (en : Int) - (bg : Int) = (m : Int) := by omega
      have HMe := hid (show bg + m = en from by omega)
      have hm1 : (m : Int) ≤ 10000 := by omega
      rw [hm]
      go_wp2_with fail
      rw [hm]
      go_loopw [10, 51] (fun ov iv wr => ∃ (k : Nat) (xs : List Value), iv = .int .i64 (k : Int) ∧ k ≤ m ∧ wr.ownsRow w.heap.size 40 2 ov k xs ∧ PrsOf wr xs ((l.drop bg).take k) ∧ Below w.heap.size w wr) (fun _ iv _ => m - (intOf iv).toNat)
      case atStart => exact ⟨0, [], rfl, Nat.zero_le _, ⟨rfl, .inl ⟨rfl, rfl⟩⟩, by simpa using prsOf_nil _ _, HB3.out⟩
      case round =>
        obtain ⟨k, xs, rfl, hkm, hown, hprs, hbw⟩ := hrel
        have HOw := hid hown
        have HPr := hid hprs
        have HBw := hid hbw
        clear hown hprs hbw
        by_cases hlt : k < m
        · obtain ⟨⟨K5, V5⟩, hx⟩ : ∃ x, l[bg + k]? = some x := ⟨_, List.getElem?_eq_getElem (by have := HL3.out.1; have := HMe.out; omega)⟩
          obtain ⟨d0', d1', _, _⟩ := (HRow.out.on HBw.out).cells hx
          rw [show (bg + k) * 2 = bg * 2 + k * 2 by omega] at d0' d1'
          have d0 : wr.cell? ⟨g, bg * 2 + k * 2, none⟩ = some (.string K5) := d0'
          have d1 : wr.cell? ⟨g, bg * 2 + k * 2 + 1, none⟩ = some (.string V5) := d1'
          clear d0' d1'
          have hkm2 : (k : Int) < (m : Int) := by omega
          have HTk := hid (show (l.drop bg).take (k + 1) = (l.drop bg).take k ++ [(K5, V5)] from by rw [List.take_add_one, List.getElem?_drop, hx]; rfl)
          have HSz := hid (HK.out.siz _ (List.mem_of_getElem? hx))
          clear hx
          go_upto_region 9 with fail
          clear d0 d1
          obtain ⟨rb, hrb⟩ : ∃ rb, wr.heap.size = rb := ⟨_, rfl⟩
          obtain ⟨W5, hW5⟩ : ∃ W, wr.alloc (.cells #[.string K5, .string V5] 44) = W := ⟨_, rfl⟩
          have z1 : Below wr.heap.size wr W5 := by rw [← hW5]; exact (Below.refl _ _).alloc (Nat.le_refl _) _
          have z2 : ArgR W5 rb (K5, V5) := by rw [← hW5, ← hrb]; exact Blk.new wr _ _
          rw [hrb, hW5]
          obtain ⟨C1, W6, hq1, hs1, hb1, hz1⟩ := conv_str W5 K5 (by have := HSz.out.1; have h : K5.size ≤ 60 := this; omega)
          obtain ⟨C2, W7, hq2, hs2, hb2, hz2⟩ := conv_str W6 V5 (by have := HSz.out.2; have h : V5.size ≤ 120 := this; omega)
          have e0 : W5.cell? ⟨rb, 0, none⟩ = some (.string K5) := by rw [Blk.cell z2]; rfl
          have e1 : W6.cell? ⟨rb, 1, none⟩ = some (.string V5) := by rw [Blk.cell (z2.below hb1 z2.lt)]; rfl
          obtain ⟨b1, hb1e⟩ : ∃ b, W5.heap.size = b := ⟨_, rfl⟩
          obtain ⟨b2, hb2e⟩ : ∃ b, W6.heap.size = b := ⟨_, rfl⟩
          have z3 : Below wr.heap.size wr W6 := z1.trans (hb1.mono z1.size)
          have z4 : Below wr.heap.size wr W7 := z3.trans (hb2.mono z3.size)
          have z5 : StrAt W7 b1 K5.size C1 K5 := by rw [← hb1e]; exact hs1.on hb2
          have z6 : StrAt W7 b2 V5.size C2 V5 := by rw [← hb2e]; exact hs2
          rw [hb1e] at hq1
          rw [hb2e] at hq2
          obtain ⟨pv, hpv⟩ : ∃ pv : List Value, [Value.slice (some ⟨b1, 0, none⟩) K5.size C1, Value.slice (some ⟨b2, 0, none⟩) V5.size C2] = pv := ⟨_, rfl⟩
          obtain ⟨W8, hW8⟩ : ∃ W, W7.alloc (.cells #[.slice (some ⟨b1, 0, none⟩) K5.size C1, .slice (some ⟨b2, 0, none⟩) V5.size C2] 40) = W := ⟨_, rfl⟩
          have z7 : Below W7.heap.size W7 W8 := by rw [← hW8]; exact (Below.refl _ _).alloc (Nat.le_refl _) _
          have z8 : Below wr.heap.size wr W8 := z4.trans (z7.mono z4.size)
          have z9 : Blk W8 W7.heap.size 40 #[.slice (some ⟨b1, 0, none⟩) K5.size C1, .slice (some ⟨b2, 0, none⟩) V5.size C2] := by rw [← hW8]; exact Blk.new W7 _ _
          have HO8 := hid (show W8.ownsRow w.heap.size 40 2 u10 k xs from World.ownsRow.kept HOw.out (only_below z8 none) (by cases hv : u10.ownBlock <;> simp))
          have HBw8 := hid (show Below w.heap.size w W8 from HBw.out.trans (z8.mono HBw.out.size))
          have HP8 := hid (show PrsOf W8 (xs ++ [.slice (some ⟨b1, 0, none⟩) K5.size C1, .slice (some ⟨b2, 0, none⟩) V5.size C2]) ((l.drop bg).take (k + 1)) from by
            rw [HTk.out]
            refine (HPr.out.on z8).add (x := (K5, V5)) ?_ (z5.on z7) (z6.on z7)
            rw [HOw.out.1, List.length_take, List.length_drop]
            have := HL3.out.1
            have := HMe.out
            omega)
          have HCc := hid (show ∀ j u, ([.slice (some ⟨b1, 0, none⟩) K5.size C1, .slice (some ⟨b2, 0, none⟩) V5.size C2] : List Value)[j]? = some u → W8.cell? ((⟨W7.heap.size, 0, none⟩ : Addr).add j) = some u from fun j u hu => by
            rw [add0, Blk.cell z9]
            simp only [List.getElem?_toArray]
            exact hu)
          have HFr := hid (show ∀ v' w9, w9.ownsRow w.heap.size 40 2 v' (k + 1) (xs ++ [.slice (some ⟨b1, 0, none⟩) K5.size C1, .slice (some ⟨b2, 0, none⟩) V5.size C2]) → W8.grownBy w9 u10.ownBlock → PrsOf w9 (xs ++ [.slice (some ⟨b1, 0, none⟩) K5.size C1, .slice (some ⟨b2, 0, none⟩) V5.size C2]) ((l.drop bg).take (k + 1)) ∧ Below w.heap.size w w9 from fun v' w9 h1 h2 =>
            ⟨HP8.out.kept HO8.out h2, HBw8.out.grown h2 HBw8.out.size (fun q hq => (HO8.out.lt q hq).1)⟩)
          have HBs := hid HBw8.out.size
          have HOne := hid (show ∀ u ∈ [Value.slice (some ⟨b1, 0, none⟩) K5.size C1, Value.slice (some ⟨b2, 0, none⟩) V5.size C2], u.oneCell' = true from fun u hu => by
            simp only [List.mem_cons, List.not_mem_nil, or_false] at hu
            rcases hu with rfl | rfl <;> rfl)
          have HK3 := hid (show k + 1 ≤ maxLen from by unfold maxLen; omega)
          have HK4 := hid (show (k + 1) * 48 ≤ 140737488355328 from by omega)
          clear z1 z2 z3 z4 z5 z6 z7 z8 z9 hs1 hs2 hb1 hb2 hz1 hz2 hb1e hb2e hrb hW5 hpv
          obtain ⟨i0, hi, hz0, hz1, hz2⟩ := info_parts Tryz.infoPr
          go_wp2_with (at_builtin; refine wpList_append_own _ rfl _ _ 37 rfl w.heap.size 40 i0 (.agg #[.slice none 0 0, .slice none 0 0]) 2 48 Tryz.underlying37 hi hz0 hz1 hz2 rfl (by decide) _ k xs rfl HO8.out ⟨W7.heap.size, 0, none⟩ 1 1 [.slice (some ⟨b1, 0, none⟩) K5.size C1, .slice (some ⟨b2, 0, none⟩) V5.size C2] rfl rfl HCc.out HOne.out HK3.out HK4.out HBs.out ?_)
          intro v' w9 h1 h2 _
          have HN := hid (And.intro h1 (HFr.out v' w9 h1 h2))
          clear h1 h2
          go_wp2
          go_roundw
          case rel => exact ⟨k + 1, _, by go_num, by omega, HN.out.1, HN.out.2.1, HN.out.2.2⟩
          case measure => simp [intOf]; omega
        · obtain rfl : k = m := by omega
          have hkk : decide (k < k) = false := by simp
          have HFi3 := hid (show ScanO w ((l.drop bg).take (en - bg)) (.returned u10) wr from (by rw [show en - bg = k by have := HMe.out; omega]; exact ⟨u10, rfl, ⟨w.heap.size, xs, by
            have e : ((l.drop bg).take k).length = k := by
              have := HL3.out.1
              have := HMe.out
              rw [List.length_take, List.length_drop]
              omega
            rw [e]
            exact HOw.out, HPr.out⟩, HBw.out⟩))
          go_wp2
          go_ret
          exact HFi3.out
    · obtain rfl : bg = en := by omega
      have HNo := hid (show ScanO w ((l.drop bg).take (bg - bg)) (.returned (.slice none 0 0)) w3 from ⟨_, rfl, by rw [Nat.sub_self, List.take_zero]; exact prsAt_nil _, HB3.out⟩)
      have hm0 : bg - bg = 0 := Nat.sub_self _
      have hbe2 : (bg : Int) ≤ (n3 : Int) := by omega
      have hbe3 : (bg : Int) ≤ (c3 : Int) := by have := HL3.out; omega
      cases A3 with
      | none =>
        have e1 : bg = 0 := by have := (HNil.out rfl).1; omega
        have e2 : c3 = 0 := (HNil.out rfl).2
        have hcb : c3 = bg := by omega
        go_wp2
        go_loopw [10, 51] (fun ov iv wr => ov = .slice none 0 0 ∧ iv = .int .i64 0 ∧ wr = w3) (fun _ _ _ => 0)
        case atStart => exact ⟨rfl, rfl, rfl⟩
        case round =>
          obtain ⟨rfl, rfl, rfl⟩ := hrel
          go_wp2
          go_ret
          exact HNo.out
      | some ad =>
        obtain ⟨g, rfl⟩ := krow_addr HRow3.out
        by_cases hcb : c3 = bg
        all_goals
          go_wp2
          go_loopw [10, 51] (fun ov iv wr => ov = .slice none 0 0 ∧ iv = .int .i64 0 ∧ wr = w3) (fun _ _ _ => 0)
          case atStart => exact ⟨rfl, rfl, rfl⟩
          case round =>
            obtain ⟨rfl, rfl, rfl⟩ := hrel
            go_wp2
            go_ret
            exact HNo.out
end Go.Proofs.YtkhdgacjgccnnaaGreatDoor
namespace Go.Proofs.YtkhdgacjgccnnaaGreatDoor
open Go.RowKit

set_option maxRecDepth 100000 in
set_option maxHeartbeats 1000000 in
theorem len64_0 (w : World) : Calls Tryz.prog 148 #[.int .u64 0] w fun e w' => e = .returned (.int .i64 0) ∧ w' = w := by
  have h8 : Lib.len8 0 = 0 := by decide
  go_enter Tryz.func148, Tryz.ntmps148
  go_wp2
  go_ret
  exact ⟨rfl, rfl⟩
set_option maxRecDepth 100000 in
set_option maxHeartbeats 1000000 in
theorem bitsLen_0 (w : World) : Calls Tryz.prog 113 #[.int .u64 0] w fun e w' => e = .returned (.int .i64 0) ∧ w' = w := by
  go_enter Tryz.func113, Tryz.ntmps113
  go_wp2_with fail
  refine (len64_0 _).mono ?_
  rintro e w1 ⟨rfl, rfl⟩
  go_wp2
  go_ret
  exact ⟨rfl, rfl⟩
set_option maxRecDepth 100000 in
set_option maxHeartbeats 1000000 in
theorem insSort_0 (v : Value) (w : World) : Calls Tryz.prog 139 #[v, .int .i64 0, .int .i64 0, .func (.func 71) #[] #[]] w fun e w' => e = .returned (.tuple #[]) ∧ w' = w := by
  go_enter Tryz.func139, Tryz.ntmps139
  go_wp2
  go_loopw [8] (fun iv wr => iv = .int .i64 1 ∧ wr = w) (fun _ _ => 0)
  case atStart => exact ⟨rfl, rfl⟩
  case round =>
    obtain ⟨rfl, rfl⟩ := hrel
    go_wp2
    go_end0
    exact ⟨rfl, rfl⟩
set_option maxRecDepth 100000 in
set_option maxHeartbeats 1000000 in
theorem pdq_0 (v : Value) (w : World) : Calls Tryz.prog 112 #[v, .int .i64 0, .int .i64 0, .int .i64 0, .func (.func 71) #[] #[]] w fun e w' => e = .returned (.tuple #[]) ∧ w' = w := by
  go_enter Tryz.func112, Tryz.ntmps112
  go_wp2
  go_loopw [1, 2, 3, 10, 11] (fun a b c d e wr => a = .int .i64 0 ∧ b = .int .i64 0 ∧ c = .int .i64 0 ∧ d = .bool true ∧ e = .bool true ∧ wr = w) (fun _ _ _ _ _ _ => 0)
  case atStart => exact ⟨rfl, rfl, rfl, rfl, rfl, rfl⟩
  case round =>
    obtain ⟨rfl, rfl, rfl, rfl, rfl, rfl⟩ := hrel
    go_wp2_with fail
    refine (insSort_0 _ _).mono ?_
    rintro e w1 ⟨rfl, rfl⟩
    go_wp2
    refine bodyPost_ret (results_none rfl _ _ _) rfl ?_
    exact ⟨rfl, rfl⟩
set_option maxRecDepth 100000 in
set_option maxHeartbeats 1000000 in
theorem sortFunc_0 (w : World) : Calls Tryz.prog 70 #[.slice none 0 0, .func (.func 71) #[] #[]] w fun e w' => e = .returned (.tuple #[]) ∧ w' = w := by
  go_enter Tryz.func70, Tryz.ntmps70
  go_wp2_with fail
  refine (bitsLen_0 _).mono ?_
  rintro e w1 ⟨rfl, rfl⟩
  go_wp2_with fail
  refine (pdq_0 _ _).mono ?_
  rintro e w1 ⟨rfl, rfl⟩
  go_wp2
  go_end0
  exact ⟨rfl, rfl⟩
set_option maxRecDepth 100000 in
set_option maxHeartbeats 1000000 in
theorem recordsOf_0 (w : World) : Calls Tryz.prog 16 #[.slice none 0 0] w fun e w' => e = .returned (.slice none 0 0) ∧ w' = w := by
  go_enter Tryz.func16, Tryz.ntmps16
  go_wp2
  go_loopw [3, 8] (fun a b wr => a = .slice none 0 0 ∧ b = .int .i64 0 ∧ wr = w) (fun _ _ _ => 0)
  case atStart => exact ⟨rfl, rfl, rfl⟩
  case round =>
    obtain ⟨rfl, rfl, rfl⟩ := hrel
    go_wp2
    go_ret
    exact ⟨rfl, rfl⟩
set_option maxRecDepth 100000 in
set_option maxHeartbeats 1000000 in
theorem rising_0 (w : World) : Calls Tryz.prog 72 #[.slice none 0 0] w fun e w' => e = .returned (.bool true) ∧ w' = w := by
  go_enter Tryz.func72, Tryz.ntmps72
  go_wp2
  go_loopw [3, 8] (fun a b wr => b = .int .i64 0 ∧ wr = w) (fun _ _ _ => 0)
  case atStart => exact ⟨rfl, rfl⟩
  case round =>
    obtain ⟨rfl, rfl⟩ := hrel
    go_wp2
    go_ret
    exact ⟨rfl, rfl⟩
section
variable {Real : World → Nat → DSt → (Nat → Prop) → Prop} {PR : World → Nat → Nat → Nat → Nat → (Nat → Prop) → Prop} {S : Nat → Addr} {w0 : World} {d g n q mk : Nat} {T : Nat → Prop} {s : DSt}
set_option maxRecDepth 100000 in
set_option maxHeartbeats 4000000 in
theorem leavesOf_new (w : World) (h : Shop Real PR S w0 w d g n q mk T s (noPS 0) noChg) (hk : Keeps s n q (noPS 0) (fun _ => none)) :
    Calls Tryz.prog 38 #[.pointer (some ⟨g, 0, none⟩)] w fun e w' => e = .returned (.tuple #[.slice none 0 0, .nilIface]) ∧ Below w.heap.size w w' := by
  have HPg := hid (sh_pages h)
  have HNo := hid (pages_none hk.fine (ch := noChg) (fun i => by rw [noChg_cont]))
  clear h hk
  go_enter Tryz.func38, Tryz.ntmps38
  go_wp2_with fail
  refine HPg.out.mono ?_
  rw [HNo.out]
  rintro e w1 ⟨v, rfl, hown, hb⟩
  obtain ⟨A, c, rfl, _⟩ := hown.form
  have HB := hid hb
  clear hown hb
  have h0 : (natsI []).length = 0 := rfl
  rw [h0]
  go_wp2
  go_loopw [5, 19] (fun a b wr => a = .slice none 0 0 ∧ b = .int .i64 0 ∧ wr = w1) (fun _ _ _ => 0)
  case atStart => exact ⟨rfl, rfl, rfl⟩
  case round =>
    obtain ⟨rfl, rfl, rfl⟩ := hrel
    go_wp2
    go_loopw [10, 39] (fun a b wx => a = .slice none 0 0 ∧ b = .int .i64 0 ∧ wx = wr) (fun _ _ _ => 0)
    case atStart => exact ⟨rfl, rfl, rfl⟩
    case round =>
      obtain ⟨rfl, rfl, rfl⟩ := hrel
      go_wp2_with fail
      refine (sortFunc_0 _).mono ?_
      rintro e w2 ⟨rfl, rfl⟩
      go_wp2_with fail
      refine (recordsOf_0 _).mono ?_
      rintro e w3 ⟨rfl, rfl⟩
      go_wp2_with fail
      refine (rising_0 _).mono ?_
      rintro e w4 ⟨rfl, rfl⟩
      go_wp2
      go_ret2
      exact ⟨rfl, HB.out⟩
end
end Go.Proofs.YtkhdgacjgccnnaaGreatDoor
namespace Go.Proofs.YtkhdgacjgccnnaaGreatDoor
open Go.RowKit

theorem kp_new {w : World} {B kb : Nat} {s lv : Value} (h : Blk w kb 51 #[s, .slice none 0 0, lv]) (hB : B ≤ kb) : Kp w B kb (fun k => k = kb) [] where
  box := ⟨s, .slice none 0 0, lv, h, krow_nil w B, fun k hk => by cases hk⟩
  own := rfl
  lt := fun k hk => by subst hk; exact h.lt
  lo := fun k hk => by subst hk; exact hB
  ris := List.Pairwise.nil
  siz := fun r h => by cases h
  len := Nat.zero_le _
section
variable {Real : World → Nat → DSt → (Nat → Prop) → Prop} {PR : World → Nat → Nat → Nat → Nat → (Nat → Prop) → Prop} {S : Nat → Addr} {w0 : World} {d g n q mk : Nat} {T : Nat → Prop} {s : DSt}
set_option maxRecDepth 100000 in
set_option maxHeartbeats 4000000 in
theorem kpOpen_new (D : DevOk Real) (O : PairOk Real PR) (w : World) (h : Shop Real PR S w0 w d g n q mk T s (noPS 0) noChg) (hk : Keeps s n q (noPS 0) (fun _ => none)) :
    Calls Tryz.prog 22 #[.pointer (some ⟨g, 0, none⟩)] w fun e w' => ∃ kb T', e = .returned (.tuple #[.pointer (some ⟨kb, 0, none⟩), .nilIface]) ∧ Kp w' w.heap.size kb (fun k => k = kb) [] ∧ Shop Real PR S w0 w' d g n q mk T' s (noPS 0) noChg ∧ ¬ T' kb ∧ Only T w w' := by
  have HAb := hid (sh_abort D O h)
  have HD := hid D
  have HO := hid O
  have HK := hid hk
  clear D O h hk
  go_enter Tryz.func22, Tryz.ntmps22
  go_wp2_with fail
  refine HAb.out.mono ?_
  rintro e w1 ⟨rfl, T1, hsh, ho, ht⟩
  have HSh1 := hid hsh
  have HOn1 := hid ho
  clear hsh ho ht
  go_wp2_with fail
  refine (leavesOf_new w1 HSh1.out HK.out).mono ?_
  rintro e w2 ⟨rfl, hb⟩
  have HSh2 := hid (HSh1.out.on HD.out HO.out hb)
  have HOn2 := hid (HOn1.out.then_below hb)
  clear hb
  go_wp2_with fail
  refine (recordsOf_0 _).mono ?_
  rintro e w3 ⟨rfl, rfl⟩
  obtain ⟨W, hW⟩ : ∃ W, w3.alloc (.cells #[.pointer (some ⟨g, 0, none⟩), .slice none 0 0, .slice none 0 0] 51) = W := ⟨_, rfl⟩
  have z1 : Below w3.heap.size w3 W := by rw [← hW]; exact (Below.refl _ _).alloc (Nat.le_refl _) _
  have z2 : Blk W w3.heap.size 51 #[.pointer (some ⟨g, 0, none⟩), .slice none 0 0, .slice none 0 0] := by rw [← hW]; exact Blk.new w3 _ _
  have HF := hid (show Kp W w.heap.size w3.heap.size (fun k => k = w3.heap.size) [] ∧ Shop Real PR S w0 W d g n q mk T1 s (noPS 0) noChg ∧ ¬ T1 w3.heap.size ∧ Only T w W from ⟨kp_new z2 HOn2.out.size, HSh2.out.on HD.out HO.out z1, fun hk => Nat.lt_irrefl _ (HSh2.out.lt HD.out HO.out _ hk), HOn2.out.then_below z1⟩)
  clear z1 z2
  go_wp2
  go_ret2
  first
    | exact ⟨_, _, rfl, HF.out⟩
    | (rw [hW]; exact ⟨_, _, rfl, HF.out⟩)
set_option maxRecDepth 100000 in
set_option maxHeartbeats 4000000 in
theorem reopened_new (D : DevOk Real) (O : PairOk Real PR) (hS : Sent7 w0 S) {F : Nat → Prop} (w : World) (hb0 : Below w0.heap.size w0 w) (hr : Real w d s F) (hF : ∀ k, F k → w0.heap.size ≤ k) (u : Up s n q) (hq : q ≤ 690000) (n0 : 300 ≤ n) (n1 : n ≤ 6000) (hk : Keeps s n q (noPS 0) (fun _ => none)) :
    Calls Tryz.prog 9 #[.pointer (some ⟨d, 0, none⟩)] w fun e w' => ∃ kb g T, e = .returned (.pointer (some ⟨kb, 0, none⟩)) ∧ Kp w' w0.heap.size kb (fun k => k = kb) [] ∧ Shop Real PR S w0 w' d g n q 7 T s (noPS 0) noChg ∧ ¬ T kb := by
  have HOp := hid (sh_opened (w0 := w0) D O hS hb0 hr hF u hq n0 n1 hk)
  have HD := hid D
  have HO := hid O
  have HK := hid hk
  have HB0 := hid hb0
  clear D O hS hb0 hr hF u hk
  go_enter Tryz.func9, Tryz.ntmps9
  go_wp2_with fail
  refine HOp.out.mono ?_
  rintro e w1 ⟨g, T, rfl, hsh, ho, _⟩
  have HSh1 := hid hsh
  have HOn := hid ho
  clear hsh ho
  go_wp2_with fail
  refine (kpOpen_new HD.out HO.out w1 HSh1.out HK.out).mono ?_
  rintro e w2 ⟨kb, T2, rfl, hkp, hsh, hn, _⟩
  have HF := hid (show Kp w2 w0.heap.size kb (fun k => k = kb) [] ∧ Shop Real PR S w0 w2 d g n q 7 T2 s (noPS 0) noChg ∧ ¬ T2 kb from ⟨{ hkp with
    box := by
      obtain ⟨a, v, b, h1, h2, h3⟩ := hkp.box
      refine ⟨a, v, b, h1, ?_, h3⟩
      rcases h2.2 with ⟨rfl, _⟩ | ⟨g', cap, cu, rfl, hg, rest⟩
      · exact krow_nil _ _
      · exact ⟨h2.1, .inr ⟨g', cap, cu, rfl, by have := HB0.out.size; have := HOn.out.size; omega, rest⟩⟩
    lo := fun k hk => by have h1 := hkp.lo k hk; have := HB0.out.size; have := HOn.out.size; omega }, hsh, hn⟩)
  clear hkp hsh hn
  go_wp2
  go_ret
  exact ⟨kb, g, T2, rfl, HF.out⟩
end
section
variable {Real : World → Nat → DSt → (Nat → Prop) → Prop} {PR : World → Nat → Nat → Nat → Nat → (Nat → Prop) → Prop} {S : Nat → Addr}
set_option maxRecDepth 100000 in
set_option maxHeartbeats 4000000 in
theorem opened8_any (D : DevOk Real) (O : PairOk Real PR) (n : Nat) (w : World) (hS : Sent7 w S) (h0 : 300 ≤ n) (h1 : n ≤ 6000) :
    Calls Tryz.prog 6 #[.int .i64 (n : Int)] w fun e w' => ∃ kb g d T, e = .returned (.tuple #[.pointer (some ⟨kb, 0, none⟩), .pointer (some ⟨d, 0, none⟩)]) ∧ Kp w' w.heap.size kb (fun k => k = kb) [] ∧ Shop Real PR S w w' d g n 0 7 T (DSt.new n) (noPS 0) noChg ∧ ¬ T kb := by
  have HN := hid (D.new n w (by omega) h1)
  have HOp := hid (fun (w1 : World) (d : Nat) (F : Nat → Prop) (hr : Real w1 d (DSt.new n) F) (hb : Below w.heap.size w w1) (hF : ∀ k, F k → w.heap.size ≤ k) => reopened_new (w0 := w) D O hS w1 hb hr hF (up_new h1) (by omega) h0 h1 (keeps_new h0 h1))
  clear D O hS
  go_enter Tryz.func6, Tryz.ntmps6
  go_wp2_with fail
  refine HN.out.mono ?_
  rintro e w1 ⟨d, F, rfl, hr, hb, hF⟩
  have HO1 := hid (HOp.out w1 d F hr hb hF)
  clear hr hb hF
  go_wp2_with fail
  refine HO1.out.mono ?_
  rintro e w2 ⟨kb, g, T, rfl, hkp, hsh, hn⟩
  have HF := hid (And.intro hkp (And.intro hsh hn))
  clear hkp hsh hn
  go_wp2
  go_ret2
  exact ⟨kb, g, d, T, rfl, HF.out⟩
end
end Go.Proofs.YtkhdgacjgccnnaaGreatDoor
namespace Go.Proofs.YtkhdgacjgccnnaaGreatDoor
open Go.RowKit

end Go.Proofs.YtkhdgacjgccnnaaGreatDoor
