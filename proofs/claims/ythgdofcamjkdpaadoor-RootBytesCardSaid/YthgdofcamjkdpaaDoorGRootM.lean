/- The laws' own helpers on roots: same; a device carried along a walk, with roots; the chapter's example. -/
import Derived.Test.YthgdofcamjkdpaaDoorGRootL
namespace Go.Proofs.YthgdofcamjkdpaaDoor
open Go.RowKit

set_option maxRecDepth 100000 in
set_option maxHeartbeats 2000000 in
theorem sameRef_any (x y : Int × Nat) (w : World) : Calls Tryd.prog 41 #[rfV x, rfV y] w fun e w' => e = .returned (.bool (decide (x = y))) ∧ Below w.heap.size w w' := by
  obtain ⟨xa, xz⟩ := x
  obtain ⟨ya, yz⟩ := y
  have HB := hid (show Below w.heap.size w ((w.alloc (.cells #[.int .i64 xa, .int .u32 (xz : Int)] 56)).alloc (.cells #[.int .i64 ya, .int .u32 (yz : Int)] 56)) from ((Below.refl _ _).alloc (Nat.le_refl _) _).alloc (by simp) _)
  by_cases ha : xa = ya
  · by_cases hz : xz = yz
    · have HE := hid (show decide (((xa, xz) : Int × Nat) = (ya, yz)) = true from by simp [ha, hz])
      rw [HE.out]
      subst ha hz
      go_enter Tryd.func41, Tryd.ntmps41
      go_wp2
      go_ret
      exact ⟨rfl, HB.out⟩
    · have HE := hid (show decide (((xa, xz) : Int × Nat) = (ya, yz)) = false from by simp [hz])
      rw [HE.out]
      subst ha
      have g1 : ((xz : Int) == (yz : Int)) = false := by rw [beq_eq_false_iff_ne]; omega
      clear hz
      go_enter Tryd.func41, Tryd.ntmps41
      go_wp2
      go_ret
      exact ⟨rfl, HB.out⟩
  · have HE := hid (show decide (((xa, xz) : Int × Nat) = (ya, yz)) = false from by simp [ha])
    rw [HE.out]
    have g1 : (xa == ya) = false := by rw [beq_eq_false_iff_ne]; exact ha
    clear ha
    go_enter Tryd.func41, Tryd.ntmps41
    go_wp2
    go_ret
    exact ⟨rfl, HB.out⟩
set_option maxRecDepth 100000 in
set_option maxHeartbeats 4000000 in
theorem sameRefs_any (A A' : Option Addr) (n c n' c' : Nat) (l m : List (Int × Nat)) (w : World) (h : Rf w w.heap.size A n c l) (h' : Rf w w.heap.size A' n' c' m) :
    Calls Tryd.prog 26 #[.slice A n c, .slice A' n' c'] w fun e w' => e = .returned (.bool (sameR l m)) ∧ Below w.heap.size w w' := by
  have HS := hid h
  have HS' := hid h'
  have hmx := h.max'
  clear h h'
  by_cases hne : n = n'
  · subst hne
    go_enter Tryd.func26, Tryd.ntmps26
    go_wp2
    go_loopw [5] (fun i wr => ∃ k : Nat, k ≤ n ∧ i = .int .i64 (k : Int) ∧ l.take k = m.take k ∧ Below w.heap.size w wr) (fun i _ => n - (intOf i).toNat)
    case atStart => exact ⟨0, Nat.zero_le _, rfl, rfl, Below.refl _ _⟩
    case round =>
      obtain ⟨k, hk, rfl, ht, hb⟩ := hrel
      have HT := hid ht
      have HB := hid hb
      clear ht hb
      by_cases hlt : k < n
      · obtain ⟨ad, x, rfl, hbl, hx, c0, c1⟩ := (HS.out.below HB.out).get hlt
        obtain ⟨ad', y, rfl, hbl', hy, c0', c1'⟩ := (HS'.out.below HB.out).get hlt
        have HX := hid hx
        have HY := hid hy
        have hsz := HB.out.size
        have HCk := hid (fun (w2 : World) (hb2 : Below wr.drew.heap.size wr.drew w2) => (show (fun w' => w'.cell? (ad.add (k * 2)) = some (.int .i64 x.1) ∧ w'.cell? ⟨(ad.add (k * 2)).block, (ad.add (k * 2)).off + 1, none⟩ = some (.int .u32 (x.2 : Int)) ∧ w'.cell? (ad'.add (k * 2)) = some (.int .i64 y.1) ∧ w'.cell? ⟨(ad'.add (k * 2)).block, (ad'.add (k * 2)).off + 1, none⟩ = some (.int .u32 (y.2 : Int))) w2 from
          ⟨(hb2.cell (by rw [add_block]; show ad.block < wr.heap.size; omega)).trans c0, (hb2.cell (by rw [add_block]; show ad.block < wr.heap.size; omega)).trans c1, (hb2.cell (by rw [add_block]; show ad'.block < wr.heap.size; omega)).trans c0', (hb2.cell (by rw [add_block]; show ad'.block < wr.heap.size; omega)).trans c1'⟩))
        clear hx hy hbl hbl' hsz
        have hkn : (k : Int) < n := by omega
        have hn63 : (n : Int) ≤ 9223372036854775807 := by omega
        have HC := hid (sameRef_any x y wr.drew)
        by_cases hxy : x = y
        · have HN := hid (show l.take (k + 1) = m.take (k + 1) by rw [takeR_next HX.out, takeR_next HY.out, HT.out, hxy])
          rw [show decide (x = y) = true from by simp [hxy]] at HC
          clear hxy
          go_wp2_with fail
          go_region_held3 (fun w' => w'.cell? (ad.add (k * 2)) = some (.int .i64 x.1) ∧ w'.cell? ⟨(ad.add (k * 2)).block, (ad.add (k * 2)).off + 1, none⟩ = some (.int .u32 (x.2 : Int)) ∧ w'.cell? (ad'.add (k * 2)) = some (.int .i64 y.1) ∧ w'.cell? ⟨(ad'.add (k * 2)).block, (ad'.add (k * 2)).off + 1, none⟩ = some (.int .u32 (y.2 : Int))) (first | exact ⟨c0, c1, c0', c1'⟩ | exact ⟨d0, d1, d0', d1'⟩ | go_keep)
            ((go_at_call 41; refine HC.out.mono ?_; rintro e w2 ⟨rfl, hb2⟩; obtain ⟨d0, d1, d0', d1'⟩ := HCk.out w2 hb2; have HB2 := hid (HB.out.drew.trans (hb2.mono HB.out.size)); clear hb2))
          go_wp2
          go_roundw
          case rel => exact ⟨k + 1, by omega, by go_num, HN.out, HB2.out⟩
          case measure => simp [intOf]; omega
        · have HR := hid (sameR_not HX.out HY.out hxy)
          rw [show decide (x = y) = false from by simp [hxy]] at HC
          clear hxy
          go_wp2_with fail
          go_region_held3 (fun w' => w'.cell? (ad.add (k * 2)) = some (.int .i64 x.1) ∧ w'.cell? ⟨(ad.add (k * 2)).block, (ad.add (k * 2)).off + 1, none⟩ = some (.int .u32 (x.2 : Int)) ∧ w'.cell? (ad'.add (k * 2)) = some (.int .i64 y.1) ∧ w'.cell? ⟨(ad'.add (k * 2)).block, (ad'.add (k * 2)).off + 1, none⟩ = some (.int .u32 (y.2 : Int))) (first | exact ⟨c0, c1, c0', c1'⟩ | exact ⟨d0, d1, d0', d1'⟩ | go_keep)
            ((go_at_call 41; refine HC.out.mono ?_; rintro e w2 ⟨rfl, hb2⟩; obtain ⟨d0, d1, d0', d1'⟩ := HCk.out w2 hb2; have HB2 := hid (HB.out.drew.trans (hb2.mono HB.out.size)); clear hb2))
          go_wp2
          go_ret
          rw [HR.out]
          exact ⟨rfl, HB2.out⟩
      · have HE := hid (sameR_end HS.out.len HS'.out.len hlt HT.out)
        have hnlt : decide (k < n) = false := by simpa using hlt
        go_wp2
        go_ret
        rw [HE.out]
        exact ⟨rfl, HB.out⟩
  · have HE := hid (sameR_len (l := l) (m := m) (by rw [HS.out.len, HS'.out.len]; exact hne))
    have hq : ((n : Int) != (n' : Int)) = true := by simp; omega
    clear hne
    go_enter Tryd.func26, Tryd.ntmps26
    go_wp2
    go_ret
    rw [HE.out]
    exact ⟨rfl, Below.refl _ _⟩
/-- the same root? -/
theorem same_eq {r r' : RSt} (he : r.epoch = r'.epoch) (hs : sameR r.refs r'.refs = true) : r = r' := RSt.ext' he (by simpa [sameR] using hs)
set_option maxRecDepth 100000 in
set_option maxHeartbeats 4000000 in
theorem sameRoot_any (o p : RV) (r r' : RSt) (w : World) (h : o.Is r w) (h' : p.Is r' w) :
    Calls Tryd.prog 12 #[o.v, p.v] w fun e w' => e = .returned (.bool (decide (r = r'))) ∧ Below w.heap.size w w' := by
  have HB := hid (show Below w.heap.size w ((w.alloc (.cells #[.int .i64 o.e, o.s] 31)).alloc (.cells #[.int .i64 p.e, p.s] 31)) from ((Below.refl _ _).alloc (Nat.le_refl _) _).alloc (by simp) _)
  have HK0 := hid (show Blk ((w.alloc (.cells #[.int .i64 o.e, o.s] 31)).alloc (.cells #[.int .i64 p.e, p.s] 31)) w.heap.size 31 #[.int .i64 o.e, o.s] from (Blk.new w _ _).alloc _)
  have HK1 := hid (show Blk ((w.alloc (.cells #[.int .i64 o.e, o.s] 31)).alloc (.cells #[.int .i64 p.e, p.s] 31)) (w.heap.size + 1) 31 #[.int .i64 p.e, p.s] from by
    have := Blk.new (w.alloc (.cells #[.int .i64 o.e, o.s] 31)) 31 #[.int .i64 p.e, p.s]
    simpa using this)
  have HO := hid (RV.Is.on h HB.out)
  have HP := hid (RV.Is.on h' HB.out)
  have c0 := HK0.out.cell 0
  have c1 := HK0.out.cell 1
  have d0 := HK1.out.cell 0
  have d1 := HK1.out.cell 1
  simp at c0 c1 d0 d1
  clear h h'
  by_cases he : o.e = p.e
  · have g1 : (o.e == p.e) = true := by rw [beq_iff_eq]; exact he
    have HE := hid (show decide (r = r') = sameR r.refs r'.refs from by
      rcases hs : sameR r.refs r'.refs with _ | _
      · have : r ≠ r' := fun e => by subst e; simp [sameR] at hs
        simp [this]
      · have : r = r' := same_eq (by rw [← HO.out.1, ← HP.out.1]; exact he) hs
        simp [this])
    rw [HE.out]
    clear he
    go_enter Tryd.func12, Tryd.ntmps12
    go_wp2_with fail
    refine (sameRefs_any _ _ _ _ _ _ _ _ _ HO.out.2 HP.out.2).mono ?_
    rintro e w2 ⟨rfl, hb⟩
    have HB2 := hid (HB.out.trans (hb.mono HB.out.size))
    clear hb
    go_wp2
    go_ret
    exact ⟨rfl, HB2.out⟩
  · have g1 : (o.e == p.e) = false := by rw [beq_eq_false_iff_ne]; exact he
    have HE := hid (show decide (r = r') = false from by
      have : r ≠ r' := fun e => he (by rw [HO.out.1, HP.out.1, e])
      simp [this])
    rw [HE.out]
    clear he
    go_enter Tryd.func12, Tryd.ntmps12
    go_wp2
    go_ret
    exact ⟨rfl, HB.out⟩

/-! a device carried along -/
section
variable {Real : World → Nat → DSt → (Nat → Prop) → Prop} {S : Nat → Addr} {w0 w w' : World} {d n q : Nat} {s : DSt} {F : Nat → Prop}
structure Dk (Real : World → Nat → DSt → (Nat → Prop) → Prop) (w0 w : World) (d n q : Nat) (s : DSt) (F : Nat → Prop) : Prop where
  real : Real w d s F
  below : Below w0.heap.size w0 w
  fn : ∀ k, F k → w0.heap.size ≤ k
  okN : s.okN q
  len : s.blks.length = n
theorem Dk.on (D : DevOk Real) (h : Dk Real w0 w d n q s F) (hb : Below w.heap.size w w') : Dk Real w0 w' d n q s F :=
  ⟨D.kept h.real (Kept.of_below hb (D.lt h.real)), h.below.trans (hb.mono h.below.size), h.fn, h.okN, h.len⟩
theorem Dk.upd (h : Dk Real w0 w d n q s F) {s' : DSt} {q' : Nat} (hu : RealUpd Real w d s' F w') (ho : s'.okN q') (hl : s'.blks.length = n) : ∃ F', Dk Real w0 w' d n q' s' F' ∧ Only F w w' ∧ ∀ k, F' k → F k ∨ w.heap.size ≤ k := by
  obtain ⟨F', h1, h2, h3⟩ := hu
  exact ⟨F', ⟨h1, h.below.trans (h2.below h.below.size h.fn), fun k hk => (h3 k hk).elim (h.fn k) (fun h4 => by have := h.below.size; omega), ho, hl⟩, h2, h3⟩
theorem Dk.says (h : Dk Real w0 w d n q s F) (hq : q ≤ 900) (hd : s.down = false) : Says s n := ⟨hd, h.len, h.okN.ok (by omega)⟩
theorem dk_new (D : DevOk Real) (n : Nat) (w : World) (h0 : 0 < n) (h1 : n ≤ 6000) : Calls Tryd.prog 13 #[.int .i64 (n : Int)] w fun e w' => ∃ d F, e = .returned (.tuple #[.pointer (some ⟨d, 0, none⟩), .nilIface]) ∧ Dk Real w w' d n 0 (DSt.new n) F := by
  refine (D.new n w h0 h1).mono ?_
  rintro e w' ⟨d, F, he, hr, hb, hf⟩
  exact ⟨d, F, he, hr, hb, hf, okN_new h1, by simp [DSt.new]⟩
theorem dk_save (D : DevOk Real) (h : Dk Real w0 w d n q s F) (hS : Sent6 w0 S) (hq : q ≤ 900) (h0 : 300 ≤ n) {o : RV} {r : RSt} (ho : o.Is r w) (hs : Sums r.refs) (h1 : -9223372036854775808 ≤ r.epoch) (h2 : r.epoch ≤ 9223372036854775807) :
    Calls Tryd.prog 15 #[.pointer (some ⟨d, 0, none⟩), o.v] w fun e w' => (∃ v, e = .returned v ∧ EV S (saveR s (halN n) r).1 v) ∧ ∃ F', Dk Real w0 w' d n (q + 3) (saveR s (halN n) r).2 F' := by
  have he : o.v = rtV r.epoch o.A o.n o.c := by show rtV o.e o.A o.n o.c = _; rw [ho.1]
  rw [he]
  refine (save_any D S d n q s F r o.A o.n o.c w0 w hS h.below h.fn h.real h.okN hq h.len h0 ho.2 hs h1 h2).mono ?_
  rintro e w' ⟨hv, hu⟩
  obtain ⟨F', h3, _, _⟩ := h.upd hu (okN_save h.okN) (by rw [save_len]; exact h.len)
  exact ⟨hv, F', h3⟩
theorem dk_load (D : DevOk Real) (h : Dk Real w0 w d n q s F) (hS : Sent6 w0 S) (hq : q ≤ 900) (h0 : 300 ≤ n) (hd : s.down = false) :
    Calls Tryd.prog 18 #[.pointer (some ⟨d, 0, none⟩)] w fun e w' => ∃ o : RV, e = .returned (.tuple #[o.v, .bool (decide (0 < (s.newest (halN n)).epoch)), .nilIface]) ∧ o.Is (s.newest (halN n)) w' ∧ Below w.heap.size w w' ∧ Dk Real w0 w' d n q s F := by
  refine (load_any D S d n s F w (hS.on h.below) h.real (h.says hq hd) h0).mono ?_
  rintro e w' ⟨o, he, ho, hb, _⟩
  exact ⟨o, he, ho, hb, h.on D hb⟩
theorem dk_copies (D : DevOk Real) (h : Dk Real w0 w d n q s F) (hS : Sent6 w0 S) (hq : q ≤ 900) (h0 : 300 ≤ n) (hd : s.down = false) :
    Calls Tryd.prog 19 #[.pointer (some ⟨d, 0, none⟩)] w fun e w' => e = .returned (.tuple #[.int .i64 ((s.copies (halN n) : Nat) : Int), .nilIface]) ∧ Below w.heap.size w w' ∧ Dk Real w0 w' d n q s F := by
  refine (copies_any D S d n s F w (hS.on h.below) h.real (h.says hq hd) h0).mono ?_
  rintro e w' ⟨he, hb⟩
  exact ⟨he, hb, h.on D hb⟩
theorem dk_made (D : DevOk Real) (h : Dk Real w0 w d n q s F) (e : Int) {A : Option Addr} {m c : Nat} {l : List Int} (hl : Sn w w.heap.size A m c l) (hm : m ≤ 2000000) :
    Calls Tryd.prog 7 #[.int .i64 e, .slice A m c] w fun x w' => ∃ o : RV, x = .returned o.v ∧ o.Is (mkRoot e l) w' ∧ Below w.heap.size w w' ∧ Dk Real w0 w' d n q s F := by
  refine (made_any e A m c l w hl hm).mono ?_
  rintro x w' ⟨o, he, ho, hb, _⟩
  exact ⟨o, he, ho, hb, h.on D hb⟩
end
end Go.Proofs.YthgdofcamjkdpaaDoor
