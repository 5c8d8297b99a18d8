/- Put together out of 2 texts. Package root: find. -/
import Derived.Test.YtkhdgacjgccnnaaGreatDoorGXag
import Derived.Test.YtkhdgacjgccnnaaGreatDoorGXal
namespace Go.Proofs.YtkhdgacjgccnnaaGreatDoor
open Go.RowKit

/-- a root in memory: its Epoch, where its Refs lie -/
structure RV where
  e : Int
  A : Option Addr
  n : Nat
  c : Nat
abbrev RV.s (x : RV) : Value := .slice x.A x.n x.c
abbrev RV.v (x : RV) : Value := rtV x.e x.A x.n x.c
def rv0 : RV := ⟨0, none, 0, 0⟩
/-- it is that root -/
def RV.Is (x : RV) (r : RSt) (w : World) : Prop := x.e = r.epoch ∧ Rf w w.heap.size x.A x.n x.c r.refs
theorem RV.Is.on {x : RV} {r : RSt} {w w' : World} (h : x.Is r w) (hb : Below w.heap.size w w') : x.Is r w' := ⟨h.1, h.2.on hb⟩
theorem RV.Is.box {x : RV} {r : RSt} {w : World} {g : Nat} (h : x.Is r w) (hn : ∀ ad, x.A = some ad → g < ad.block) (o1 o2 : Nat) (u v : Value) : x.Is r ((w.setCell ⟨g, o1, none⟩ u).setCell ⟨g, o2, none⟩ v) :=
  ⟨h.1, h.2.same (by simp [World.setCell]) fun ad ha _ => by
    have hne : ad.block ≠ g := by have := hn ad ha; omega
    exact (Below.heap_setCell _ ⟨g, o2, none⟩ _ ad.block hne).trans (Below.heap_setCell _ ⟨g, o1, none⟩ _ ad.block hne)⟩
/-- four roots' cells -/
def fnC (x : Nat → RV) : Array Value := #[.int .i64 (x 0).e, (x 0).s, .int .i64 (x 1).e, (x 1).s, .int .i64 (x 2).e, (x 2).s, .int .i64 (x 3).e, (x 3).s]
def upd (x : Nat → RV) (m : Nat) (y : RV) : Nat → RV := fun j => if j = m then y else x j
theorem fnC_put {w : World} {g m : Nat} {x : Nat → RV} (h : Blk w g 132 (fnC x)) (hm : m < 4) (y : RV) : Blk ((w.setCell ⟨g, 2 * m, none⟩ (.int .i64 y.e)).setCell ⟨g, 2 * m + 1, none⟩ y.s) g 132 (fnC (upd x m y)) := by
  have h1 := (h.put (2 * m) (.int .i64 y.e)).put (2 * m + 1) y.s
  have e : ((fnC x).setIfInBounds (2 * m) (.int .i64 y.e)).setIfInBounds (2 * m + 1) y.s = fnC (upd x m y) := by
    rcases (show m = 0 ∨ m = 1 ∨ m = 2 ∨ m = 3 by omega) with rfl | rfl | rfl | rfl <;> simp [fnC, upd]
  rwa [e] at h1
/-- what is found so far: the first m of the four -/
structure Fnd (w wr : World) (g g4 g2 : Nat) (n H : Int) (f : Nat → RSt) (m : Nat) (x : Nat → RV) : Prop where
  blk : Blk wr g 132 (fnC x)
  geo : Blk wr g4 125 #[.int .i64 n, .int .i64 H]
  res : Blk wr g2 132 (fnC fun _ => rv0)
  below : Below w.heap.size w wr
  is_ : ∀ j, j < m → (x j).Is (f j) wr ∧ ∀ ad, (x j).A = some ad → g < ad.block
theorem Fnd.step {w wr w1 : World} {g g4 g2 m : Nat} {n H : Int} {f : Nat → RSt} {x : Nat → RV} (h : Fnd w wr g g4 g2 n H f m x) (hb : Below wr.heap.size wr w1) (hm : m < 4) {y : RV} (hy : y.Is (f m) w1) (hf : ∀ ad, y.A = some ad → wr.heap.size ≤ ad.block) (hg : w.heap.size ≤ g) (h4 : g4 ≠ g) (h2 : g2 ≠ g) :
    Fnd w ((w1.setCell ⟨g, 2 * m, none⟩ (.int .i64 y.e)).setCell ⟨g, 2 * m + 1, none⟩ y.s) g g4 g2 n H f (m + 1) (upd x m y) := by
  have hk := h.blk.below hb h.blk.lt
  refine ⟨fnC_put hk hm y, ((h.geo.below hb h.geo.lt).far (p := ⟨g, 2 * m, none⟩) h4 _).far (p := ⟨g, 2 * m + 1, none⟩) h4 _, ((h.res.below hb h.res.lt).far (p := ⟨g, 2 * m, none⟩) h2 _).far (p := ⟨g, 2 * m + 1, none⟩) h2 _, ((h.below.trans (hb.mono h.below.size)).setCell (p := ⟨g, 2 * m, none⟩) hg _).setCell (p := ⟨g, 2 * m + 1, none⟩) hg _, fun j hj => ?_⟩
  have hgl := h.blk.lt
  by_cases hjm : j = m
  · subst hjm
    have hfy : ∀ ad, y.A = some ad → g < ad.block := fun ad ha => by have := hf ad ha; omega
    unfold upd
    rw [if_pos rfl]
    exact ⟨hy.box hfy _ _ _ _, hfy⟩
  · obtain ⟨h5, h6⟩ := h.is_ j (by omega)
    unfold upd
    rw [if_neg hjm]
    exact ⟨(h5.on hb).box h6 _ _ _ _, h6⟩
theorem Fnd.drewN {w wr : World} {g g4 g2 m : Nat} {n H : Int} {f : Nat → RSt} {x : Nat → RV} (h : Fnd w wr g g4 g2 n H f m x) (q : Nat) : Fnd w (wr.drewN q) g g4 g2 n H f m x :=
  ⟨h.blk, h.geo, h.res, below_drewN h.below q, fun j hj => ⟨(h.is_ j hj).1.on (below_drewN (Below.refl _ _) q), (h.is_ j hj).2⟩⟩
theorem Fnd.arm {w wr w4 w5 : World} {g g4 g2 m o p : Nat} {n H e5 : Int} {f : Nat → RSt} {x : Nat → RV} {A5 : Option Addr} {n5 c5 : Nat} (h : Fnd w wr g g4 g2 n H f m x) (hb : Below wr.heap.size wr w4) (hm : m < 4) (hg : w.heap.size ≤ g) (h4 : g4 ≠ g) (h2 : g2 ≠ g) (ho : o = 2 * m) (hp : p = 2 * m + 1) (he : e5 = (f m).epoch)
    (hrf : Rf w5 w5.heap.size A5 n5 c5 (f m).refs) (hb5 : Below w4.drew.heap.size w4.drew w5) (hn5 : ∀ ad, A5 = some ad → w4.drew.heap.size ≤ ad.block) :
    Fnd w ((w5.setCell ⟨g, o, none⟩ (.int .i64 e5)).setCell ⟨g, p, none⟩ (.slice A5 n5 c5)) g g4 g2 n H f (m + 1) (upd x m ⟨e5, A5, n5, c5⟩) ∧ (∀ i, w5.frozen? ⟨g, i, none⟩ = false) ∧ w5.cell? ⟨g, o, none⟩ = some (.int .i64 (x m).e) ∧ w5.cell? ⟨g, p, none⟩ = some (x m).s := by
  have hb6 : Below wr.heap.size wr w5 := hb.trans (show Below wr.heap.size w4 w5 from ⟨hb5.os, hb5.tape, hb5.output, hb5.size, fun k hk => hb5.block k (Nat.lt_of_lt_of_le hk hb.size)⟩)
  have hk := h.blk.below hb6 h.blk.lt
  subst ho hp
  have hsz : wr.heap.size ≤ w4.drew.heap.size := hb.size
  refine ⟨h.step hb6 hm (y := ⟨e5, A5, n5, c5⟩) ⟨he, hrf⟩ (fun ad ha => Nat.le_trans hsz (hn5 ad ha)) hg h4 h2, fun i => hk.free i, ?_, ?_⟩
  · rw [hk.cell]
    rcases (show m = 0 ∨ m = 1 ∨ m = 2 ∨ m = 3 by omega) with rfl | rfl | rfl | rfl <;> rfl
  · rw [hk.cell]
    rcases (show m = 0 ∨ m = 1 ∨ m = 2 ∨ m = 3 by omega) with rfl | rfl | rfl | rfl <;> rfl
/-- the four roots' value -/
abbrev fnV (x : Nat → RV) : Value := .agg #[.int .i64 (x 0).e, (x 0).s, .int .i64 (x 1).e, (x 1).s, .int .i64 (x 2).e, (x 2).s, .int .i64 (x 3).e, (x 3).s]
/-- the four blocks, by what they read as -/
def fourR (s : DSt) (H : Int) (j : Nat) : RSt := rootOr (s.read (match j with | 0 => 0 | 1 => H | 2 => 1 | _ => 1 + H)).2
/-- what find answers -/
def FindOut (s : DSt) (H : Int) (w : World) (e : Ending) (w' : World) : Prop := ∃ x : Nat → RV, e = .returned (.tuple #[fnV x, .nilIface]) ∧ (∀ j, j < 4 → (x j).Is (fourR s H j) w' ∧ ∀ ad, (x j).A = some ad → w.heap.size ≤ ad.block) ∧ Below w.heap.size w w'
/-- what the device has to say of its blocks -/
structure Says (s : DSt) (n : Nat) : Prop where
  down : s.down = false
  len : s.blks.length = n
  ok : s.ok
theorem Says.read {s : DSt} {n : Nat} (h : Says s n) {i : Int} (h0 : 0 ≤ i) (h1 : i < n) : ((s.read i).1 = 0 ∨ (s.read i).1 = 107) ∧ Byt (s.read i).2 := by
  obtain ⟨k, rfl⟩ : ∃ k : Nat, i = (k : Int) := ⟨i.toNat, by omega⟩
  have hk : k < s.blks.length := by rw [h.len]; omega
  have hb : s.blks[k]? = some (s.blks[k]'hk) := List.getElem?_eq_getElem hk
  have hin : s.inB (k : Int) = true := DSt.in_iff.2 ⟨by omega, by rw [h.len]; exact h1⟩
  have e : s.read (k : Int) = (s.blks[k]'hk).read := by
    unfold DSt.read
    rw [if_neg (by rw [h.down]; decide), if_neg (by rw [hin]; decide), Int.toNat_natCast, hb]; rfl
  rw [e]
  refine ⟨read_code _, ?_⟩
  have ho := h.ok.1 _ (List.mem_of_getElem? hb)
  unfold BSt.read
  split
  · exact ho.2.2.1
  · split
    · exact Byt.nil
    · exact ho.1
section
variable {Real : World → Nat → DSt → (Nat → Prop) → Prop}
set_option maxRecDepth 100000 in
set_option maxHeartbeats 8000000 in
theorem find_any (D : DevOk Real) (S : Nat → Addr) (d n : Nat) (s : DSt) (F : Nat → Prop) (w : World) (hS : Sent6 w S) (hr : Real w d s F) (hs : Says s n) (h0 : 300 ≤ n) :
    Calls Tryz.prog 59 #[.pointer (some ⟨d, 0, none⟩)] w (FindOut s (halN n : Int) w) := by
  have hn6 : n ≤ 6000 := by rw [← hs.len]; exact hs.ok.2.2.2
  have hh := half_facts h0
  have HG := hid (halN_gm h0 hn6)
  have HS := hid hS
  have HD := hid D
  have HR := hid hr
  have HFl := hid (D.lt hr)
  have HSy := hid hs
  have HOk := hid hs.ok
  have HRd := hid (fun (i : Int) h0 h1 => hs.read (i := i) h0 h1)
  have HBl := hid (fun w' (hb : Below w.heap.size w w') => by
    have := D.blocks d s F w' (D.kept hr (Kept.of_below hb (D.lt hr))) hs.ok
    rwa [hs.len] at this)
  have HRe := hid (fun w' (hb : Below w.heap.size w w') (i : Int) => D.read S d s F i w' (Sent6.five (hS.on hb)) (D.kept hr (Kept.of_below hb (D.lt hr))) hs.ok)
  have HOf := hid (fun w' => of_ok (n : Int) w' (by omega) (by omega))
  obtain ⟨H, hH⟩ : ∃ H, halN n = H := ⟨_, rfl⟩
  have HHl := hid (show hal (n : Int) = (H : Int) by rw [hal_nat, hH])
  rw [hH] at hh HG ⊢
  have HP0 := hid (show prt (H : Int) 0 = (H : Int) by unfold prt; rw [if_pos ⟨by omega, by omega⟩]; omega)
  have HP1 := hid (show prt (H : Int) 1 = 1 + (H : Int) by unfold prt; rw [if_pos ⟨by omega, by omega⟩])
  have HHn := hid (show 75 ≤ H ∧ 2 * H ≤ n from ⟨hh.1, hh.2.2⟩)
  have q1 := fun W => Tryz.neqSame (S 6) W
  have HB1 := hid (show Below w.heap.size w (w.alloc (.cells (fnC fun _ => rv0) 132)) from (Below.refl _ _).alloc (Nat.le_refl _) _)
  have HK1 := hid (Blk.new w 132 (fnC fun _ => rv0))
  clear hS hr hs h0 hn6 hh hH D
  go_enter Tryz.func59, Tryz.ntmps59
  go_wp2_with fail
  refine (HBl.out _ HB1.out).mono ?_
  rintro e w1 ⟨rfl, q, rfl⟩
  have HB2 := hid (below_drewN HB1.out q)
  have HK2 := hid (HK1.out.drewN q)
  go_wp2_with fail
  refine (HOf.out _).mono ?_
  rw [HHl.out]
  rintro e w2 ⟨rfl, hb⟩
  have HB3 := hid (HB2.out.trans (hb.mono HB2.out.size))
  have HK3 := hid (HK2.out.below hb HK2.out.lt)
  clear hb
  go_wp2
  have HF0 := hid (show Fnd w ((w2.alloc (.cells #[.int .i64 (n : Int), .int .i64 (H : Int)] 125)).alloc (.cells (fnC fun _ => rv0) 132)) (w2.heap.size + 1) w2.heap.size w.heap.size (n : Int) (H : Int) (fourR s (H : Int)) 0 (fun _ => rv0) from by
    have h2 := HB3.out.size
    refine ⟨?_, (Blk.new w2 _ _).alloc _, (HK3.out.alloc _).alloc _, (HB3.out.alloc HB3.out.size _).alloc (by simp; omega) _, fun j hj => by omega⟩
    have := Blk.new (w2.alloc (.cells #[.int .i64 (n : Int), .int .i64 (H : Int)] 125)) 132 (fnC fun _ => rv0)
    simpa using this)
  have HW := hid (show w.heap.size < w2.heap.size from HK3.out.lt)
  go_loopw [24] (fun i wr => ∃ (m : Nat) (x : Nat → RV), m ≤ 2 ∧ i = .int .i64 (m : Int) ∧ Fnd w wr (w2.heap.size + 1) w2.heap.size w.heap.size (n : Int) (H : Int) (fourR s (H : Int)) (2 * m) x) (fun i _ => 2 - (intOf i).toNat)
  case atStart => exact ⟨0, _, by omega, rfl, HF0.out⟩
  case round =>
    obtain ⟨m, x, hm, rfl, hf⟩ := hrel
    have HF := hid hf
    clear hf
    rcases (show m = 0 ∨ m = 1 ∨ m = 2 by omega) with rfl | rfl | rfl
    · have k0 := HF.out.geo.cell 0
      have k1 := HF.out.geo.cell 1
      simp at k0 k1
      go_wp2_with fail
      refine (partner_any (n : Int) (H : Int) 0 _ HG.out).mono ?_
      rw [HP0.out]
      rintro e w3 ⟨rfl, hb⟩
      have HF3 := hid (show Fnd w w3 (w2.heap.size + 1) w2.heap.size w.heap.size (n : Int) (H : Int) (fourR s (H : Int)) (2 * 0 + 0) x from
        ⟨HF.out.blk.below hb HF.out.blk.lt, HF.out.geo.below hb HF.out.geo.lt, HF.out.res.below hb HF.out.res.lt, HF.out.below.trans (hb.mono HF.out.below.size), fun j hj => ⟨(HF.out.is_ j hj).1.on hb, (HF.out.is_ j hj).2⟩⟩)
      clear hb k0 k1
      go_wp2
      go_loopw [36] (fun i wr => ∃ (k : Nat) (x : Nat → RV), k ≤ 2 ∧ i = .int .i64 (k : Int) ∧ Fnd w wr (w2.heap.size + 1) w2.heap.size w.heap.size (n : Int) (H : Int) (fourR s (H : Int)) (2 * 0 + k) x) (fun i _ => 2 - (intOf i).toNat)
      case atStart => exact ⟨0, x, by omega, rfl, HF3.out⟩
      case round =>
        obtain ⟨k, x, hk, rfl, hf⟩ := hrel
        have HFr := hid hf
        clear hf
        rcases (show k = 0 ∨ k = 1 ∨ k = 2 by omega) with rfl | rfl | rfl
        · have x0 := fun W => Tryz.idx0 0 (H : Int) W
          have hrd := HRd.out 0 (by have := HHn.out; omega) (by have := HHn.out; omega)
          have HY := hid hrd.2
          obtain ⟨e5, he5⟩ : ∃ z, (rootOr (s.read 0).2).epoch = z := ⟨_, rfl⟩
          obtain ⟨b5, hb5⟩ : ∃ z, (readR (s.read 0).2).isSome = z := ⟨_, rfl⟩
          have HE5 := hid he5
          have HI5 := hid hb5
          clear he5 hb5
          go_wp2_with fail
          refine (HRe.out _ HFr.out.below 0).mono ?_
          rintro e w4 ⟨B, nb, cb, v, rfl, hv, hbs, hbl, _⟩
          have HBs := hid hbs
          have HBl4 := hid hbl
          have HS4 := hid (HS.out.on (HFr.out.below.trans (hbl.mono HFr.out.below.size)))
          have hv1 : w4.cell? ⟨2, 0, none⟩ = some (.iface 261 (.pointer (some (S 6)))) := HS4.out 6 (by decide)
          clear hbs hbl
          rcases hrd.1 with hc | hc
          all_goals
            rw [hc] at hv
            first | (obtain rfl := hv.nil) | (obtain rfl := ev_io hv)
            clear hv hc hrd
            go_wp2_with fail
            have HRead := hid (show Calls Tryz.prog 98 #[.slice B nb cb] w4.drew fun e w' => ∃ A n c, e = .returned (.tuple #[rtV e5 A n c, .bool b5]) ∧ Rf w' w'.heap.size A n c (fourR s (H : Int) 0).refs ∧ Below w4.drew.heap.size w4.drew w' ∧ ∀ ad, A = some ad → w4.drew.heap.size ≤ ad.block from by
              have := read_any S B nb cb _ w4.drew HS4.out.drew HBs.out.drew HY.out
              unfold ReadR at this
              rw [HE5.out, HI5.out] at this
              exact this)
            have HArm := hid (fun (w5 : World) (A5 : Option Addr) (n5 c5 : Nat) h1 h2 h3 => HFr.out.arm (m := 0) (o := 0) (p := 1) (e5 := e5) (w5 := w5) (A5 := A5) (n5 := n5) (c5 := c5) HBl4.out (by omega) (by have := HW.out; omega) (by omega) (by have := HW.out; omega) rfl rfl HE5.out.symm h1 h2 h3)
            go_region_held3 (fun w' => True) (exact trivial)
              ((go_at_call 98; refine HRead.out.mono ?_; rintro e w5 ⟨A5, n5, c5, rfl, hrf, hb5, hn5⟩; obtain ⟨hF, fr, k0, k1⟩ := HArm.out w5 A5 n5 c5 hrf hb5 hn5; have HF5 := hid hF; clear hF hrf hb5 hn5))
            go_wp2
            go_roundw
            case rel => exact ⟨1, _, by omega, rfl, HF5.out⟩
            case measure => simp [intOf]
        · have x1 := fun W => Tryz.idx1 0 (H : Int) W
          have hrd := HRd.out (H : Int) (by have := HHn.out; omega) (by have := HHn.out; omega)
          have HY := hid hrd.2
          obtain ⟨e5, he5⟩ : ∃ z, (rootOr (s.read (H : Int)).2).epoch = z := ⟨_, rfl⟩
          obtain ⟨b5, hb5⟩ : ∃ z, (readR (s.read (H : Int)).2).isSome = z := ⟨_, rfl⟩
          have HE5 := hid he5
          have HI5 := hid hb5
          clear he5 hb5
          go_wp2_with fail
          refine (HRe.out _ HFr.out.below (H : Int)).mono ?_
          rintro e w4 ⟨B, nb, cb, v, rfl, hv, hbs, hbl, _⟩
          have HBs := hid hbs
          have HBl4 := hid hbl
          have HS4 := hid (HS.out.on (HFr.out.below.trans (hbl.mono HFr.out.below.size)))
          have hv1 : w4.cell? ⟨2, 0, none⟩ = some (.iface 261 (.pointer (some (S 6)))) := HS4.out 6 (by decide)
          clear hbs hbl
          rcases hrd.1 with hc | hc
          all_goals
            rw [hc] at hv
            first | (obtain rfl := hv.nil) | (obtain rfl := ev_io hv)
            clear hv hc hrd
            go_wp2_with fail
            have HRead := hid (show Calls Tryz.prog 98 #[.slice B nb cb] w4.drew fun e w' => ∃ A n c, e = .returned (.tuple #[rtV e5 A n c, .bool b5]) ∧ Rf w' w'.heap.size A n c (fourR s (H : Int) 1).refs ∧ Below w4.drew.heap.size w4.drew w' ∧ ∀ ad, A = some ad → w4.drew.heap.size ≤ ad.block from by
              have := read_any S B nb cb _ w4.drew HS4.out.drew HBs.out.drew HY.out
              unfold ReadR at this
              rw [HE5.out, HI5.out] at this
              exact this)
            have HArm := hid (fun (w5 : World) (A5 : Option Addr) (n5 c5 : Nat) h1 h2 h3 => HFr.out.arm (m := 1) (o := 2) (p := 3) (e5 := e5) (w5 := w5) (A5 := A5) (n5 := n5) (c5 := c5) HBl4.out (by omega) (by have := HW.out; omega) (by omega) (by have := HW.out; omega) rfl rfl HE5.out.symm h1 h2 h3)
            go_region_held3 (fun w' => True) (exact trivial)
              ((go_at_call 98; refine HRead.out.mono ?_; rintro e w5 ⟨A5, n5, c5, rfl, hrf, hb5, hn5⟩; obtain ⟨hF, fr, k0, k1⟩ := HArm.out w5 A5 n5 c5 hrf hb5 hn5; have HF5 := hid hF; clear hF hrf hb5 hn5))
            go_wp2
            go_roundw
            case rel => exact ⟨2, _, by omega, rfl, HF5.out⟩
            case measure => simp [intOf]
        · go_wp2
          go_roundw
          case rel => exact ⟨1, _, by omega, rfl, HFr.out⟩
          case measure => simp [intOf]
    · have k0 := HF.out.geo.cell 0
      have k1 := HF.out.geo.cell 1
      simp at k0 k1
      go_wp2_with fail
      refine (partner_any (n : Int) (H : Int) 1 _ HG.out).mono ?_
      rw [HP1.out]
      rintro e w3 ⟨rfl, hb⟩
      have HF3 := hid (show Fnd w w3 (w2.heap.size + 1) w2.heap.size w.heap.size (n : Int) (H : Int) (fourR s (H : Int)) (2 * 1 + 0) x from
        ⟨HF.out.blk.below hb HF.out.blk.lt, HF.out.geo.below hb HF.out.geo.lt, HF.out.res.below hb HF.out.res.lt, HF.out.below.trans (hb.mono HF.out.below.size), fun j hj => ⟨(HF.out.is_ j hj).1.on hb, (HF.out.is_ j hj).2⟩⟩)
      clear hb k0 k1
      go_wp2
      go_loopw [36] (fun i wr => ∃ (k : Nat) (x : Nat → RV), k ≤ 2 ∧ i = .int .i64 (k : Int) ∧ Fnd w wr (w2.heap.size + 1) w2.heap.size w.heap.size (n : Int) (H : Int) (fourR s (H : Int)) (2 * 1 + k) x) (fun i _ => 2 - (intOf i).toNat)
      case atStart => exact ⟨0, x, by omega, rfl, HF3.out⟩
      case round =>
        obtain ⟨k, x, hk, rfl, hf⟩ := hrel
        have HFr := hid hf
        clear hf
        rcases (show k = 0 ∨ k = 1 ∨ k = 2 by omega) with rfl | rfl | rfl
        · have x0 := fun W => Tryz.idx0 1 (1 + (H : Int)) W
          have hrd := HRd.out 1 (by have := HHn.out; omega) (by have := HHn.out; omega)
          have HY := hid hrd.2
          obtain ⟨e5, he5⟩ : ∃ z, (rootOr (s.read 1).2).epoch = z := ⟨_, rfl⟩
          obtain ⟨b5, hb5⟩ : ∃ z, (readR (s.read 1).2).isSome = z := ⟨_, rfl⟩
          have HE5 := hid he5
          have HI5 := hid hb5
          clear he5 hb5
          go_wp2_with fail
          refine (HRe.out _ HFr.out.below 1).mono ?_
          rintro e w4 ⟨B, nb, cb, v, rfl, hv, hbs, hbl, _⟩
          have HBs := hid hbs
          have HBl4 := hid hbl
          have HS4 := hid (HS.out.on (HFr.out.below.trans (hbl.mono HFr.out.below.size)))
          have hv1 : w4.cell? ⟨2, 0, none⟩ = some (.iface 261 (.pointer (some (S 6)))) := HS4.out 6 (by decide)
          clear hbs hbl
          rcases hrd.1 with hc | hc
          all_goals
            rw [hc] at hv
            first | (obtain rfl := hv.nil) | (obtain rfl := ev_io hv)
            clear hv hc hrd
            go_wp2_with fail
            have HRead := hid (show Calls Tryz.prog 98 #[.slice B nb cb] w4.drew fun e w' => ∃ A n c, e = .returned (.tuple #[rtV e5 A n c, .bool b5]) ∧ Rf w' w'.heap.size A n c (fourR s (H : Int) 2).refs ∧ Below w4.drew.heap.size w4.drew w' ∧ ∀ ad, A = some ad → w4.drew.heap.size ≤ ad.block from by
              have := read_any S B nb cb _ w4.drew HS4.out.drew HBs.out.drew HY.out
              unfold ReadR at this
              rw [HE5.out, HI5.out] at this
              exact this)
            have HArm := hid (fun (w5 : World) (A5 : Option Addr) (n5 c5 : Nat) h1 h2 h3 => HFr.out.arm (m := 2) (o := 4) (p := 5) (e5 := e5) (w5 := w5) (A5 := A5) (n5 := n5) (c5 := c5) HBl4.out (by omega) (by have := HW.out; omega) (by omega) (by have := HW.out; omega) rfl rfl HE5.out.symm h1 h2 h3)
            go_region_held3 (fun w' => True) (exact trivial)
              ((go_at_call 98; refine HRead.out.mono ?_; rintro e w5 ⟨A5, n5, c5, rfl, hrf, hb5, hn5⟩; obtain ⟨hF, fr, k0, k1⟩ := HArm.out w5 A5 n5 c5 hrf hb5 hn5; have HF5 := hid hF; clear hF hrf hb5 hn5))
            go_wp2
            go_roundw
            case rel => exact ⟨1, _, by omega, rfl, HF5.out⟩
            case measure => simp [intOf]
        · have x1 := fun W => Tryz.idx1 1 (1 + (H : Int)) W
          have hrd := HRd.out (1 + (H : Int)) (by have := HHn.out; omega) (by have := HHn.out; omega)
          have HY := hid hrd.2
          obtain ⟨e5, he5⟩ : ∃ z, (rootOr (s.read (1 + (H : Int))).2).epoch = z := ⟨_, rfl⟩
          obtain ⟨b5, hb5⟩ : ∃ z, (readR (s.read (1 + (H : Int))).2).isSome = z := ⟨_, rfl⟩
          have HE5 := hid he5
          have HI5 := hid hb5
          clear he5 hb5
          go_wp2_with fail
          refine (HRe.out _ HFr.out.below (1 + (H : Int))).mono ?_
          rintro e w4 ⟨B, nb, cb, v, rfl, hv, hbs, hbl, _⟩
          have HBs := hid hbs
          have HBl4 := hid hbl
          have HS4 := hid (HS.out.on (HFr.out.below.trans (hbl.mono HFr.out.below.size)))
          have hv1 : w4.cell? ⟨2, 0, none⟩ = some (.iface 261 (.pointer (some (S 6)))) := HS4.out 6 (by decide)
          clear hbs hbl
          rcases hrd.1 with hc | hc
          all_goals
            rw [hc] at hv
            first | (obtain rfl := hv.nil) | (obtain rfl := ev_io hv)
            clear hv hc hrd
            go_wp2_with fail
            have HRead := hid (show Calls Tryz.prog 98 #[.slice B nb cb] w4.drew fun e w' => ∃ A n c, e = .returned (.tuple #[rtV e5 A n c, .bool b5]) ∧ Rf w' w'.heap.size A n c (fourR s (H : Int) 3).refs ∧ Below w4.drew.heap.size w4.drew w' ∧ ∀ ad, A = some ad → w4.drew.heap.size ≤ ad.block from by
              have := read_any S B nb cb _ w4.drew HS4.out.drew HBs.out.drew HY.out
              unfold ReadR at this
              rw [HE5.out, HI5.out] at this
              exact this)
            have HArm := hid (fun (w5 : World) (A5 : Option Addr) (n5 c5 : Nat) h1 h2 h3 => HFr.out.arm (m := 3) (o := 6) (p := 7) (e5 := e5) (w5 := w5) (A5 := A5) (n5 := n5) (c5 := c5) HBl4.out (by omega) (by have := HW.out; omega) (by omega) (by have := HW.out; omega) rfl rfl HE5.out.symm h1 h2 h3)
            go_region_held3 (fun w' => True) (exact trivial)
              ((go_at_call 98; refine HRead.out.mono ?_; rintro e w5 ⟨A5, n5, c5, rfl, hrf, hb5, hn5⟩; obtain ⟨hF, fr, k0, k1⟩ := HArm.out w5 A5 n5 c5 hrf hb5 hn5; have HF5 := hid hF; clear hF hrf hb5 hn5))
            go_wp2
            go_roundw
            case rel => exact ⟨2, _, by omega, rfl, HF5.out⟩
            case measure => simp [intOf]
        · go_wp2
          go_roundw
          case rel => exact ⟨2, _, by omega, rfl, HFr.out⟩
          case measure => simp [intOf]
    · have k0 := HF.out.blk.cell 0
      have k1 := HF.out.blk.cell 1
      have k2 := HF.out.blk.cell 2
      have k3 := HF.out.blk.cell 3
      have k4 := HF.out.blk.cell 4
      have k5 := HF.out.blk.cell 5
      have k6 := HF.out.blk.cell 6
      have k7 := HF.out.blk.cell 7
      have r0 := HF.out.res.cell 0
      have r1 := HF.out.res.cell 1
      have r2 := HF.out.res.cell 2
      have r3 := HF.out.res.cell 3
      have r4 := HF.out.res.cell 4
      have r5 := HF.out.res.cell 5
      have r6 := HF.out.res.cell 6
      have r7 := HF.out.res.cell 7
      have fr := fun i => HF.out.res.free i
      have HRs := hid (((((((((HF.out.res.put 0 (.int .i64 (x 0).e)).put 1 (x 0).s).put 2 (.int .i64 (x 1).e)).put 3 (x 1).s).put 4 (.int .i64 (x 2).e)).put 5 (x 2).s).put 6 (.int .i64 (x 3).e)).put 7 (x 3).s))
      simp [fnC] at k0 k1 k2 k3 k4 k5 k6 k7 r0 r1 r2 r3 r4 r5 r6 r7
      have m0 := HRs.out.cell 0
      have m1 := HRs.out.cell 1
      have m2 := HRs.out.cell 2
      have m3 := HRs.out.cell 3
      have m4 := HRs.out.cell 4
      have m5 := HRs.out.cell 5
      have m6 := HRs.out.cell 6
      have m7 := HRs.out.cell 7
      simp [fnC] at m0 m1 m2 m3 m4 m5 m6 m7
      simp only [RV.s] at m0 m1 m2 m3 m4 m5 m6 m7
      have HOn := hid (show Only (fun k => k = w.heap.size) wr (((((((((wr.setCell ⟨w.heap.size, 0, none⟩ (.int .i64 (x 0).e)).setCell ⟨w.heap.size, 1, none⟩ (x 0).s).setCell ⟨w.heap.size, 2, none⟩ (.int .i64 (x 1).e)).setCell ⟨w.heap.size, 3, none⟩ (x 1).s).setCell ⟨w.heap.size, 4, none⟩ (.int .i64 (x 2).e)).setCell ⟨w.heap.size, 5, none⟩ (x 2).s).setCell ⟨w.heap.size, 6, none⟩ (.int .i64 (x 3).e)).setCell ⟨w.heap.size, 7, none⟩ (x 3).s)) from ((((((((Only.refl (fun k => k = w.heap.size) wr).put (p := ⟨w.heap.size, 0, none⟩) rfl _).put (p := ⟨w.heap.size, 1, none⟩) rfl _).put (p := ⟨w.heap.size, 2, none⟩) rfl _).put (p := ⟨w.heap.size, 3, none⟩) rfl _).put (p := ⟨w.heap.size, 4, none⟩) rfl _).put (p := ⟨w.heap.size, 5, none⟩) rfl _).put (p := ⟨w.heap.size, 6, none⟩) rfl _).put (p := ⟨w.heap.size, 7, none⟩) rfl _)
      have HBl8 := hid (show Below w.heap.size w (((((((((wr.setCell ⟨w.heap.size, 0, none⟩ (.int .i64 (x 0).e)).setCell ⟨w.heap.size, 1, none⟩ (x 0).s).setCell ⟨w.heap.size, 2, none⟩ (.int .i64 (x 1).e)).setCell ⟨w.heap.size, 3, none⟩ (x 1).s).setCell ⟨w.heap.size, 4, none⟩ (.int .i64 (x 2).e)).setCell ⟨w.heap.size, 5, none⟩ (x 2).s).setCell ⟨w.heap.size, 6, none⟩ (.int .i64 (x 3).e)).setCell ⟨w.heap.size, 7, none⟩ (x 3).s)) from HF.out.below.trans (HOn.out.below HF.out.below.size (fun i hi => Nat.le_of_eq hi.symm)))
      have HIs := hid (show ∀ j, j < 4 → (x j).Is (fourR s (H : Int) j) (((((((((wr.setCell ⟨w.heap.size, 0, none⟩ (.int .i64 (x 0).e)).setCell ⟨w.heap.size, 1, none⟩ (x 0).s).setCell ⟨w.heap.size, 2, none⟩ (.int .i64 (x 1).e)).setCell ⟨w.heap.size, 3, none⟩ (x 1).s).setCell ⟨w.heap.size, 4, none⟩ (.int .i64 (x 2).e)).setCell ⟨w.heap.size, 5, none⟩ (x 2).s).setCell ⟨w.heap.size, 6, none⟩ (.int .i64 (x 3).e)).setCell ⟨w.heap.size, 7, none⟩ (x 3).s)) ∧ ∀ ad, (x j).A = some ad → w.heap.size ≤ ad.block from fun j hj => by
        obtain ⟨h1, h2⟩ := HF.out.is_ j hj
        have hw := HW.out
        refine ⟨⟨h1.1, h1.2.same HOn.out.size (fun ad ha h0 => HOn.out.block _ (h1.2.at_ ad ha h0).1 (fun e => by have := h2 ad ha; omega))⟩, fun ad ha => by have := h2 ad ha; omega⟩)
      clear HRs
      go_wp2
      exact bodyPost_ret (v := .tuple #[fnV x, .nilIface]) (by simp [results, Tryz.results59, go_sem, m0, m1, m2, m3, m4, m5, m6, m7]) rfl ⟨x, rfl, HIs.out, HBl8.out⟩
end
end Go.Proofs.YtkhdgacjgccnnaaGreatDoor
namespace Go.Proofs.YtkhdgacjgccnnaaGreatDoor
open Go.RowKit

theorem Tryz.idxF0 (a b c d e f g h : Value) (w : World) : (Instr.index 132 (.agg #[a, b, c, d, e, f, g, h]) (.int .i64 0)).run Tryz.prog w = .ok (.agg #[a, b, c, d]) w := by kernel_rfl
theorem Tryz.idxF1 (a b c d e f g h : Value) (w : World) : (Instr.index 132 (.agg #[a, b, c, d, e, f, g, h]) (.int .i64 1)).run Tryz.prog w = .ok (.agg #[e, f, g, h]) w := by kernel_rfl
theorem Tryz.idxP0 (a b c d : Value) (w : World) : (Instr.index 130 (.agg #[a, b, c, d]) (.int .i64 0)).run Tryz.prog w = .ok (.agg #[a, b]) w := by kernel_rfl
theorem Tryz.idxP1 (a b c d : Value) (w : World) : (Instr.index 130 (.agg #[a, b, c, d]) (.int .i64 1)).run Tryz.prog w = .ok (.agg #[c, d]) w := by kernel_rfl
/-- the one of the greater Epoch -/
def bet (out r : RSt) : RSt := if out.epoch < r.epoch then r else out
def nb (f : Nat → RSt) : Nat → RSt
  | 0 => noRoot
  | k + 1 => bet (nb f k) (f k)
theorem nb_gt {f : Nat → RSt} {k : Nat} (h : (nb f k).epoch < (f k).epoch) : nb f (k + 1) = f k := if_pos h
theorem nb_le {f : Nat → RSt} {k : Nat} (h : ¬ (nb f k).epoch < (f k).epoch) : nb f (k + 1) = nb f k := if_neg h
/-- the newest so far -/
structure Nws (w wr : World) (g3 g2 : Nat) (f : Nat → RSt) (m : Nat) (o : RV) : Prop where
  is_ : o.Is (nb f m) w
  blk : Blk wr g3 85 #[.int .i64 o.e, o.s]
  res : Blk wr g2 85 #[.int .i64 0, .slice none 0 0]
  below : Below w.heap.size w wr
theorem Nws.alloc {w wr : World} {g3 g2 m : Nat} {f : Nat → RSt} {o : RV} (h : Nws w wr g3 g2 f m o) (ob : Obj) : Nws w (wr.alloc ob) g3 g2 f m o := ⟨h.is_, h.blk.alloc _, h.res.alloc _, h.below.alloc h.below.size _⟩
theorem Nws.skip {w wr : World} {g3 g2 m : Nat} {f : Nat → RSt} {o : RV} (h : Nws w wr g3 g2 f m o) (hle : ¬ (nb f m).epoch < (f m).epoch) : Nws w wr g3 g2 f (m + 1) o := ⟨by rw [nb_le hle]; exact h.is_, h.blk, h.res, h.below⟩
theorem Nws.take {w wr : World} {g3 g2 m : Nat} {f : Nat → RSt} {o y : RV} (h : Nws w wr g3 g2 f m o) (hlt : (nb f m).epoch < (f m).epoch) (hy : y.Is (f m) w) (h2 : g2 ≠ g3) (hg : w.heap.size ≤ g3) : Nws w ((wr.setCell ⟨g3, 0, none⟩ (.int .i64 y.e)).setCell ⟨g3, 1, none⟩ y.s) g3 g2 f (m + 1) y :=
  ⟨by rw [nb_gt hlt]; exact hy, box_put h.blk rfl _ _, (h.res.far (p := ⟨g3, 0, none⟩) h2 _).far (p := ⟨g3, 1, none⟩) h2 _, below_box h.below hg _ _⟩
set_option maxRecDepth 100000 in
set_option maxHeartbeats 4000000 in
theorem newestR_any (f : Nat → RSt) (x : Nat → RV) (w : World) (h : ∀ j, j < 4 → (x j).Is (f j) w) :
    Calls Tryz.prog 60 #[fnV x] w fun e w' => ∃ o : RV, e = .returned o.v ∧ o.Is (nb f 4) w' ∧ Below w.heap.size w w' ∧ ∀ ad, o.A = some ad → ∃ j, j < 4 ∧ (x j).A = some ad := by
  have HX := hid h
  clear h
  go_enter Tryz.func60, Tryz.ntmps60
  have HN0 := hid (show Nws w (((w.alloc (.cells (fnC x) 132)).alloc (.cells #[.int .i64 0, .slice none 0 0] 85)).alloc (.cells #[.int .i64 0, .slice none 0 0] 85)) (w.heap.size + 2) (w.heap.size + 1) f 0 rv0 from by
    have h2 := Blk.new ((w.alloc (.cells (fnC x) 132)).alloc (.cells #[.int .i64 0, .slice none 0 0] 85)) 85 #[.int .i64 0, .slice none 0 0]
    have h1 := Blk.new (w.alloc (.cells (fnC x) 132)) 85 #[.int .i64 0, .slice none 0 0]
    refine ⟨⟨rfl, Rf.empty _ _⟩, by simp at h2; exact h2, by simpa using h1.alloc _, (((Below.refl _ _).alloc (Nat.le_refl _) _).alloc (by simp) _).alloc (by simp; omega) _⟩)
  have HK0 := hid (show Blk (((w.alloc (.cells (fnC x) 132)).alloc (.cells #[.int .i64 0, .slice none 0 0] 85)).alloc (.cells #[.int .i64 0, .slice none 0 0] 85)) w.heap.size 132 (fnC x) from ((Blk.new w _ _).alloc _).alloc _)
  have k0 := HK0.out.cell 0
  have k1 := HK0.out.cell 1
  have k2 := HK0.out.cell 2
  have k3 := HK0.out.cell 3
  have k4 := HK0.out.cell 4
  have k5 := HK0.out.cell 5
  have k6 := HK0.out.cell 6
  have k7 := HK0.out.cell 7
  simp [fnC] at k0 k1 k2 k3 k4 k5 k6 k7
  go_wp2
  go_loopw [9] (fun i wr => ∃ (m : Nat) (o : RV), m ≤ 2 ∧ i = .int .i64 (m : Int) ∧ Nws w wr (w.heap.size + 2) (w.heap.size + 1) f (2 * m) o ∧ (∀ ad, o.A = some ad → ∃ j, j < 4 ∧ (x j).A = some ad)) (fun i _ => 2 - (intOf i).toNat)
  case atStart => exact ⟨0, rv0, by omega, rfl, HN0.out, fun _ h => by cases h⟩
  case round =>
    obtain ⟨m, o, hm, rfl, hn, ho⟩ := hrel
    have HN := hid hn
    have HO := hid ho
    clear hn ho
    rcases (show m = 0 ∨ m = 1 ∨ m = 2 by omega) with rfl | rfl | rfl
    · have xF := fun W => Tryz.idxF0 (.int .i64 (x 0).e) (x 0).s (.int .i64 (x 1).e) (x 1).s (.int .i64 (x 2).e) (x 2).s (.int .i64 (x 3).e) (x 3).s W
      have HN3 := hid (HN.out.alloc (.cells #[.int .i64 (x 0).e, (x 0).s, .int .i64 (x 1).e, (x 1).s] 130))
      go_wp2
      go_loopw [13] (fun i wr => ∃ (k : Nat) (o : RV), k ≤ 2 ∧ i = .int .i64 (k : Int) ∧ Nws w wr (w.heap.size + 2) (w.heap.size + 1) f (2 * 0 + k) o ∧ (∀ ad, o.A = some ad → ∃ j, j < 4 ∧ (x j).A = some ad)) (fun i _ => 2 - (intOf i).toNat)
      case atStart => exact ⟨0, o, by omega, rfl, HN3.out, HO.out⟩
      case round =>
        obtain ⟨k, o, hk, rfl, hn, ho⟩ := hrel
        have HNr := hid hn
        have HOr := hid ho
        clear hn ho xF
        rcases (show k = 0 ∨ k = 1 ∨ k = 2 by omega) with rfl | rfl | rfl
        · have xP := fun W => Tryz.idxP0 (.int .i64 (x 0).e) (x 0).s (.int .i64 (x 1).e) (x 1).s W
          have hyj := HX.out 0 (by omega)
          have HNb := hid (HNr.out.alloc (.cells #[.int .i64 (x 0).e, (x 0).s] 85))
          have b0 := HNb.out.blk.cell 0
          have b1 := HNb.out.blk.cell 1
          have fr := fun i => HNb.out.blk.free i
          simp at b0 b1
          have hoe := HNr.out.is_.1
          have hye := hyj.1
          have HYj := hid hyj
          by_cases hlt : o.e < (x 0).e
          · have HNn := hid (HNb.out.take (m := 0) (y := x 0) (by have h1 : o.e = (nb f 0).epoch := hoe; rw [← h1, ← hye]; exact hlt) HYj.out (by omega) (by omega))
            clear hoe hye hyj
            go_wp2
            go_roundw
            case rel => exact ⟨1, x 0, by omega, rfl, HNn.out, fun ad ha => ⟨0, by omega, ha⟩⟩
            case measure => simp [intOf]
          · have HNn := hid (HNb.out.skip (m := 0) (by have h1 : o.e = (nb f 0).epoch := hoe; rw [← h1, ← hye]; exact hlt))
            clear hoe hye hyj
            go_wp2
            go_roundw
            case rel => exact ⟨1, o, by omega, rfl, HNn.out, HOr.out⟩
            case measure => simp [intOf]
        · have xP := fun W => Tryz.idxP1 (.int .i64 (x 0).e) (x 0).s (.int .i64 (x 1).e) (x 1).s W
          have hyj := HX.out 1 (by omega)
          have HNb := hid (HNr.out.alloc (.cells #[.int .i64 (x 1).e, (x 1).s] 85))
          have b0 := HNb.out.blk.cell 0
          have b1 := HNb.out.blk.cell 1
          have fr := fun i => HNb.out.blk.free i
          simp at b0 b1
          have hoe := HNr.out.is_.1
          have hye := hyj.1
          have HYj := hid hyj
          by_cases hlt : o.e < (x 1).e
          · have HNn := hid (HNb.out.take (m := 1) (y := x 1) (by have h1 : o.e = (nb f 1).epoch := hoe; rw [← h1, ← hye]; exact hlt) HYj.out (by omega) (by omega))
            clear hoe hye hyj
            go_wp2
            go_roundw
            case rel => exact ⟨2, x 1, by omega, rfl, HNn.out, fun ad ha => ⟨1, by omega, ha⟩⟩
            case measure => simp [intOf]
          · have HNn := hid (HNb.out.skip (m := 1) (by have h1 : o.e = (nb f 1).epoch := hoe; rw [← h1, ← hye]; exact hlt))
            clear hoe hye hyj
            go_wp2
            go_roundw
            case rel => exact ⟨2, o, by omega, rfl, HNn.out, HOr.out⟩
            case measure => simp [intOf]
        · go_wp2
          go_roundw
          case rel => exact ⟨1, o, by omega, rfl, HNr.out, HOr.out⟩
          case measure => simp [intOf]
    · have xF := fun W => Tryz.idxF1 (.int .i64 (x 0).e) (x 0).s (.int .i64 (x 1).e) (x 1).s (.int .i64 (x 2).e) (x 2).s (.int .i64 (x 3).e) (x 3).s W
      have HN3 := hid (HN.out.alloc (.cells #[.int .i64 (x 2).e, (x 2).s, .int .i64 (x 3).e, (x 3).s] 130))
      go_wp2
      go_loopw [13] (fun i wr => ∃ (k : Nat) (o : RV), k ≤ 2 ∧ i = .int .i64 (k : Int) ∧ Nws w wr (w.heap.size + 2) (w.heap.size + 1) f (2 * 1 + k) o ∧ (∀ ad, o.A = some ad → ∃ j, j < 4 ∧ (x j).A = some ad)) (fun i _ => 2 - (intOf i).toNat)
      case atStart => exact ⟨0, o, by omega, rfl, HN3.out, HO.out⟩
      case round =>
        obtain ⟨k, o, hk, rfl, hn, ho⟩ := hrel
        have HNr := hid hn
        have HOr := hid ho
        clear hn ho xF
        rcases (show k = 0 ∨ k = 1 ∨ k = 2 by omega) with rfl | rfl | rfl
        · have xP := fun W => Tryz.idxP0 (.int .i64 (x 2).e) (x 2).s (.int .i64 (x 3).e) (x 3).s W
          have hyj := HX.out 2 (by omega)
          have HNb := hid (HNr.out.alloc (.cells #[.int .i64 (x 2).e, (x 2).s] 85))
          have b0 := HNb.out.blk.cell 0
          have b1 := HNb.out.blk.cell 1
          have fr := fun i => HNb.out.blk.free i
          simp at b0 b1
          have hoe := HNr.out.is_.1
          have hye := hyj.1
          have HYj := hid hyj
          by_cases hlt : o.e < (x 2).e
          · have HNn := hid (HNb.out.take (m := 2) (y := x 2) (by have h1 : o.e = (nb f 2).epoch := hoe; rw [← h1, ← hye]; exact hlt) HYj.out (by omega) (by omega))
            clear hoe hye hyj
            go_wp2
            go_roundw
            case rel => exact ⟨1, x 2, by omega, rfl, HNn.out, fun ad ha => ⟨2, by omega, ha⟩⟩
            case measure => simp [intOf]
          · have HNn := hid (HNb.out.skip (m := 2) (by have h1 : o.e = (nb f 2).epoch := hoe; rw [← h1, ← hye]; exact hlt))
            clear hoe hye hyj
            go_wp2
            go_roundw
            case rel => exact ⟨1, o, by omega, rfl, HNn.out, HOr.out⟩
            case measure => simp [intOf]
        · have xP := fun W => Tryz.idxP1 (.int .i64 (x 2).e) (x 2).s (.int .i64 (x 3).e) (x 3).s W
          have hyj := HX.out 3 (by omega)
          have HNb := hid (HNr.out.alloc (.cells #[.int .i64 (x 3).e, (x 3).s] 85))
          have b0 := HNb.out.blk.cell 0
          have b1 := HNb.out.blk.cell 1
          have fr := fun i => HNb.out.blk.free i
          simp at b0 b1
          have hoe := HNr.out.is_.1
          have hye := hyj.1
          have HYj := hid hyj
          by_cases hlt : o.e < (x 3).e
          · have HNn := hid (HNb.out.take (m := 3) (y := x 3) (by have h1 : o.e = (nb f 3).epoch := hoe; rw [← h1, ← hye]; exact hlt) HYj.out (by omega) (by omega))
            clear hoe hye hyj
            go_wp2
            go_roundw
            case rel => exact ⟨2, x 3, by omega, rfl, HNn.out, fun ad ha => ⟨3, by omega, ha⟩⟩
            case measure => simp [intOf]
          · have HNn := hid (HNb.out.skip (m := 3) (by have h1 : o.e = (nb f 3).epoch := hoe; rw [← h1, ← hye]; exact hlt))
            clear hoe hye hyj
            go_wp2
            go_roundw
            case rel => exact ⟨2, o, by omega, rfl, HNn.out, HOr.out⟩
            case measure => simp [intOf]
        · go_wp2
          go_roundw
          case rel => exact ⟨2, o, by omega, rfl, HNr.out, HOr.out⟩
          case measure => simp [intOf]
    · have b0 := HN.out.blk.cell 0
      have b1 := HN.out.blk.cell 1
      have r0 := HN.out.res.cell 0
      have r1 := HN.out.res.cell 1
      have fr := fun i => HN.out.res.free i
      simp at b0 b1 r0 r1
      have HKn := box_put HN.out.res rfl (.int .i64 o.e) o.s
      have m0 := HKn.cell 0
      have m1 := HKn.cell 1
      simp at m0 m1
      simp only [RV.s] at m0 m1
      have hb : Below w.heap.size w ((wr.setCell ⟨w.heap.size + 1, 0, none⟩ (.int .i64 o.e)).setCell ⟨w.heap.size + 1, 1, none⟩ o.s) := below_box HN.out.below (by omega) _ _
      have HBn := hid hb
      have HIn := hid (show o.Is (nb f 4) ((wr.setCell ⟨w.heap.size + 1, 0, none⟩ (.int .i64 o.e)).setCell ⟨w.heap.size + 1, 1, none⟩ o.s) from RV.Is.on HN.out.is_ hb)
      clear HKn hb
      go_wp2
      exact bodyPost_ret (v := o.v) (by simp [results, Tryz.results60, go_sem, m0, m1]) rfl ⟨o, rfl, HIn.out, HBn.out, HO.out⟩
end Go.Proofs.YtkhdgacjgccnnaaGreatDoor
