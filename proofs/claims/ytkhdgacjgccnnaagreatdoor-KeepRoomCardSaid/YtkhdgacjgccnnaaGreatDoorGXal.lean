/- Put together out of 1 texts. Package pair's pairs in memory, and its calls, over any device that keeps its own: what the landed code is. -/
import Derived.Test.YtkhdgacjgccnnaaGreatDoorGXad
import Derived.LaidEql
namespace Go.Proofs.YtkhdgacjgccnnaaGreatDoor
open Go.RowKit

/-- the pairs' struct at p: its device, its geometry, how many were mended -/
def PrReal (w : World) (p d n m : Nat) (G : Nat → Prop) : Prop := Blk w p 129 #[.pointer (some ⟨d, 0, none⟩), .int .i64 (n : Int), .int .i64 (halN n : Int), .int .i64 (m : Int)] ∧ ∀ k, G k ↔ k = p
theorem PrReal.kept {w w' : World} {p d n m : Nat} {G : Nat → Prop} (h : PrReal w p d n m G) (hk : Kept G w w') : PrReal w' p d n m G := ⟨h.1.same (hk.1 p ((h.2 p).2 rfl)), h.2⟩
theorem PrReal.lt {w : World} {p d n m : Nat} {G : Nat → Prop} (h : PrReal w p d n m G) : ∀ k, G k → k < w.heap.size := fun k hk => by
  rw [(h.2 k).1 hk]; exact h.1.lt
theorem PrReal.on {w w' : World} {p d n m : Nat} {G : Nat → Prop} (h : PrReal w p d n m G) (hb : Below w.heap.size w w') : PrReal w' p d n m G := h.kept (Kept.of_below hb h.lt)
theorem PrReal.cells {w : World} {p d n m : Nat} {G : Nat → Prop} (h : PrReal w p d n m G) : w.cell? ⟨p, 0, none⟩ = some (.pointer (some ⟨d, 0, none⟩)) ∧ w.cell? ⟨p, 1, none⟩ = some (.int .i64 (n : Int)) ∧ w.cell? ⟨p, 2, none⟩ = some (.int .i64 (halN n : Int)) ∧ w.cell? ⟨p, 3, none⟩ = some (.int .i64 (m : Int)) := ⟨h.1.cell 0, h.1.cell 1, h.1.cell 2, h.1.cell 3⟩
theorem hal_nat (n : Nat) : hal (n : Int) = (halN n : Int) := by unfold hal halN; omega
theorem half_facts {n : Nat} (h0 : 300 ≤ n) : 75 ≤ halN n ∧ halN n ≤ 512 ∧ 2 * halN n ≤ n := by unfold halN; omega
theorem halN_gm {n : Nat} (h0 : 300 ≤ n) (h1 : n ≤ 6000) : Gm (n : Int) (halN n : Int) := by rw [← hal_nat]; exact hal_gm (by omega) (by omega)

set_option maxHeartbeats 1000000 in
theorem prPartner_ok (p d n m i : Nat) (G : Nat → Prop) (w : World) (h : PrReal w p d n m G) (h0 : 300 ≤ n) (h1 : n ≤ 6000) (hi : i < halN n) :
    Calls Tryz.prog 125 #[.pointer (some ⟨p, 0, none⟩), .int .i64 (i : Int)] w fun e w' => e = .returned (.tuple #[.int .i64 ((i + halN n : Nat) : Int), .nilIface]) ∧ Below w.heap.size w w' := by
  obtain ⟨_, c1, c2, _⟩ := h.cells
  have HG := hid (halN_gm h0 h1)
  have HP := hid (show prt (halN n : Int) (i : Int) = ((i + halN n : Nat) : Int) by unfold prt; rw [if_pos ⟨by omega, by omega⟩]; omega)
  have g1 : decide ((i : Int) < 0) = false := by simp
  have g2 : decide (halN n ≤ i) = false := by simp; omega
  generalize halN n = H at *
  clear h h0 h1 hi
  go_enter Tryz.func125, Tryz.ntmps125
  go_wp2_with fail
  refine (partner_any (n : Int) (H : Int) (i : Int) _ HG.out).mono ?_
  rw [HP.out]
  rintro e w1 ⟨rfl, hb⟩
  have HB := hid hb
  clear hb
  go_wp2
  go_ret2
  exact ⟨rfl, HB.out⟩
set_option maxHeartbeats 1000000 in
theorem prPartner_bad (S : Nat → Addr) (p d n m : Nat) (i : Int) (G : Nat → Prop) (w : World) (hS : Sent5 w S) (h : PrReal w p d n m G) (hi : i < 0 ∨ (halN n : Int) ≤ i) :
    Calls Tryz.prog 125 #[.pointer (some ⟨p, 0, none⟩), .int .i64 i] w fun e w' => e = .returned (.tuple #[.int .i64 0, .iface 261 (.pointer (some (S 2)))]) ∧ Below w.heap.size w w' := by
  obtain ⟨_, c1, c2, _⟩ := h.cells
  have hv : w.cell? ⟨0, 0, none⟩ = some (.iface 261 (.pointer (some (S 2)))) := hS 2 (by decide)
  have hc : decide (i < 0) = true ∨ (decide (i < 0) = false ∧ decide ((halN n : Int) ≤ i) = true) := by
    by_cases h1 : i < 0
    · exact .inl (by simpa using h1)
    · exact .inr ⟨by simpa using h1, by simp; omega⟩
  generalize halN n = H at *
  clear h hS hi
  rcases hc with g1 | ⟨g1, g2⟩
  all_goals
    go_enter Tryz.func125, Tryz.ntmps125
    go_wp2_with fail
    go_region
    go_wp2
    go_ret2
    exact ⟨rfl, (Below.refl _ _).drew⟩

theorem right_eq {s : DSt} {n q i : Nat} {b : BSt} (hu : Up s n q) (hi : i < n) (hb : s.blks[i]? = some b) (z : Nat) : s.right i z = ((b.read.1 == 0) && (crcOf (nats b.read.2) == z)) := hu.right hi hb z
theorem read_ok {b : BSt} (ho : b.ok) (h0 : b.read.1 = 0) : b.read.2.length = 256 ∧ Byt b.read.2 := by
  unfold BSt.read at h0 ⊢
  split
  · exact ⟨ho.2.2.2, ho.2.2.1⟩
  · split
    · rename_i h3 h4; rw [if_neg h3, if_pos h4] at h0; cases h0
    · exact ⟨ho.2.1, ho.1⟩
theorem read_code (b : BSt) : b.read.1 = 0 ∨ b.read.1 = 107 := by
  unfold BSt.read
  split
  · exact .inl rfl
  · split
    · exact .inr rfl
    · exact .inl rfl
theorem ev_io {S : Nat → Addr} {v : Value} (h : EV S 107 v) : v = .iface 261 (.pointer (some (S 6))) := by
  obtain ⟨j, hj, e⟩ : ∃ j, j = 6 ∧ v = .iface 261 (.pointer (some (S j))) := by
    generalize hc : (107 : Int) = c at h
    rcases h with _ | ⟨j, hj⟩
    · cases hc
    · exact ⟨j, by omega, rfl⟩
  subst hj; exact e
/-- what 'right' answers: the block's bytes, if they can be read and have the sum; else ErrIO -/
def RightOut (S : Nat → Addr) (w : World) (s : DSt) (i z : Nat) (e : Ending) (w' : World) : Prop :=
  (s.right i z = true ∧ ∃ A c, e = .returned (.tuple #[.slice A 256 c, .nilIface]) ∧ Sl w' w'.heap.size A 256 c (s.read (i : Int)).2 ∧ Byt (s.read (i : Int)).2 ∧ Below w.heap.size w w' ∧ ∀ ad, A = some ad → w.heap.size ≤ ad.block) ∨
  (s.right i z = false ∧ e = .returned (.tuple #[.slice none 0 0, .iface 261 (.pointer (some (S 6)))]) ∧ Below w.heap.size w w')
section
variable {Real : World → Nat → DSt → (Nat → Prop) → Prop}
set_option maxHeartbeats 1000000 in
theorem prRight_any (D : DevOk Real) (S : Nat → Addr) (p d n m i z q : Nat) (s : DSt) (F G : Nat → Prop) (w : World) (hS : Sent5 w S) (hr : Real w d s F) (h : PrReal w p d n m G) (hu : Up s n q) (hq : q ≤ 900000) (hi : i < n) :
    Calls Tryz.prog 133 #[.pointer (some ⟨p, 0, none⟩), .int .i64 (i : Int), .int .u32 (z : Int)] w (RightOut S w s i z) := by
  obtain ⟨c0, _, _, _⟩ := h.cells
  obtain ⟨b, hb⟩ := hu.at_ hi
  have HS := hid hS
  have HR := hid hr
  have HO := hid (hu.ok (by omega))
  have HE := hid (hu.read hi hb)
  have HRt := hid (right_eq hu hi hb z)
  have HBo := hid (hu.okN.1 b (List.mem_of_getElem? hb))
  clear hS hr h hu hb
  unfold RightOut
  rw [HE.out, HRt.out]
  obtain ⟨⟨code, y⟩, hxy⟩ : ∃ x, b.read = x := ⟨_, rfl⟩
  have HXY := hid hxy
  have HC := hid (show code = 0 ∨ code = 107 from by have := read_code b; rwa [hxy] at this)
  have HOk := hid (show code = 0 → y.length = 256 ∧ Byt y from fun h0 => by
    have := read_ok HBo.out (by rw [hxy]; exact h0)
    rwa [hxy] at this)
  rw [hxy]
  clear hxy
  go_enter Tryz.func133, Tryz.ntmps133
  go_wp2_with fail
  refine (D.read S d s F _ _ HS.out HR.out HO.out).mono ?_
  rw [HE.out, HXY.out]
  rintro e w1 ⟨B, k, cb, v, rfl, hv, hb, hbl, hfr⟩
  have HB := hid hb
  have HBl := hid hbl
  have HFr := hid hfr
  have hv1 : w1.cell? ⟨2, 0, none⟩ = some (.iface 261 (.pointer (some (S 6)))) := (HS.out.on hbl) 6 (by decide)
  clear hbl hb hfr c0
  rcases HC.out with hc | hc
  · subst hc
    obtain rfl := hv.nil
    obtain ⟨hy1, hy2⟩ := HOk.out rfl
    obtain rfl : k = 256 := by rw [← HB.out.len, hy1]
    have HY := hid hy2
    clear hy1 hy2 hv
    by_cases hsum : crcOf (nats y) = z
    · have q1 : (((crcOf (nats y) : Nat) : Int) != (z : Int)) = false := by simp [hsum]
      have HT := hid (show (((0 : Int) == 0) && (crcOf (nats y) == z)) = true by simp [hsum])
      clear hsum
      go_wp2_with fail
      refine (sum_any B 256 cb _ y _ HB.out HY.out).mono ?_
      rintro e w2 ⟨rfl, rfl⟩
      go_wp2
      go_ret2
      exact .inl ⟨HT.out, B, cb, rfl, HB.out, HY.out, HBl.out, HFr.out⟩
    · have q1 : (((crcOf (nats y) : Nat) : Int) != (z : Int)) = true := by simp; omega
      have HT := hid (show (((0 : Int) == 0) && (crcOf (nats y) == z)) = false by simp [hsum])
      clear hsum
      go_wp2_with fail
      refine (sum_any B 256 cb _ y _ HB.out HY.out).mono ?_
      rintro e w2 ⟨rfl, rfl⟩
      go_wp2_with fail
      go_region
      go_wp2
      go_ret2
      exact .inr ⟨HT.out, rfl, HBl.out.drew⟩
  · subst hc
    obtain rfl := ev_io hv
    clear hv
    go_wp2
    go_ret2
    exact .inr ⟨by simp, rfl, HBl.out⟩
set_option maxHeartbeats 1000000 in
theorem prAnew_any (D : DevOk Real) (S : Nat → Addr) (p d n m i q : Nat) (s : DSt) (F G : Nat → Prop) (A : Option Addr) (c : Nat) (l : List Int) (w : World) (hS : Sent5 w S) (hr : Real w d s F) (h : PrReal w p d n m G) (hap : ∀ k, F k → ¬ G k) (hu : Up s n q) (hq : q ≤ 900000) (hm : m ≤ 1000) (hi : i < n) (hl : Sl w w.heap.size A 256 c l) (hA : ∀ ad, A = some ad → ¬ F ad.block) (hb : Byt l) :
    Calls Tryz.prog 134 #[.pointer (some ⟨p, 0, none⟩), .int .i64 (i : Int), .slice A 256 c] w fun e w' => e = .returned (.tuple #[.int .i64 1, .nilIface]) ∧ PrUpd Real PrReal w d p (s.put i l) n (m + 1) F G (fun F' G' => (∀ k, F' k → F k ∨ w.heap.size ≤ k) ∧ ∀ k, G' k → k = p) w' := by
  obtain ⟨c0, _, _, _⟩ := h.cells
  have HD := hid D
  have HH := hid h
  have HAp := hid hap
  have HM := hid hm
  have HLt := hid (h.lt)
  have HW := hid (hu.write hi hl.len hb).1
  have hO := hid (hu.ok (by omega))
  have hw := D.write S d s F (i : Int) A 256 c l w hS hr hO hl (fun ad ha _ => hA ad ha) hb (by omega)
  rw [HW.out] at hw
  have HWr := hid hw
  clear hS hr h hap hu hm hl hA hb hw hO D
  go_enter Tryz.func134, Tryz.ntmps134
  go_wp2_with fail
  refine HWr.out.mono ?_
  rintro e w1 ⟨⟨v, hv, rfl⟩, F', hr', ho', hf'⟩
  obtain rfl := hv.nil
  have HR := hid hr'
  have HO := hid ho'
  have HF := hid hf'
  have hp1 : PrReal w1 p d n m G := HH.out.kept (ho'.kept HLt.out (fun k hg hf => HAp.out k hf hg))
  have HP1 := hid hp1
  obtain ⟨_, _, _, c3⟩ := hp1.cells
  have fr := fun i => hp1.1.free i
  have hm63 : (m : Int) ≤ 1000 := by have := HM.out; omega
  clear hr' ho' hf' hv hp1 c0
  go_wp2
  go_ret2
  refine ⟨rfl, F', G, HD.out.kept HR.out ⟨fun k hk => ?_, by simp⟩, ⟨?_, HP1.out.2⟩, (HO.out.mono (fun k hk => .inl (.inl hk))).put (.inr ((HP1.out.2 p).2 rfl)) _, fun k hk => (HF.out k hk).elim .inl (fun h => .inr (.inr h)), fun k hk => .inr (.inl hk), fun k hk hg => ?_, HF.out, fun k hk => (HP1.out.2 k).1 hk⟩
  · refine Below.heap_setCell _ _ _ k (fun e => ?_)
    have hkp : k = p := e
    subst hkp
    rcases HF.out k hk with hf | hf
    · exact HAp.out k hf ((HH.out.2 k).2 rfl)
    · have := HLt.out k ((HH.out.2 k).2 rfl); omega
  · have := HP1.out.1.put 3 (.int .i64 ((m : Int) + 1))
    simpa using this
  · obtain rfl := (HP1.out.2 k).1 hg
    rcases HF.out k hk with hf | hf
    · exact HAp.out k hf hg
    · have := HLt.out k hg; omega
set_option maxHeartbeats 1000000 in
theorem prGeo_any (p d n m : Nat) (G : Nat → Prop) (w : World) (h : PrReal w p d n m G) : Calls Tryz.prog 64 #[.pointer (some ⟨p, 0, none⟩)] w fun e w' => e = .returned (gv (n : Int) (halN n : Int)) ∧ Below w.heap.size w w' := by
  have h' := h.on ((Below.refl _ _).alloc (Nat.le_refl _) (.cells #[.int .i64 0, .int .i64 0] 125))
  obtain ⟨_, c1, c2, _⟩ := h'.cells
  generalize halN n = H at *
  clear h h'
  go_enter Tryz.func64, Tryz.ntmps64
  go_wp2
  exact bodyPost_ret (v := gv (n : Int) (H : Int)) (by simp [results, Tryz.results64, go_sem]) rfl ⟨rfl, by repeat (first | exact Below.refl _ _ | refine Below.setCell ?_ (by simp) _ | refine Below.alloc ?_ (by simp) _)⟩
set_option maxHeartbeats 1000000 in
theorem prOpen_any (D : DevOk Real) (d : Nat) (s : DSt) (F : Nat → Prop) (w : World) (hr : Real w d s F) (hok : s.ok) (h300 : 300 ≤ s.blks.length) :
    Calls Tryz.prog 34 #[.pointer (some ⟨d, 0, none⟩)] w fun e w' => ∃ p G, e = .returned (.tuple #[.pointer (some ⟨p, 0, none⟩), .nilIface]) ∧ PrReal w' p d s.blks.length 0 G ∧ Below w.heap.size w w' ∧ ∀ k, G k → w.heap.size ≤ k := by
  have HBl := hid (D.blocks d s F w hr hok)
  have H6 := hid (hok.2.2.2)
  have H3 := hid h300
  unfold PrReal
  generalize s.blks.length = n at *
  obtain ⟨H, hH⟩ : ∃ H, halN n = H := ⟨_, rfl⟩
  have HH := hid (show hal (n : Int) = (H : Int) by rw [hal_nat, hH])
  have HHn := hid hH
  rw [hH]
  clear hr hok h300 hH
  go_enter Tryz.func34, Tryz.ntmps34
  go_wp2_with fail
  refine HBl.out.mono ?_
  rintro e w1 ⟨rfl, k, rfl⟩
  go_wp2_with fail
  refine (of_ok (n : Int) _ (by have := H3.out; omega) (by have := H6.out; omega)).mono ?_
  rw [HH.out]
  rintro e w2 ⟨rfl, hb⟩
  have HB := hid (show Below w.heap.size w w2 from ⟨hb.os, hb.tape, hb.output, hb.size, hb.block⟩)
  clear hb
  go_wp2
  go_ret2
  refine ⟨w2.heap.size + 1, fun k => k = w2.heap.size + 1, rfl, ⟨?_, fun _ => Iff.rfl⟩, (HB.out.alloc HB.out.size _).alloc (by have := HB.out.size; simp; omega) _, fun k hk => by rw [hk]; have := HB.out.size; omega⟩
  have := Blk.new (w2.alloc (.cells #[.int .i64 (n : Int), .int .i64 (H : Int)] 125)) 129 #[.pointer (some ⟨d, 0, none⟩), .int .i64 (n : Int), .int .i64 (H : Int), .int .i64 0]
  simpa using this
theorem Tryz.idx0 (x y : Int) (w : World) : (Instr.index 140 (.agg #[.int .i64 x, .int .i64 y]) (.int .i64 0)).run Tryz.prog w = .ok (.int .i64 x) w := by kernel_rfl
theorem Tryz.idx1 (x y : Int) (w : World) : (Instr.index 140 (.agg #[.int .i64 x, .int .i64 y]) (.int .i64 1)).run Tryz.prog w = .ok (.int .i64 y) w := by kernel_rfl
set_option maxRecDepth 100000 in
set_option maxHeartbeats 2000000 in
theorem prWrite_any (D : DevOk Real) (S : Nat → Addr) (p d n m i q : Nat) (s : DSt) (F G : Nat → Prop) (A : Option Addr) (c : Nat) (l : List Int) (w0 w : World) (hS : Sent5 w0 S) (hB0 : Below w0.heap.size w0 w) (hF0 : ∀ k, F k → w0.heap.size ≤ k) (hr : Real w d s F) (h : PrReal w p d n m G) (hap : ∀ k, F k → ¬ G k) (hu : Up s n q) (hq : q ≤ 900000) (h0 : 300 ≤ n) (h1 : n ≤ 6000) (hi : i < halN n) (hl : Sl w w.heap.size A 256 c l) (hA : ∀ ad, A = some ad → ¬ F ad.block ∧ ¬ G ad.block) (hb : Byt l) :
    Calls Tryz.prog 90 #[.pointer (some ⟨p, 0, none⟩), .int .i64 (i : Int), .slice A 256 c] w fun e w' => e = .returned (.tuple #[refV i (crcOf (nats l)), .nilIface]) ∧ PrUpd Real PrReal w d p (pWrite s (halN n) i l) n m F G (fun _ _ => True) w' := by
  have hh := half_facts h0
  obtain ⟨hw1, hu1⟩ := hu.write (i := i) (l := l) (by omega) hl.len hb
  obtain ⟨hw2, hu2⟩ := hu1.write (i := i + halN n) (l := l) (by omega) hl.len hb
  have hlen := hl.len
  have HW1 := hid hw1
  have HW2 := hid hw2
  have HU := hid (hu.ok (by omega))
  have HU1 := hid (hu1.ok (by omega))
  have HD := hid D
  have HS := hid hS
  have HB0 := hid hB0
  have HF0 := hid hF0
  have HR := hid hr
  have HP := hid h
  have HAp := hid hap
  have HL := hid hl
  have HA := hid hA
  have HY := hid hb
  have HFl := hid (D.lt hr)
  have hPa := h.on ((Below.refl _ _).alloc (Nat.le_refl _) (.cells #[.int .i64 0, .int .u32 0] 91))
  have HPc := hid (prPartner_ok p d n m i G _ hPa h0 h1 hi)
  have HPw := hid (show pWrite s (halN n) i l = (s.put i l).put (i + halN n) l from rfl)
  rw [HPw.out]
  generalize halN n = H at *
  clear hS hB0 hF0 hr h hap hu hu1 hu2 hq hl hA hb hw1 hw2 D hPa hlen HPw
  go_enter Tryz.func90, Tryz.ntmps90
  go_wp2_with fail
  refine HPc.out.mono ?_
  rintro e w1 ⟨rfl, hbe⟩
  have HBk := hid ((Blk.new w 91 #[.int .i64 0, .int .u32 0]).below hbe (by simp))
  have HB1 := hid (show Below w.heap.size w w1 from ((Below.refl _ _).alloc (Nat.le_refl _) _).trans (hbe.mono (by simp)))
  have HSz := hid (show w.heap.size < w1.heap.size from by have := hbe.size; simp at this; omega)
  clear hbe
  go_wp2
  go_loopw [26] (fun v wr => ∃ (s' : DSt) (F' : Nat → Prop), ((v = .int .i64 0 ∧ s' = s) ∨ (v = .int .i64 1 ∧ s' = s.put i l) ∨ (v = .int .i64 2 ∧ s' = (s.put i l).put (i + H) l)) ∧ Real wr d s' F' ∧ Only F w1 wr ∧ (∀ k, F' k → F k ∨ w1.heap.size ≤ k)) (fun v _ => 2 - (intOf v).toNat)
  case atStart => exact ⟨s, F, .inl ⟨rfl, rfl⟩, HD.out.kept HR.out (Kept.of_below HB1.out HFl.out), Only.refl _ _, fun k hk => .inl hk⟩
  case round =>
    obtain ⟨s', F', hv, hr', ho', hf'⟩ := hrel
    have HR' := hid hr'
    have HO' := hid ho'
    have HF' := hid hf'
    clear hr' ho' hf'
    have hp1 : PrReal wr p d n m G := (HP.out.on HB1.out).kept (HO'.out.kept (HP.out.on HB1.out).lt (fun k hg hf => HAp.out k hf hg))
    obtain ⟨c0, _, _, _⟩ := hp1.cells
    have HPr := hid hp1
    have HLr := hid (show Sl wr wr.heap.size A 256 c l from (HL.out.on HB1.out).only HO'.out (fun ad ha _ => (HA.out ad ha).1))
    have HBr := hid (show Below w0.heap.size w0 wr from ((HB0.out.trans (HB1.out.mono HB0.out.size))).trans (HO'.out.below (by have := HB0.out.size; have := HSz.out; omega) HF0.out))
    have HAf := hid (show ∀ ad, A = some ad → 0 < 256 → ¬ F' ad.block from fun ad ha _ hf => by
      rcases HF'.out _ hf with h1 | h1
      · exact (HA.out ad ha).1 h1
      · have := (HL.out.at_ ad ha (by omega)).1; have := HSz.out; omega)
    clear hp1
    have x0 := fun W => Tryz.idx0 (i : Int) ((i : Int) + (H : Int)) W
    have x1 := fun W => Tryz.idx1 (i : Int) ((i : Int) + (H : Int)) W
    rcases hv with ⟨rfl, rfl⟩ | ⟨rfl, rfl⟩ | ⟨rfl, rfl⟩
    · go_wp2_with fail
      refine (HD.out.write S d s' F' (i : Int) A 256 c l wr (HS.out.on HBr.out) HR'.out HU.out HLr.out HAf.out HY.out (by omega)).mono ?_
      rw [HW1.out]
      rintro e w2 ⟨⟨v, hv, rfl⟩, F2, hr2, ho2, hf2⟩
      obtain rfl := hv.nil
      have HR2 := hid hr2
      have HO2 := hid (HO'.out.trans ho2 (fun k hk => HF'.out k hk))
      have HF2 := hid (show ∀ k, F2 k → F k ∨ w1.heap.size ≤ k from fun k hk => (hf2 k hk).elim (HF'.out k) (fun h => .inr (by have := HO'.out.size; omega)))
      clear hr2 ho2 hf2 hv c0
      go_wp2
      go_roundw
      case rel => exact ⟨_, F2, .inr (.inl ⟨rfl, rfl⟩), HR2.out, HO2.out, HF2.out⟩
      case measure => simp [intOf]
    · go_wp2_with fail
      refine (HD.out.write S d (s.put i l) F' ((i + H : Nat) : Int) A 256 c l wr (HS.out.on HBr.out) HR'.out HU1.out HLr.out HAf.out HY.out (by omega)).mono ?_
      rw [HW2.out]
      rintro e w2 ⟨⟨v, hv, rfl⟩, F2, hr2, ho2, hf2⟩
      obtain rfl := hv.nil
      have HR2 := hid hr2
      have HO2 := hid (HO'.out.trans ho2 (fun k hk => HF'.out k hk))
      have HF2 := hid (show ∀ k, F2 k → F k ∨ w1.heap.size ≤ k from fun k hk => (hf2 k hk).elim (HF'.out k) (fun h => .inr (by have := HO'.out.size; omega)))
      clear hr2 ho2 hf2 hv c0
      go_wp2
      go_roundw
      case rel => exact ⟨_, F2, .inr (.inr ⟨rfl, rfl⟩), HR2.out, HO2.out, HF2.out⟩
      case measure => simp [intOf]
    · go_wp2_with fail
      refine (sum_any A 256 c _ l _ HLr.out HY.out).mono ?_
      rintro e w2 ⟨rfl, rfl⟩
      have hbk : Blk wr w.heap.size 91 #[.int .i64 0, .int .u32 0] := HBk.out.same (HO'.out.block _ HSz.out (fun hf => by have := HFl.out _ hf; omega))
      have fr := fun i => hbk.free i
      have b0 := hbk.cell 0
      have b1 := hbk.cell 1
      simp at b0 b1
      have HK4 := (hbk.put 0 (.int .i64 (i : Int))).put 1 (.int .u32 ((crcOf (nats l) : Nat) : Int))
      have m0 := HK4.cell 0
      have m1 := HK4.cell 1
      simp at m0 m1
      clear c0 hbk HK4
      go_wp2
      have hp := HP.out.1.lt
      have hne : ∀ k, F' k ∨ G k → k ≠ w.heap.size := fun k hk e => by
        rcases hk with hk | hk
        · rcases HF'.out k hk with hf | hf
          · have := HFl.out k hf; omega
          · have := HSz.out; omega
        · have := (HPr.out.2 k).1 hk; omega
      have hk2 : ∀ k, k ≠ w.heap.size → ((wr.setCell ⟨w.heap.size, 0, none⟩ (.int .i64 (i : Int))).setCell ⟨w.heap.size, 1, none⟩ (.int .u32 ((crcOf (nats l) : Nat) : Int))).heap[k]? = wr.heap[k]? := fun k hk => (Below.heap_setCell _ ⟨w.heap.size, 1, none⟩ _ k hk).trans (Below.heap_setCell _ ⟨w.heap.size, 0, none⟩ _ k hk)
      refine bodyPost_ret (v := .tuple #[refV i (crcOf (nats l)), .nilIface]) (by simp [results, Tryz.results90, go_sem, m0, m1]) rfl ⟨rfl, F', G, HD.out.kept HR'.out ⟨fun k hk => hk2 k (hne k (.inl hk)), by simp⟩, HPr.out.kept ⟨fun k hk => hk2 k (hne k (.inr hk)), by simp⟩, ?_, fun k hk => ?_, fun k hk => .inr (.inl hk), fun k hk hg => ?_, trivial⟩
      · exact (((Only.of_below HB1.out).trans (HO'.out.mono (G := fun k => F k ∨ G k) (fun k hk => .inl (.inl hk))) (fun k hk => .inl hk))).trans (((Only.refl (fun k => k = w.heap.size) wr).put (p := ⟨w.heap.size, 0, none⟩) rfl _).put (p := ⟨w.heap.size, 1, none⟩) rfl _) (fun k hk => .inr (Nat.le_of_eq hk.symm))
      · rcases HF'.out k hk with hf | hf
        · exact .inl hf
        · exact .inr (.inr (by have := HSz.out; omega))
      · rcases HF'.out k hk with hf | hf
        · exact HAp.out k hf hg
        · have := (HPr.out.2 k).1 hg; have := HSz.out; omega
theorem prUpd_below (D : DevOk Real) {w w' : World} {p d n m : Nat} {s : DSt} {F G : Nat → Prop} (hr : Real w d s F) (h : PrReal w p d n m G) (hap : ∀ k, F k → ¬ G k) (hb : Below w.heap.size w w') : PrUpd Real PrReal w d p s n m F G (fun F' G' => F' = F ∧ G' = G) w' :=
  ⟨F, G, D.kept hr (Kept.of_below hb (D.lt hr)), h.on hb, Only.of_below hb, fun _ hk => .inl hk, fun _ hk => .inr (.inl hk), hap, rfl, rfl⟩
theorem PrUpd.weak {w w' : World} {p d n m : Nat} {s : DSt} {F G : Nat → Prop} {Q Q' : (Nat → Prop) → (Nat → Prop) → Prop} (h : PrUpd Real PrReal w d p s n m F G Q w') (hQ : ∀ F' G', Q F' G' → Q' F' G') : PrUpd Real PrReal w d p s n m F G Q' w' := by
  obtain ⟨F', G', h1, h2, h3, h4, h5, h6, h7⟩ := h
  exact ⟨F', G', h1, h2, h3, h4, h5, h6, hQ _ _ h7⟩
theorem PrUpd.after {w w1 w' : World} {p d n m : Nat} {s : DSt} {F G : Nat → Prop} {Q : (Nat → Prop) → (Nat → Prop) → Prop} (hb : Below w.heap.size w w1) (h : PrUpd Real PrReal w1 d p s n m F G Q w') : PrUpd Real PrReal w d p s n m F G Q w' := by
  obtain ⟨F', G', h1, h2, h3, h4, h5, h6, h7⟩ := h
  have hsz := hb.size
  exact ⟨F', G', h1, h2, (Only.of_below hb).trans h3 (fun k hk => .inl hk), fun k hk => (h4 k hk).elim .inl (fun h => h.elim (fun h => .inr (.inl h)) (fun h => .inr (.inr (by omega)))), fun k hk => (h5 k hk).elim .inl (fun h => h.elim (fun h => .inr (.inl h)) (fun h => .inr (.inr (by omega)))), h6, h7⟩
theorem Tryz.neqSame (a : Addr) (w : World) : (binOp .neq 31 (.iface 261 (.pointer (some a))) (.iface 261 (.pointer (some a)))).run Tryz.prog w = .ok (.bool false) w := by
  obtain ⟨i, hi, hcomp⟩ := Option.map_eq_some_iff.1 Tryz.comp71
  obtain ⟨j, hj, _⟩ := Option.map_eq_some_iff.1 Tryz.size88
  simp only [binOp]
  simp [Op.equal, Op.maxDepth, run_equalIn_iface_ptr_same w 9998 a Tryz.underlying31 Tryz.underlying261 hi hcomp hj]
theorem Tryz.neqNil (v : Value) (w : World) : (binOp .neq 31 .nilIface (.iface 261 v)).run Tryz.prog w = .ok (.bool true) w := by
  have h : ∀ d : Nat, (Op.equalIn (d + 1) 31 .nilIface (.iface 261 v)).run Tryz.prog w = .ok false w := fun d => by simp [Op.equalIn, run_underlying Tryz.underlying31]
  simp only [binOp]
  simp [Op.equal, Op.maxDepth, h 9999]
set_option maxHeartbeats 1000000 in
theorem prWriteBad_any (D : DevOk Real) (S : Nat → Addr) (p d n m : Nat) (i : Int) (s : DSt) (F G : Nat → Prop) (A : Option Addr) (k c : Nat) (w : World) (hS : Sent5 w S) (hr : Real w d s F) (h : PrReal w p d n m G) (hap : ∀ k, F k → ¬ G k) (hi : i < 0 ∨ (halN n : Int) ≤ i) :
    Calls Tryz.prog 90 #[.pointer (some ⟨p, 0, none⟩), .int .i64 i, .slice A k c] w fun e w' => (∃ a z v, EV S 103 v ∧ e = .returned (.tuple #[.agg #[.int .i64 a, .int .u32 z], v])) ∧ PrUpd Real PrReal w d p s n m F G (fun _ _ => True) w' := by
  have hal : Below w.heap.size w (w.alloc (.cells #[.int .i64 0, .int .u32 0] 91)) := (Below.refl _ _).alloc (Nat.le_refl _) _
  have HPc := hid (prPartner_bad S p d n m i G _ (hS.on hal) (h.on hal) hi)
  have HU := hid (fun (w' : World) (hb : Below w.heap.size w w') => (prUpd_below D hr h hap hb).weak (Q' := fun _ _ => True) (fun _ _ _ => trivial))
  clear hS hr h hap hi D hal
  go_enter Tryz.func90, Tryz.ntmps90
  go_wp2_with fail
  refine HPc.out.mono ?_
  rintro e w1 ⟨rfl, hbe⟩
  have hbk := (Blk.new w 91 #[.int .i64 0, .int .u32 0]).below hbe (by simp)
  have HB1 := hid (show Below w.heap.size w w1 from ((Below.refl _ _).alloc (Nat.le_refl _) _).trans (hbe.mono (by simp)))
  have fr := fun i => hbk.free i
  have b0 := hbk.cell 0
  have b1 := hbk.cell 1
  simp at b0 b1
  have HK4 := (hbk.put 0 (.int .i64 0)).put 1 (.int .u32 0)
  have m0 := HK4.cell 0
  have m1 := HK4.cell 1
  simp at m0 m1
  clear hbe hbk HK4
  go_wp2
  refine bodyPost_ret (v := .tuple #[.agg #[.int .i64 0, .int .u32 0], .iface 261 (.pointer (some (S 2)))]) (by simp [results, Tryz.results90, go_sem, m0, m1]) rfl ⟨⟨0, 0, _, .err 2 (by decide), rfl⟩, HU.out _ ?_⟩
  exact (HB1.out.setCell (p := ⟨w.heap.size, 0, none⟩) (by simp) _).setCell (p := ⟨w.heap.size, 1, none⟩) (by simp) _
/-- what the reading calls need: the partner, the one block, the other, a block written anew; each behind any world that has only grown -/
structure Ready (Real : World → Nat → DSt → (Nat → Prop) → Prop) (S : Nat → Addr) (p d n m i z : Nat) (s : DSt) (F G : Nat → Prop) (w : World) : Prop where
  part : ∀ W, Below w.heap.size w W → Calls Tryz.prog 125 #[.pointer (some ⟨p, 0, none⟩), .int .i64 (i : Int)] W fun e w' => e = .returned (.tuple #[.int .i64 ((i + halN n : Nat) : Int), .nilIface]) ∧ Below W.heap.size W w'
  here : ∀ W, Below w.heap.size w W → Calls Tryz.prog 133 #[.pointer (some ⟨p, 0, none⟩), .int .i64 (i : Int), .int .u32 (z : Int)] W (RightOut S W s i z)
  there : ∀ W, Below w.heap.size w W → Calls Tryz.prog 133 #[.pointer (some ⟨p, 0, none⟩), .int .i64 ((i + halN n : Nat) : Int), .int .u32 (z : Int)] W (RightOut S W s (i + halN n) z)
  anew : ∀ W A c l j, (j = i ∨ j = i + halN n) → Below w.heap.size w W → Sl W W.heap.size A 256 c l → (∀ ad, A = some ad → w.heap.size ≤ ad.block) → Byt l → Calls Tryz.prog 134 #[.pointer (some ⟨p, 0, none⟩), .int .i64 (j : Int), .slice A 256 c] W fun e w' => e = .returned (.tuple #[.int .i64 1, .nilIface]) ∧
    PrUpd Real PrReal w d p (s.put j l) n (m + 1) F G (fun F' G' => ∀ ad, A = some ad → w.heap.size ≤ ad.block ∧ ¬ F' ad.block ∧ ¬ G' ad.block) w' ∧ Sl w' w'.heap.size A 256 c l
  none_ : ∀ W, Below w.heap.size w W → PrUpd Real PrReal w d p s n m F G (fun F' G' => ∀ g, w.heap.size ≤ g → ¬ F' g ∧ ¬ G' g) W
  err : ∀ W, Below w.heap.size w W → W.cell? ⟨2, 0, none⟩ = some (.iface 261 (.pointer (some (S 6))))
theorem ready (D : DevOk Real) (S : Nat → Addr) (p d n m i z q : Nat) (s : DSt) (F G : Nat → Prop) (w : World) (hS : Sent5 w S) (hr : Real w d s F) (h : PrReal w p d n m G) (hap : ∀ k, F k → ¬ G k) (hu : Up s n q) (hq : q ≤ 900000) (hm : m ≤ 1000) (h0 : 300 ≤ n) (h1 : n ≤ 6000) (hi : i < halN n) : Ready Real S p d n m i z s F G w := by
  have hh := half_facts h0
  have hR : ∀ W, Below w.heap.size w W → Real W d s F := fun W hb => D.kept hr (Kept.of_below hb (D.lt hr))
  refine ⟨fun W hb => prPartner_ok p d n m i G W (h.on hb) h0 h1 hi, fun W hb => prRight_any D S p d n m i z q s F G W (hS.on hb) (hR W hb) (h.on hb) hu hq (by omega), fun W hb => prRight_any D S p d n m (i + halN n) z q s F G W (hS.on hb) (hR W hb) (h.on hb) hu hq (by omega), fun W A c l j hj hb hl hA hy => ?_, fun W hb => (prUpd_below D hr h hap hb).weak (fun F' G' hQ g hg => ?_), fun W hb => (hS.on hb) 6 (by decide)⟩
  · have hAF : ∀ ad, A = some ad → ¬ F ad.block := fun ad ha hf => by have := D.lt hr _ hf; have := hA ad ha; omega
    have hAG : ∀ ad, A = some ad → ¬ G ad.block := fun ad ha hf => by have := h.lt _ hf; have := hA ad ha; omega
    refine (prAnew_any D S p d n m j q s F G A c l W (hS.on hb) (hR W hb) (h.on hb) hap hu hq hm (by omega) hl hAF hy).mono ?_
    rintro e w' ⟨rfl, hup⟩
    have hup2 : PrUpd Real PrReal W d p (s.put j l) n (m + 1) F G (fun F' G' => ∀ ad, A = some ad → w.heap.size ≤ ad.block ∧ ¬ F' ad.block ∧ ¬ G' ad.block) w' := hup.weak (by
      intro F' G' hQ ad ha
      refine ⟨hA ad ha, fun hf => ?_, fun hg => ?_⟩
      · rcases hQ.1 _ hf with h2 | h2
        · exact hAF ad ha h2
        · have := (hl.at_ ad ha (by omega)).1; omega
      · exact hAG ad ha ((h.2 _).2 (hQ.2 _ hg)))
    obtain ⟨F', G', _, _, ho, _⟩ := hup
    exact ⟨rfl, hup2.after hb, hl.only ho (fun ad ha _ hf => hf.elim (hAF ad ha) (hAG ad ha))⟩
  · obtain ⟨rfl, rfl⟩ := hQ
    exact ⟨fun hf => by have := D.lt hr _ hf; omega, fun hf => by have := h.lt _ hf; omega⟩
theorem pRead_1 {s : DSt} {H i z : Nat} (h : s.right i z = true) : pRead s H i z = (0, (s.read (i : Int)).2, s, 0) := by unfold pRead; rw [if_pos h]
theorem pRead_2 {s : DSt} {H i z : Nat} (h : s.right i z = false) (h2 : s.right (i + H) z = true) : pRead s H i z = (0, (s.read ((i + H : Nat) : Int)).2, s.put i (s.read ((i + H : Nat) : Int)).2, 1) := by unfold pRead; rw [if_neg (by rw [h]; decide), if_pos h2]
theorem pRead_3 {s : DSt} {H i z : Nat} (h : s.right i z = false) (h2 : s.right (i + H) z = false) : pRead s H i z = (107, [], s, 0) := by unfold pRead; rw [if_neg (by rw [h]; decide), if_neg (by rw [h2]; decide)]
set_option maxHeartbeats 2000000 in
theorem prRead_any (S : Nat → Addr) (p d n m i z : Nat) (s : DSt) (F G : Nat → Prop) (w : World) (hR : Ready Real S p d n m i z s F G w) :
    Calls Tryz.prog 101 #[.pointer (some ⟨p, 0, none⟩), refV i z] w fun e w' => ∃ A k c v, e = .returned (.tuple #[.slice A k c, v]) ∧ EV S (pRead s (halN n) i z).1 v ∧ ((pRead s (halN n) i z).1 = 0 → Sl w' w'.heap.size A k c (pRead s (halN n) i z).2.1) ∧
      PrUpd Real PrReal w d p (pRead s (halN n) i z).2.2.1 n (m + (pRead s (halN n) i z).2.2.2) F G (fun F' G' => (pRead s (halN n) i z).1 = 0 → ∀ ad, A = some ad → w.heap.size ≤ ad.block ∧ ¬ F' ad.block ∧ ¬ G' ad.block) w' := by
  have HR := hid hR
  obtain ⟨R, hRd⟩ : ∃ R, pRead s (halN n) i z = R := ⟨_, rfl⟩
  have HRd := hid hRd
  rw [hRd]
  clear hRd
  have HB0 := hid (show Below w.heap.size w (w.alloc (.cells #[.int .i64 (i : Int), .int .u32 (z : Int)] 91)) from (Below.refl _ _).alloc (Nat.le_refl _) _)
  have HK0 := hid (Blk.new w 91 #[.int .i64 (i : Int), .int .u32 (z : Int)])
  have q1 := fun W => Tryz.neqSame (S 6) W
  have q2 := fun v W => Tryz.neqNil v W
  clear hR
  go_enter Tryz.func101, Tryz.ntmps101
  go_wp2_with fail
  refine (HR.out.part _ HB0.out).mono ?_
  rintro e w1 ⟨rfl, hb⟩
  have HB1 := hid (HB0.out.trans (hb.mono HB0.out.size))
  have hk := HK0.out.below hb HK0.out.lt
  have HK1 := hid hk
  have b0 := hk.cell 0
  have b1 := hk.cell 1
  simp at b0 b1
  clear hb hk
  go_wp2_with fail
  refine (HR.out.here _ HB1.out).mono ?_
  rintro e w2 (⟨ht, A, c, rfl, hl, _, hb, hA⟩ | ⟨ht, rfl, hb⟩)
  · have HE := hid (HRd.out.symm.trans (pRead_1 ht))
    have HB2 := hid (HB1.out.trans (hb.mono HB1.out.size))
    have HL := hid hl
    have HA := hid (show ∀ ad, A = some ad → w.heap.size ≤ ad.block from fun ad ha => Nat.le_trans HB1.out.size (hA ad ha))
    have he := HR.out.err _ HB2.out
    clear ht hl hb hA b0 b1
    go_wp2
    go_ret2
    obtain rfl := HE.out
    exact ⟨A, 256, c, _, rfl, .fine, fun _ => HL.out, (HR.out.none_ _ HB2.out).weak fun F' G' hQ _ ad ha => ⟨HA.out ad ha, hQ _ (HA.out ad ha)⟩⟩
  · have HT := hid ht
    have HB2 := hid (HB1.out.trans (hb.mono HB1.out.size))
    have hk := HK1.out.below hb HK1.out.lt
    have HK2 := hid hk
    have he := HR.out.err _ HB2.out
    have b0 := hk.cell 0
    have b1 := hk.cell 1
    simp at b0 b1
    clear ht hb hk
    go_wp2_with fail
    refine (HR.out.there _ HB2.out).mono ?_
    rintro e w3 (⟨ht, A, c, rfl, hl, hy, hb, hA⟩ | ⟨ht, rfl, hb⟩)
    · have HE := hid (HRd.out.symm.trans (pRead_2 HT.out ht))
      have HB3 := hid (HB2.out.trans (hb.mono HB2.out.size))
      have hk := HK2.out.below hb HK2.out.lt
      have b0 := hk.cell 0
      have b1 := hk.cell 1
      simp at b0 b1
      have HAn := hid (HR.out.anew _ A c _ i (.inl rfl) HB3.out hl (fun ad ha => Nat.le_trans HB2.out.size (hA ad ha)) hy)
      clear ht hl hy hb hA hk he
      go_wp2_with fail
      refine HAn.out.mono ?_
      rintro e w4 ⟨rfl, hup, hl⟩
      have HU := hid hup
      have HL := hid hl
      clear hup hl b0 b1
      go_wp2
      go_ret2
      obtain rfl := HE.out
      exact ⟨A, 256, c, _, rfl, .fine, fun _ => HL.out, HU.out.weak fun F' G' hQ _ => hQ⟩
    · have HE := hid (HRd.out.symm.trans (pRead_3 HT.out ht))
      have HB3 := hid (HB2.out.trans (hb.mono HB2.out.size))
      clear ht hb b0 b1 he
      go_wp2
      go_ret2
      obtain rfl := HE.out
      exact ⟨none, 0, 0, _, rfl, .err 6 (by decide), fun h => (by cases h), (HR.out.none_ _ HB3.out).weak fun _ _ _ h => (by cases h)⟩
set_option maxHeartbeats 1000000 in
theorem prReadBad_any (D : DevOk Real) (S : Nat → Addr) (p d n m : Nat) (i : Int) (z : Nat) (s : DSt) (F G : Nat → Prop) (w : World) (hS : Sent5 w S) (hr : Real w d s F) (h : PrReal w p d n m G) (hap : ∀ k, F k → ¬ G k) (hi : i < 0 ∨ (halN n : Int) ≤ i) :
    Calls Tryz.prog 101 #[.pointer (some ⟨p, 0, none⟩), .agg #[.int .i64 i, .int .u32 (z : Int)]] w fun e w' => (∃ A k c v, e = .returned (.tuple #[.slice A k c, v]) ∧ EV S 103 v) ∧ PrUpd Real PrReal w d p s n m F G (fun _ _ => True) w' := by
  have hal : Below w.heap.size w (w.alloc (.cells #[.int .i64 i, .int .u32 (z : Int)] 91)) := (Below.refl _ _).alloc (Nat.le_refl _) _
  have HPc := hid (prPartner_bad S p d n m i G _ (hS.on hal) (h.on hal) hi)
  have HB0 := hid hal
  have HU := hid (fun (w' : World) (hb : Below w.heap.size w w') => (prUpd_below D hr h hap hb).weak (Q' := fun _ _ => True) (fun _ _ _ => trivial))
  clear hS hr h hap hi D hal
  go_enter Tryz.func101, Tryz.ntmps101
  go_wp2_with fail
  refine HPc.out.mono ?_
  rintro e w1 ⟨rfl, hb⟩
  have HB1 := hid (HB0.out.trans (hb.mono HB0.out.size))
  clear hb
  go_wp2
  go_ret2
  exact ⟨⟨none, 0, 0, _, rfl, .err 2 (by decide)⟩, HU.out _ HB1.out⟩
theorem prOk (D : DevOk Real) : PairOk Real PrReal where
  kept := fun h hk => h.kept hk
  lt := fun h => h.lt
  open_ := fun _ d s F w _ hr hok h3 => prOpen_any D d s F w hr hok h3
  geo := fun p d n m G w h => prGeo_any p d n m G w h
  write := fun S p d n m i q s F G A c l w0 w hS hB hF hr h hap hu hq h0 h1 hi hl hA hb => prWrite_any D S p d n m i q s F G A c l w0 w hS hB hF hr h hap hu hq h0 h1 hi hl hA hb
  writeBad := fun S p d n m _ i s F G A c _ w hS hr h hap _ _ _ _ hi _ => prWriteBad_any D S p d n m i s F G A 256 c w hS hr h hap hi
  read := fun S p d n m i z q s F G w hS hr h hap hu hq hm h0 h1 hi _ => prRead_any S p d n m i z s F G w (ready D S p d n m i z q s F G w hS hr h hap hu hq hm h0 h1 hi)
  readBad := fun S p d n m _ i z s F G w hS hr h hap _ _ _ _ hi _ => prReadBad_any D S p d n m i z s F G w hS hr h hap hi
end
end Go.Proofs.YtkhdgacjgccnnaaGreatDoor
