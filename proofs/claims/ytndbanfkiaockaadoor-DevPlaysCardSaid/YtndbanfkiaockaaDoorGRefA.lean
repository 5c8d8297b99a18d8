/- The document's device in memory: most of its calls. -/
import Derived.Test.YtndbanfkiaockaaDoorGDevBase
import Derived.Test.YtndbanfkiaockaaDoorGBase
import Derived.Test.YtndbanfkiaockaaDoorGSee
import Derived.IntWalk
import Derived.Deep.RegionHeld3
import Derived.RegionTactic
import Derived.Deep.RegionLaw
namespace Go.Proofs.YtndbanfkiaockaaDoor
open Go.RowKit
set_option maxRecDepth 100000 in
set_option maxHeartbeats 1000000 in
theorem refTurned_neg (A : Option Addr) (n c b : Nat) (at' : Int) (l : List Int) (w : World) (h : Sl w w.heap.size A n c l) (hn : n ≤ 100000) (ha : at' < 0) :
    Calls Tryd.prog 67 #[.slice A n c, .int .i64 at', .int .u32 (b : Int)] w (Anew w n (turned l at' b)) := by
  have HS := hid h
  have HT := hid (show turned l at' b = l by unfold turned; rw [if_pos ha])
  have hg : decide (0 ≤ at') = false := by simpa using ha
  clear h
  go_enter Tryd.func67, Tryd.ntmps67
  go_wp2_with fail
  refine (bytes_any A n c l _ HS.out hn).mono ?_
  rintro e w1 hm
  obtain ⟨v, rfl, ho, hb⟩ := hm
  have HF := hid (show Anew w n (turned l at' b) (.returned v) w1 from ⟨_, rfl, by rw [HT.out]; exact ho, hb, by rw [HT.out]; exact HS.out.len⟩)
  clear ho hb
  go_wp2
  go_loop [8] (fun i => ∃ k : Nat, k ≤ 4 ∧ i = .int .i64 (k : Int)) (fun i => 4 - (intOf i).toNat)
  case atStart => exact ⟨0, by omega, rfl⟩
  case round =>
    obtain ⟨k, hk, rfl⟩ := hrel
    by_cases hlt : k < 4
    · go_wp2
      go_round
      case rel => exact ⟨k + 1, by omega, by go_num⟩
      case measure => simp [intOf]; omega
    · go_wp2
      go_ret
      exact HF.out

set_option maxRecDepth 100000 in
set_option maxHeartbeats 1000000 in
theorem refTurned_pos (A : Option Addr) (n c b p : Nat) (l : List Int) (w : World) (h : Sl w w.heap.size A n c l) (hy : Byt l) (hn : n ≤ 100000) (hp : (p : Int) ≤ 9223372036854775807) :
    Calls Tryd.prog 67 #[.slice A n c, .int .i64 (p : Int), .int .u32 (b : Int)] w (Anew w n (turns l p b 4)) := by
  have HS := hid h
  have HY := hid hy
  have HL := hid h.len
  have hg0 : decide (0 ≤ (p : Int)) = true := by simp
  clear h hy
  go_enter Tryd.func67, Tryd.ntmps67
  go_wp2_with fail
  refine (bytes_any A n c l _ HS.out hn).mono ?_
  rintro e w1 hm
  obtain ⟨v, rfl, ho, hb⟩ := hm
  have hs := ho.form
  rw [HL.out] at hs
  obtain ⟨A', c', rfl, hs, _⟩ := hs
  have HO := hid (own_vals.1 ho)
  have HB1 := hid hb
  clear ho hb hs
  go_wp2
  go_loopw [8] (fun i wr => ∃ k : Nat, k ≤ 4 ∧ i = .int .i64 (k : Int) ∧ OwnV 5 wr w.heap.size (.slice A' n c') (I (turns l p b k)) ∧ Below w.heap.size w wr) (fun i _ => 4 - (intOf i).toNat)
  case atStart => exact ⟨0, by omega, rfl, by rw [turns_zero]; exact HO.out, HB1.out⟩
  case round =>
    obtain ⟨k, hk, rfl, hown, hb⟩ := hrel
    have HO1 := hid hown
    have HB2 := hid hb
    clear hown hb
    by_cases hr1 : k < 4
    · by_cases hr2 : (p : Int) < n - k
      · obtain ⟨g, rfl, hgb, _, hgl⟩ := HO1.out.slot (by omega)
        obtain ⟨x, hx⟩ : ∃ x, l[p + k]? = some x := ⟨_, List.getElem?_eq_getElem (by have := HL.out; omega)⟩
        have hcell := OwnV.cell HO1.out (I_get (turns_here b hx))
        have hfr := OwnV.free HO1.out (p + k)
        have w2 : ((p : Int) + k).toNat = p + k := by omega
        have w3 : 0 ≤ (p : Int) + k := by omega
        have w4 : (p : Int) + k < n := by omega
        have w6 : 0 ≤ 8 * (k : Int) := by omega
        have hv := turn_val b k (HY.out.at_ hx)
        have R1 := hid (show OwnV 5 (wr.setCell ⟨g, p + k, none⟩ (.int .u8 (bits .xor .u8 x ((b : Int) / 2 ^ (8 * k) % 256)))) w.heap.size (.slice (some ⟨g, 0, none⟩) n c') (I (turns l p b (k + 1))) by
          have := OwnV.put HO1.out (by rw [I_len, turns_len]; exact HL.out) (p + k) (.int .u8 ((x.toNat ^^^ byteOf b k : Nat) : Int))
          rw [I_set, turns_step b hx, ← hv] at this
          exact this)
        have R2 := hid (show Below w.heap.size w (wr.setCell ⟨g, p + k, none⟩ (.int .u8 (bits .xor .u8 x ((b : Int) / 2 ^ (8 * k) % 256)))) from HB2.out.setCell (by simpa using hgb) _)
        clear hx hgl hv hgb
        go_wp2
        go_roundw
        case rel => exact ⟨k + 1, by omega, by go_num, R1.out, R2.out⟩
        case measure => simp [intOf]; omega
      · have R1 := hid (show OwnV 5 wr w.heap.size (.slice A' n c') (I (turns l p b (k + 1))) by
          rw [← turns_far b (by have := HL.out; omega) (Nat.le_succ k)]; exact HO1.out)
        go_wp2
        go_roundw
        case rel => exact ⟨k + 1, by omega, by go_num, R1.out, HB2.out⟩
        case measure => simp [intOf]; omega
    · have HF := hid (show Anew w n (turns l p b 4) (.returned (.slice A' n c')) wr from ⟨_, rfl, by
        rw [own_vals, show (4 : Nat) = k by omega]
        exact HO1.out, HB2.out, by rw [turns_len]; exact HL.out⟩)
      go_wp2
      go_ret
      exact HF.out
theorem refTurned_any (A : Option Addr) (n c b : Nat) (at' : Int) (l : List Int) (w : World) (h : Sl w w.heap.size A n c l) (hy : Byt l) (hn : n ≤ 100000) (ha : at' ≤ 9223372036854775807) :
    Calls Tryd.prog 67 #[.slice A n c, .int .i64 at', .int .u32 (b : Int)] w (Anew w n (turned l at' b)) := by
  rcases Int.lt_or_le at' 0 with h0 | h0
  · exact refTurned_neg A n c b at' l w h hn h0
  · obtain ⟨p, rfl⟩ : ∃ p : Nat, at' = (p : Int) := ⟨at'.toNat, by omega⟩
    have e : turned l (p : Int) b = turns l p b 4 := by unfold turned; rw [if_neg (by omega)]; rfl
    rw [e]
    exact refTurned_pos A n c b p l w h hy hn ha
end Go.Proofs.YtndbanfkiaockaaDoor
namespace Go.Proofs.YtndbanfkiaockaaDoor
open Go.RowKit

/-- the blocks of the document's device: itself, its six lists, the room of the first two -/
structure RB where
  p : Nat
  gf : Nat
  cf : Nat
  gw : Nat
  cw : Nat
  gp : Nat
  gt : Nat
  gd : Nat
  ge : Nat
def RB.all (b : RB) : List Nat := [b.p, b.gf, b.gw, b.gp, b.gt, b.gd, b.ge]
def RB.cells (b : RB) (n calls arm : Nat) (down : Bool) : Array Value :=
  #[.slice (some ⟨b.gf, 0, none⟩) n b.cf, .slice (some ⟨b.gw, 0, none⟩) n b.cw, .slice (some ⟨b.gp, 0, none⟩) n n, .slice (some ⟨b.gt, 0, none⟩) n n, .slice (some ⟨b.gd, 0, none⟩) n n, .slice (some ⟨b.ge, 0, none⟩) n n, .int .i64 (calls : Int), .int .i64 (arm : Int), .bool down]
/-- its memory -/
structure RefM (w : World) (b : RB) (n : Nat) (fl wr : List Value) (pe ft fa ev : List Bool) (calls arm : Nat) (down : Bool) : Prop where
  box : Blk w b.p 57 (b.cells n calls arm down)
  hfl : OwnV 33 w 0 (.slice (some ⟨b.gf, 0, none⟩) n b.cf) fl
  hwr : OwnV 33 w 0 (.slice (some ⟨b.gw, 0, none⟩) n b.cw) wr
  hpe : OwnV 4 w 0 (.slice (some ⟨b.gp, 0, none⟩) n n) (pe.map Value.bool)
  hft : OwnV 4 w 0 (.slice (some ⟨b.gt, 0, none⟩) n n) (ft.map Value.bool)
  hfa : OwnV 4 w 0 (.slice (some ⟨b.gd, 0, none⟩) n n) (fa.map Value.bool)
  hev : OwnV 4 w 0 (.slice (some ⟨b.ge, 0, none⟩) n n) (ev.map Value.bool)
  nd : b.all.Nodup
  len : fl.length = n ∧ wr.length = n ∧ pe.length = n ∧ ft.length = n ∧ fa.length = n ∧ ev.length = n
theorem RefM.lt {w : World} {b : RB} {n : Nat} {fl wr : List Value} {pe ft fa ev : List Bool} {calls arm : Nat} {down : Bool} (h : RefM w b n fl wr pe ft fa ev calls arm down) : ∀ k, k ∈ b.all → k < w.heap.size := by
  intro k hk
  simp only [RB.all, List.mem_cons, List.not_mem_nil, or_false] at hk
  rcases hk with rfl | rfl | rfl | rfl | rfl | rfl | rfl
  · exact h.box.lt
  · exact h.hfl.is_lt
  · exact h.hwr.is_lt
  · exact h.hpe.is_lt
  · exact h.hft.is_lt
  · exact h.hfa.is_lt
  · exact h.hev.is_lt
theorem RefM.same {w w' : World} {b : RB} {n : Nat} {fl wr : List Value} {pe ft fa ev : List Bool} {calls arm : Nat} {down : Bool} (h : RefM w b n fl wr pe ft fa ev calls arm down) (hk : ∀ k, k ∈ b.all → w'.heap[k]? = w.heap[k]?) : RefM w' b n fl wr pe ft fa ev calls arm down :=
  ⟨h.box.same (hk _ (by simp [RB.all])), h.hfl.same (hk _ (by simp [RB.all])), h.hwr.same (hk _ (by simp [RB.all])), h.hpe.same (hk _ (by simp [RB.all])), h.hft.same (hk _ (by simp [RB.all])), h.hfa.same (hk _ (by simp [RB.all])), h.hev.same (hk _ (by simp [RB.all])), h.nd, h.len⟩
/-- a slice value that reads as these bytes, in a block of E -/
def Elem (w : World) (E : Nat → Prop) (v : Value) (l : List Int) : Prop := ∃ A c, v = .slice A 256 c ∧ Sl w w.heap.size A 256 c l ∧ ∀ ad, A = some ad → E ad.block
theorem Elem.keep {w w' : World} {E E' : Nat → Prop} {v : Value} {l : List Int} (h : Elem w E v l) (hk : ∀ k, E k → w'.heap[k]? = w.heap[k]?) (hs : w.heap.size ≤ w'.heap.size) (hE : ∀ k, E k → E' k) : Elem w' E' v l := by
  obtain ⟨A, c, rfl, hsl, he⟩ := h
  exact ⟨A, c, rfl, (hsl.same (fun ad ha => hk _ (he ad ha))).more hs, fun ad ha => hE _ (he ad ha)⟩
/-- the document's device, with its blocks and lists named, is s, in the blocks F -/
structure RefIn (w : World) (b : RB) (fl wr : List Value) (s : DSt) (F : Nat → Prop) : Prop where
  mem : RefM w b s.blks.length fl wr (s.blks.map BSt.pend) (s.blks.map BSt.fault) (s.blks.map BSt.fail) (s.blks.map BSt.ever) s.calls s.arm s.down
  all : ∀ k, k ∈ b.all → F k
  has : ∀ (i : Nat) (x : BSt) (v : Value), s.blks[i]? = some x → fl[i]? = some v → Elem w (fun k => F k ∧ k ∉ b.all) v x.has
  next : ∀ (i : Nat) (x : BSt) (v : Value), s.blks[i]? = some x → wr[i]? = some v → Elem w (fun k => F k ∧ k ∉ b.all) v x.next
  lt : ∀ k, F k → k < w.heap.size
/-- the document's device at p is s, in the blocks F -/
def RefDev (w : World) (p : Nat) (s : DSt) (F : Nat → Prop) : Prop := ∃ b fl wr, b.p = p ∧ RefIn w b fl wr s F
theorem RefIn.kept {w w' : World} {b : RB} {fl wr : List Value} {s : DSt} {F : Nat → Prop} (h : RefIn w b fl wr s F) (hk : Kept F w w') : RefIn w' b fl wr s F :=
  ⟨h.mem.same (fun k hk' => hk.1 k (h.all k hk')), h.all, fun i x v hx hv => (h.has i x v hx hv).keep (fun k h => hk.1 k h.1) hk.2 (fun _ h => h), fun i x v hx hv => (h.next i x v hx hv).keep (fun k h => hk.1 k h.1) hk.2 (fun _ h => h), fun k h' => Nat.lt_of_lt_of_le (h.lt k h') hk.2⟩
theorem RefDev.kept {w w' : World} {p : Nat} {s : DSt} {F : Nat → Prop} (h : RefDev w p s F) (hk : Kept F w w') : RefDev w' p s F := by
  obtain ⟨b, fl, wr, hp, hi⟩ := h
  exact ⟨b, fl, wr, hp, hi.kept hk⟩
theorem RefDev.lt {w : World} {p : Nat} {s : DSt} {F : Nat → Prop} (h : RefDev w p s F) : ∀ k, F k → k < w.heap.size := by
  obtain ⟨b, fl, wr, hp, hi⟩ := h
  exact hi.lt
/-- in more blocks -/
theorem RefIn.more {w : World} {b : RB} {fl wr : List Value} {s : DSt} {F G : Nat → Prop} (h : RefIn w b fl wr s F) (hG : ∀ k, F k → G k) (hl : ∀ k, G k → k < w.heap.size) : RefIn w b fl wr s G :=
  ⟨h.mem, fun k hk => hG k (h.all k hk), fun i x v hx hv => (h.has i x v hx hv).keep (fun _ _ => rfl) (Nat.le_refl _) (fun k h => ⟨hG k h.1, h.2⟩), fun i x v hx hv => (h.next i x v hx hv).keep (fun _ _ => rfl) (Nat.le_refl _) (fun k h => ⟨hG k h.1, h.2⟩), hl⟩
/-- what a call leaves: only the device's blocks turned; it is s now, in these blocks and new ones -/
def RefUpd (w : World) (p : Nat) (s : DSt) (F : Nat → Prop) (w' : World) : Prop := ∃ F', RefDev w' p s F' ∧ Only F w w' ∧ ∀ k, F' k → F k ∨ w.heap.size ≤ k
theorem RefUpd.refl {w : World} {p : Nat} {s : DSt} {F : Nat → Prop} (h : RefDev w p s F) : RefUpd w p s F w := ⟨F, h, Only.refl _ _, fun _ h => .inl h⟩
theorem RefUpd.trans {w w' w'' : World} {p : Nat} {s t : DSt} {F : Nat → Prop} (h : RefUpd w p s F w') (k : ∀ F', RefDev w' p s F' → RefUpd w' p t F' w'') : RefUpd w p t F w'' := by
  obtain ⟨F', hd, ho, hf⟩ := h
  obtain ⟨F'', hd', ho', hf'⟩ := k F' hd
  exact ⟨F'', hd', ho.trans ho' hf, fun i hi => by
    rcases hf' i hi with h | h
    · exact hf i h
    · have := ho.size; exact .inr (by omega)⟩
theorem RefM.put_fl {w : World} {b : RB} {n : Nat} {fl wr : List Value} {pe ft fa ev : List Bool} {calls arm : Nat} {down : Bool} (h : RefM w b n fl wr pe ft fa ev calls arm down) (i : Nat) (u : Value) : RefM (w.setCell ⟨b.gf, i, none⟩ u) b n (fl.set i u) wr pe ft fa ev calls arm down := by
  have hnd := h.nd
  simp only [RB.all, List.nodup_cons, List.mem_cons, List.not_mem_nil, or_false, not_or, List.nodup_nil, not_false_eq_true, and_true] at hnd
  obtain ⟨⟨n01, n02, n03, n04, n05, n06⟩, ⟨n12, n13, n14, n15, n16⟩, ⟨n23, n24, n25, n26⟩, ⟨n34, n35, n36⟩, ⟨n45, n46⟩, n56⟩ := hnd
  exact ⟨h.box.far n01 _, h.hfl.put h.len.1 i _, h.hwr.far (Ne.symm n12) _, h.hpe.far (Ne.symm n13) _, h.hft.far (Ne.symm n14) _, h.hfa.far (Ne.symm n15) _, h.hev.far (Ne.symm n16) _, h.nd, by simpa using h.len⟩
theorem RefM.put_wr {w : World} {b : RB} {n : Nat} {fl wr : List Value} {pe ft fa ev : List Bool} {calls arm : Nat} {down : Bool} (h : RefM w b n fl wr pe ft fa ev calls arm down) (i : Nat) (u : Value) : RefM (w.setCell ⟨b.gw, i, none⟩ u) b n fl (wr.set i u) pe ft fa ev calls arm down := by
  have hnd := h.nd
  simp only [RB.all, List.nodup_cons, List.mem_cons, List.not_mem_nil, or_false, not_or, List.nodup_nil, not_false_eq_true, and_true] at hnd
  obtain ⟨⟨n01, n02, n03, n04, n05, n06⟩, ⟨n12, n13, n14, n15, n16⟩, ⟨n23, n24, n25, n26⟩, ⟨n34, n35, n36⟩, ⟨n45, n46⟩, n56⟩ := hnd
  exact ⟨h.box.far n02 _, h.hfl.far n12 _, h.hwr.put h.len.2.1 i _, h.hpe.far (Ne.symm n23) _, h.hft.far (Ne.symm n24) _, h.hfa.far (Ne.symm n25) _, h.hev.far (Ne.symm n26) _, h.nd, by simpa using h.len⟩
theorem RefM.put_pe {w : World} {b : RB} {n : Nat} {fl wr : List Value} {pe ft fa ev : List Bool} {calls arm : Nat} {down : Bool} (h : RefM w b n fl wr pe ft fa ev calls arm down) (i : Nat) (u : Bool) : RefM (w.setCell ⟨b.gp, i, none⟩ (.bool u)) b n fl wr (pe.set i u) ft fa ev calls arm down := by
  have hnd := h.nd
  simp only [RB.all, List.nodup_cons, List.mem_cons, List.not_mem_nil, or_false, not_or, List.nodup_nil, not_false_eq_true, and_true] at hnd
  obtain ⟨⟨n01, n02, n03, n04, n05, n06⟩, ⟨n12, n13, n14, n15, n16⟩, ⟨n23, n24, n25, n26⟩, ⟨n34, n35, n36⟩, ⟨n45, n46⟩, n56⟩ := hnd
  exact ⟨h.box.far n03 _, h.hfl.far n13 _, h.hwr.far n23 _, (by rw [List.map_set]; exact h.hpe.put (by rw [List.length_map]; exact h.len.2.2.1) i _), h.hft.far (Ne.symm n34) _, h.hfa.far (Ne.symm n35) _, h.hev.far (Ne.symm n36) _, h.nd, by simpa using h.len⟩
theorem RefM.put_ft {w : World} {b : RB} {n : Nat} {fl wr : List Value} {pe ft fa ev : List Bool} {calls arm : Nat} {down : Bool} (h : RefM w b n fl wr pe ft fa ev calls arm down) (i : Nat) (u : Bool) : RefM (w.setCell ⟨b.gt, i, none⟩ (.bool u)) b n fl wr pe (ft.set i u) fa ev calls arm down := by
  have hnd := h.nd
  simp only [RB.all, List.nodup_cons, List.mem_cons, List.not_mem_nil, or_false, not_or, List.nodup_nil, not_false_eq_true, and_true] at hnd
  obtain ⟨⟨n01, n02, n03, n04, n05, n06⟩, ⟨n12, n13, n14, n15, n16⟩, ⟨n23, n24, n25, n26⟩, ⟨n34, n35, n36⟩, ⟨n45, n46⟩, n56⟩ := hnd
  exact ⟨h.box.far n04 _, h.hfl.far n14 _, h.hwr.far n24 _, h.hpe.far n34 _, (by rw [List.map_set]; exact h.hft.put (by rw [List.length_map]; exact h.len.2.2.2.1) i _), h.hfa.far (Ne.symm n45) _, h.hev.far (Ne.symm n46) _, h.nd, by simpa using h.len⟩
theorem RefM.put_fa {w : World} {b : RB} {n : Nat} {fl wr : List Value} {pe ft fa ev : List Bool} {calls arm : Nat} {down : Bool} (h : RefM w b n fl wr pe ft fa ev calls arm down) (i : Nat) (u : Bool) : RefM (w.setCell ⟨b.gd, i, none⟩ (.bool u)) b n fl wr pe ft (fa.set i u) ev calls arm down := by
  have hnd := h.nd
  simp only [RB.all, List.nodup_cons, List.mem_cons, List.not_mem_nil, or_false, not_or, List.nodup_nil, not_false_eq_true, and_true] at hnd
  obtain ⟨⟨n01, n02, n03, n04, n05, n06⟩, ⟨n12, n13, n14, n15, n16⟩, ⟨n23, n24, n25, n26⟩, ⟨n34, n35, n36⟩, ⟨n45, n46⟩, n56⟩ := hnd
  exact ⟨h.box.far n05 _, h.hfl.far n15 _, h.hwr.far n25 _, h.hpe.far n35 _, h.hft.far n45 _, (by rw [List.map_set]; exact h.hfa.put (by rw [List.length_map]; exact h.len.2.2.2.2.1) i _), h.hev.far (Ne.symm n56) _, h.nd, by simpa using h.len⟩
theorem RefM.put_ev {w : World} {b : RB} {n : Nat} {fl wr : List Value} {pe ft fa ev : List Bool} {calls arm : Nat} {down : Bool} (h : RefM w b n fl wr pe ft fa ev calls arm down) (i : Nat) (u : Bool) : RefM (w.setCell ⟨b.ge, i, none⟩ (.bool u)) b n fl wr pe ft fa (ev.set i u) calls arm down := by
  have hnd := h.nd
  simp only [RB.all, List.nodup_cons, List.mem_cons, List.not_mem_nil, or_false, not_or, List.nodup_nil, not_false_eq_true, and_true] at hnd
  obtain ⟨⟨n01, n02, n03, n04, n05, n06⟩, ⟨n12, n13, n14, n15, n16⟩, ⟨n23, n24, n25, n26⟩, ⟨n34, n35, n36⟩, ⟨n45, n46⟩, n56⟩ := hnd
  exact ⟨h.box.far n06 _, h.hfl.far n16 _, h.hwr.far n26 _, h.hpe.far n36 _, h.hft.far n46 _, h.hfa.far n56 _, (by rw [List.map_set]; exact h.hev.put (by rw [List.length_map]; exact h.len.2.2.2.2.2) i _), h.nd, by simpa using h.len⟩
theorem RefM.put_num {w : World} {b : RB} {n : Nat} {fl wr : List Value} {pe ft fa ev : List Bool} {calls arm : Nat} {down : Bool} (h : RefM w b n fl wr pe ft fa ev calls arm down) (k : Nat) (u : Value) {calls' arm' : Nat} {down' : Bool} (hc : (b.cells n calls arm down).setIfInBounds k u = b.cells n calls' arm' down') : RefM (w.setCell ⟨b.p, k, none⟩ u) b n fl wr pe ft fa ev calls' arm' down' := by
  have hnd := h.nd
  simp only [RB.all, List.nodup_cons, List.mem_cons, List.not_mem_nil, or_false, not_or, List.nodup_nil, not_false_eq_true, and_true] at hnd
  obtain ⟨⟨n01, n02, n03, n04, n05, n06⟩, ⟨n12, n13, n14, n15, n16⟩, ⟨n23, n24, n25, n26⟩, ⟨n34, n35, n36⟩, ⟨n45, n46⟩, n56⟩ := hnd
  exact ⟨(by rw [← hc]; exact h.box.put k u), h.hfl.far (Ne.symm n01) _, h.hwr.far (Ne.symm n02) _, h.hpe.far (Ne.symm n03) _, h.hft.far (Ne.symm n04) _, h.hfa.far (Ne.symm n05) _, h.hev.far (Ne.symm n06) _, h.nd, h.len⟩
theorem RefM.drewN {w : World} {b : RB} {n : Nat} {fl wr : List Value} {pe ft fa ev : List Bool} {calls arm : Nat} {down : Bool} (h : RefM w b n fl wr pe ft fa ev calls arm down) (k : Nat) : RefM (w.drewN k) b n fl wr pe ft fa ev calls arm down := h.same (fun _ _ => rfl)
theorem Elem.drewN {w : World} {E : Nat → Prop} {v : Value} {l : List Int} (h : Elem w E v l) (k : Nat) : Elem (w.drewN k) E v l := h.keep (fun _ _ => rfl) (Nat.le_refl _) (fun _ h => h)
theorem Elem.put {w : World} {E : Nat → Prop} {v : Value} {l : List Int} (h : Elem w E v l) {p : Addr} (hp : ¬ E p.block) (u : Value) : Elem (w.setCell p u) E v l :=
  h.keep (fun k hk => Below.heap_setCell w p u k (fun e => hp (by rw [← e]; exact hk))) (by simp) (fun _ h => h)
theorem Elem.of_own {w : World} {B : Nat} {v : Value} {l : List Int} (h : Own w B v l) (hl : l.length = 256) {E : Nat → Prop} (hE : ∀ k, B ≤ k → k < w.heap.size → E k) : Elem w E v l := by
  obtain ⟨A, c, rfl, hs, hb⟩ := h.form
  rw [hl] at hs ⊢
  exact ⟨A, c, rfl, hs, fun ad ha => hE _ (hb ad ha) (hs.at_ ad ha (by omega)).1⟩
theorem RefDev.box {w : World} {p : Nat} {s : DSt} {F : Nat → Prop} (h : RefDev w p s F) : ∃ b : RB, b.p = p ∧ Blk w p 57 (b.cells s.blks.length s.calls s.arm s.down) := by
  obtain ⟨b, fl, wr, rfl, hi⟩ := h
  exact ⟨b, rfl, hi.mem.box⟩
theorem RefDev.here {w : World} {p : Nat} {s : DSt} {F : Nat → Prop} (h : RefDev w p s F) : F p := by
  obtain ⟨b, fl, wr, rfl, hi⟩ := h
  exact hi.all _ (by simp [RB.all])
theorem turn_maps {s : DSt} {j : Nat} {f : BSt → BSt} (g : BSt → Bool) (y : Bool) (h : ∀ x, g (f x) = y) : (s.turn (j : Int) f).blks.map g = (s.blks.map g).set j y := map_modify s.blks j f g y (fun x _ => h x)
theorem turn_stays {s : DSt} {j : Nat} {f : BSt → BSt} (g : BSt → Bool) (h : ∀ x, g (f x) = g x) : (s.turn (j : Int) f).blks.map g = s.blks.map g := map_modify_same s.blks j f g h
/-- a store into one of the device's own blocks leaves what lies in the others -/
theorem Elem.own {w : World} {b : RB} {F : Nat → Prop} {v : Value} {l : List Int} (h : Elem w (fun k => F k ∧ k ∉ b.all) v l) {g : Nat} (hg : g ∈ b.all) (k : Nat) (u : Value) : Elem (w.setCell ⟨g, k, none⟩ u) (fun k => F k ∧ k ∉ b.all) v l := h.put (fun hk => hk.2 hg) u
theorem RefIn.put_num {w : World} {b : RB} {fl wr : List Value} {s t : DSt} {F : Nat → Prop} (h : RefIn w b fl wr s F) (hb : t.blks = s.blks) (k : Nat) (u : Value)
    (hc : (b.cells s.blks.length s.calls s.arm s.down).setIfInBounds k u = b.cells s.blks.length t.calls t.arm t.down) : RefIn (w.setCell ⟨b.p, k, none⟩ u) b fl wr t F := by
  refine ⟨by rw [hb]; exact h.mem.put_num k u hc, h.all, ?_, ?_, fun k hk => by simpa using h.lt k hk⟩
  · rw [hb]; exact fun i x v hx hv => (h.has i x v hx hv).own (by simp [RB.all]) _ _
  · rw [hb]; exact fun i x v hx hv => (h.next i x v hx hv).own (by simp [RB.all]) _ _
theorem RefDev.store {w : World} {p : Nat} {s t : DSt} {F : Nat → Prop} (h : RefDev w p s F) (hb : t.blks = s.blks) (k : Nat) (u : Value)
    (hc : ∀ b : RB, (b.cells s.blks.length s.calls s.arm s.down).setIfInBounds k u = b.cells s.blks.length t.calls t.arm t.down) : RefDev (w.setCell ⟨p, k, none⟩ u) p t F := by
  obtain ⟨b, fl, wr, rfl, hi⟩ := h
  exact ⟨b, fl, wr, rfl, hi.put_num hb k u (hc b)⟩
theorem RefIn.put_pend {w : World} {b : RB} {fl wr : List Value} {s : DSt} {F : Nat → Prop} (h : RefIn w b fl wr s F) (j : Nat) (u : Bool) : RefIn (w.setCell ⟨b.gp, j, none⟩ (.bool u)) b fl wr (s.turn (j : Int) fun x => { x with pend := u }) F := by
  refine ⟨?_, h.all, ?_, ?_, fun k hk => by simpa using h.lt k hk⟩
  · rw [DSt.turn_len, turn_maps (f := fun x => { x with pend := u }) BSt.pend u (fun _ => rfl), turn_stays (f := fun x => { x with pend := u }) BSt.fault (fun _ => rfl), turn_stays (f := fun x => { x with pend := u }) BSt.fail (fun _ => rfl), turn_stays (f := fun x => { x with pend := u }) BSt.ever (fun _ => rfl)]
    exact h.mem.put_pe j u
  · intro i x v hx hv
    obtain ⟨y, hy, rfl⟩ := turn_get hx
    have e : (if j = i then { y with pend := u } else y).has = y.has := by split <;> rfl
    rw [e]
    exact (h.has i y v hy hv).own (by simp [RB.all]) _ _
  · intro i x v hx hv
    obtain ⟨y, hy, rfl⟩ := turn_get hx
    have e : (if j = i then { y with pend := u } else y).next = y.next := by split <;> rfl
    rw [e]
    exact (h.next i y v hy hv).own (by simp [RB.all]) _ _
theorem RefIn.put_fault {w : World} {b : RB} {fl wr : List Value} {s : DSt} {F : Nat → Prop} (h : RefIn w b fl wr s F) (j : Nat) (u : Bool) : RefIn (w.setCell ⟨b.gt, j, none⟩ (.bool u)) b fl wr (s.turn (j : Int) fun x => { x with fault := u }) F := by
  refine ⟨?_, h.all, ?_, ?_, fun k hk => by simpa using h.lt k hk⟩
  · rw [DSt.turn_len, turn_stays (f := fun x => { x with fault := u }) BSt.pend (fun _ => rfl), turn_maps (f := fun x => { x with fault := u }) BSt.fault u (fun _ => rfl), turn_stays (f := fun x => { x with fault := u }) BSt.fail (fun _ => rfl), turn_stays (f := fun x => { x with fault := u }) BSt.ever (fun _ => rfl)]
    exact h.mem.put_ft j u
  · intro i x v hx hv
    obtain ⟨y, hy, rfl⟩ := turn_get hx
    have e : (if j = i then { y with fault := u } else y).has = y.has := by split <;> rfl
    rw [e]
    exact (h.has i y v hy hv).own (by simp [RB.all]) _ _
  · intro i x v hx hv
    obtain ⟨y, hy, rfl⟩ := turn_get hx
    have e : (if j = i then { y with fault := u } else y).next = y.next := by split <;> rfl
    rw [e]
    exact (h.next i y v hy hv).own (by simp [RB.all]) _ _
theorem RefIn.put_fail {w : World} {b : RB} {fl wr : List Value} {s : DSt} {F : Nat → Prop} (h : RefIn w b fl wr s F) (j : Nat) (u : Bool) : RefIn (w.setCell ⟨b.gd, j, none⟩ (.bool u)) b fl wr (s.turn (j : Int) fun x => { x with fail := u }) F := by
  refine ⟨?_, h.all, ?_, ?_, fun k hk => by simpa using h.lt k hk⟩
  · rw [DSt.turn_len, turn_stays (f := fun x => { x with fail := u }) BSt.pend (fun _ => rfl), turn_stays (f := fun x => { x with fail := u }) BSt.fault (fun _ => rfl), turn_maps (f := fun x => { x with fail := u }) BSt.fail u (fun _ => rfl), turn_stays (f := fun x => { x with fail := u }) BSt.ever (fun _ => rfl)]
    exact h.mem.put_fa j u
  · intro i x v hx hv
    obtain ⟨y, hy, rfl⟩ := turn_get hx
    have e : (if j = i then { y with fail := u } else y).has = y.has := by split <;> rfl
    rw [e]
    exact (h.has i y v hy hv).own (by simp [RB.all]) _ _
  · intro i x v hx hv
    obtain ⟨y, hy, rfl⟩ := turn_get hx
    have e : (if j = i then { y with fail := u } else y).next = y.next := by split <;> rfl
    rw [e]
    exact (h.next i y v hy hv).own (by simp [RB.all]) _ _
theorem RefIn.put_ever {w : World} {b : RB} {fl wr : List Value} {s : DSt} {F : Nat → Prop} (h : RefIn w b fl wr s F) (j : Nat) (u : Bool) : RefIn (w.setCell ⟨b.ge, j, none⟩ (.bool u)) b fl wr (s.turn (j : Int) fun x => { x with ever := u }) F := by
  refine ⟨?_, h.all, ?_, ?_, fun k hk => by simpa using h.lt k hk⟩
  · rw [DSt.turn_len, turn_stays (f := fun x => { x with ever := u }) BSt.pend (fun _ => rfl), turn_stays (f := fun x => { x with ever := u }) BSt.fault (fun _ => rfl), turn_stays (f := fun x => { x with ever := u }) BSt.fail (fun _ => rfl), turn_maps (f := fun x => { x with ever := u }) BSt.ever u (fun _ => rfl)]
    exact h.mem.put_ev j u
  · intro i x v hx hv
    obtain ⟨y, hy, rfl⟩ := turn_get hx
    have e : (if j = i then { y with ever := u } else y).has = y.has := by split <;> rfl
    rw [e]
    exact (h.has i y v hy hv).own (by simp [RB.all]) _ _
  · intro i x v hx hv
    obtain ⟨y, hy, rfl⟩ := turn_get hx
    have e : (if j = i then { y with ever := u } else y).next = y.next := by split <;> rfl
    rw [e]
    exact (h.next i y v hy hv).own (by simp [RB.all]) _ _
theorem RefIn.put_has {w : World} {b : RB} {fl wr : List Value} {s : DSt} {F : Nat → Prop} {u : Value} {l : List Int} (h : RefIn w b fl wr s F) (j : Nat) (hu : Elem w (fun k => F k ∧ k ∉ b.all) u l) : RefIn (w.setCell ⟨b.gf, j, none⟩ u) b (fl.set j u) wr (s.turn (j : Int) fun x => { x with has := l }) F := by
  refine ⟨?_, h.all, ?_, ?_, fun k hk => by simpa using h.lt k hk⟩
  · rw [DSt.turn_len, turn_stays (f := fun x => { x with has := l }) BSt.pend (fun _ => rfl), turn_stays (f := fun x => { x with has := l }) BSt.fault (fun _ => rfl), turn_stays (f := fun x => { x with has := l }) BSt.fail (fun _ => rfl), turn_stays (f := fun x => { x with has := l }) BSt.ever (fun _ => rfl)]
    exact h.mem.put_fl j u
  · intro i x v hx hv
    obtain ⟨y, hy, rfl⟩ := turn_get hx
    rw [List.getElem?_set] at hv
    by_cases hij : j = i
    · subst hij
      rw [if_pos rfl] at hv ⊢
      split at hv
      · obtain rfl : u = v := by injection hv
        exact hu.own (by simp [RB.all]) _ _
      · cases hv
    · rw [if_neg hij] at hv ⊢
      exact (h.has i y v hy hv).own (by simp [RB.all]) _ _
  · intro i x v hx hv
    obtain ⟨y, hy, rfl⟩ := turn_get hx
    have e : (if j = i then { y with has := l } else y).next = y.next := by split <;> rfl
    rw [e]
    exact (h.next i y v hy hv).own (by simp [RB.all]) _ _
theorem RefIn.put_next {w : World} {b : RB} {fl wr : List Value} {s : DSt} {F : Nat → Prop} {u : Value} {l : List Int} (h : RefIn w b fl wr s F) (j : Nat) (hu : Elem w (fun k => F k ∧ k ∉ b.all) u l) : RefIn (w.setCell ⟨b.gw, j, none⟩ u) b fl (wr.set j u) (s.turn (j : Int) fun x => { x with next := l }) F := by
  refine ⟨?_, h.all, ?_, ?_, fun k hk => by simpa using h.lt k hk⟩
  · rw [DSt.turn_len, turn_stays (f := fun x => { x with next := l }) BSt.pend (fun _ => rfl), turn_stays (f := fun x => { x with next := l }) BSt.fault (fun _ => rfl), turn_stays (f := fun x => { x with next := l }) BSt.fail (fun _ => rfl), turn_stays (f := fun x => { x with next := l }) BSt.ever (fun _ => rfl)]
    exact h.mem.put_wr j u
  · intro i x v hx hv
    obtain ⟨y, hy, rfl⟩ := turn_get hx
    have e : (if j = i then { y with next := l } else y).has = y.has := by split <;> rfl
    rw [e]
    exact (h.has i y v hy hv).own (by simp [RB.all]) _ _
  · intro i x v hx hv
    obtain ⟨y, hy, rfl⟩ := turn_get hx
    rw [List.getElem?_set] at hv
    by_cases hij : j = i
    · subst hij
      rw [if_pos rfl] at hv ⊢
      split at hv
      · obtain rfl : u = v := by injection hv
        exact hu.own (by simp [RB.all]) _ _
      · cases hv
    · rw [if_neg hij] at hv ⊢
      exact (h.next i y v hy hv).own (by simp [RB.all]) _ _
theorem RefIn.at_pend {w : World} {b : RB} {fl wr : List Value} {s : DSt} {F : Nat → Prop} (h : RefIn w b fl wr s F) {j n : Nat} {x : BSt} (hx : s.blks[j]? = some x) (hn : s.blks.length = n) :
    w.cell? ⟨b.p, 2, none⟩ = some (.slice (some ⟨b.gp, 0, none⟩) n n) ∧ w.cell? ⟨b.gp, j, none⟩ = some (.bool x.pend) ∧ w.frozen? ⟨b.gp, j, none⟩ = false := by
  subst hn
  refine ⟨by rw [h.mem.box.cell 2]; simp [RB.cells], h.mem.hpe.cell (by rw [List.getElem?_map, List.getElem?_map, hx]; rfl), h.mem.hpe.free j⟩
theorem RefIn.at_fault {w : World} {b : RB} {fl wr : List Value} {s : DSt} {F : Nat → Prop} (h : RefIn w b fl wr s F) {j n : Nat} {x : BSt} (hx : s.blks[j]? = some x) (hn : s.blks.length = n) :
    w.cell? ⟨b.p, 3, none⟩ = some (.slice (some ⟨b.gt, 0, none⟩) n n) ∧ w.cell? ⟨b.gt, j, none⟩ = some (.bool x.fault) ∧ w.frozen? ⟨b.gt, j, none⟩ = false := by
  subst hn
  refine ⟨by rw [h.mem.box.cell 3]; simp [RB.cells], h.mem.hft.cell (by rw [List.getElem?_map, List.getElem?_map, hx]; rfl), h.mem.hft.free j⟩
theorem RefIn.at_fail {w : World} {b : RB} {fl wr : List Value} {s : DSt} {F : Nat → Prop} (h : RefIn w b fl wr s F) {j n : Nat} {x : BSt} (hx : s.blks[j]? = some x) (hn : s.blks.length = n) :
    w.cell? ⟨b.p, 4, none⟩ = some (.slice (some ⟨b.gd, 0, none⟩) n n) ∧ w.cell? ⟨b.gd, j, none⟩ = some (.bool x.fail) ∧ w.frozen? ⟨b.gd, j, none⟩ = false := by
  subst hn
  refine ⟨by rw [h.mem.box.cell 4]; simp [RB.cells], h.mem.hfa.cell (by rw [List.getElem?_map, List.getElem?_map, hx]; rfl), h.mem.hfa.free j⟩
theorem RefIn.at_ever {w : World} {b : RB} {fl wr : List Value} {s : DSt} {F : Nat → Prop} (h : RefIn w b fl wr s F) {j n : Nat} {x : BSt} (hx : s.blks[j]? = some x) (hn : s.blks.length = n) :
    w.cell? ⟨b.p, 5, none⟩ = some (.slice (some ⟨b.ge, 0, none⟩) n n) ∧ w.cell? ⟨b.ge, j, none⟩ = some (.bool x.ever) ∧ w.frozen? ⟨b.ge, j, none⟩ = false := by
  subst hn
  refine ⟨by rw [h.mem.box.cell 5]; simp [RB.cells], h.mem.hev.cell (by rw [List.getElem?_map, List.getElem?_map, hx]; rfl), h.mem.hev.free j⟩
theorem RefIn.num {w : World} {b : RB} {fl wr : List Value} {s : DSt} {F : Nat → Prop} (h : RefIn w b fl wr s F) : w.cell? ⟨b.p, 6, none⟩ = some (.int .i64 (s.calls : Int)) ∧ w.cell? ⟨b.p, 7, none⟩ = some (.int .i64 (s.arm : Int)) ∧ w.cell? ⟨b.p, 8, none⟩ = some (.bool s.down) ∧ ∀ i, w.frozen? ⟨b.p, i, none⟩ = false := by
  refine ⟨by rw [h.mem.box.cell 6]; simp [RB.cells], by rw [h.mem.box.cell 7]; simp [RB.cells], by rw [h.mem.box.cell 8]; simp [RB.cells], fun i => h.mem.box.free i⟩
theorem turn_congr {s : DSt} {j : Nat} {f g : BSt → BSt} (h : ∀ y, s.blks[j]? = some y → f y = g y) : s.turn (j : Int) f = s.turn (j : Int) g := by
  unfold DSt.turn
  congr 1
  apply List.ext_getElem?
  intro i
  simp only [Int.toNat_natCast, List.getElem?_modify]
  rcases hx : s.blks[i]? with _ | x
  · rfl
  · by_cases hij : j = i
    · subst hij; simp [h x hx]
    · simp [hij]
def PowerRef (w : World) (p : Nat) (s : DSt) (F : Nat → Prop) (e : Ending) (w' : World) : Prop := e = .returned (.int .i64 s.power.1) ∧ RefDev w' p s.power.2 F ∧ Only F w w' ∧ w'.heap.size = w.heap.size
set_option maxRecDepth 100000 in
set_option maxHeartbeats 1000000 in
theorem refPower_any (p : Nat) (s : DSt) (F : Nat → Prop) (w : World) (h : RefDev w p s F) (hok : s.ok) :
    Calls Tryd.prog 60 #[.pointer (some ⟨p, 0, none⟩)] w (PowerRef w p s F) := by
  have HD := hid h
  have HA := hid hok.2.2.1
  obtain ⟨b, rfl, hbox⟩ := h.box
  have c7 := hbox.cell 7
  have c8 := hbox.cell 8
  have fr := fun i => hbox.free i
  simp [RB.cells] at c7 c8
  clear hbox h hok
  rcases hdn : s.down with _ | _
  · rw [hdn] at c8
    rcases Nat.eq_zero_or_pos s.arm with h0 | h0
    · have HF := hid (show PowerRef w b.p s F (.returned (.int .i64 0)) w from ⟨by unfold DSt.power; rw [if_neg (by rw [hdn]; decide), if_pos h0], by unfold DSt.power; rw [if_neg (by rw [hdn]; decide), if_pos h0]; exact HD.out, Only.refl _ _, rfl⟩)
      rw [h0] at c7
      simp at c7
      clear hdn h0
      go_enter Tryd.func60, Tryd.ntmps60
      go_wp2
      go_ret
      exact HF.out
    · obtain ⟨k, hk⟩ : ∃ k, s.arm = k + 1 := ⟨s.arm - 1, by omega⟩
      have hk63 : (k : Int) ≤ 9223372036854775806 := by have := HA.out; omega
      rw [hk] at c7
      simp at c7
      have HW := hid (show RefDev (w.setCell ⟨b.p, 7, none⟩ (.int .i64 (k : Int))) b.p { s with arm := k } F from HD.out.store (t := { s with arm := k }) rfl 7 _ (fun _ => rfl))
      rcases Nat.eq_zero_or_pos k with h1 | h1
      · subst h1
        have HF := hid (show PowerRef w b.p s F (.returned (.int .i64 106)) ((w.setCell ⟨b.p, 7, none⟩ (.int .i64 0)).setCell ⟨b.p, 8, none⟩ (.bool true)) from ⟨by unfold DSt.power; rw [if_neg (by rw [hdn]; decide), if_neg (by omega), if_pos (by omega)], by
          unfold DSt.power
          rw [if_neg (by rw [hdn]; decide), if_neg (by omega), if_pos (by omega)]
          exact HW.out.store (t := { s with arm := 0, down := true }) rfl 8 _ (fun _ => rfl), ((Only.refl _ _).put HD.out.here _).put HD.out.here _, by simp⟩)
        clear hdn h0 hk
        go_enter Tryd.func60, Tryd.ntmps60
        go_wp2
        go_ret
        exact HF.out
      · have HF := hid (show PowerRef w b.p s F (.returned (.int .i64 0)) (w.setCell ⟨b.p, 7, none⟩ (.int .i64 (k : Int))) from ⟨by unfold DSt.power; rw [if_neg (by rw [hdn]; decide), if_neg (by omega), if_neg (by omega)], by
          unfold DSt.power
          rw [if_neg (by rw [hdn]; decide), if_neg (by omega), if_neg (by omega)]
          have e : s.arm - 1 = k := by omega
          rw [e]
          exact HW.out, (Only.refl _ _).put HD.out.here _, by simp⟩)
        have hk0 : ((k : Int) == 0) = false := by rw [beq_eq_false_iff_ne]; omega
        clear hdn h0 hk h1
        go_enter Tryd.func60, Tryd.ntmps60
        go_wp2
        go_ret
        exact HF.out
  · rw [hdn] at c8
    have HF := hid (show PowerRef w b.p s F (.returned (.int .i64 106)) w from ⟨by unfold DSt.power; rw [if_pos hdn], by unfold DSt.power; rw [if_pos hdn]; exact HD.out, Only.refl _ _, rfl⟩)
    clear hdn
    go_enter Tryd.func60, Tryd.ntmps60
    go_wp2
    go_ret
    exact HF.out

theorem refHas_any (p : Nat) (s : DSt) (F : Nat → Prop) (i : Int) (w : World) (h : RefDev w p s F) :
    Calls Tryd.prog 61 #[.pointer (some ⟨p, 0, none⟩), .int .i64 i] w fun e w' => e = .returned (.bool (s.inB i)) ∧ w = w' := by
  obtain ⟨b, rfl, hbox⟩ := h.box
  have c2 := hbox.cell 2
  simp [RB.cells] at c2
  clear hbox h
  obtain ⟨n, hn⟩ : ∃ n, s.blks.length = n := ⟨_, rfl⟩
  rw [hn] at c2
  rcases Int.lt_or_le i 0 with h0 | h0
  · have hd : decide (0 ≤ i) = false := by simpa using h0
    have HR := hid (show s.inB i = false by unfold DSt.inB; rw [hd]; rfl)
    go_enter Tryd.func61, Tryd.ntmps61
    go_wp2
    go_ret
    rw [HR.out]
    exact ⟨rfl, rfl⟩
  · have hd : decide (0 ≤ i) = true := by simpa using h0
    have HR := hid (show s.inB i = decide (i < n) by unfold DSt.inB; rw [hd, hn]; rfl)
    rw [HR.out]
    clear hn
    go_enter Tryd.func61, Tryd.ntmps61
    go_wp2
    go_ret
    exact ⟨rfl, rfl⟩
end Go.Proofs.YtndbanfkiaockaaDoor
namespace Go.Proofs.YtndbanfkiaockaaDoor
open Go.RowKit
/-- new bytes, laid: they lie in a block of the device's from now on -/
def More (F : Nat → Prop) (w w' : World) (k : Nat) : Prop := F k ∨ w.heap.size ≤ k ∧ k < w'.heap.size
theorem RefIn.grown {w w' : World} {b : RB} {fl wr : List Value} {s : DSt} {F : Nat → Prop} (h : RefIn w b fl wr s F) (hb : Below w.heap.size w w') : RefIn w' b fl wr s (More F w w') :=
  (h.kept (Kept.of_below hb h.lt)).more (fun _ h => .inl h) (fun k hk => by
    rcases hk with h' | h'
    · have := h.lt k h'; have := hb.size; omega
    · exact h'.2)
theorem RefIn.fresh {w w' : World} {b : RB} {fl wr : List Value} {s : DSt} {F : Nat → Prop} {v : Value} {l : List Int} (h : RefIn w b fl wr s F) (hv : Own w' w.heap.size v l) (hl : l.length = 256) : Elem w' (fun k => More F w w' k ∧ k ∉ b.all) v l :=
  Elem.of_own hv hl (fun k h1 h2 => ⟨.inr ⟨h1, h2⟩, fun hk => by have := h.lt k (h.all k hk); omega⟩)
/-- an answer of a call that turned memory: from the world in which it was whole -/
theorem RefUpd.of_in {w w' : World} {b : RB} {fl wr : List Value} {s : DSt} {F F' : Nat → Prop} (h : RefIn w' b fl wr s F') (ho : Only F w w') (hf : ∀ k, F' k → F k ∨ w.heap.size ≤ k) : RefUpd w b.p s F w' := ⟨F', ⟨b, fl, wr, rfl, h⟩, ho, hf⟩
theorem More.new {F : Nat → Prop} {w w' : World} {k : Nat} (h : More F w w' k) : F k ∨ w.heap.size ≤ k := by
  rcases h with h | h
  · exact .inl h
  · exact .inr h.1

theorem Made.owned {w w' : World} {l : List Int} {e : Ending} (h : Made w l e w') : ∃ A m c, e = .returned (.slice A m c) ∧ Own w' w.heap.size (.slice A m c) l ∧ Below w.heap.size w w' := by
  obtain ⟨v, rfl, ho, hb⟩ := h
  obtain ⟨A, c, rfl, _, _⟩ := ho.form
  exact ⟨A, _, c, rfl, ho, hb⟩
def WriteRef (w : World) (p : Nat) (s : DSt) (F : Nat → Prop) (i : Int) (l : List Int) (e : Ending) (w' : World) : Prop := e = .returned (.int .i64 (s.write i l).1) ∧ RefUpd w p (s.write i l).2 F w'
theorem RefUpd.of_power {w w' : World} {p : Nat} {s : DSt} {F : Nat → Prop} (h : RefDev w' p s.power.2 F) (ho : Only F w w') : RefUpd w p s.power.2 F w' := ⟨F, h, ho, fun _ h => .inl h⟩
set_option maxRecDepth 100000 in
set_option maxHeartbeats 1000000 in
theorem refWrite_any (p : Nat) (s : DSt) (F : Nat → Prop) (i : Int) (A : Option Addr) (n c : Nat) (l : List Int) (w : World) (h : RefDev w p s F) (hok : s.ok) (hs : Sl w w.heap.size A n c l) (hA : ∀ ad, A = some ad → 0 < n → ¬ F ad.block) (hn : n ≤ 100000) :
    Calls Tryd.prog 16 #[.pointer (some ⟨p, 0, none⟩), .int .i64 i, .slice A n c] w (WriteRef w p s F i l) := by
  have HD := hid h
  have HK := hid hok
  have HS := hid hs
  have HA := hid hA
  have HL := hid hs.len
  clear h hok hs hA
  by_cases hp : s.power.1 = 0
  · have HP := hid hp
    have hI : ∀ i, s.power.2.inB i = s.inB i := fun i => by unfold DSt.inB; rw [s.power_blks.1]
    have HW := hid (show s.write i l = s.power.2.write1 i l by unfold DSt.write; rw [if_pos hp])
    clear hp
    by_cases hin : s.inB i = true
    · obtain ⟨hi0, hi1⟩ := DSt.in_iff.1 hin
      have HI := hid ((hI i).trans hin)
      obtain ⟨j, rfl⟩ : ∃ j : Nat, i = (j : Int) := ⟨i.toNat, by omega⟩
      clear hI hin
      by_cases h256 : n = 256
      · subst h256
        have HW1 := hid (show s.power.2.write1 (j : Int) l = (0, { s.power.2.turn j (BSt.write l) with calls := s.power.2.calls + 1 }) by unfold DSt.write1; rw [if_neg (by rw [HI.out]; decide), if_neg (by rw [HL.out]; decide)])
        go_enter Tryd.func16, Tryd.ntmps16
        go_wp2_with fail
        refine (refPower_any p s F w HD.out HK.out).mono ?_
        rintro e w1 ⟨he, hd, ho, _⟩
        rw [HP.out] at he
        subst he
        have HD1 := hid hd
        have HO1 := hid ho
        clear hd ho
        go_wp2_with fail
        refine (refHas_any p s.power.2 F _ w1 HD1.out).mono ?_
        rintro e w' ⟨rfl, rfl⟩
        rw [HI.out]
        have HS1 := hid (HS.out.only HO1.out HA.out)
        obtain ⟨b, fl, wr, hbp, hin⟩ := HD1.out
        subst hbp
        have HM := hid hin.mem
        have HIN := hid hin
        have c1 := hin.mem.box.cell 1
        simp [RB.cells] at c1
        clear hin
        obtain ⟨N, hN⟩ : ∃ N, s.power.2.blks.length = N := ⟨_, rfl⟩
        rw [hN] at c1
        have hjN : (j : Int) < N := by rw [← hN, s.power_blks.1]; exact hi1
        have HN := hid hN
        clear hN hi1
        have HS1d := hid (show Sl w1.drew w1.drew.heap.size A 256 c l from HS1.out.drewN 1)
        obtain ⟨y, hy⟩ : ∃ y, wr[j]? = some y := ⟨_, List.getElem?_eq_getElem (by rw [HM.out.len.2.1, HN.out]; omega)⟩
        have HY := hid hy
        clear hy
        go_wp2_with fail
        go_region_held3 (fun w' => w'.cell? ⟨b.p, 1, none⟩ = some (.slice (some ⟨b.gw, 0, none⟩) N b.cw)) (first | exact d1 | exact dS | go_keep)
          ((first | (go_at_call 62; refine (bytes_any A 256 c l _ HS1d.out hn).mono ?_; rintro e w2 hm2; obtain ⟨A2, m2, c2, rfl, ho2, hb2⟩ := hm2.owned; have hm3 := HM.out.same (w' := w2) (fun k hk => hb2.block k (HIN.out.lt k (HIN.out.all k hk))); have d1 := hm3.box.cell 1; simp [RB.cells] at d1; rw [HN.out] at d1; have dS := (hm3.put_wr j (.slice A2 m2 c2)).box.cell 1; simp [RB.cells] at dS; rw [HN.out] at dS; have dw := hm3.hwr.cell HY.out; have fw := hm3.hwr.free j; have HO2 := hid ho2; have HB2 := hid hb2; clear ho2 hb2 hm3)))
        clear d1 dS dw fw
        have hb2 : Below w1.heap.size w1 w2 := ⟨HB2.out.os, HB2.out.tape, HB2.out.output, HB2.out.size, HB2.out.block⟩
        have hm2 := HM.out.same (w' := w2) (fun k hk => hb2.block k (HIN.out.lt k (HIN.out.all k hk)))
        have hm3 := hm2.put_wr j (.slice A2 m2 c2)
        have hm4 := hm3.put_pe j true
        have hcl : (s.power.2.calls : Int) + 1 ≤ 9223372036854775807 := by have := HK.out.2.1; rw [s.power_blks.2]; omega
        have HE := hid (show WriteRef w b.p s F (j : Int) l (.returned (.int .i64 0)) (((w2.setCell ⟨b.gw, j, none⟩ (.slice A2 m2 c2)).setCell ⟨b.gp, j, none⟩ (.bool true)).setCell ⟨b.p, 6, none⟩ (.int .i64 ((s.power.2.calls : Int) + 1))) by
          unfold WriteRef
          rw [HW.out, HW1.out]
          have h1 := HIN.out.grown hb2
          have h2 := ((h1.put_next j (HIN.out.fresh (show Own w2 w1.heap.size (.slice A2 m2 c2) l from HO2.out) HL.out)).put_pend j true).put_num (t := { s.power.2.turn j (BSt.write l) with calls := s.power.2.calls + 1 }) (by rw [turn_turn]; rfl) 6 (.int .i64 ((s.power.2.calls : Int) + 1)) (by rw [DSt.turn_len, DSt.turn_len]; rfl)
          exact ⟨rfl, RefUpd.of_in h2 ((((HO1.out.then_below hb2).put (HIN.out.all _ (by simp [RB.all])) _).put (HIN.out.all _ (by simp [RB.all])) _).put (HIN.out.all _ (by simp [RB.all])) _) (fun k hk => by
            rcases hk.new with h | h
            · exact .inl h
            · have := HO1.out.size; exact .inr (by omega))⟩)
        obtain ⟨z, hz⟩ : ∃ z, (s.power.2.blks.map BSt.pend)[j]? = some z := ⟨_, List.getElem?_eq_getElem (by rw [List.length_map, HN.out]; omega)⟩
        have e2 := hm3.box.cell 2
        have f2 := hm3.hpe.cell (k := j) (u := .bool z) (by rw [List.getElem?_map, hz]; rfl)
        have g2 := hm3.hpe.free j
        have e6 := hm4.box.cell 6
        have g6 := hm4.box.free 6
        simp [RB.cells] at e2 e6
        rw [HN.out] at e2
        clear hb2 hm2 hm3 hm4 hz
        go_wp2
        go_ret
        exact HE.out
      · have hne : ((n : Int) != 256) = true := by rw [bne_iff_ne]; omega
        have HW1 := hid (show s.power.2.write1 (j : Int) l = (102, s.power.2) by unfold DSt.write1; rw [if_neg (by rw [HI.out]; decide), if_pos (by rw [HL.out]; exact h256)])
        clear h256
        go_enter Tryd.func16, Tryd.ntmps16
        go_wp2_with fail
        refine (refPower_any p s F w HD.out HK.out).mono ?_
        rintro e w1 ⟨he, hd, ho, _⟩
        rw [HP.out] at he
        subst he
        have HD1 := hid hd
        have HO1 := hid ho
        clear hd ho
        go_wp2_with fail
        refine (refHas_any p s.power.2 F _ w1 HD1.out).mono ?_
        rintro e w' ⟨rfl, rfl⟩
        rw [HI.out]
        have HF := hid (show WriteRef w p s F (j : Int) l (.returned (.int .i64 102)) w1 by
          unfold WriteRef
          rw [HW.out, HW1.out]
          exact ⟨rfl, RefUpd.of_power HD1.out HO1.out⟩)
        go_wp2
        go_ret
        exact HF.out
    · have HI := hid ((hI i).trans (Bool.not_eq_true _ ▸ hin))
      have HW1 := hid (show s.power.2.write1 i l = (105, s.power.2) by unfold DSt.write1; rw [if_pos HI.out])
      clear hI hin
      go_enter Tryd.func16, Tryd.ntmps16
      go_wp2_with fail
      refine (refPower_any p s F w HD.out HK.out).mono ?_
      rintro e w1 ⟨he, hd, ho, _⟩
      rw [HP.out] at he
      subst he
      have HD1 := hid hd
      have HO1 := hid ho
      clear hd ho
      go_wp2_with fail
      refine (refHas_any p s.power.2 F _ w1 HD1.out).mono ?_
      rintro e w' ⟨rfl, rfl⟩
      rw [HI.out]
      have HF := hid (show WriteRef w p s F i l (.returned (.int .i64 105)) w1 by
        unfold WriteRef
        rw [HW.out, HW1.out]
        exact ⟨rfl, RefUpd.of_power HD1.out HO1.out⟩)
      go_wp2
      go_ret
      exact HF.out
  · have HF := fun w1 (h : PowerRef w p s F (.returned (.int .i64 s.power.1)) w1) => (show WriteRef w p s F i l (.returned (.int .i64 s.power.1)) w1 by
      have e : s.write i l = s.power := by unfold DSt.write; rw [if_neg hp]
      unfold WriteRef
      rw [e]
      exact ⟨rfl, RefUpd.of_power h.2.1 h.2.2.1⟩)
    have hb : (s.power.1 != 0) = true := by rw [bne_iff_ne]; exact hp
    have HFF := hid HF
    clear HF hp
    go_enter Tryd.func16, Tryd.ntmps16
    go_wp2_with fail
    refine (refPower_any p s F w HD.out HK.out).mono ?_
    rintro e w1 ⟨rfl, hr⟩
    have HR := hid (HFF.out w1 ⟨rfl, hr⟩)
    clear hr
    go_wp2
    go_ret
    exact HR.out
end Go.Proofs.YtndbanfkiaockaaDoor
namespace Go.Proofs.YtndbanfkiaockaaDoor
open Go.RowKit

def SetRef (w : World) (b : RB) (wr : List Value) (s : DSt) (j : Nat) (F : Nat → Prop) (e : Ending) (w' : World) : Prop :=
  e = .returned (.tuple #[]) ∧ ∃ fl' F', RefIn w' b fl' wr (s.turn (j : Int) BSt.settle) F' ∧ Only F w w' ∧ ∀ k, F' k → F k ∨ w.heap.size ≤ k
set_option maxRecDepth 100000 in
set_option maxHeartbeats 1000000 in
theorem refSettle_any (b : RB) (fl wr : List Value) (s : DSt) (j : Nat) (x : BSt) (F : Nat → Prop) (w : World) (h : RefIn w b fl wr s F) (hx : s.blks[j]? = some x) (hl : x.next.length = 256) :
    Calls Tryd.prog 63 #[.pointer (some ⟨b.p, 0, none⟩), .int .i64 (j : Int)] w (SetRef w b wr s j F) := by
  obtain ⟨N, hN⟩ : ∃ N, s.blks.length = N := ⟨_, rfl⟩
  have hj : j < s.blks.length := (List.getElem?_eq_some_iff.1 hx).1
  have hjN : (j : Int) < N := by omega
  obtain ⟨u, hu⟩ : ∃ u, fl[j]? = some u := ⟨_, List.getElem?_eq_getElem (by rw [h.mem.len.1]; exact hj)⟩
  obtain ⟨v, hv⟩ : ∃ v, wr[j]? = some v := ⟨_, List.getElem?_eq_getElem (by rw [h.mem.len.2.1]; exact hj)⟩
  obtain ⟨A, c, rfl, hs, _⟩ := h.next j x v hx hv
  have HS := hid (show Sl w.drew w.drew.heap.size A 256 c x.next from hs.drewN 1)
  have HI := hid h
  have HL := hid hl
  have HN := hid hN
  have HU := hid hu
  have HV := hid hv
  have c0 := h.mem.box.cell 0
  have c1 := h.mem.box.cell 1
  simp [RB.cells] at c0 c1
  rw [hN] at c0 c1
  have cw := h.mem.hwr.cell hv
  have HX := hid hx
  clear h hl hs hN hu hv hj hx
  go_enter Tryd.func63, Tryd.ntmps63
  go_wp2_with fail
  go_region_held3 (fun w' => w'.cell? ⟨b.p, 0, none⟩ = some (.slice (some ⟨b.gf, 0, none⟩) N b.cf) ∧ w'.cell? ⟨b.p, 1, none⟩ = some (.slice (some ⟨b.gw, 0, none⟩) N b.cw) ∧ w'.cell? ⟨b.gw, j, none⟩ = some (.slice A 256 c)) (first | exact ⟨d0, d1, dw⟩ | exact ⟨s0, s1, sw⟩ | go_keep)
    ((first | (go_at_call 62; refine (bytes_any A 256 c x.next _ HS.out (by omega)).mono ?_; rintro e w2 hm2; obtain ⟨A2, m2, c2, rfl, ho2, hb2⟩ := hm2.owned; have HB := hid (show Below w.heap.size w w2 from ⟨hb2.os, hb2.tape, hb2.output, hb2.size, hb2.block⟩); have HO := hid (show Own w2 w.heap.size (.slice A2 m2 c2) x.next from ho2); have hm3 := (HI.out.grown HB.out).mem; have d0 := hm3.box.cell 0; have d1 := hm3.box.cell 1; have dw := hm3.hwr.cell HV.out; have df := hm3.hfl.cell HU.out; have ff := hm3.hfl.free j; have hm4 := hm3.put_fl j (.slice A2 m2 c2); have s0 := hm4.box.cell 0; have s1 := hm4.box.cell 1; have sw := hm4.hwr.cell HV.out; simp [RB.cells] at d0 d1 s0 s1; rw [HN.out] at d0 d1 s0 s1; clear ho2 hb2 hm3 hm4)))
  clear d0 d1 dw df ff s0 s1 sw c0 c1 cw
  have hm3 := (HI.out.grown HB.out).put_has j (HI.out.fresh HO.out HL.out)
  have hm4 := hm3.put_fault j false
  have hm5 := hm4.put_fail j false
  obtain ⟨e3, t3, g3⟩ := hm3.at_fault (n := N) (turn_at HX.out) (by rw [DSt.turn_len]; exact HN.out)
  obtain ⟨e4, t4, g4⟩ := hm4.at_fail (n := N) (turn_at (turn_at HX.out)) (by rw [DSt.turn_len, DSt.turn_len]; exact HN.out)
  rw [turn_turn, turn_turn, turn_congr (g := BSt.settle) (fun y hy => by rw [HX.out] at hy; obtain rfl : x = y := (by injection hy); rfl)] at hm5
  have HF := hid (show SetRef w b wr s j F (.returned (.tuple #[])) (((w2.setCell ⟨b.gf, j, none⟩ (.slice A2 m2 c2)).setCell ⟨b.gt, j, none⟩ (.bool false)).setCell ⟨b.gd, j, none⟩ (.bool false)) from ⟨rfl, _, _, hm5, ((((Only.refl F w).then_below HB.out).put (HI.out.all _ (by simp [RB.all])) _).put (HI.out.all _ (by simp [RB.all])) _).put (HI.out.all _ (by simp [RB.all])) _, fun k hk => More.new (w' := w2) hk⟩)
  clear hm3 hm4 hm5
  go_wp2
  go_end0
  exact HF.out

/-- the first k blocks are flushed -/
def flushK (s : DSt) (k : Nat) : DSt := { s with blks := upTo BSt.flush k s.blks }
theorem flushK_zero (s : DSt) : flushK s 0 = s := by unfold flushK; rw [upTo_zero]
theorem flushK_get {s : DSt} {k : Nat} {x : BSt} (h : s.blks[k]? = some x) : (flushK s k).blks[k]? = some x := upTo_at _ h
theorem flushK_len (s : DSt) (k : Nat) : (flushK s k).blks.length = s.blks.length := upTo_len _ _ _
theorem flushK_step (s : DSt) (k : Nat) : (flushK s k).turn (k : Int) BSt.flush = flushK s (k + 1) := by
  unfold DSt.turn flushK
  simp only [Int.toNat_natCast]
  rw [upTo_step]
theorem turn_same {s : DSt} {j : Nat} {f : BSt → BSt} (h : ∀ y, s.blks[j]? = some y → f y = y) : s.turn (j : Int) f = s := by
  rw [turn_congr (g := fun y => y) h]
  unfold DSt.turn
  have : s.blks.modify (j : Int).toNat (fun y => y) = s.blks := by
    apply List.ext_getElem?
    intro i
    rw [List.getElem?_modify]
    rcases s.blks[i]? with _ | x
    · rfl
    · simp
  rw [this]
def FlushRef (w : World) (p : Nat) (s : DSt) (F : Nat → Prop) (e : Ending) (w' : World) : Prop := e = .returned (.int .i64 s.flush.1) ∧ RefUpd w p s.flush.2 F w'
set_option maxRecDepth 100000 in
set_option maxHeartbeats 2000000 in
theorem refFlush_any (p : Nat) (s : DSt) (F : Nat → Prop) (w : World) (h : RefDev w p s F) (hok : s.ok) :
    Calls Tryd.prog 18 #[.pointer (some ⟨p, 0, none⟩)] w (FlushRef w p s F) := by
  have HD := hid h
  have HK := hid hok
  clear h hok
  by_cases hp : s.power.1 = 0
  · have HP := hid hp
    have HW := hid (show s.flush = s.power.2.flush1 by unfold DSt.flush; rw [if_pos hp])
    clear hp
    go_enter Tryd.func18, Tryd.ntmps18
    go_wp2_with fail
    refine (refPower_any p s F w HD.out HK.out).mono ?_
    rintro e w1 ⟨he, hd, ho, _⟩
    rw [HP.out] at he
    subst he
    have HO1 := hid ho
    obtain ⟨b, fl, nx, hbp, hin⟩ := hd
    subst hbp
    have HIN := hid hin
    clear ho hin
    obtain ⟨N, hN⟩ : ∃ N, s.power.2.blks.length = N := ⟨_, rfl⟩
    have HN := hid hN
    have hN6 : N ≤ 6000 := by rw [← hN, s.power_blks.1]; exact HK.out.2.2.2
    clear hN
    go_wp2
    go_loopw [4] (fun i wr => ∃ (k : Nat) (fl' : List Value) (F' : Nat → Prop), k ≤ N ∧ i = .int .i64 (k : Int) ∧ RefIn wr b fl' nx (flushK s.power.2 k) F' ∧ Only F w1 wr ∧ ∀ k, F' k → F k ∨ w1.heap.size ≤ k) (fun i _ => N - (intOf i).toNat)
    case atStart => exact ⟨0, fl, F, by omega, rfl, by rw [flushK_zero]; exact HIN.out, Only.refl _ _, fun _ h => .inl h⟩
    case round =>
      obtain ⟨k, fl', F', hk, rfl, hin, ho, hf⟩ := hrel
      have HI := hid hin
      have HO := hid ho
      have HF := hid hf
      have HM := hid (hin.mem.box.cell 2)
      clear hin ho hf
      have c2 := HM.out
      simp [RB.cells, flushK_len] at c2
      rw [HN.out] at c2
      by_cases hlt : k < N
      · obtain ⟨x, hx⟩ : ∃ x, s.power.2.blks[k]? = some x := ⟨_, List.getElem?_eq_getElem (by rw [HN.out]; exact hlt)⟩
        have hok : x.ok := HK.out.1 x (by rw [← s.power_blks.1]; exact List.mem_of_getElem? hx)
        have HX := hid hx
        have HX2 := hid hok.2.2.2
        clear hx hok c2
        obtain ⟨c2, cp, fp⟩ := HI.out.at_pend (n := N) (flushK_get HX.out) (by rw [flushK_len]; exact HN.out)
        by_cases hp : x.pend = true
        · have HPd := hid hp
          rw [hp] at cp
          go_wp2_with fail
          refine (refSettle_any b fl' nx (flushK s.power.2 k) k x F' _ HI.out (flushK_get HX.out) HX2.out).mono ?_
          rintro e w2 ⟨rfl, fl2, F2, hin2, ho2, hf2⟩
          have HO2 := hid (HO.out.trans ho2 HF.out)
          have HF2 := hid (show ∀ k, F2 k → F k ∨ w1.heap.size ≤ k from fun k hk => by
            rcases hf2 k hk with h | h
            · exact HF.out k h
            · have := HO.out.size; exact .inr (by omega))
          obtain ⟨d2, dp, gp⟩ := hin2.at_pend (n := N) (turn_at (flushK_get HX.out)) (by rw [DSt.turn_len, flushK_len]; exact HN.out)
          have hin3 := hin2.put_pend k false
          rw [turn_turn, turn_congr (g := BSt.flush) (fun y hy => by
            rw [flushK_get HX.out] at hy
            obtain rfl : x = y := (by injection hy)
            unfold BSt.flush; rw [if_pos HPd.out]), flushK_step] at hin3
          have HI3 := hid hin3
          have HO3 := hid (HO2.out.put (p := ⟨b.gp, k, none⟩) (u := .bool false) (HIN.out.all _ (by simp [RB.all])))
          clear hin2 ho2 hf2 hin3 c2 cp fp
          go_wp2
          go_roundw
          case rel => exact ⟨k + 1, fl2, F2, by omega, by go_num, HI3.out, HO3.out, HF2.out⟩
          case measure => simp [intOf]; omega
        · have hp' : x.pend = false := Bool.not_eq_true _ ▸ hp
          have HI3 := hid (show RefIn wr b fl' nx (flushK s.power.2 (k + 1)) F' by
            rw [← flushK_step, turn_same (fun y hy => by
              rw [flushK_get HX.out] at hy
              obtain rfl : x = y := (by injection hy)
              unfold BSt.flush; rw [if_neg hp])]
            exact HI.out)
          rw [hp'] at cp
          clear hp hp'
          go_wp2
          go_roundw
          case rel => exact ⟨k + 1, fl', F', by omega, by go_num, HI3.out, HO.out, HF.out⟩
          case measure => simp [intOf]; omega
      · obtain rfl : k = N := by omega
        obtain ⟨c6, _, _, g6⟩ := HI.out.num
        have hcl : ((flushK s.power.2 k).calls : Int) + 1 ≤ 9223372036854775807 := by
          have := HK.out.2.1
          show (s.power.2.calls : Int) + 1 ≤ _
          rw [s.power_blks.2]; omega
        have HE := hid (show FlushRef w b.p s F (.returned (.int .i64 0)) (wr.setCell ⟨b.p, 6, none⟩ (.int .i64 (((flushK s.power.2 k).calls : Int) + 1))) by
          have hin2 := HI.out.put_num (t := s.power.2.flush1.2) (by
            show s.power.2.blks.map BSt.flush = upTo BSt.flush k s.power.2.blks
            rw [upTo_all _ (by rw [HN.out]; exact Nat.le_refl _)]) 6 (.int .i64 (((flushK s.power.2 k).calls : Int) + 1)) rfl
          unfold FlushRef
          rw [HW.out]
          exact ⟨rfl, RefUpd.of_in hin2 ((HO1.out.trans HO.out (fun _ h => .inl h)).put (HIN.out.all _ (by simp [RB.all])) _) (fun k hk => by
            rcases HF.out k hk with h | h
            · exact .inl h
            · have := HO1.out.size; exact .inr (by omega))⟩)
        go_wp2
        go_ret
        exact HE.out
  · have HFF := hid (fun w1 (h : PowerRef w p s F (.returned (.int .i64 s.power.1)) w1) => (show FlushRef w p s F (.returned (.int .i64 s.power.1)) w1 by
      have e : s.flush = s.power := by unfold DSt.flush; rw [if_neg hp]
      unfold FlushRef
      rw [e]
      exact ⟨rfl, RefUpd.of_power h.2.1 h.2.2.1⟩))
    have hb : (s.power.1 != 0) = true := by rw [bne_iff_ne]; exact hp
    clear hp
    go_enter Tryd.func18, Tryd.ntmps18
    go_wp2_with fail
    refine (refPower_any p s F w HD.out HK.out).mono ?_
    rintro e w1 ⟨rfl, hr⟩
    have HR := hid (HFF.out w1 ⟨rfl, hr⟩)
    clear hr
    go_wp2
    go_ret
    exact HR.out
end Go.Proofs.YtndbanfkiaockaaDoor
namespace Go.Proofs.YtndbanfkiaockaaDoor
open Go.RowKit

/-- a call that reads: its bytes and its error's number -/
def ReadRef (w : World) (r : Int × List Int) (e : Ending) (w' : World) : Prop := ∃ A n c, e = .returned (.tuple #[.slice A n c, .int .i64 r.1]) ∧ Sl w' w'.heap.size A n c r.2 ∧ Below w.heap.size w w'
theorem ReadRef.none (w : World) (c : Int) : ReadRef w (c, []) (.returned (.tuple #[.slice none 0 0, .int .i64 c])) w := ⟨_, _, _, rfl, Sl.empty _ _, Below.refl _ _⟩
set_option maxRecDepth 100000 in
set_option maxHeartbeats 2000000 in
theorem refRead_any (p : Nat) (s : DSt) (F : Nat → Prop) (i : Int) (w : World) (h : RefDev w p s F) (hok : s.ok) :
    Calls Tryd.prog 29 #[.pointer (some ⟨p, 0, none⟩), .int .i64 i] w (ReadRef w (s.read i)) := by
  have HD := hid h
  have HK := hid hok
  obtain ⟨b, fl, nx, rfl, hin⟩ := h
  obtain ⟨_, _, c8, _⟩ := hin.num
  have HI := hid hin
  clear hin hok
  rcases hdn : s.down with _ | _
  · rw [hdn] at c8
    have hr : s.read i = if s.inB i = false then (105, []) else ((s.blks[i.toNat]?).map BSt.read).getD (105, []) := by unfold DSt.read; rw [if_neg (by rw [hdn]; decide)]
    clear hdn
    by_cases hn : s.inB i = true
    · obtain ⟨hi0, hi1⟩ := DSt.in_iff.1 hn
      obtain ⟨j, rfl⟩ : ∃ j : Nat, i = (j : Int) := ⟨i.toNat, by omega⟩
      obtain ⟨N, hN⟩ : ∃ N, s.blks.length = N := ⟨_, rfl⟩
      obtain ⟨x, hx⟩ : ∃ x, s.blks[j]? = some x := ⟨_, List.getElem?_eq_getElem (by omega)⟩
      rw [if_neg (by rw [hn]; decide), Int.toNat_natCast, hx] at hr
      have hr' : s.read (j : Int) = x.read := hr
      clear hr
      have hjN : (j : Int) < N := by omega
      have hok : x.ok := HK.out.1 x (List.mem_of_getElem? hx)
      obtain ⟨c2, cp, _⟩ := HI.out.at_pend hx hN
      obtain ⟨c4, cf, _⟩ := HI.out.at_fail hx hN
      have HX := hid hx
      have HN := hid hN
      have HB := hid hn
      have HR := hid hr'
      have HO := hid hok
      clear hx hN hn hr' hok hi1
      rcases hp : x.pend with _ | _
      · rw [hp] at cp
        rcases hf : x.fail with _ | _
        · rw [hf] at cf
          obtain ⟨v, hv⟩ : ∃ v, fl[j]? = some v := ⟨_, List.getElem?_eq_getElem (by rw [HI.out.mem.len.1, HN.out]; omega)⟩
          obtain ⟨A, c, rfl, hs, _⟩ := HI.out.has j x v HX.out hv
          have c0 := HI.out.mem.box.cell 0
          simp [RB.cells] at c0
          rw [HN.out] at c0
          have cv := HI.out.mem.hfl.cell hv
          have HS := hid hs
          have HE := hid (show x.read = (0, x.has) by unfold BSt.read; rw [if_neg (by rw [hp]; decide), if_neg (by rw [hf]; decide)])
          clear hs hv hp hf
          rw [HR.out, HE.out]
          go_enter Tryd.func29, Tryd.ntmps29
          go_wp2_with fail
          refine (refHas_any b.p s F _ w HD.out).mono ?_
          rintro e w' ⟨rfl, rfl⟩
          rw [HB.out]
          go_wp2_with fail
          refine (bytes_any A 256 c x.has _ HS.out (by omega)).mono ?_
          rintro e w2 hm
          obtain ⟨A2, m2, c2', rfl, hs2, hb2⟩ := hm.get
          have HF := hid (show ReadRef w (0, x.has) (.returned (.tuple #[.slice A2 m2 c2', .int .i64 0])) w2 from ⟨_, _, _, rfl, hs2, hb2⟩)
          clear hm hs2 hb2
          go_wp2
          go_ret2
          exact HF.out
        · rw [hf] at cf
          have HE := hid (show x.read = (107, []) by unfold BSt.read; rw [if_neg (by rw [hp]; decide), if_pos hf])
          clear hp hf
          rw [HR.out, HE.out]
          have HF := hid (ReadRef.none w 107)
          go_enter Tryd.func29, Tryd.ntmps29
          go_wp2_with fail
          refine (refHas_any b.p s F _ w HD.out).mono ?_
          rintro e w' ⟨rfl, rfl⟩
          rw [HB.out]
          go_wp2
          go_ret2
          exact HF.out
      · rw [hp] at cp
        obtain ⟨v, hv⟩ : ∃ v, nx[j]? = some v := ⟨_, List.getElem?_eq_getElem (by rw [HI.out.mem.len.2.1, HN.out]; omega)⟩
        obtain ⟨A, c, rfl, hs, _⟩ := HI.out.next j x v HX.out hv
        have c1 := HI.out.mem.box.cell 1
        simp [RB.cells] at c1
        rw [HN.out] at c1
        have cv := HI.out.mem.hwr.cell hv
        have HS := hid hs
        have HE := hid (show x.read = (0, x.next) by unfold BSt.read; rw [if_pos hp])
        clear hs hv hp
        rw [HR.out, HE.out]
        go_enter Tryd.func29, Tryd.ntmps29
        go_wp2_with fail
        refine (refHas_any b.p s F _ w HD.out).mono ?_
        rintro e w' ⟨rfl, rfl⟩
        rw [HB.out]
        go_wp2_with fail
        refine (bytes_any A 256 c x.next _ HS.out (by omega)).mono ?_
        rintro e w2 hm
        obtain ⟨A2, m2, c2', rfl, hs2, hb2⟩ := hm.get
        have HF := hid (show ReadRef w (0, x.next) (.returned (.tuple #[.slice A2 m2 c2', .int .i64 0])) w2 from ⟨_, _, _, rfl, hs2, hb2⟩)
        clear hm hs2 hb2
        go_wp2
        go_ret2
        exact HF.out
    · have hn' : s.inB i = false := Bool.not_eq_true _ ▸ hn
      have HB := hid hn'
      have HE := hid (show s.read i = (105, []) by rw [hr, if_pos hn'])
      rw [HE.out]
      clear hr hn hn'
      have HF := hid (ReadRef.none w 105)
      go_enter Tryd.func29, Tryd.ntmps29
      go_wp2_with fail
      refine (refHas_any b.p s F _ w HD.out).mono ?_
      rintro e w' ⟨rfl, rfl⟩
      rw [HB.out]
      go_wp2
      go_ret2
      exact HF.out
  · rw [hdn] at c8
    have HE := hid (show s.read i = (106, []) by unfold DSt.read; rw [if_pos hdn])
    rw [HE.out]
    clear hdn
    have HF := hid (ReadRef.none w 106)
    go_enter Tryd.func29, Tryd.ntmps29
    go_wp2
    go_ret2
    exact HF.out

set_option maxRecDepth 100000 in
set_option maxHeartbeats 1000000 in
theorem refSetArm_any (p : Nat) (s : DSt) (F : Nat → Prop) (n : Int) (w : World) (h : RefDev w p s F) :
    Calls Tryd.prog 20 #[.pointer (some ⟨p, 0, none⟩), .int .i64 n] w fun e w' => e = .returned (.tuple #[]) ∧ RefUpd w p (s.setArm n) F w' := by
  have HD := hid h
  obtain ⟨b, fl, nx, rfl, hin⟩ := h
  obtain ⟨_, c7, _, g7⟩ := hin.num
  have f7 := g7 7
  clear hin g7
  rcases Int.lt_or_le n 0 with h0 | h0
  · have HF := hid (show RefUpd w b.p (s.setArm n) F (w.setCell ⟨b.p, 7, none⟩ (.int .i64 0)) from ⟨F, HD.out.store (t := s.setArm n) rfl 7 _ (fun _ => by
      unfold DSt.setArm; rw [show n.toNat = 0 by omega]; rfl), (Only.refl _ _).put HD.out.here _, fun _ h => .inl h⟩)
    go_enter Tryd.func20, Tryd.ntmps20
    go_wp2
    go_end0
    exact ⟨rfl, HF.out⟩
  · have HF := hid (show RefUpd w b.p (s.setArm n) F (w.setCell ⟨b.p, 7, none⟩ (.int .i64 n)) from ⟨F, HD.out.store (t := s.setArm n) rfl 7 _ (fun _ => by
      have e : ((n.toNat : Nat) : Int) = n := by omega
      unfold DSt.setArm RB.cells
      simp [e]), (Only.refl _ _).put HD.out.here _, fun _ h => .inl h⟩)
    go_enter Tryd.func20, Tryd.ntmps20
    go_wp2
    go_end0
    exact ⟨rfl, HF.out⟩
end Go.Proofs.YtndbanfkiaockaaDoor
namespace Go.Proofs.YtndbanfkiaockaaDoor
open Go.RowKit

theorem countP_take {l : List Bool} {k : Nat} {x : Bool} (h : l[k]? = some x) : (l.take (k + 1)).countP id = (l.take k).countP id + (if x then 1 else 0) := by
  rw [List.take_add_one, h, List.countP_append]
  cases x <;> rfl
set_option maxRecDepth 100000 in
set_option maxHeartbeats 1000000 in
theorem count_any (A : Option Addr) (n c B : Nat) (l : List Bool) (w : World) (h : Sv w B A n c (l.map Value.bool)) (hn : n ≤ 100000) :
    Calls Tryd.prog 68 #[.slice A n c] w fun e w' => e = .returned (.int .i64 ((l.countP id : Nat) : Int)) ∧ w = w' := by
  have HS := hid h
  have HL := hid (show l.length = n by have := h.len; rwa [List.length_map] at this)
  clear h
  go_enter Tryd.func68, Tryd.ntmps68
  go_wp2
  go_loop [3, 4] (fun m i => ∃ k c : Nat, k ≤ n ∧ c ≤ k ∧ i = .int .i64 (k : Int) ∧ m = .int .i64 (c : Int) ∧ (l.take k).countP id = c) (fun _ i => n - (intOf i).toNat)
  case atStart => exact ⟨0, 0, by omega, by omega, rfl, rfl, rfl⟩
  case round =>
    obtain ⟨k, c, hk, hck, rfl, rfl, hc⟩ := hrel
    have HC := hid hc
    clear hc
    by_cases hlt : k < n
    · obtain ⟨x, hx⟩ : ∃ x, l[k]? = some x := ⟨_, List.getElem?_eq_getElem (by rw [HL.out]; exact hlt)⟩
      obtain ⟨ad, rfl, _, hcell⟩ := HS.out.get (k := k) (u := .bool x) (by rw [List.getElem?_map, hx]; rfl)
      have HN := hid (countP_take hx)
      clear hx
      cases x
      · go_wp2
        go_round
        case rel => exact ⟨k + 1, c, by omega, by omega, by go_num, rfl, by rw [HN.out, HC.out]; rfl⟩
        case measure => simp [intOf]; omega
      · go_wp2
        go_round
        case rel => exact ⟨k + 1, c + 1, by omega, by omega, by go_num, by go_num, by rw [HN.out, HC.out]; rfl⟩
        case measure => simp [intOf]; omega
    · have HF := hid (show l.countP id = c by have := HC.out; rwa [List.take_of_length_le (by rw [HL.out]; omega)] at this)
      go_wp2
      go_ret
      rw [HF.out]
      exact ⟨rfl, rfl⟩
theorem RefIn.slice_pend {w : World} {b : RB} {fl nx : List Value} {s : DSt} {F : Nat → Prop} (h : RefIn w b fl nx s F) : w.cell? ⟨b.p, 2, none⟩ = some (.slice (some ⟨b.gp, 0, none⟩) s.blks.length s.blks.length) ∧ Sv w w.heap.size (some ⟨b.gp, 0, none⟩) s.blks.length s.blks.length ((s.blks.map BSt.pend).map Value.bool) := by
  refine ⟨by rw [h.mem.box.cell 2]; simp [RB.cells], ?_⟩
  obtain ⟨A, c, hv, hs, _⟩ := h.mem.hpe.form
  injection hv with h1 h2 h3
  subst h1 h3
  rw [← h2] at hs
  exact hs
theorem RefIn.slice_ever {w : World} {b : RB} {fl nx : List Value} {s : DSt} {F : Nat → Prop} (h : RefIn w b fl nx s F) : w.cell? ⟨b.p, 5, none⟩ = some (.slice (some ⟨b.ge, 0, none⟩) s.blks.length s.blks.length) ∧ Sv w w.heap.size (some ⟨b.ge, 0, none⟩) s.blks.length s.blks.length ((s.blks.map BSt.ever).map Value.bool) := by
  refine ⟨by rw [h.mem.box.cell 5]; simp [RB.cells], ?_⟩
  obtain ⟨A, c, hv, hs, _⟩ := h.mem.hev.form
  injection hv with h1 h2 h3
  subst h1 h3
  rw [← h2] at hs
  exact hs
set_option maxRecDepth 100000 in
set_option maxHeartbeats 1000000 in
theorem refPending_any (p : Nat) (s : DSt) (F : Nat → Prop) (w : World) (h : RefDev w p s F) (hok : s.ok) :
    Calls Tryd.prog 34 #[.pointer (some ⟨p, 0, none⟩)] w fun e w' => e = .returned (.int .i64 (s.pending : Int)) ∧ w = w' := by
  obtain ⟨b, fl, nx, rfl, hin⟩ := h
  obtain ⟨c2, hs⟩ := hin.slice_pend
  have HS := hid hs
  have hn : s.blks.length ≤ 100000 := by have := hok.2.2.2; omega
  have HN := hid hn
  clear hin hs hok hn
  go_enter Tryd.func34, Tryd.ntmps34
  go_wp2_with fail
  refine (count_any _ _ _ _ _ _ HS.out HN.out).mono ?_
  rintro e w' ⟨rfl, rfl⟩
  go_wp2
  go_ret
  exact ⟨rfl, rfl⟩
set_option maxRecDepth 100000 in
set_option maxHeartbeats 1000000 in
theorem refEver_any (p : Nat) (s : DSt) (F : Nat → Prop) (w : World) (h : RefDev w p s F) (hok : s.ok) :
    Calls Tryd.prog 38 #[.pointer (some ⟨p, 0, none⟩)] w fun e w' => e = .returned (.int .i64 (s.everN : Int)) ∧ w = w' := by
  obtain ⟨b, fl, nx, rfl, hin⟩ := h
  obtain ⟨c2, hs⟩ := hin.slice_ever
  have HS := hid hs
  have hn : s.blks.length ≤ 100000 := by have := hok.2.2.2; omega
  have HN := hid hn
  clear hin hs hok hn
  go_enter Tryd.func38, Tryd.ntmps38
  go_wp2_with fail
  refine (count_any _ _ _ _ _ _ HS.out HN.out).mono ?_
  rintro e w' ⟨rfl, rfl⟩
  go_wp2
  go_ret
  exact ⟨rfl, rfl⟩

def BoolRef (w : World) (p : Nat) (r : Bool × DSt) (F : Nat → Prop) (e : Ending) (w' : World) : Prop := e = .returned (.bool r.1) ∧ RefUpd w p r.2 F w'
theorem BoolRef.no {w : World} {p : Nat} {s : DSt} {F : Nat → Prop} (h : RefDev w p s F) : BoolRef w p (false, s) F (.returned (.bool false)) w := ⟨rfl, RefUpd.refl h⟩
set_option maxRecDepth 100000 in
set_option maxHeartbeats 2000000 in
theorem refFail_any (p : Nat) (s : DSt) (F : Nat → Prop) (i : Int) (w : World) (h : RefDev w p s F) :
    Calls Tryd.prog 26 #[.pointer (some ⟨p, 0, none⟩), .int .i64 i] w (BoolRef w p (s.fail i) F) := by
  have HD := hid h
  by_cases hn : s.inB i = true
  · obtain ⟨hi0, hi1⟩ := DSt.in_iff.1 hn
    obtain ⟨j, rfl⟩ : ∃ j : Nat, i = (j : Int) := ⟨i.toNat, by omega⟩
    obtain ⟨N, hN⟩ : ∃ N, s.blks.length = N := ⟨_, rfl⟩
    obtain ⟨x, hx⟩ : ∃ x, s.blks[j]? = some x := ⟨_, List.getElem?_eq_getElem (by omega)⟩
    have hjN : (j : Int) < N := by omega
    have hfr := DSt.free_at hx
    obtain ⟨b, fl, nx, rfl, hin⟩ := h
    obtain ⟨c2, cp, _⟩ := hin.at_pend hx hN
    obtain ⟨c3, ct, ft⟩ := hin.at_fault hx hN
    have HB := hid hn
    have HI := hid hin
    have HX := hid hx
    have HN := hid hN
    clear hn hin hx hN hi1
    rcases hp : x.pend with _ | _
    · rw [hp] at cp
      rcases hf : x.fault with _ | _
      · rw [hf] at ct
        have HE := hid (show s.fail (j : Int) = (true, s.turn (j : Int) BSt.failed) by unfold DSt.fail; rw [hfr, hp, hf]; rfl)
        rw [HE.out]
        clear hfr hp hf ft
        obtain ⟨c4, cd, fd⟩ := HI.out.at_fail HX.out HN.out
        have h1 := HI.out.put_fail j true
        obtain ⟨d3, dt, gt⟩ := h1.at_fault (n := N) (turn_at HX.out) (by rw [DSt.turn_len]; exact HN.out)
        have h2 := h1.put_fault j true
        obtain ⟨d5, de, ge⟩ := h2.at_ever (n := N) (turn_at (turn_at HX.out)) (by rw [DSt.turn_len, DSt.turn_len]; exact HN.out)
        have h3 := h2.put_ever j true
        rw [turn_turn, turn_turn] at h3
        have h4 : RefIn (((w.setCell ⟨b.gd, j, none⟩ (.bool true)).setCell ⟨b.gt, j, none⟩ (.bool true)).setCell ⟨b.ge, j, none⟩ (.bool true)) b fl nx (s.turn (j : Int) BSt.failed) F := h3
        have HF := hid (show BoolRef w b.p (true, s.turn (j : Int) BSt.failed) F (.returned (.bool true)) (((w.setCell ⟨b.gd, j, none⟩ (.bool true)).setCell ⟨b.gt, j, none⟩ (.bool true)).setCell ⟨b.ge, j, none⟩ (.bool true)) from ⟨rfl, RefUpd.of_in h4 ((((Only.refl F w).put (HI.out.all _ (by simp [RB.all])) _).put (HI.out.all _ (by simp [RB.all])) _).put (HI.out.all _ (by simp [RB.all])) _) (fun _ h => .inl h)⟩)
        clear h1 h2 h3 h4
        go_enter Tryd.func26, Tryd.ntmps26
        go_wp2_with fail
        refine (refHas_any b.p s F _ w HD.out).mono ?_
        rintro e w' ⟨rfl, rfl⟩
        rw [HB.out]
        go_wp2
        go_ret
        exact HF.out
      · rw [hf] at ct
        have HE := hid (show s.fail (j : Int) = (false, s) by unfold DSt.fail; rw [hfr, hp, hf]; rfl)
        rw [HE.out]
        have HF := hid (BoolRef.no HD.out)
        clear hfr hp hf
        go_enter Tryd.func26, Tryd.ntmps26
        go_wp2_with fail
        refine (refHas_any b.p s F _ w HD.out).mono ?_
        rintro e w' ⟨rfl, rfl⟩
        rw [HB.out]
        go_wp2
        go_ret
        exact HF.out
    · rw [hp] at cp
      have HE := hid (show s.fail (j : Int) = (false, s) by unfold DSt.fail; rw [hfr, hp]; rfl)
      rw [HE.out]
      have HF := hid (BoolRef.no HD.out)
      clear hfr hp
      go_enter Tryd.func26, Tryd.ntmps26
      go_wp2_with fail
      refine (refHas_any b.p s F _ w HD.out).mono ?_
      rintro e w' ⟨rfl, rfl⟩
      rw [HB.out]
      go_wp2
      go_ret
      exact HF.out
  · have hn' : s.inB i = false := Bool.not_eq_true _ ▸ hn
    have HB := hid hn'
    have HE := hid (show s.fail i = (false, s) by unfold DSt.fail; rw [DSt.free_out hn']; rfl)
    rw [HE.out]
    have HF := hid (BoolRef.no HD.out)
    clear hn hn' h
    go_enter Tryd.func26, Tryd.ntmps26
    go_wp2_with fail
    refine (refHas_any p s F _ w HD.out).mono ?_
    rintro e w' ⟨rfl, rfl⟩
    rw [HB.out]
    go_wp2
    go_ret
    exact HF.out
end Go.Proofs.YtndbanfkiaockaaDoor
namespace Go.Proofs.YtndbanfkiaockaaDoor
open Go.RowKit
set_option maxRecDepth 100000 in
set_option maxHeartbeats 2000000 in
theorem refSpoil_any (p : Nat) (s : DSt) (F : Nat → Prop) (i at' : Int) (bits : Nat) (w : World) (h : RefDev w p s F) (hok : s.ok) :
    Calls Tryd.prog 24 #[.pointer (some ⟨p, 0, none⟩), .int .i64 i, .int .i64 at', .int .u32 (bits : Int)] w (BoolRef w p (s.spoil i at' bits) F) := by
  have HD := hid h
  by_cases hn : s.inB i = true
  · obtain ⟨hi0, hi1⟩ := DSt.in_iff.1 hn
    obtain ⟨j, rfl⟩ : ∃ j : Nat, i = (j : Int) := ⟨i.toNat, by omega⟩
    obtain ⟨N, hN⟩ : ∃ N, s.blks.length = N := ⟨_, rfl⟩
    obtain ⟨x, hx⟩ : ∃ x, s.blks[j]? = some x := ⟨_, List.getElem?_eq_getElem (by omega)⟩
    have hjN : (j : Int) < N := by omega
    have hfr := DSt.free_at hx
    have hxok := hok.1 x (List.mem_of_getElem? hx)
    obtain ⟨b, fl, nx, rfl, hin⟩ := h
    obtain ⟨c2, cp, _⟩ := hin.at_pend hx hN
    obtain ⟨c3, ct, ft⟩ := hin.at_fault hx hN
    have HB := hid hn
    have HI := hid hin
    have HX := hid hx
    have HN := hid hN
    have HK := hid hxok
    clear hn hin hx hN hi1 hok hxok
    have HF := hid (BoolRef.no HD.out)
    rcases hp : x.pend with _ | _
    · rw [hp] at cp
      rcases hf : x.fault with _ | _
      · rw [hf] at ct
        have HFr := hid (show s.free (j : Int) = true by rw [hfr, hp, hf]; rfl)
        clear hfr hp hf ft
        by_cases ha : at' < 0
        · rw [DSt.spoil_not (.inr (.inl ha))]
          have hd1 : decide (at' < 0) = true := by simpa using ha
          go_enter Tryd.func24, Tryd.ntmps24
          go_wp2_with fail
          refine (refHas_any b.p s F _ w HD.out).mono ?_
          rintro e w' ⟨rfl, rfl⟩
          rw [HB.out]
          go_wp2
          go_ret
          exact HF.out
        · have hd1 : decide (at' < 0) = false := by simpa using ha
          by_cases hb : 252 < at'
          · rw [DSt.spoil_not (.inr (.inr (.inl hb)))]
            have hd2 : decide (252 < at') = true := by simpa using hb
            go_enter Tryd.func24, Tryd.ntmps24
            go_wp2_with fail
            refine (refHas_any b.p s F _ w HD.out).mono ?_
            rintro e w' ⟨rfl, rfl⟩
            rw [HB.out]
            go_wp2
            go_ret
            exact HF.out
          · have hd2 : decide (252 < at') = false := by simpa using hb
            by_cases hz : bits = 0
            · rw [DSt.spoil_not (.inr (.inr (.inr hz)))]
              have hd3 : ((bits : Int) == 0) = true := by rw [beq_iff_eq]; omega
              clear hz
              go_enter Tryd.func24, Tryd.ntmps24
              go_wp2_with fail
              refine (refHas_any b.p s F _ w HD.out).mono ?_
              rintro e w' ⟨rfl, rfl⟩
              rw [HB.out]
              go_wp2
              go_ret
              exact HF.out
            · have hd3 : ((bits : Int) == 0) = false := by rw [beq_eq_false_iff_ne]; omega
              have HE := hid (show s.spoil (j : Int) at' bits = (true, s.turn (j : Int) (BSt.spoil at' bits)) by unfold DSt.spoil; rw [if_pos ⟨HFr.out, by omega, by omega, hz⟩])
              rw [HE.out]
              clear hz HF
              obtain ⟨v, hv⟩ : ∃ v, fl[j]? = some v := ⟨_, List.getElem?_eq_getElem (by rw [HI.out.mem.len.1, HN.out]; omega)⟩
              obtain ⟨A, c, rfl, hs, _⟩ := HI.out.has j x v HX.out hv
              have HV := hid hv
              have HS := hid (show Sl w.drew w.drew.heap.size A 256 c x.has from hs.drewN 1)
              have c0 := HI.out.mem.box.cell 0
              simp [RB.cells] at c0
              rw [HN.out] at c0
              have cv := HI.out.mem.hfl.cell hv
              clear hv hs
              go_enter Tryd.func24, Tryd.ntmps24
              go_wp2_with fail
              refine (refHas_any b.p s F _ w HD.out).mono ?_
              rintro e w' ⟨rfl, rfl⟩
              rw [HB.out]
              go_wp2_with fail
              go_region_law (first | (go_simp; go_at_call 67; refine (refTurned_any A 256 c bits at' x.has _ HS.out HK.out.1 (by omega) (by omega)).mono ?_; rintro e w2 hm2; obtain ⟨A2, k2, rfl, hs2, hb2, _, ho2⟩ := hm2.get; have HB2 := hid (show Below w.heap.size w w2 from ⟨hb2.os, hb2.tape, hb2.output, hb2.size, hb2.block⟩); have HO2 := hid (show Own w2 w.heap.size (.slice A2 256 k2) (turned x.has at' bits) from ho2); have hm3 := (HI.out.grown HB2.out).mem; have d0 := hm3.box.cell 0; have df := hm3.hfl.cell HV.out; have ff := hm3.hfl.free j; simp [RB.cells] at d0; rw [HN.out] at d0; clear hs2 hb2 ho2 hm3))
              all_goals
                clear d0 df ff
                have h1 := (HI.out.grown HB2.out).put_has j (HI.out.fresh HO2.out (by rw [turned_len]; exact HK.out.2.1))
                obtain ⟨d3, dt, gt⟩ := h1.at_fault (n := N) (turn_at HX.out) (by rw [DSt.turn_len]; exact HN.out)
                have h2 := h1.put_fault j true
                obtain ⟨d5, de, ge⟩ := h2.at_ever (n := N) (turn_at (turn_at HX.out)) (by rw [DSt.turn_len, DSt.turn_len]; exact HN.out)
                have h3 := h2.put_ever j true
                rw [turn_turn, turn_turn, turn_congr (g := BSt.spoil at' bits) (fun y hy => by rw [HX.out] at hy; obtain rfl : x = y := (by injection hy); rfl)] at h3
                have HE3 := hid (show BoolRef w b.p (true, s.turn (j : Int) (BSt.spoil at' bits)) F (.returned (.bool true)) (((w2.setCell ⟨b.gf, j, none⟩ (.slice A2 256 k2)).setCell ⟨b.gt, j, none⟩ (.bool true)).setCell ⟨b.ge, j, none⟩ (.bool true)) from ⟨rfl, RefUpd.of_in h3 (((((Only.refl F w).then_below HB2.out).put (HI.out.all _ (by simp [RB.all])) _).put (HI.out.all _ (by simp [RB.all])) _).put (HI.out.all _ (by simp [RB.all])) _) (fun _ h => More.new (w' := w2) h)⟩)
                clear h1 h2 h3
                go_wp2
                go_ret
                exact HE3.out
      · rw [hf] at ct
        rw [DSt.spoil_not (.inl (by rw [hfr, hp, hf]; rfl))]
        clear hfr hp hf
        go_enter Tryd.func24, Tryd.ntmps24
        go_wp2_with fail
        refine (refHas_any b.p s F _ w HD.out).mono ?_
        rintro e w' ⟨rfl, rfl⟩
        rw [HB.out]
        go_wp2
        go_ret
        exact HF.out
    · rw [hp] at cp
      rw [DSt.spoil_not (.inl (by rw [hfr, hp]; rfl))]
      clear hfr hp
      go_enter Tryd.func24, Tryd.ntmps24
      go_wp2_with fail
      refine (refHas_any b.p s F _ w HD.out).mono ?_
      rintro e w' ⟨rfl, rfl⟩
      rw [HB.out]
      go_wp2
      go_ret
      exact HF.out
  · have hn' : s.inB i = false := Bool.not_eq_true _ ▸ hn
    have HB := hid hn'
    rw [DSt.spoil_not (.inl (DSt.free_out hn'))]
    have HF := hid (BoolRef.no HD.out)
    clear hn hn' h
    go_enter Tryd.func24, Tryd.ntmps24
    go_wp2_with fail
    refine (refHas_any p s F _ w HD.out).mono ?_
    rintro e w' ⟨rfl, rfl⟩
    rw [HB.out]
    go_wp2
    go_ret
    exact HF.out
end Go.Proofs.YtndbanfkiaockaaDoor
