/- Package rec's Read: the place whose key the bytes are, or why there is none. -/
import Derived.Test.YtkihoibcgafooaaDoorGRcD
import Derived.RegionTactic
import Derived.Deep.RegionWith
import Derived.Deep.DeepCutAuto
import Derived.Deep.CutBlock
namespace Go.Proofs.YtkihoibcgafooaaDoor
open Go.RowKit

/-- why bytes are no key: the error's number -/
def readC (l : List Int) : Int :=
  if l.length < 4 then 101 else if kinB (l.getD 0 0) = false then 103
  else if l.getD 0 0 = 4 then (if l.length < 7 then 101 else if 7 < l.length then 102 else 0)
  else if l.getD 0 0 = 3 then (if 28 < l.length then 102 else 0)
  else if 4 < l.length then 102 else 0
def readK (l : List Int) : Int := if readC l = 0 then l.getD 0 0 else 0
def readN (l : List Int) : Int := if readC l = 0 then numAt l 1 else 0
def readI (l : List Int) : Int := if readC l = 0 ∧ l.getD 0 0 = 4 then numAt l 4 else 0
def readS (l : List Int) : ByteArray := if readC l = 0 ∧ l.getD 0 0 = 3 then strOfNums (l.drop 4) else ⟨#[]⟩
theorem restSizes_any (k : Int) (w : World) : Calls Tryd.prog 20 #[.int .i64 k] w fun e w' =>
    e = .returned (.tuple #[.int .i64 (if k = 4 then 3 else 0), .int .i64 (if k = 4 then 3 else if k = 3 then 24 else 0)]) ∧ w = w' := by
  by_cases h4 : k = 4
  · subst h4
    go_enter Tryd.func20, Tryd.ntmps20
    go_wp2
    go_ret2
    exact ⟨rfl, rfl⟩
  · by_cases h3 : k = 3
    · subst h3
      go_enter Tryd.func20, Tryd.ntmps20
      go_wp2
      go_ret2
      exact ⟨rfl, rfl⟩
    · rw [if_neg h4, if_neg h4, if_neg h3]
      go_enter Tryd.func20, Tryd.ntmps20
      go_wp2
      go_ret2
      exact ⟨rfl, rfl⟩
/-- the ways of reading -/
theorem read_ways (l : List Int) :
    (l.length < 4 ∧ readC l = 101) ∨ (4 ≤ l.length ∧ kinB (l.getD 0 0) = false ∧ readC l = 103) ∨
    (4 ≤ l.length ∧ kinB (l.getD 0 0) = true ∧ l.getD 0 0 = 4 ∧ l.length < 7 ∧ readC l = 101) ∨
    (4 ≤ l.length ∧ kinB (l.getD 0 0) = true ∧ l.getD 0 0 = 4 ∧ 7 < l.length ∧ readC l = 102) ∨
    (4 ≤ l.length ∧ kinB (l.getD 0 0) = true ∧ l.getD 0 0 = 4 ∧ l.length = 7 ∧ readC l = 0) ∨
    (4 ≤ l.length ∧ kinB (l.getD 0 0) = true ∧ l.getD 0 0 = 3 ∧ 28 < l.length ∧ readC l = 102) ∨
    (4 ≤ l.length ∧ kinB (l.getD 0 0) = true ∧ l.getD 0 0 = 3 ∧ l.length ≤ 28 ∧ readC l = 0) ∨
    (4 ≤ l.length ∧ kinB (l.getD 0 0) = true ∧ l.getD 0 0 ≠ 4 ∧ l.getD 0 0 ≠ 3 ∧ 4 < l.length ∧ readC l = 102) ∨
    (4 ≤ l.length ∧ kinB (l.getD 0 0) = true ∧ l.getD 0 0 ≠ 4 ∧ l.getD 0 0 ≠ 3 ∧ l.length = 4 ∧ readC l = 0) := by
  unfold readC
  generalize l.getD 0 0 = k
  rcases hk : kinB k with _ | _ <;> by_cases h1 : l.length < 4 <;> by_cases h4 : k = 4 <;> by_cases h3 : k = 3 <;> by_cases h7 : l.length < 7 <;> by_cases h8 : 7 < l.length <;> by_cases h9 : 28 < l.length <;> by_cases h5 : 4 < l.length <;> simp only [h1, h4, h3, h7, h8, h9, h5, if_true, if_false] <;> simp <;> omega
theorem numAt_drop (l : List Int) (k j : Nat) : numAt (l.drop k) j = numAt l (k + j) := by
  unfold numAt
  simp [List.getD, List.getElem?_drop, Nat.add_assoc]
theorem numAt_tail (l : List Int) : numAt l.tail 0 = numAt l 1 := by
  have h := numAt_drop l 1 0
  simpa using h
theorem read_no {l : List Int} (h : readC l ≠ 0) : pv (readK l) (readN l) (readI l) (readS l) = .agg #[.int .i64 0, .int .i64 0, .int .i64 0, .string ⟨#[]⟩] := by
  unfold pv readK readN readI readS; simp [h]
theorem read_yes {l : List Int} {x : Int} (h : readC l = 0) (hx : l.getD 0 0 = x) : pv (readK l) (readN l) (readI l) (readS l) = .agg #[.int .i64 x, .int .i64 (numAt l.tail 0), .int .i64 (if x = 4 then numAt (l.drop 4) 0 else 0), .string (if x = 3 then strOfNums (l.drop 4) else ⟨#[]⟩)] := by
  unfold pv readK readN readI readS
  rw [hx, h, numAt_tail, numAt_drop]
  simp
/-- a place read, or why not -/
def ReadR (S : Nat → Addr) (w : World) (l : List Int) (e : Ending) (w' : World) : Prop :=
  ∃ v, e = .returned (.tuple #[pv (readK l) (readN l) (readI l) (readS l), v]) ∧ EV S (readC l) v ∧ Below w.heap.size w w'
def zc : Array Value := #[.int .i64 0, .int .i64 0, .int .i64 0, .string ⟨#[]⟩]
theorem rd_za (w : World) (o : Obj) (q : Nat) : Blk (((w.alloc (.cells #[.int .i64 0, .int .i64 0, .int .i64 0, .string ⟨#[]⟩] 23)).drewN q).alloc o) w.heap.size 23 #[.int .i64 0, .int .i64 0, .int .i64 0, .string ⟨#[]⟩] :=
  ((Blk.new w _ _).drewN q).alloc o
theorem rd_zb (w : World) (o : Obj) (q : Nat) (a b c d : Value) : Blk ((((((((w.alloc (.cells #[.int .i64 0, .int .i64 0, .int .i64 0, .string ⟨#[]⟩] 23)).alloc o).drewN q).setCell ⟨w.heap.size + 1, 0, none⟩ a).setCell ⟨w.heap.size + 1, 1, none⟩ b).setCell ⟨w.heap.size + 1, 2, none⟩ c).setCell ⟨w.heap.size + 1, 3, none⟩ d)) w.heap.size 23 #[.int .i64 0, .int .i64 0, .int .i64 0, .string ⟨#[]⟩] :=
  ((((((Blk.new w _ _).alloc o).drewN q).far (by simp) _).far (by simp) _).far (by simp) _).far (by simp) _
theorem rd_pa (w : World) (o : Obj) (q : Nat) (cs : Array Value) : Blk (((w.alloc o).drewN q).alloc (.cells cs 23)) (w.heap.size + 1) 23 cs := by
  have h := Blk.new ((w.alloc o).drewN q) 23 cs
  rwa [size_drewN, World.size_alloc] at h
theorem rd_pb (w : World) (o : Obj) (q : Nat) (a b c d : Value) : Blk ((((((((w.alloc o).alloc (.cells #[.int .i64 0, .int .i64 0, .int .i64 0, .string ⟨#[]⟩] 23)).drewN q).setCell ⟨w.heap.size + 1, 0, none⟩ a).setCell ⟨w.heap.size + 1, 1, none⟩ b).setCell ⟨w.heap.size + 1, 2, none⟩ c).setCell ⟨w.heap.size + 1, 3, none⟩ d)) (w.heap.size + 1) 23 #[a, b, c, d] := by
  have h := Blk.new (w.alloc o) 23 #[.int .i64 0, .int .i64 0, .int .i64 0, .string ⟨#[]⟩]
  rw [World.size_alloc] at h
  exact ((((h.drewN q).put 0 a).put 1 b).put 2 c).put 3 d
set_option maxRecDepth 100000 in
set_option maxHeartbeats 4000000 in
theorem read_any (S : Nat → Addr) (A : Option Addr) (n c : Nat) (l : List Int) (w : World) (hS : Sent4 w S) (h : Sl w w.heap.size A n c l) (hb : Byt l) :
    Calls Tryd.prog 9 #[.slice A n c] w (ReadR S w l) := by
  have HS := hid hS
  have HL := hid h
  have HW := hid (read_ways l)
  have hlen := h.len
  have hmx : n ≤ 9223372036854775807 := by have := h.cap; have := h.max; unfold maxLen at this; omega
  have hb0 : Below w.heap.size w (w.alloc (Obj.cells #[.int .i64 0, .int .i64 0, .int .i64 0, .string ⟨#[]⟩] 23)) := (Below.refl _ _).alloc (Nat.le_refl _) _
  have hs1 := hS.on hb0
  by_cases h4 : n < 4
  · have HC : readC l = 101 := by
      rcases HW.out with ⟨_, c⟩ | ⟨h, _⟩ | ⟨h, _⟩ | ⟨h, _⟩ | ⟨h, _⟩ | ⟨h, _⟩ | ⟨h, _⟩ | ⟨h, _⟩ | ⟨h, _⟩
      · exact c
      all_goals omega
    have g0 : (w.alloc (Obj.cells #[.int .i64 0, .int .i64 0, .int .i64 0, .string ⟨#[]⟩] 23)).cell? ⟨0, 0, none⟩ = some (.iface 70 (.pointer (some (S 0)))) := hs1 0 (by decide)
    have HF := hid (show ReadR S w l (.returned (.tuple #[.agg #[.int .i64 0, .int .i64 0, .int .i64 0, .string ⟨#[]⟩], (.iface 70 (.pointer (some (S 0))))])) (w.alloc (Obj.cells #[.int .i64 0, .int .i64 0, .int .i64 0, .string ⟨#[]⟩] 23)).drew from
      ⟨.iface 70 (.pointer (some (S 0))), by unfold pv readK readN readI readS; simp [HC], by rw [HC]; exact EV.err 0 (by decide), hb0.drew⟩)
    clear HW HL HS hS h hb hb0 hs1
    go_enter Tryd.func9, Tryd.ntmps9
    go_wp2_with fail
    go_region
    go_wp2
    refine bodyPost_ret (v := .tuple #[.agg #[.int .i64 0, .int .i64 0, .int .i64 0, .string ⟨#[]⟩], .iface 70 (.pointer (some (S 0)))]) (by simp [results, Tryd.results9, go_sem]) rfl ?_
    exact HF.out
  · obtain ⟨ad, x, hA, _, hx, hc0⟩ := h.get (show 0 < n by omega)
    subst hA
    have hd0 : w.cell? ad = some (.int .u8 x) := by rw [Addr.add_zero'] at hc0; exact hc0
    obtain ⟨bx0, bx1⟩ := hb.at_ hx
    have HX := hid (getD_of hx)
    have hn0 : 0 < n := by omega
    have hcn : 4 ≤ c := by have := h.cap; omega
    have e1 : IntKind.i64.wrap x = x := by rw [IntKind.wrap_i64]; omega
    have HBy := hid (hb.drop 1)
    have HB4 := hid (hb.drop 4)
    have hcut := HL.out.cut (show 1 ≤ n by omega)
    rw [if_neg (by omega)] at hcut
    have HCt := hid (show ∀ W, Below w.heap.size w W → Sl W w.heap.size (some ⟨ad.block, ad.off + 1, none⟩) (n - 1) (c - 1) (l.drop 1) from fun W hb => hcut.below hb)
    have HC4 := hid (show ∀ W, Below w.heap.size w W → Sl W w.heap.size (if c = 4 then some ad else some ⟨ad.block, ad.off + 4, none⟩) (n - 4) (c - 4) (l.drop 4) from fun W hb => by
      have h4 := HL.out.cut (show 4 ≤ n by omega)
      have h5 := h4.below hb
      split at h5
      · rename_i e; rw [if_pos e]; exact h5
      · rename_i e; rw [if_neg e]; exact h5)
    clear hcut hc0 hx h hb hS HL hs1 hb0
    go_enter Tryd.func9, Tryd.ntmps9
    go_upto_region 3 with fail
    go_cut [4] (fun s4 wx => s4 = .pointer (some ⟨w.heap.size + 1, 0, none⟩) ∧ Below w.heap.size w wx ∧ Blk wx w.heap.size 23 #[.int .i64 0, .int .i64 0, .int .i64 0, .string ⟨#[]⟩] ∧ Blk wx (w.heap.size + 1) 23 #[.int .i64 x, .int .i64 (numAt l.tail 0), .int .i64 0, .string ⟨#[]⟩])
    case first =>
      go_region_with (go_at_call 18; refine (firstNum_any _ _ _ _ _ _ (HCt.out _ (by repeat (first | exact Below.refl _ _ | refine Below.drew ?_ | refine below_drewN ?_ _ | refine Below.alloc ?_ (by simp) _))) HBy.out (by omega)).mono ?_; rintro e w' ⟨rfl, q, rfl⟩)
      all_goals
        go_wp2_with fail
        go_meet
        refine ⟨rfl, ?_, ?_, ?_⟩
        · repeat (first | exact Below.refl _ _ | refine Below.setCell ?_ (by simp) _ | refine Below.drew ?_ | refine below_drewN ?_ _ | refine Below.alloc ?_ (by simp) _)
        · first | with_reducible exact rd_za _ _ _ | with_reducible exact rd_zb _ _ _ _ _ _ _
        · first | with_reducible exact rd_pa _ _ _ _ | with_reducible exact rd_pb _ _ _ _ _ _ _
    case rest =>
      obtain ⟨rfl, hbx, hz, hp⟩ := hcut
      rename World => wx
      have HBx := hid hbx
      have HZ := hid hz
      have HP := hid hp
      have HSx := hid (HS.out.on hbx)
      have g0 : wx.cell? ⟨0, 0, none⟩ = some (.iface 70 (.pointer (some (S 0)))) := HSx.out 0 (by decide)
      have g1 : wx.cell? ⟨2, 0, none⟩ = some (.iface 70 (.pointer (some (S 1)))) := HSx.out 1 (by decide)
      have g2 : wx.cell? ⟨1, 0, none⟩ = some (.iface 70 (.pointer (some (S 2)))) := HSx.out 2 (by decide)
      have p0 := hp.cell 0
      have p1 := hp.cell 1
      have p2 := hp.cell 2
      have p3 := hp.cell 3
      have z0 := hz.cell 0
      have z1 := hz.cell 1
      have z2 := hz.cell 2
      have z3 := hz.cell 3
      have f0 := hz.free 0
      have f1 := hz.free 1
      have f2 := hz.free 2
      have f3 := hz.free 3
      have f4 := hp.free 2
      have f5 := hp.free 3
      simp at p0 p1 p2 p3 z0 z1 z2 z3
      have hq0 : 0 < w.heap.size := World.block_lt_of_cell? w _ (HS.out 0 (by decide))
      have hq1 : 1 < w.heap.size := World.block_lt_of_cell? w _ (HS.out 2 (by decide))
      have hq2 : 2 < w.heap.size := World.block_lt_of_cell? w _ (HS.out 1 (by decide))
      clear hbx hz hp
      have HWx := hid HW.out
      clear HW
      go_wp2_with fail
      refine (isKind_any x _).mono ?_
      rintro e w' ⟨rfl, rfl⟩
      rcases hkx : kinB x with _ | _
      · have HC := hid (show readC l = 103 from by
          rcases HWx.out with ⟨h, _⟩ | ⟨_, hk, c⟩ | ⟨_, hk, _⟩ | ⟨_, hk, _⟩ | ⟨_, hk, _⟩ | ⟨_, hk, _⟩ | ⟨_, hk, _⟩ | ⟨_, hk, _⟩ | ⟨_, hk, _⟩
          · omega
          · exact c
          all_goals (rw [HX.out, hkx] at hk; cases hk))
        clear HWx
        go_wp2_with fail
        go_region
        go_wp2
        refine bodyPost_ret (v := .tuple #[.agg #[.int .i64 0, .int .i64 0, .int .i64 0, .string ⟨#[]⟩], (.iface 70 (.pointer (some (S 2))))]) (by simp [results, Tryd.results9, go_sem, z0, z1, z2, z3]) rfl ?_
        exact ⟨(.iface 70 (.pointer (some (S 2)))), by unfold pv readK readN readI readS; simp [HC.out], by rw [HC.out]; exact EV.err 2 (by decide), (by repeat (first | exact HBx.out | refine Below.setCell ?_ (by simp) _ | refine Below.drew ?_ | refine below_drewN ?_ _ | refine Below.alloc ?_ (by simp) _))⟩
      · go_upto_region 6 with fail
        go_cut [5] (fun s5 wy => ∃ A4, s5 = .slice A4 (n - 4) (c - 4) ∧ wy = wx ∧ (∀ W, Below w.heap.size w W → Sl W w.heap.size A4 (n - 4) (c - 4) (l.drop 4)))
        case first =>
          by_cases hc : c = 4
          · go_wp2
            go_meet
            exact ⟨some ad, by rw [hc], rfl, by have h := HC4.out; rwa [if_pos hc] at h⟩
          · go_wp2
            go_meet
            exact ⟨some ⟨ad.block, ad.off + 4, none⟩, rfl, rfl, by have h := HC4.out; rwa [if_neg hc] at h⟩
        case rest =>
          obtain ⟨A4, rfl, rfl, hA4⟩ := hcut
          rename World => wx
          have HA4 := hid hA4
          clear hA4 HC4
          have HKx := hid hkx
          clear hkx
          go_upto_region 7 with fail
          go_wp2_with fail
          refine (restSizes_any x _).mono ?_
          rintro e w' ⟨rfl, rfl⟩
          rcases HWx.out with ⟨h, _⟩ | ⟨_, hk, c⟩ | ⟨_, hk, hx, hl, c⟩ | ⟨_, hk, hx, hl, c⟩ | ⟨_, hk, hx, hl, c⟩ | ⟨_, hk, hx, hl, c⟩ | ⟨_, hk, hx, hl, c⟩ | ⟨_, hk, hx, hx', hl, c⟩ | ⟨_, hk, hx, hx', hl, c⟩
          · omega
          · rw [HX.out, HKx.out] at hk; cases hk
          · rw [HX.out] at hx
            have HC := hid c
            clear c hk HWx
            subst hx
            go_wp2_with fail
            go_region
            go_wp2
            refine bodyPost_ret (v := .tuple #[.agg #[.int .i64 0, .int .i64 0, .int .i64 0, .string ⟨#[]⟩], (.iface 70 (.pointer (some (S 0))))]) (by simp [results, Tryd.results9, go_sem, z0, z1, z2, z3]) rfl ?_
            exact ⟨(.iface 70 (.pointer (some (S 0)))), by unfold pv readK readN readI readS; simp [HC.out], by rw [HC.out]; exact EV.err 0 (by decide), (by repeat (first | exact HBx.out | refine Below.setCell ?_ (by simp) _ | refine Below.drew ?_ | refine below_drewN ?_ _ | refine Below.alloc ?_ (by simp) _))⟩
          · rw [HX.out] at hx
            have HC := hid c
            clear c hk HWx
            subst hx
            go_wp2_with fail
            go_region
            go_wp2
            refine bodyPost_ret (v := .tuple #[.agg #[.int .i64 0, .int .i64 0, .int .i64 0, .string ⟨#[]⟩], (.iface 70 (.pointer (some (S 1))))]) (by simp [results, Tryd.results9, go_sem, z0, z1, z2, z3]) rfl ?_
            exact ⟨(.iface 70 (.pointer (some (S 1)))), by unfold pv readK readN readI readS; simp [HC.out], by rw [HC.out]; exact EV.err 1 (by decide), (by repeat (first | exact HBx.out | refine Below.setCell ?_ (by simp) _ | refine Below.drew ?_ | refine below_drewN ?_ _ | refine Below.alloc ?_ (by simp) _))⟩
          · rw [HX.out] at hx
            have HC := hid c
            clear c hk HWx
            subst hx
            go_wp2_with fail
            refine (firstNum_any _ _ _ _ _ _ (HA4.out _ HBx.out) HB4.out (by omega)).mono ?_
            rintro e w' ⟨rfl, q, rfl⟩
            go_wp2
            refine bodyPost_ret (v := .tuple #[.agg #[.int .i64 4, .int .i64 (numAt l.tail 0), .int .i64 (numAt (l.drop 4) 0), .string ⟨#[]⟩], .nilIface]) (by simp [results, Tryd.results9, go_sem, z0, z1, z2, z3]) rfl ?_
            exact ⟨.nilIface, by rw [read_yes HC.out HX.out, if_pos rfl, if_neg (by decide)], by rw [HC.out]; exact EV.fine, (by repeat (first | exact HBx.out | refine Below.setCell ?_ (by simp) _ | refine Below.drew ?_ | refine below_drewN ?_ _ | refine Below.alloc ?_ (by simp) _))⟩
          · rw [HX.out] at hx
            have HC := hid c
            clear c hk HWx
            subst hx
            go_wp2_with fail
            go_region
            go_wp2
            refine bodyPost_ret (v := .tuple #[.agg #[.int .i64 0, .int .i64 0, .int .i64 0, .string ⟨#[]⟩], (.iface 70 (.pointer (some (S 1))))]) (by simp [results, Tryd.results9, go_sem, z0, z1, z2, z3]) rfl ?_
            exact ⟨(.iface 70 (.pointer (some (S 1)))), by unfold pv readK readN readI readS; simp [HC.out], by rw [HC.out]; exact EV.err 1 (by decide), (by repeat (first | exact HBx.out | refine Below.setCell ?_ (by simp) _ | refine Below.drew ?_ | refine below_drewN ?_ _ | refine Below.alloc ?_ (by simp) _))⟩
          · rw [HX.out] at hx
            have HC := hid c
            clear c hk HWx
            subst hx
            have hq := conv_any (HA4.out _ HBx.out)
            go_wp2
            refine bodyPost_ret (v := .tuple #[.agg #[.int .i64 3, .int .i64 (numAt l.tail 0), .int .i64 0, .string (strOfNums (l.drop 4))], .nilIface]) (by simp [results, Tryd.results9, go_sem, z0, z1, z2, z3]) rfl ?_
            exact ⟨.nilIface, by rw [read_yes HC.out HX.out, if_neg (by decide), if_pos rfl], by rw [HC.out]; exact EV.fine, (by repeat (first | exact HBx.out | refine Below.setCell ?_ (by simp) _ | refine Below.drew ?_ | refine below_drewN ?_ _ | refine Below.alloc ?_ (by simp) _))⟩
          · rw [HX.out] at hx hx'
            have HC := hid c
            clear c hk HWx
            rw [if_neg hx, if_neg hx, if_neg hx']
            go_wp2_with fail
            go_region
            go_wp2
            refine bodyPost_ret (v := .tuple #[.agg #[.int .i64 0, .int .i64 0, .int .i64 0, .string ⟨#[]⟩], (.iface 70 (.pointer (some (S 1))))]) (by simp [results, Tryd.results9, go_sem, z0, z1, z2, z3]) rfl ?_
            exact ⟨(.iface 70 (.pointer (some (S 1)))), by unfold pv readK readN readI readS; simp [HC.out], by rw [HC.out]; exact EV.err 1 (by decide), (by repeat (first | exact HBx.out | refine Below.setCell ?_ (by simp) _ | refine Below.drew ?_ | refine below_drewN ?_ _ | refine Below.alloc ?_ (by simp) _))⟩
          · rw [HX.out] at hx hx'
            have HC := hid c
            clear c hk HWx
            rw [if_neg hx, if_neg hx, if_neg hx']
            have e4 : (x == 4) = false := by simp [hx]
            have e3 : (x == 3) = false := by simp [hx']
            go_wp2
            refine bodyPost_ret (v := .tuple #[.agg #[.int .i64 x, .int .i64 (numAt l.tail 0), .int .i64 0, .string ⟨#[]⟩], .nilIface]) (by simp [results, Tryd.results9, go_sem, z0, z1, z2, z3]) rfl ?_
            exact ⟨.nilIface, by rw [read_yes HC.out HX.out, if_neg hx, if_neg hx'], by rw [HC.out]; exact EV.fine, (by repeat (first | exact HBx.out | refine Below.setCell ?_ (by simp) _ | refine Below.drew ?_ | refine below_drewN ?_ _ | refine Below.alloc ?_ (by simp) _))⟩
end Go.Proofs.YtkihoibcgafooaaDoor
