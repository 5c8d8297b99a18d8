/- The document's device: Raw, Crash, NewDev. -/
import Derived.Test.YtndbanfkiaockaaDoorGRefA
import Derived.Deep.RegionLaw
import Derived.Deep.DeepCutAuto
namespace Go.Proofs.YtndbanfkiaockaaDoor
open Go.RowKit
set_option maxRecDepth 100000 in
set_option maxHeartbeats 2000000 in
theorem refRaw_any (p : Nat) (s : DSt) (F : Nat → Prop) (i : Int) (A : Option Addr) (n c : Nat) (l : List Int) (w : World) (h : RefDev w p s F) (hs : Sl w w.heap.size A n c l) (hn : n ≤ 100000) :
    Calls Tryd.prog 28 #[.pointer (some ⟨p, 0, none⟩), .int .i64 i, .slice A n c] w (BoolRef w p (s.raw i l) F) := by
  have HD := hid h
  have HS := hid hs
  have HL := hid hs.len
  have HF := hid (BoolRef.no HD.out)
  clear hs
  by_cases hin : s.inB i = true
  · have HB := hid hin
    by_cases h256 : n = 256
    · subst h256
      obtain ⟨hi0, hi1⟩ := DSt.in_iff.1 hin
      obtain ⟨j, rfl⟩ : ∃ j : Nat, i = (j : Int) := ⟨i.toNat, by omega⟩
      obtain ⟨N, hN⟩ : ∃ N, s.blks.length = N := ⟨_, rfl⟩
      obtain ⟨x, hx⟩ : ∃ x, s.blks[j]? = some x := ⟨_, List.getElem?_eq_getElem (by omega)⟩
      have hjN : (j : Int) < N := by omega
      have HE := hid (show s.raw (j : Int) l = (true, s.turn (j : Int) (BSt.raw l)) by unfold DSt.raw; rw [if_pos ⟨hin, HL.out⟩])
      rw [HE.out]
      obtain ⟨b, fl, nx, rfl, hI⟩ := h
      obtain ⟨y, hy⟩ : ∃ y, nx[j]? = some y := ⟨_, List.getElem?_eq_getElem (by rw [hI.mem.len.2.1]; omega)⟩
      have c1 := hI.mem.box.cell 1
      simp [RB.cells] at c1
      rw [hN] at c1
      have HI := hid hI
      have HX := hid hx
      have HN := hid hN
      have HY := hid hy
      have HSd := hid (show Sl w.drew w.drew.heap.size A 256 c l from HS.out.drewN 1)
      clear hin hI hx hN hy hi1
      go_enter Tryd.func28, Tryd.ntmps28
      go_wp2_with fail
      refine (refHas_any b.p s F _ w HD.out).mono ?_
      rintro e w' ⟨rfl, rfl⟩
      rw [HB.out]
      go_wp2_with fail
      go_region_held3 (fun w' => w'.cell? ⟨b.p, 1, none⟩ = some (.slice (some ⟨b.gw, 0, none⟩) N b.cw)) (first | exact d1 | exact dS | go_keep)
        ((first | (go_at_call 62; refine (bytes_any A 256 c l _ HSd.out hn).mono ?_; rintro e w2 hm2; obtain ⟨A2, m2, k2, rfl, ho2, hb2⟩ := hm2.owned; have HB2 := hid (show Below w.heap.size w w2 from ⟨hb2.os, hb2.tape, hb2.output, hb2.size, hb2.block⟩); have HO2 := hid (show Own w2 w.heap.size (.slice A2 m2 k2) l from ho2); have hm3 := (HI.out.grown HB2.out).mem; have d1 := hm3.box.cell 1; have dS := (hm3.put_wr j (.slice A2 m2 k2)).box.cell 1; simp [RB.cells] at d1 dS; rw [HN.out] at d1 dS; have dw := hm3.hwr.cell HY.out; have fw := hm3.hwr.free j; clear ho2 hb2 hm3)))
      clear d1 dS dw fw c1
      have hin1 := (HI.out.grown HB2.out).put_next j (HI.out.fresh HO2.out HL.out)
      have HI1 := hid hin1
      have HOn := hid (((Only.refl F w).then_below HB2.out).put (p := ⟨b.gw, j, none⟩) (u := .slice A2 m2 k2) (HI.out.all _ (by simp [RB.all])))
      clear hin1
      go_wp2_with fail
      refine (refSettle_any b _ _ _ j _ _ _ HI1.out (turn_at HX.out) HL.out).mono ?_
      rintro e w3 ⟨rfl, fl3, F3, hin3, ho3, hf3⟩
      obtain ⟨d2, dp, gp⟩ := hin3.at_pend (n := N) (turn_at (turn_at HX.out)) (by rw [DSt.turn_len, DSt.turn_len]; exact HN.out)
      have h4 := hin3.put_pend j false
      rw [turn_turn, turn_turn, turn_congr (g := BSt.raw l) (fun y hy => by rw [HX.out] at hy; obtain rfl : x = y := (by injection hy); rfl)] at h4
      have HE3 := hid (show BoolRef w b.p (true, s.turn (j : Int) (BSt.raw l)) F (.returned (.bool true)) (w3.setCell ⟨b.gp, j, none⟩ (.bool false)) from ⟨rfl, RefUpd.of_in h4 ((HOn.out.trans ho3 (fun k hk => More.new (w' := w2) hk)).put (HI.out.all _ (by simp [RB.all])) _) (fun k hk => by
        rcases hf3 k hk with h | h
        · exact More.new (w' := w2) h
        · have h1 := HB2.out.size
          have h2 : w2.heap.size ≤ k := by simpa using h
          exact .inr (by omega))⟩)
      clear hin3 ho3 hf3 h4
      go_wp2
      go_ret
      exact HE3.out
    · rw [DSt.raw_not (.inr (by rw [HL.out]; exact h256))]
      have hne : ((n : Int) != 256) = true := by rw [bne_iff_ne]; omega
      clear h256 hin h
      go_enter Tryd.func28, Tryd.ntmps28
      go_wp2_with fail
      refine (refHas_any p s F _ w HD.out).mono ?_
      rintro e w' ⟨rfl, rfl⟩
      rw [HB.out]
      go_wp2
      go_ret
      exact HF.out
  · have hn' : s.inB i = false := Bool.not_eq_true _ ▸ hin
    have HB := hid hn'
    rw [DSt.raw_not (.inl hn')]
    clear hin hn' h
    go_enter Tryd.func28, Tryd.ntmps28
    go_wp2_with fail
    refine (refHas_any p s F _ w HD.out).mono ?_
    rintro e w' ⟨rfl, rfl⟩
    rw [HB.out]
    go_wp2
    go_ret
    exact HF.out
end Go.Proofs.YtndbanfkiaockaaDoor
namespace Go.Proofs.YtndbanfkiaockaaDoor
open Go.RowKit

/-- the first k blocks are through the crash -/
def crashK (s : DSt) (picks : List Int) (k : Nat) : DSt := { s with blks := upToI (crashAt s.blks picks) k s.blks }
theorem crashK_zero (s : DSt) (picks : List Int) : crashK s picks 0 = s := by unfold crashK; rw [upToI_zero]
theorem crashK_get {s : DSt} {picks : List Int} {k : Nat} {x : BSt} (h : s.blks[k]? = some x) : (crashK s picks k).blks[k]? = some x := upToI_at _ h
theorem crashK_len (s : DSt) (picks : List Int) (k : Nat) : (crashK s picks k).blks.length = s.blks.length := upToI_len _ _ _
theorem crashK_step (s : DSt) (picks : List Int) (k : Nat) : (crashK s picks k).turn (k : Int) (crashAt s.blks picks k) = crashK s picks (k + 1) := by
  unfold DSt.turn crashK
  simp only [Int.toNat_natCast]
  rw [upToI_step]
theorem pends_take {l : List BSt} {k : Nat} {x : BSt} (h : l[k]? = some x) : (l.take (k + 1)).countP BSt.pend = (l.take k).countP BSt.pend + (if x.pend = true then 1 else 0) := by
  rw [List.take_add_one, h, List.countP_append]
  rcases hx : x.pend with _ | _ <;> simp [hx]
def CrashRef (w : World) (p : Nat) (s : DSt) (F : Nat → Prop) (picks : List Int) (e : Ending) (w' : World) : Prop := e = .returned (.tuple #[]) ∧ RefUpd w p (s.crash picks) F w'
set_option maxRecDepth 100000 in
set_option maxHeartbeats 2000000 in
theorem refCrash_any (p : Nat) (s : DSt) (F : Nat → Prop) (A : Option Addr) (n c : Nat) (picks : List Int) (w : World) (h : RefDev w p s F) (hok : s.ok) (hs : Sn w w.heap.size A n c picks) (hA : ∀ ad, A = some ad → 0 < n → ¬ F ad.block) (hn : n ≤ 100000) :
    Calls Tryd.prog 22 #[.pointer (some ⟨p, 0, none⟩), .slice A n c] w (CrashRef w p s F picks) := by
  obtain ⟨b, fl, nx, rfl, hin⟩ := h
  have HIN := hid hin
  have HK := hid hok
  have HS := hid hs
  have HA := hid hA
  have HL := hid hs.len
  obtain ⟨N, hN⟩ : ∃ N, s.blks.length = N := ⟨_, rfl⟩
  have HN := hid hN
  have hN6 : N ≤ 6000 := by rw [← hN]; exact hok.2.2.2
  clear hin hok hs hA hN
  go_enter Tryd.func22, Tryd.ntmps22
  go_wp2
  go_loopw [4, 5] (fun q i wr => ∃ (k r : Nat) (fl' : List Value) (F' : Nat → Prop), k ≤ N ∧ r ≤ k ∧ i = .int .i64 (k : Int) ∧ q = .int .i64 (r : Int) ∧ (s.blks.take k).countP BSt.pend = r ∧ RefIn wr b fl' nx (crashK s picks k) F' ∧ Only F w wr ∧ ∀ k, F' k → F k ∨ w.heap.size ≤ k) (fun _ i _ => N - (intOf i).toNat)
  case atStart => exact ⟨0, 0, fl, F, by omega, by omega, rfl, rfl, rfl, by rw [crashK_zero]; exact HIN.out, Only.refl _ _, fun _ h => .inl h⟩
  case round =>
    obtain ⟨k, r, fl', F', hk, hrk, rfl, rfl, hr, hin, ho, hf⟩ := hrel
    have HI := hid hin
    have HO := hid ho
    have HF := hid hf
    have HR := hid hr
    have HM := hid (hin.mem.box.cell 2)
    clear hin ho hf hr
    have c2 := HM.out
    simp [RB.cells, crashK_len] at c2
    rw [HN.out] at c2
    by_cases hlt : k < N
    · obtain ⟨x, hx⟩ : ∃ x, s.blks[k]? = some x := ⟨_, List.getElem?_eq_getElem (by rw [HN.out]; exact hlt)⟩
      have hok := HK.out.1 x (List.mem_of_getElem? hx)
      have HX := hid hx
      have HX2 := hid hok.2.2.2
      have HC := hid (pends_take hx)
      clear hx hok c2
      obtain ⟨c2, cp, fp⟩ := HI.out.at_pend (n := N) (crashK_get HX.out) (by rw [crashK_len]; exact HN.out)
      rcases hp : x.pend with _ | _
      · have HI3 := hid (show RefIn wr b fl' nx (crashK s picks (k + 1)) F' by
          rw [← crashK_step, turn_same (fun y hy => by
            rw [crashK_get HX.out] at hy
            obtain rfl : x = y := (by injection hy)
            unfold crashAt BSt.crash; rw [if_neg (by rw [hp]; decide)])]
          exact HI.out)
        have HC0 := hid (show (s.blks.take (k + 1)).countP BSt.pend = r by rw [HC.out, HR.out, hp]; rfl)
        rw [hp] at cp
        clear hp
        go_wp2
        go_roundw
        case rel => exact ⟨k + 1, r, fl', F', by omega, by omega, by go_num, rfl, HC0.out, HI3.out, HO.out, HF.out⟩
        case measure => simp [intOf]; omega
      · have HC1 := hid (show (s.blks.take (k + 1)).countP BSt.pend = r + 1 by rw [HC.out, HR.out, hp]; rfl)
        have HP := hid hp
        rw [hp] at cp
        rcases hkp : keepP picks r with _ | _
        · have HKP := hid hkp
          have HOld := hid (HI.out.put_pend k false)
          have HI3 := hid (show RefIn (wr.setCell ⟨b.gp, k, none⟩ (.bool false)) b fl' nx (crashK s picks (k + 1)) F' by
            rw [← crashK_step, turn_congr (g := fun y => { y with pend := false }) (fun y hy => by
              rw [crashK_get HX.out] at hy
              obtain rfl : x = y := (by injection hy)
              unfold crashAt BSt.crash; rw [if_pos HP.out, HR.out, HKP.out]; rfl)]
            exact HOld.out)
          have HO3 := hid (HO.out.put (p := ⟨b.gp, k, none⟩) (u := .bool false) (HIN.out.all _ (by simp [RB.all])))
          clear hp
          by_cases hrn : r < n
          · obtain ⟨v, hv⟩ : ∃ v, picks[r]? = some v := ⟨_, List.getElem?_eq_getElem (by rw [HL.out]; exact hrn)⟩
            have ht : (v.tmod 2 != 0) = false := by
              unfold keepP at hkp
              rw [hv] at hkp
              simpa using hkp
            obtain ⟨ad, y, rfl, _, hy, hc⟩ := (HS.out.only (Nat.le_refl _) HO.out HA.out).get hrn
            obtain rfl : v = y := by rw [hv] at hy; injection hy
            clear hv hy hkp
            go_wp2
            go_roundw
            case rel => exact ⟨k + 1, r + 1, fl', F', by omega, by omega, by go_num, by go_num, HC1.out, HI3.out, HO3.out, HF.out⟩
            case measure => simp [intOf]; omega
          · have hd : decide (r < n) = false := by simpa using hrn
            clear hkp
            go_wp2
            go_roundw
            case rel => exact ⟨k + 1, r + 1, fl', F', by omega, by omega, by go_num, by go_num, HC1.out, HI3.out, HO3.out, HF.out⟩
            case measure => simp [intOf]; omega
        · have HKP := hid hkp
          have hrn : r < n := by
            rcases Nat.lt_or_ge r n with h | h
            · exact h
            · unfold keepP at hkp
              rw [List.getElem?_eq_none (by rw [HL.out]; exact h)] at hkp
              cases hkp
          obtain ⟨v, hv⟩ : ∃ v, picks[r]? = some v := ⟨_, List.getElem?_eq_getElem (by rw [HL.out]; exact hrn)⟩
          have ht : (v.tmod 2 != 0) = true := by
            unfold keepP at hkp
            rw [hv] at hkp
            simpa using hkp
          obtain ⟨ad, y, rfl, _, hy, hc⟩ := (HS.out.only (Nat.le_refl _) HO.out HA.out).get hrn
          obtain rfl : v = y := by rw [hv] at hy; injection hy
          clear hv hy hkp hp
          go_wp2_with fail
          refine (refSettle_any b fl' nx (crashK s picks k) k x F' _ HI.out (crashK_get HX.out) HX2.out).mono ?_
          rintro e w2 ⟨rfl, fl2, F2, hin2, ho2, hf2⟩
          have HO2 := hid (HO.out.trans ho2 HF.out)
          have HF2 := hid (show ∀ k, F2 k → F k ∨ w.heap.size ≤ k from fun k hk => by
            rcases hf2 k hk with h | h
            · exact HF.out k h
            · have := HO.out.size; exact .inr (by omega))
          obtain ⟨d2, dp, gp⟩ := hin2.at_pend (n := N) (turn_at (crashK_get HX.out)) (by rw [DSt.turn_len, crashK_len]; exact HN.out)
          have hin3 := hin2.put_pend k false
          rw [turn_turn, turn_congr (g := crashAt s.blks picks k) (fun y hy => by
            rw [crashK_get HX.out] at hy
            obtain rfl : x = y := (by injection hy)
            unfold crashAt BSt.crash; rw [if_pos HP.out, HR.out, HKP.out]; rfl), crashK_step] at hin3
          have HI3 := hid hin3
          have HO3 := hid (HO2.out.put (p := ⟨b.gp, k, none⟩) (u := .bool false) (HIN.out.all _ (by simp [RB.all])))
          clear hin2 ho2 hf2 hin3 c2 cp fp hc
          go_wp2
          go_roundw
          case rel => exact ⟨k + 1, r + 1, fl2, F2, by omega, by omega, by go_num, by go_num, HC1.out, HI3.out, HO3.out, HF2.out⟩
          case measure => simp [intOf]; omega
    · obtain rfl : k = N := by omega
      obtain ⟨_, c7, c8, g6⟩ := HI.out.num
      have g7 := g6 7
      have g8 := g6 8
      clear g6
      have HE := hid (show CrashRef w b.p s F picks (.returned (.tuple #[])) ((wr.setCell ⟨b.p, 8, none⟩ (.bool false)).setCell ⟨b.p, 7, none⟩ (.int .i64 0)) by
        have h1 := HI.out.put_num (t := { s with blks := upToI (crashAt s.blks picks) k s.blks, down := false }) rfl 8 (.bool false) rfl
        have h2 := h1.put_num (t := s.crash picks) (by
          show s.blks.mapIdx _ = upToI _ _ _
          rw [upToI_all _ (by rw [HN.out]; exact Nat.le_refl _)]) 7 (.int .i64 0) rfl
        exact ⟨rfl, RefUpd.of_in h2 ((HO.out.put (HIN.out.all _ (by simp [RB.all])) _).put (HIN.out.all _ (by simp [RB.all])) _) HF.out⟩)
      go_wp2
      go_end0
      exact HE.out
end Go.Proofs.YtndbanfkiaockaaDoor
namespace Go.Proofs.YtndbanfkiaockaaDoor
open Go.RowKit

def zero256 : List Int := List.replicate 256 0
def falses (n : Nat) : Array Value := madeCells #[.bool false] n
theorem falses_list (n : Nat) : (falses n).toList = (List.replicate n false).map Value.bool := by
  unfold falses
  rw [toList_madeCells_one, List.map_replicate]
theorem Tryd.info4 : (Tryd.prog.info? 4).map (fun i => (i.zero, i.size, i.bytes)) = some (some (.bool false), 1, 1) := by kernel_rfl
theorem Tryd.info33 : (Tryd.prog.info? 33).map (fun i => (i.zero, i.size, i.bytes)) = some (some (.slice none 0 0), 1, 24) := by kernel_rfl
theorem make_bools (n : Nat) (hn : n ≤ 100000) (w : World) : (Instr.makeSlice 55 (.int .i64 (n : Int)) (.int .i64 (n : Int))).run Tryd.prog w = .ok (.slice (some ⟨w.heap.size, 0, none⟩) n n) (w.alloc (.cells (falses n) 4)) := by
  obtain ⟨i0, hi, hz0, hz1, hz2⟩ := info_parts Tryd.info4
  have := run_make (P := Tryd.prog) w 55 4 i0 (.bool false) Tryd.underlying55 hi hz0 .i64 .i64 n n (by omega) (Int.le_refl _) (by rw [hz2]; omega) (by omega)
  rw [hz1] at this
  have e : (Value.bool false).cells = #[.bool false] := rfl
  rw [e] at this
  simpa [falses] using this
def zcells : Array Value := madeCells #[.int .u8 0] 256
theorem make_block (w : World) : (Instr.makeSlice 33 (.int .i64 256) (.int .i64 256)).run Tryd.prog w = .ok (.slice (some ⟨w.heap.size, 0, none⟩) 256 256) (w.alloc (.cells zcells 5)) := by
  obtain ⟨i0, hi, hz0, hz1, hz2⟩ := info_parts Tryd.info5
  have := run_make (P := Tryd.prog) w 33 5 i0 (.int .u8 0) Tryd.underlying33 hi hz0 .i64 .i64 256 256 (by omega) (Int.le_refl _) (by rw [hz2]; omega) (by omega)
  rw [hz1] at this
  have e : (Value.int .u8 0).cells = #[.int .u8 0] := rfl
  rw [e] at this
  exact this
/-- a device that is being made: so many blocks of the first two lists are there -/
structure NewM (w : World) (B : Nat) (b : RB) (N kf kw : Nat) (vf vw : Value) (fl nx : List Value) : Prop where
  box : Blk w b.p 57 #[vf, vw, .slice (some ⟨b.gp, 0, none⟩) N N, .slice (some ⟨b.gt, 0, none⟩) N N, .slice (some ⟨b.gd, 0, none⟩) N N, .slice (some ⟨b.ge, 0, none⟩) N N, .int .i64 0, .int .i64 0, .bool false]
  hfl : OwnV 33 w B vf fl
  hnx : OwnV 33 w B vw nx
  hpe : OwnV 4 w B (.slice (some ⟨b.gp, 0, none⟩) N N) ((List.replicate N false).map Value.bool)
  hft : OwnV 4 w B (.slice (some ⟨b.gt, 0, none⟩) N N) ((List.replicate N false).map Value.bool)
  hfa : OwnV 4 w B (.slice (some ⟨b.gd, 0, none⟩) N N) ((List.replicate N false).map Value.bool)
  hev : OwnV 4 w B (.slice (some ⟨b.ge, 0, none⟩) N N) ((List.replicate N false).map Value.bool)
  base : B ≤ b.p
  lf : fl.length = kf
  ln : nx.length = kw
  nd : [b.p, b.gp, b.gt, b.gd, b.ge].Nodup
  of : ∀ g, vf.ownBlock = some g → g ∉ [b.p, b.gp, b.gt, b.gd, b.ge]
  ow : ∀ g, vw.ownBlock = some g → g ∉ [b.p, b.gp, b.gt, b.gd, b.ge]
  ofw : ∀ g, vf.ownBlock = some g → vw.ownBlock ≠ some g
  ef : ∀ v, v ∈ fl → Elem w (fun k => B ≤ k ∧ k ∉ [b.p, b.gp, b.gt, b.gd, b.ge] ∧ vf.ownBlock ≠ some k ∧ vw.ownBlock ≠ some k) v zero256
  en : ∀ v, v ∈ nx → Elem w (fun k => B ≤ k ∧ k ∉ [b.p, b.gp, b.gt, b.gd, b.ge] ∧ vf.ownBlock ≠ some k ∧ vw.ownBlock ≠ some k) v zero256
theorem NewM.stays {wr w2 : World} {B : Nat} {b : RB} {N kf kw : Nat} {vf vw : Value} {fl nx : List Value} {row : Option Nat} (h : NewM wr B b N kf kw vf vw fl nx)
    (hgrow : ((wr.alloc (.cells zcells 5)).alloc (.cells #[.slice (some ⟨wr.heap.size, 0, none⟩) 256 256] 33)).drew.grownBy w2 row) (hr : row ≠ some b.p) : w2.heap[b.p]? = wr.heap[b.p]? := by
  have hpl := h.box.lt
  rw [hgrow.block b.p (by show b.p < ((wr.heap.push _).push _).size; simp; omega) (fun e => hr e.symm)]
  show ((wr.heap.push _).push _)[b.p]? = _
  rw [Array.getElem?_push, if_neg (by simp; omega), Array.getElem?_push, if_neg (by omega)]
theorem NewM.push_f {wr w2 : World} {B : Nat} {b : RB} {N kf kw g cap : Nat} {vf vw : Value} {fl nx : List Value} (h : NewM wr B b N kf kw vf vw fl nx)
    (hown : w2.ownsRow B 33 1 (.slice (some ⟨g, 0, none⟩) (kf + 1) cap) (kf + 1) (fl ++ [.slice (some ⟨wr.heap.size, 0, none⟩) 256 256])) (hgrow : ((wr.alloc (.cells zcells 5)).alloc (.cells #[.slice (some ⟨wr.heap.size, 0, none⟩) 256 256] 33)).drew.grownBy w2 vf.ownBlock)
    (hat : vf.ownBlock = some g ∨ g = wr.heap.size + 1 + 1) (hB : B ≤ wr.heap.size) :
    NewM (w2.setCell ⟨b.p, 0, none⟩ (.slice (some ⟨g, 0, none⟩) (kf + 1) cap)) B b N (kf + 1) kw (.slice (some ⟨g, 0, none⟩) (kf + 1) cap) vw (fl ++ [.slice (some ⟨wr.heap.size, 0, none⟩) 256 256]) nx ∧ Below B wr (w2.setCell ⟨b.p, 0, none⟩ (.slice (some ⟨g, 0, none⟩) (kf + 1) cap)) := by
  have hold : ∀ t, t < wr.heap.size → vf.ownBlock ≠ some t → w2.heap[t]? = wr.heap[t]? := by
    intro t h1 h2
    rw [hgrow.block t (by show t < ((wr.heap.push _).push _).size; simp; omega) (fun e => h2 e.symm)]
    show ((wr.heap.push _).push _)[t]? = _
    rw [Array.getElem?_push, if_neg (by simp; omega), Array.getElem?_push, if_neg (by omega)]
  have hml := fun t (ht : vf.ownBlock = some t) => (h.hfl.lt t ht)
  have hol := fun t (ht : vw.ownBlock = some t) => (h.hnx.lt t ht)
  have hzs : w2.heap[wr.heap.size]? = some (.cells zcells 5 (0, 0)) := by
    rw [hgrow.block wr.heap.size (by show wr.heap.size < ((wr.heap.push _).push _).size; simp; omega) (fun e => by have := (hml _ e.symm).2; omega)]
    show ((wr.heap.push _).push _)[wr.heap.size]? = _
    rw [Array.getElem?_push, if_neg (by simp), Array.getElem?_push, if_pos rfl]
  have hsz : wr.heap.size + 2 ≤ w2.heap.size := by have := hgrow.size; simp only [World.drew, World.size_alloc] at this; omega
  have hpl := h.box.lt
  have hLlt : ∀ t, t ∈ [b.p, b.gp, b.gt, b.gd, b.ge] → t < wr.heap.size := by
    intro t ht
    simp only [List.mem_cons, List.not_mem_nil, or_false] at ht
    rcases ht with rfl | rfl | rfl | rfl | rfl
    · exact hpl
    · exact h.hpe.is_lt
    · exact h.hft.is_lt
    · exact h.hfa.is_lt
    · exact h.hev.is_lt
  have hLm : ∀ t, t ∈ [b.p, b.gp, b.gt, b.gd, b.ge] → vf.ownBlock ≠ some t := fun t ht e => h.of t e ht
  have hLo : ∀ t, t ∈ [b.p, b.gp, b.gt, b.gd, b.ge] → vw.ownBlock ≠ some t := fun t ht e => h.ow t e ht
  have hmo : ∀ t, vf.ownBlock = some t → vw.ownBlock ≠ some t := h.ofw
  have hgL : g ∉ [b.p, b.gp, b.gt, b.gd, b.ge] := by
    rcases hat with e | e
    · exact h.of g e
    · intro hg; have := hLlt g hg; omega
  have hgo : vw.ownBlock ≠ some g := by
    rcases hat with e | e
    · exact hmo g e
    · intro hg; have := (hol g hg).2; omega
  have hnd := h.nd
  simp only [List.nodup_cons, List.mem_cons, List.not_mem_nil, or_false, not_or, List.nodup_nil, not_false_eq_true, and_true] at hnd
  obtain ⟨⟨n1, n2, n3, n4⟩, _⟩ := hnd
  have hset : ∀ t, t ≠ b.p → (w2.setCell ⟨b.p, 0, none⟩ (.slice (some ⟨g, 0, none⟩) (kf + 1) cap)).heap[t]? = w2.heap[t]? := fun t ht => Below.heap_setCell w2 ⟨b.p, 0, none⟩ _ t ht
  have hboth : ∀ t, t < wr.heap.size → vf.ownBlock ≠ some t → t ≠ b.p → (w2.setCell ⟨b.p, 0, none⟩ (.slice (some ⟨g, 0, none⟩) (kf + 1) cap)).heap[t]? = wr.heap[t]? := fun t h1 h2 h3 => (hset t h3).trans (hold t h1 h2)
  have hsize : (w2.setCell ⟨b.p, 0, none⟩ (.slice (some ⟨g, 0, none⟩) (kf + 1) cap)).heap.size = w2.heap.size := by simp
  have hE : ∀ (v : Value), Elem wr (fun k => B ≤ k ∧ k ∉ [b.p, b.gp, b.gt, b.gd, b.ge] ∧ vf.ownBlock ≠ some k ∧ vw.ownBlock ≠ some k) v zero256 → Elem (w2.setCell ⟨b.p, 0, none⟩ (.slice (some ⟨g, 0, none⟩) (kf + 1) cap)) (fun k => B ≤ k ∧ k ∉ [b.p, b.gp, b.gt, b.gd, b.ge] ∧ some g ≠ some k ∧ vw.ownBlock ≠ some k) v zero256 := by
    intro v hv
    obtain ⟨A, c, rfl, hs, he⟩ := hv
    refine ⟨A, c, rfl, (hs.same (fun ad ha => ?_)).more (by rw [hsize]; omega), fun ad ha => ?_⟩
    · have h1 := he ad ha
      exact hboth _ (hs.at_ ad ha (by omega)).1 (by first | exact h1.2.2.1 | exact h1.2.2.2) (fun e => h1.2.1 (by rw [e]; simp))
    · have h1 := he ad ha
      have h2 := (hs.at_ ad ha (by omega)).1
      have h3 : some g ≠ some ad.block := by
        intro e
        injection e with e
        rcases hat with h4 | h4
        · rw [e] at h4; first | exact h1.2.2.1 h4 | exact h1.2.2.2 h4
        · omega
      exact ⟨h1.1, h1.2.1, h3, h1.2.2.2⟩
  have hnew : Elem (w2.setCell ⟨b.p, 0, none⟩ (.slice (some ⟨g, 0, none⟩) (kf + 1) cap)) (fun k => B ≤ k ∧ k ∉ [b.p, b.gp, b.gt, b.gd, b.ge] ∧ some g ≠ some k ∧ vw.ownBlock ≠ some k) (.slice (some ⟨wr.heap.size, 0, none⟩) 256 256) zero256 := by
    have hzs2 : (w2.setCell ⟨b.p, 0, none⟩ (.slice (some ⟨g, 0, none⟩) (kf + 1) cap)).heap[wr.heap.size]? = some (.cells zcells 5 (0, 0)) := (hset _ (by omega)).trans hzs
    refine ⟨_, _, rfl, ⟨List.length_replicate, Nat.le_refl _, by unfold maxLen; omega, (fun h => by cases h), fun ad ha _ => ?_⟩, fun ad ha => ?_⟩
    · cases ha
      refine ⟨by rw [hsize]; show wr.heap.size < _; omega, fun j x hx => ?_⟩
      have e : (⟨wr.heap.size, 0, none⟩ : Addr).add j = ⟨wr.heap.size, j, none⟩ := by unfold Addr.add; split <;> simp_all
      rw [e, cell_of_row _ wr.heap.size j zcells 5 (0, 0) hzs2]
      have hz : zcells.toList = I zero256 := by unfold zcells zero256; exact zeros 256
      have := I_get hx
      rw [← hz] at this
      simpa using this
    · cases ha
      have h1 : some g ≠ some wr.heap.size := by
        intro e
        injection e with e
        rcases hat with h4 | h4
        · have := (hml g h4).2; omega
        · omega
      have h2 : vw.ownBlock ≠ some wr.heap.size := fun e => by have := (hol _ e).2; omega
      exact ⟨hB, fun ht => absurd (hLlt _ ht) (Nat.lt_irrefl _), h1, h2⟩
  refine ⟨⟨?_, ?_, ?_, ?_, ?_, ?_, ?_, h.base, ?_, ?_, h.nd, ?_, ?_, ?_, ?_, ?_⟩, ?_⟩
  · exact (Blk.same h.box (hold _ hpl (hLm _ (by simp)))).put 0 _
  · rw [show kf + 1 = (fl ++ [Value.slice (some ⟨wr.heap.size, 0, none⟩) 256 256]).length by rw [List.length_append, h.lf]; rfl] at hown ⊢
    exact OwnV.far (by exact hown) (fun e => hgL (by rw [e]; simp)) _
  · rcases h.hnx.2 with ⟨e, e0⟩ | ⟨g', cap', cur, e, hb, hg, hr⟩
    · refine ⟨h.hnx.1, .inl ⟨e, e0⟩⟩
    · have e' : vw.ownBlock = some g' := by rw [e]; rfl
      refine ⟨h.hnx.1, .inr ⟨g', cap', cur, e, hb, (hboth g' (hol g' e').2 (fun e2 => hmo g' e2 e') (fun e2 => hLo b.p (by simp) (by rw [← e2]; exact e'))).trans hg, hr⟩⟩
  · exact (h.hpe.same (hboth _ h.hpe.is_lt (hLm _ (by simp)) (Ne.symm n1)))
  · exact (h.hft.same (hboth _ h.hft.is_lt (hLm _ (by simp)) (Ne.symm n2)))
  · exact (h.hfa.same (hboth _ h.hfa.is_lt (hLm _ (by simp)) (Ne.symm n3)))
  · exact (h.hev.same (hboth _ h.hev.is_lt (hLm _ (by simp)) (Ne.symm n4)))
  · rw [List.length_append, h.lf]; rfl
  · exact h.ln
  · intro t ht
    obtain rfl : g = t := by injection ht
    exact hgL
  · exact h.ow
  · intro t ht
    obtain rfl : g = t := by injection ht
    exact hgo
  · intro v hv
    rcases List.mem_append.1 hv with hv | hv
    · exact hE v (h.ef v hv)
    · rw [List.mem_singleton.1 hv]; exact hnew
  · exact fun v hv => hE v (h.en v hv)
  · have h1 : Below B wr w2 := by
      have h2 : Below B wr ((wr.alloc (.cells zcells 5)).alloc (.cells #[.slice (some ⟨wr.heap.size, 0, none⟩) 256 256] 33)).drew := below_drewN (((Below.refl _ _).alloc hB _).alloc (by simp; omega) _) 1
      exact h2.grown hgrow (by show B ≤ ((wr.heap.push _).push _).size; simp; omega) (fun t ht => (hml t ht).1)
    exact h1.setCell h.base _
theorem NewM.push_w {wr w2 : World} {B : Nat} {b : RB} {N kf kw g cap : Nat} {vf vw : Value} {fl nx : List Value} (h : NewM wr B b N kf kw vf vw fl nx)
    (hown : w2.ownsRow B 33 1 (.slice (some ⟨g, 0, none⟩) (kw + 1) cap) (kw + 1) (nx ++ [.slice (some ⟨wr.heap.size, 0, none⟩) 256 256])) (hgrow : ((wr.alloc (.cells zcells 5)).alloc (.cells #[.slice (some ⟨wr.heap.size, 0, none⟩) 256 256] 33)).drew.grownBy w2 vw.ownBlock)
    (hat : vw.ownBlock = some g ∨ g = wr.heap.size + 1 + 1) (hB : B ≤ wr.heap.size) :
    NewM (w2.setCell ⟨b.p, 1, none⟩ (.slice (some ⟨g, 0, none⟩) (kw + 1) cap)) B b N kf (kw + 1) vf (.slice (some ⟨g, 0, none⟩) (kw + 1) cap) fl (nx ++ [.slice (some ⟨wr.heap.size, 0, none⟩) 256 256]) ∧ Below B wr (w2.setCell ⟨b.p, 1, none⟩ (.slice (some ⟨g, 0, none⟩) (kw + 1) cap)) := by
  have hold : ∀ t, t < wr.heap.size → vw.ownBlock ≠ some t → w2.heap[t]? = wr.heap[t]? := by
    intro t h1 h2
    rw [hgrow.block t (by show t < ((wr.heap.push _).push _).size; simp; omega) (fun e => h2 e.symm)]
    show ((wr.heap.push _).push _)[t]? = _
    rw [Array.getElem?_push, if_neg (by simp; omega), Array.getElem?_push, if_neg (by omega)]
  have hml := fun t (ht : vw.ownBlock = some t) => (h.hnx.lt t ht)
  have hol := fun t (ht : vf.ownBlock = some t) => (h.hfl.lt t ht)
  have hzs : w2.heap[wr.heap.size]? = some (.cells zcells 5 (0, 0)) := by
    rw [hgrow.block wr.heap.size (by show wr.heap.size < ((wr.heap.push _).push _).size; simp; omega) (fun e => by have := (hml _ e.symm).2; omega)]
    show ((wr.heap.push _).push _)[wr.heap.size]? = _
    rw [Array.getElem?_push, if_neg (by simp), Array.getElem?_push, if_pos rfl]
  have hsz : wr.heap.size + 2 ≤ w2.heap.size := by have := hgrow.size; simp only [World.drew, World.size_alloc] at this; omega
  have hpl := h.box.lt
  have hLlt : ∀ t, t ∈ [b.p, b.gp, b.gt, b.gd, b.ge] → t < wr.heap.size := by
    intro t ht
    simp only [List.mem_cons, List.not_mem_nil, or_false] at ht
    rcases ht with rfl | rfl | rfl | rfl | rfl
    · exact hpl
    · exact h.hpe.is_lt
    · exact h.hft.is_lt
    · exact h.hfa.is_lt
    · exact h.hev.is_lt
  have hLm : ∀ t, t ∈ [b.p, b.gp, b.gt, b.gd, b.ge] → vw.ownBlock ≠ some t := fun t ht e => h.ow t e ht
  have hLo : ∀ t, t ∈ [b.p, b.gp, b.gt, b.gd, b.ge] → vf.ownBlock ≠ some t := fun t ht e => h.of t e ht
  have hmo : ∀ t, vw.ownBlock = some t → vf.ownBlock ≠ some t := (fun t e1 e2 => h.ofw t e2 e1)
  have hgL : g ∉ [b.p, b.gp, b.gt, b.gd, b.ge] := by
    rcases hat with e | e
    · exact h.ow g e
    · intro hg; have := hLlt g hg; omega
  have hgo : vf.ownBlock ≠ some g := by
    rcases hat with e | e
    · exact hmo g e
    · intro hg; have := (hol g hg).2; omega
  have hnd := h.nd
  simp only [List.nodup_cons, List.mem_cons, List.not_mem_nil, or_false, not_or, List.nodup_nil, not_false_eq_true, and_true] at hnd
  obtain ⟨⟨n1, n2, n3, n4⟩, _⟩ := hnd
  have hset : ∀ t, t ≠ b.p → (w2.setCell ⟨b.p, 1, none⟩ (.slice (some ⟨g, 0, none⟩) (kw + 1) cap)).heap[t]? = w2.heap[t]? := fun t ht => Below.heap_setCell w2 ⟨b.p, 1, none⟩ _ t ht
  have hboth : ∀ t, t < wr.heap.size → vw.ownBlock ≠ some t → t ≠ b.p → (w2.setCell ⟨b.p, 1, none⟩ (.slice (some ⟨g, 0, none⟩) (kw + 1) cap)).heap[t]? = wr.heap[t]? := fun t h1 h2 h3 => (hset t h3).trans (hold t h1 h2)
  have hsize : (w2.setCell ⟨b.p, 1, none⟩ (.slice (some ⟨g, 0, none⟩) (kw + 1) cap)).heap.size = w2.heap.size := by simp
  have hE : ∀ (v : Value), Elem wr (fun k => B ≤ k ∧ k ∉ [b.p, b.gp, b.gt, b.gd, b.ge] ∧ vf.ownBlock ≠ some k ∧ vw.ownBlock ≠ some k) v zero256 → Elem (w2.setCell ⟨b.p, 1, none⟩ (.slice (some ⟨g, 0, none⟩) (kw + 1) cap)) (fun k => B ≤ k ∧ k ∉ [b.p, b.gp, b.gt, b.gd, b.ge] ∧ vf.ownBlock ≠ some k ∧ some g ≠ some k) v zero256 := by
    intro v hv
    obtain ⟨A, c, rfl, hs, he⟩ := hv
    refine ⟨A, c, rfl, (hs.same (fun ad ha => ?_)).more (by rw [hsize]; omega), fun ad ha => ?_⟩
    · have h1 := he ad ha
      exact hboth _ (hs.at_ ad ha (by omega)).1 (by first | exact h1.2.2.1 | exact h1.2.2.2) (fun e => h1.2.1 (by rw [e]; simp))
    · have h1 := he ad ha
      have h2 := (hs.at_ ad ha (by omega)).1
      have h3 : some g ≠ some ad.block := by
        intro e
        injection e with e
        rcases hat with h4 | h4
        · rw [e] at h4; first | exact h1.2.2.1 h4 | exact h1.2.2.2 h4
        · omega
      exact ⟨h1.1, h1.2.1, h1.2.2.1, h3⟩
  have hnew : Elem (w2.setCell ⟨b.p, 1, none⟩ (.slice (some ⟨g, 0, none⟩) (kw + 1) cap)) (fun k => B ≤ k ∧ k ∉ [b.p, b.gp, b.gt, b.gd, b.ge] ∧ vf.ownBlock ≠ some k ∧ some g ≠ some k) (.slice (some ⟨wr.heap.size, 0, none⟩) 256 256) zero256 := by
    have hzs2 : (w2.setCell ⟨b.p, 1, none⟩ (.slice (some ⟨g, 0, none⟩) (kw + 1) cap)).heap[wr.heap.size]? = some (.cells zcells 5 (0, 0)) := (hset _ (by omega)).trans hzs
    refine ⟨_, _, rfl, ⟨List.length_replicate, Nat.le_refl _, by unfold maxLen; omega, (fun h => by cases h), fun ad ha _ => ?_⟩, fun ad ha => ?_⟩
    · cases ha
      refine ⟨by rw [hsize]; show wr.heap.size < _; omega, fun j x hx => ?_⟩
      have e : (⟨wr.heap.size, 0, none⟩ : Addr).add j = ⟨wr.heap.size, j, none⟩ := by unfold Addr.add; split <;> simp_all
      rw [e, cell_of_row _ wr.heap.size j zcells 5 (0, 0) hzs2]
      have hz : zcells.toList = I zero256 := by unfold zcells zero256; exact zeros 256
      have := I_get hx
      rw [← hz] at this
      simpa using this
    · cases ha
      have h1 : some g ≠ some wr.heap.size := by
        intro e
        injection e with e
        rcases hat with h4 | h4
        · have := (hml g h4).2; omega
        · omega
      have h2 : vf.ownBlock ≠ some wr.heap.size := fun e => by have := (hol _ e).2; omega
      exact ⟨hB, fun ht => absurd (hLlt _ ht) (Nat.lt_irrefl _), h2, h1⟩
  refine ⟨⟨?_, ?_, ?_, ?_, ?_, ?_, ?_, h.base, ?_, ?_, h.nd, ?_, ?_, ?_, ?_, ?_⟩, ?_⟩
  · exact (Blk.same h.box (hold _ hpl (hLm _ (by simp)))).put 1 _
  · rcases h.hfl.2 with ⟨e, e0⟩ | ⟨g', cap', cur, e, hb, hg, hr⟩
    · refine ⟨h.hfl.1, .inl ⟨e, e0⟩⟩
    · have e' : vf.ownBlock = some g' := by rw [e]; rfl
      refine ⟨h.hfl.1, .inr ⟨g', cap', cur, e, hb, (hboth g' (hol g' e').2 (fun e2 => hmo g' e2 e') (fun e2 => hLo b.p (by simp) (by rw [← e2]; exact e'))).trans hg, hr⟩⟩
  · rw [show kw + 1 = (nx ++ [Value.slice (some ⟨wr.heap.size, 0, none⟩) 256 256]).length by rw [List.length_append, h.ln]; rfl] at hown ⊢
    exact OwnV.far (by exact hown) (fun e => hgL (by rw [e]; simp)) _
  · exact (h.hpe.same (hboth _ h.hpe.is_lt (hLm _ (by simp)) (Ne.symm n1)))
  · exact (h.hft.same (hboth _ h.hft.is_lt (hLm _ (by simp)) (Ne.symm n2)))
  · exact (h.hfa.same (hboth _ h.hfa.is_lt (hLm _ (by simp)) (Ne.symm n3)))
  · exact (h.hev.same (hboth _ h.hev.is_lt (hLm _ (by simp)) (Ne.symm n4)))
  · exact h.lf
  · rw [List.length_append, h.ln]; rfl
  · exact h.of
  · intro t ht
    obtain rfl : g = t := by injection ht
    exact hgL
  · intro t ht e
    obtain rfl : g = t := by injection e
    exact hgo ht
  · exact fun v hv => hE v (h.ef v hv)
  · intro v hv
    rcases List.mem_append.1 hv with hv | hv
    · exact hE v (h.en v hv)
    · rw [List.mem_singleton.1 hv]; exact hnew
  · have h1 : Below B wr w2 := by
      have h2 : Below B wr ((wr.alloc (.cells zcells 5)).alloc (.cells #[.slice (some ⟨wr.heap.size, 0, none⟩) 256 256] 33)).drew := below_drewN (((Below.refl _ _).alloc hB _).alloc (by simp; omega) _) 1
      exact h2.grown hgrow (by show B ≤ ((wr.heap.push _).push _).size; simp; omega) (fun t ht => (hml t ht).1)
    exact h1.setCell h.base _
theorem new_map {α : Type} (N : Nat) (f : BSt → α) : (DSt.new N).blks.map f = List.replicate N (f blank) := by unfold DSt.new; simp
/-- all are there: it is a new device -/
theorem NewM.whole {wr : World} {B : Nat} {b : RB} {N : Nat} {vf vw : Value} {fl nx : List Value} (h : NewM wr B b N N N vf vw fl nx) (h0 : 0 < N) : RefDev wr b.p (DSt.new N) (fun k => B ≤ k ∧ k < wr.heap.size) ∧ ∀ k, (B ≤ k ∧ k < wr.heap.size) → B ≤ k := by
  refine ⟨?_, fun k hk => hk.1⟩
  obtain ⟨gf, cf, rfl, hbf, hgf⟩ := World.ownsRow.form h.hfl (by rw [h.lf]; exact h0)
  obtain ⟨gw, cw, rfl, hbw, hgw⟩ := World.ownsRow.form h.hnx (by rw [h.ln]; exact h0)
  have hf := h.hfl
  have hw := h.hnx
  have hbox := h.box
  have hof := h.of gf rfl
  have how := h.ow gw rfl
  have hfw : gf ≠ gw := fun e => h.ofw gf rfl (by rw [e]; rfl)
  have hnd := h.nd
  rw [h.lf] at hf hbox
  rw [h.ln] at hw hbox
  have hlen : (DSt.new N).blks.length = N := by unfold DSt.new; simp
  obtain ⟨nb, hnb⟩ : ∃ nb : RB, nb = ⟨b.p, gf, cf, gw, cw, b.gp, b.gt, b.gd, b.ge⟩ := ⟨_, rfl⟩
  have hm : RefM wr nb N fl nx (List.replicate N false) (List.replicate N false) (List.replicate N false) (List.replicate N false) 0 0 false := by
    subst hnb
    refine ⟨?_, OwnV.zero hf, OwnV.zero hw, OwnV.zero h.hpe, OwnV.zero h.hft, OwnV.zero h.hfa, OwnV.zero h.hev, ?_, h.lf, h.ln, List.length_replicate, List.length_replicate, List.length_replicate, List.length_replicate⟩
    · unfold RB.cells
      exact hbox
    · simp only [RB.all, List.nodup_cons, List.mem_cons, List.not_mem_nil, or_false, not_or, List.nodup_nil, not_false_eq_true, and_true] at hnd hof how ⊢
      obtain ⟨⟨n1, n2, n3, n4⟩, ⟨m2, m3, m4⟩, ⟨k3, k4⟩, l4⟩ := hnd
      obtain ⟨f1, f2, f3, f4, f5⟩ := hof
      obtain ⟨w1, w2, w3, w4, w5⟩ := how
      exact ⟨⟨Ne.symm f1, Ne.symm w1, n1, n2, n3, n4⟩, ⟨hfw, f2, f3, f4, f5⟩, ⟨w2, w3, w4, w5⟩, ⟨m2, m3, m4⟩, ⟨k3, k4⟩, l4⟩
  have hm' : RefM wr nb (DSt.new N).blks.length fl nx ((DSt.new N).blks.map BSt.pend) ((DSt.new N).blks.map BSt.fault) ((DSt.new N).blks.map BSt.fail) ((DSt.new N).blks.map BSt.ever) (DSt.new N).calls (DSt.new N).arm (DSt.new N).down := by
    rw [hlen, new_map, new_map, new_map, new_map]
    exact hm
  clear hm hbox hf hw
  refine ⟨nb, fl, nx, by rw [hnb], ⟨hm', ?_, ?_, ?_, fun k hk => hk.2⟩⟩
  all_goals subst hnb
  · intro k hk
    simp only [RB.all, List.mem_cons, List.not_mem_nil, or_false] at hk
    rcases hk with rfl | rfl | rfl | rfl | rfl | rfl | rfl
    · exact ⟨h.base, h.box.lt⟩
    · exact ⟨hbf, hgf⟩
    · exact ⟨hbw, hgw⟩
    · exact h.hpe.lt _ rfl
    · exact h.hft.lt _ rfl
    · exact h.hfa.lt _ rfl
    · exact h.hev.lt _ rfl
  · intro i x v hx hv
    have hxb : x = blank := by
      unfold DSt.new at hx
      exact List.eq_of_mem_replicate (List.mem_of_getElem? hx)
    subst hxb
    obtain ⟨A, c, rfl, hs, he⟩ := h.ef v (List.mem_of_getElem? hv)
    refine ⟨A, c, rfl, hs, fun ad ha => ?_⟩
    obtain ⟨h1, h2, h3, h4⟩ := he ad ha
    refine ⟨⟨h1, (hs.at_ ad ha (by omega)).1⟩, ?_⟩
    intro hk
    simp only [RB.all, List.mem_cons, List.not_mem_nil, or_false, not_or] at hk h2
    rcases hk with e | e | e | e | e | e | e
    · exact h2.1 e
    · exact h3 (by rw [e]; rfl)
    · exact h4 (by rw [e]; rfl)
    · exact h2.2.1 e
    · exact h2.2.2.1 e
    · exact h2.2.2.2.1 e
    · exact h2.2.2.2.2 e
  · intro i x v hx hv
    have hxb : x = blank := by
      unfold DSt.new at hx
      exact List.eq_of_mem_replicate (List.mem_of_getElem? hx)
    subst hxb
    obtain ⟨A, c, rfl, hs, he⟩ := h.en v (List.mem_of_getElem? hv)
    refine ⟨A, c, rfl, hs, fun ad ha => ?_⟩
    obtain ⟨h1, h2, h3, h4⟩ := he ad ha
    refine ⟨⟨h1, (hs.at_ ad ha (by omega)).1⟩, ?_⟩
    intro hk
    simp only [RB.all, List.mem_cons, List.not_mem_nil, or_false, not_or] at hk h2
    rcases hk with e | e | e | e | e | e | e
    · exact h2.1 e
    · exact h3 (by rw [e]; rfl)
    · exact h4 (by rw [e]; rfl)
    · exact h2.2.1 e
    · exact h2.2.2.1 e
    · exact h2.2.2.2.1 e
    · exact h2.2.2.2.2 e
end Go.Proofs.YtndbanfkiaockaaDoor
namespace Go.Proofs.YtndbanfkiaockaaDoor
open Go.RowKit

def NewCut (w : World) (N : Nat) (s3 : Value) (wx : World) : Prop := ∃ b : RB, s3 = .pointer (some ⟨b.p, 0, none⟩) ∧ NewM wx w.heap.size b N 0 0 (.slice none 0 0) (.slice none 0 0) [] [] ∧ Below w.heap.size w wx
theorem own_falses {w : World} {B g N : Nat} (h : w.heap[g]? = some (.cells (falses N) 4 (0, 0))) (hB : B ≤ g) (hN : N ≤ 100000) : OwnV 4 w B (.slice (some ⟨g, 0, none⟩) N N) ((List.replicate N false).map Value.bool) := by
  have hl : ((List.replicate N false).map Value.bool).length = N := by simp
  refine ⟨by rw [Nat.mul_one], .inr ⟨g, N, falses N, by rw [hl], hB, h, by rw [hl]; exact Nat.le_refl _, by unfold maxLen; omega, by unfold falses; rw [size_madeCells, Nat.mul_one], ?_⟩⟩
  rw [falses_list, hl, Nat.mul_one, List.take_of_length_le (by rw [hl]; exact Nat.le_refl _)]
/-- the four lists and the box, laid in whatever order -/
theorem newCut_mk {w : World} {N a b c d : Nat} (hN : N ≤ 100000) (ha : w.heap.size ≤ a ∧ a < w.heap.size + 4) (hb : w.heap.size ≤ b ∧ b < w.heap.size + 4) (hc : w.heap.size ≤ c ∧ c < w.heap.size + 4) (hd : w.heap.size ≤ d ∧ d < w.heap.size + 4) (hne : a ≠ b ∧ a ≠ c ∧ a ≠ d ∧ b ≠ c ∧ b ≠ d ∧ c ≠ d) :
    NewCut w N (.pointer (some ⟨w.heap.size + 1 + 1 + 1 + 1, 0, none⟩)) (((((w.alloc (.cells (falses N) 4)).alloc (.cells (falses N) 4)).alloc (.cells (falses N) 4)).alloc (.cells (falses N) 4)).alloc (.cells #[.slice none 0 0, .slice none 0 0, .slice (some ⟨a, 0, none⟩) N N, .slice (some ⟨b, 0, none⟩) N N, .slice (some ⟨c, 0, none⟩) N N, .slice (some ⟨d, 0, none⟩) N N, .int .i64 0, .int .i64 0, .bool false] 57)).drew := by
  generalize hbx : (#[.slice none 0 0, .slice none 0 0, .slice (some ⟨a, 0, none⟩) N N, .slice (some ⟨b, 0, none⟩) N N, .slice (some ⟨c, 0, none⟩) N N, .slice (some ⟨d, 0, none⟩) N N, .int .i64 0, .int .i64 0, .bool false] : Array Value) = bx
  have hat : ∀ t, w.heap.size ≤ t → t < w.heap.size + 4 → (((((w.alloc (.cells (falses N) 4)).alloc (.cells (falses N) 4)).alloc (.cells (falses N) 4)).alloc (.cells (falses N) 4)).alloc (.cells bx 57)).drew.heap[t]? = some (.cells (falses N) 4 (0, 0)) := by
    intro t h1 h2
    show (((((w.heap.push _).push _).push _).push _).push _)[t]? = _
    simp only [Array.getElem?_push, Array.size_push]
    rw [if_neg (by omega)]
    by_cases h3 : t = w.heap.size + 1 + 1 + 1
    · rw [if_pos h3]
    · rw [if_neg h3]
      by_cases h4 : t = w.heap.size + 1 + 1
      · rw [if_pos h4]
      · rw [if_neg h4]
        by_cases h5 : t = w.heap.size + 1
        · rw [if_pos h5]
        · rw [if_neg h5, if_pos (by omega)]
  have hbox : (((((w.alloc (.cells (falses N) 4)).alloc (.cells (falses N) 4)).alloc (.cells (falses N) 4)).alloc (.cells (falses N) 4)).alloc (.cells bx 57)).drew.heap[w.heap.size + 1 + 1 + 1 + 1]? = some (.cells bx 57 (0, 0)) := by
    show (((((w.heap.push _).push _).push _).push _).push _)[w.heap.size + 1 + 1 + 1 + 1]? = _
    rw [Array.getElem?_push, if_pos (by simp)]
  have hbl : Below w.heap.size w (((((w.alloc (.cells (falses N) 4)).alloc (.cells (falses N) 4)).alloc (.cells (falses N) 4)).alloc (.cells (falses N) 4)).alloc (.cells bx 57)).drew :=
    below_drewN (((((((Below.refl _ _).alloc (Nat.le_refl _) _).alloc (by simp) _).alloc (by simp; omega) _).alloc (by simp; omega) _).alloc (by simp; omega) _)) 1
  refine ⟨⟨w.heap.size + 1 + 1 + 1 + 1, 0, 0, 0, 0, a, b, c, d⟩, rfl, ⟨by subst hbx; exact hbox, OwnV.nil _ _ _, OwnV.nil _ _ _, own_falses (hat a ha.1 ha.2) ha.1 hN, own_falses (hat b hb.1 hb.2) hb.1 hN, own_falses (hat c hc.1 hc.2) hc.1 hN, own_falses (hat d hd.1 hd.2) hd.1 hN, by show w.heap.size ≤ w.heap.size + 1 + 1 + 1 + 1; omega, rfl, rfl, ?_, (fun g h => by cases h), (fun g h => by cases h), (fun g h => by cases h), (fun v h => by cases h), (fun v h => by cases h)⟩, hbl⟩
  simp only [List.nodup_cons, List.mem_cons, List.not_mem_nil, or_false, not_or, not_false_eq_true, List.nodup_nil, and_true]
  omega
set_option maxRecDepth 100000 in
set_option maxHeartbeats 4000000 in
theorem refNew_any (N : Nat) (w : World) (hN : N ≤ 6000) (h0 : 0 < N) :
    Calls Tryd.prog 11 #[.int .i64 (N : Int)] w fun e w' => ∃ p F, e = .returned (.pointer (some ⟨p, 0, none⟩)) ∧ RefDev w' p (DSt.new N) F ∧ Below w.heap.size w w' ∧ ∀ k, F k → w.heap.size ≤ k := by
  have hmk := make_bools N (by omega)
  go_enter Tryd.func11, Tryd.ntmps11
  go_upto_region 1 with fail
  go_cut [3] (fun s3 wx => NewCut w N s3 wx)
  case first =>
    go_region
    all_goals (go_wp2_with fail; go_meet)
    all_goals exact newCut_mk (by omega) (by omega) (by omega) (by omega) (by omega) (by omega)
  case rest =>
    obtain ⟨b, rfl, hm, hb⟩ := hcut
    have HM := hid hm
    have HB := hid hb
    obtain ⟨i0, hi, hz0, hz1, hz2⟩ := info_parts Tryd.info33
    have hmb := make_block
    clear hm hb hmk
    go_wp2
    go_loopw [4] (fun i wr => ∃ (k : Nat) (vf vw : Value) (fl nx : List Value), k ≤ N ∧ i = .int .i64 (k : Int) ∧ NewM wr w.heap.size b N k k vf vw fl nx ∧ Below w.heap.size w wr) (fun i _ => N - (intOf i).toNat)
    case atStart => exact ⟨0, _, _, _, _, by omega, rfl, HM.out, HB.out⟩
    case round =>
      obtain ⟨k, vf, vw, fl, nx, hk, rfl, hm1, hb1⟩ := hrel
      have HM1 := hid hm1
      have HB1 := hid hb1
      have c0 := hm1.box.cell 0
      have g0 := hm1.box.free 0
      simp at c0
      clear hm1 hb1
      by_cases hlt : k < N
      · go_upto_region 5 with fail
        have hof := hid (show wr.ownsRow w.heap.size 33 1 vf k fl from by have := HM1.out.hfl; unfold OwnV at this; rwa [HM1.out.lf] at this)
        have hnews := hid (show ∀ (j : Nat) (u : Value), [Value.slice (some ⟨wr.heap.size, 0, none⟩) 256 256][j]? = some u → ((wr.alloc (.cells zcells 5)).alloc (.cells #[.slice (some ⟨wr.heap.size, 0, none⟩) 256 256] 33)).drew.cell? ((⟨wr.heap.size + 1, 0, none⟩ : Addr).add j) = some u from by
          have := cell_one_new (wr.alloc (.cells zcells 5)) (.slice (some ⟨wr.heap.size, 0, none⟩) 256 256) 33
          rw [World.size_alloc] at this
          exact this)
        have hpl := HM1.out.box.lt
        have cA := (World.cell?_alloc_lt wr (.cells zcells 5) ⟨b.p, 0, none⟩ hpl).trans c0
        have cB := (World.cell?_alloc_lt (wr.alloc (.cells zcells 5)) (.cells #[.slice (some ⟨wr.heap.size, 0, none⟩) 256 256] 33) ⟨b.p, 0, none⟩ (by simp; omega)).trans cA
        go_cut [] (fun wx => ∃ vf' fl', NewM wx w.heap.size b N (k + 1) k vf' vw fl' nx ∧ Below w.heap.size w wx)
        case first =>
          go_region_law (refine step_append_lies _ rfl (.tmp 24) (.tmp 26) 54 rfl w.heap.size 33 i0 (.slice none 0 0) 1 24 Tryd.underlying54 hi hz0 hz1 hz2 rfl (by decide) vf k fl (by simp [Act.eval]) ((World.ownsRow.alloc hof.out _).alloc _) ⟨wr.heap.size + 1, 0, none⟩ 1 1 [.slice (some ⟨wr.heap.size, 0, none⟩) 256 256] (by simp [Act.eval]) rfl hnews.out (by intro u hu; simp at hu; subst hu; rfl) (by omega) (by unfold maxLen; omega) (by omega) (by have := HB1.out.size; simp; omega) _ rfl ?_; intro g cap w2 hown hgrow hat _; have HR := hid (HM1.out.push_f hown hgrow (hat.imp id (fun e => by simpa [World.drew] using e)) HB1.out.size); have hbp := HM1.out.stays hgrow (fun e => HM1.out.of _ e (by simp)); have d0 := (World.cell?_of_block (a := ⟨b.p, 0, none⟩) hbp).trans c0; have f0 := (World.frozen?_of_block (a := ⟨b.p, 0, none⟩) hbp).trans g0; clear hown hgrow hat hbp)
          all_goals (go_wp2_with fail; go_meet)
          all_goals exact ⟨_, _, HR.out.1, HB1.out.trans HR.out.2⟩
        case rest =>
          rename World => wx
          obtain ⟨vf', fl', hm2, hb2⟩ := hcut
          have HM2 := hid hm2
          have HB2 := hid hb2
          have c1 := hm2.box.cell 1
          have g1 := hm2.box.free 1
          simp at c1
          clear hm2 hb2 cA cB c0 g0 hpl hof hnews
          go_upto_region 6 with fail
          have hof := hid (show wx.ownsRow w.heap.size 33 1 vw k nx from by have := HM2.out.hnx; unfold OwnV at this; rwa [HM2.out.ln] at this)
          have hnews := hid (show ∀ (j : Nat) (u : Value), [Value.slice (some ⟨wx.heap.size, 0, none⟩) 256 256][j]? = some u → ((wx.alloc (.cells zcells 5)).alloc (.cells #[.slice (some ⟨wx.heap.size, 0, none⟩) 256 256] 33)).drew.cell? ((⟨wx.heap.size + 1, 0, none⟩ : Addr).add j) = some u from by
            have := cell_one_new (wx.alloc (.cells zcells 5)) (.slice (some ⟨wx.heap.size, 0, none⟩) 256 256) 33
            rw [World.size_alloc] at this
            exact this)
          have hpl := HM2.out.box.lt
          have cA := (World.cell?_alloc_lt wx (.cells zcells 5) ⟨b.p, 1, none⟩ hpl).trans c1
          have cB := (World.cell?_alloc_lt (wx.alloc (.cells zcells 5)) (.cells #[.slice (some ⟨wx.heap.size, 0, none⟩) 256 256] 33) ⟨b.p, 1, none⟩ (by simp; omega)).trans cA
          go_region_law (refine step_append_lies _ rfl (.tmp 34) (.tmp 36) 54 rfl w.heap.size 33 i0 (.slice none 0 0) 1 24 Tryd.underlying54 hi hz0 hz1 hz2 rfl (by decide) vw k nx (by simp [Act.eval]) ((World.ownsRow.alloc hof.out _).alloc _) ⟨wx.heap.size + 1, 0, none⟩ 1 1 [.slice (some ⟨wx.heap.size, 0, none⟩) 256 256] (by simp [Act.eval]) rfl hnews.out (by intro u hu; simp at hu; subst hu; rfl) (by omega) (by unfold maxLen; omega) (by omega) (by have := HB2.out.size; simp; omega) _ rfl ?_; intro g cap w2 hown hgrow hat _; have HR := hid (HM2.out.push_w hown hgrow (hat.imp id (fun e => by simpa [World.drew] using e)) HB2.out.size); have hbp := HM2.out.stays hgrow (fun e => HM2.out.ow _ e (by simp)); have d1 := (World.cell?_of_block (a := ⟨b.p, 1, none⟩) hbp).trans c1; have f1 := (World.frozen?_of_block (a := ⟨b.p, 1, none⟩) hbp).trans g1; clear hown hgrow hat hbp)
          all_goals
            clear cA cB c1 g1 d1 f1 hpl hof hnews
            go_wp2
            go_roundw
            case rel => exact ⟨k + 1, vf', _, fl', _, by omega, by go_num, HR.out.1, HB2.out.trans HR.out.2⟩
            case measure => simp [intOf]; omega
      · obtain rfl : k = N := by omega
        have HF := hid (HM1.out.whole h0)
        go_wp2
        go_ret
        exact ⟨_, _, rfl, HF.out.1, HB1.out, HF.out.2⟩
end Go.Proofs.YtndbanfkiaockaaDoor
