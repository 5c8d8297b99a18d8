/- Package path's Split, and the document's. -/
import Derived.Test.YtjoajjndopfbmaaDoorGPaG
import Derived.RegionTactic
import Derived.Deep.RegionLaw
import Derived.Deep.DeepCutAuto
namespace Go.Proofs.YtjoajjndopfbmaaDoor
open Go.RowKit Go.Shelf Go.Lib

def splC (l : List Nam) : Int := if l = [] ∨ l.getLast? = some [46, 46] then 114 else 0
def splH (l : List Nam) : List Nam := if splC l = 0 then l.dropLast else []
def splE (l : List Nam) : Nam := if splC l = 0 then l.getLastD [] else []
/-- what Split hands back -/
def SplO (S : Nat → Addr) (l : List Nam) (w : World) (e : Ending) (w' : World) : Prop :=
  ∃ A n c ve, e = .returned (.tuple #[.agg #[.slice A n c, .bool false], encStr (splE l), ve]) ∧ EV S (splC l) ve ∧ St w' w'.heap.size A n c (splH l) ∧ Below w.heap.size w w'
theorem spl_ways (l : List Nam) : (l = [] ∧ splC l = 114 ∧ splH l = [] ∧ splE l = []) ∨ ∃ m x, l = m ++ [x] ∧ ((x = [46, 46] ∧ splC l = 114 ∧ splH l = [] ∧ splE l = []) ∨ (x ≠ [46, 46] ∧ splC l = 0 ∧ splH l = m ∧ splE l = x)) := by
  rcases List.eq_nil_or_concat l with rfl | ⟨m, x, rfl⟩
  · exact .inl ⟨rfl, rfl, rfl, rfl⟩
  · rw [List.concat_eq_append]
    refine .inr ⟨m, x, rfl, ?_⟩
    by_cases hx : x = [46, 46]
    · have hc : splC (m ++ [x]) = 114 := by rw [splC, if_pos (.inr (by simp [hx]))]
      exact .inl ⟨hx, hc, by rw [splH, hc]; rfl, by rw [splE, hc]; rfl⟩
    · have hc : splC (m ++ [x]) = 0 := by rw [splC, if_neg (by simp [hx])]
      exact .inr ⟨hx, hc, by rw [splH, if_pos hc]; simp, by rw [splE, if_pos hc]; simp⟩
theorem ot_st {w : World} {B n c : Nat} {A : Option Addr} {l : List Nam} (h : Ot w B (.slice A n c) l) : St w w.heap.size A n c l ∧ ∀ ad, A = some ad → B ≤ ad.block := by
  obtain ⟨A', c', he, hst, hA⟩ := Ot.is h
  cases he
  exact ⟨hst, hA⟩
theorem cell_far {w : World} {p a : Addr} {v u : Value} (h : w.cell? a = some v) (hp : a.block ≠ p.block) : (w.setCell p u).cell? a = some v := (World.cell?_of_block (w := w) (Below.heap_setCell w p u a.block hp)).trans h
theorem step_append_st {w : World} {ops : Array Oper} {o : Oper} {a : Act} {K : Act → World → Prop} {Q : Exit → Act → World → Prop} {E : Prop} (hgd : o.guard = none) (s x : Operand)
    (ho : o.op = .call { callee := .builtin .append, args := #[s, x], argTypes := #[22, 22] }) (B B' : Nat) (v : Value) (l m : List Nam) (hs : a.eval s = v) (hown : Ot w B v l) (ad : Addr) (n c : Nat) (hx : a.eval x = .slice (some ad) n c)
    (hsl : St w B' (some ad) n c m) (hlen : l.length + n ≤ 1000000) (hB : B ≤ w.heap.size) (h : ∀ v' w', Ot w' B v' (l ++ m) → Below B w w' → K (a.put o.dst v') w') : if Region.wanted o (yielded ops a.tmps) = true then Oper.wp Tryd.prog o a w K Q else E := by
  obtain ⟨i0, hi, hz0, hz1, hz2⟩ := info_parts Tryd.infoS
  have hw : Region.wanted o (yielded ops a.tmps) = true := by simp [Region.wanted, hgd]
  rw [if_pos hw]
  refine wp_append_own w s x 22 ho B 9 i0 (.string ⟨#[]⟩) 1 16 Tryd.underlying22 hi hz0 hz1 hz2 rfl (by decide) v _ _ hs hown ad n c (Tx m) hx (by rw [Tx_len, hsl.size]; omega) ?_ Tx_one (by rw [Tx_len]; unfold maxLen; omega) (by rw [Tx_len]; omega) hB ?_
  · intro j u hu
    have hj : j < (Tx m).length := (List.getElem?_eq_some_iff.1 hu).1
    exact (hsl.at_ ad rfl (by have := hsl.len; omega)).2 j u hu
  · intro v' w' h1 h2 _
    refine h v' w' ?_ ((Below.refl _ _).grown h2 hB (fun k hk => (hown.lt k hk).1))
    unfold Ot OwnV
    rw [Tx_append, List.length_append, Tx_len m, hsl.size]
    exact h1
set_option maxRecDepth 100000 in
set_option maxHeartbeats 4000000 in
theorem split2_any (S : Nat → Addr) (A : Option Addr) (n c B : Nat) (l : List Nam) (b : Bool) (w : World) (hS : Sent w S) (h : St w B A n c l) (hB : B ≤ w.heap.size) (hn : n ≤ 1000) :
    Calls Tryd.prog 12 #[.agg #[.slice A n c, .bool b]] w (SplO S l w) := by
  obtain ⟨W, hW⟩ : ∃ W, (w.alloc (.cells #[.slice A n c, .bool b] 24)).alloc (.cells #[.slice none 0 0, .bool false] 24) = W := ⟨_, rfl⟩
  have hb0 : Below w.heap.size w W := by rw [← hW]; exact ((Below.refl _ _).alloc (Nat.le_refl _) _).alloc (by simp [World.size_alloc]) _
  have hWs : W.heap.size = w.heap.size + 2 := by rw [← hW]; simp [World.size_alloc]
  have hq : Blk W w.heap.size 24 #[.slice A n c, .bool b] := by rw [← hW]; exact (Blk.new w _ _).alloc _
  have hr : Blk W (w.heap.size + 1) 24 #[.slice none 0 0, .bool false] := by
    rw [← hW]
    have := Blk.new (w.alloc (.cells #[.slice A n c, .bool b] 24)) 24 #[.slice none 0 0, .bool false]
    rwa [World.size_alloc] at this
  have g0 : W.cell? ⟨0, 0, none⟩ = some (.iface 106 (.pointer (some (S 13)))) := (hb0.cell (World.block_lt_of_cell? w _ (hS.at_ 13 (by decide)))).trans (hS.at_ 13 (by decide))
  have q0 : W.cell? ⟨w.heap.size, 0, none⟩ = some (.slice A n c) := hq.cell 0
  have r0 : W.cell? ⟨w.heap.size + 1, 0, none⟩ = some (.slice none 0 0) := hr.cell 0
  have r1 : W.cell? ⟨w.heap.size + 1, 1, none⟩ = some (.bool false) := hr.cell 1
  have f0 := hr.free 0
  have f1 := hr.free 1
  have HB0 := hid hb0
  have HQ := hid hq
  have HR := hid hr
  have HW := hid hW
  have HS := hid (Sv.below h (hb0.mono hB))
  have HN := hid h.size
  clear hS h hb0 hq hr hW
  go_enter Tryd.func12, Tryd.ntmps12
  go_upto_region 1 with fail
  rw [HW.out]
  rcases spl_ways l with ⟨rfl, h1, h2, h3⟩ | ⟨m, x, rfl, ⟨hx, h1, h2, h3⟩ | ⟨hx, h1, h2, h3⟩⟩
  · obtain rfl : n = 0 := by have := HN.out; simpa using this.symm
    have HC := hid h1
    have HH := hid h2
    have HX := hid h3
    clear h1 h2 h3
    go_wp2_with fail
    go_region
    go_wp2
    have hF := (HR.out.put 0 (.slice none 0 0)).put 1 (.bool false)
    have k0 : _ = some (Value.slice none 0 0) := hF.cell 0
    have k1 : _ = some (Value.bool false) := hF.cell 1
    refine bodyPost_ret (v := .tuple #[.agg #[.slice none 0 0, .bool false], .string ⟨#[]⟩, .iface 106 (.pointer (some (S 13)))]) (by simp [results, Tryd.results12, go_sem, k0, k1]) rfl ?_
    refine ⟨none, 0, 0, _, by rw [HX.out], by rw [HC.out]; exact EV.err 13 (by decide), by rw [HH.out]; exact Sv.empty _ _, ?_⟩
    exact ((HB0.out.setCell (p := ⟨w.heap.size + 1, 0, none⟩) (by show w.heap.size ≤ w.heap.size + 1; omega) _).setCell (p := ⟨w.heap.size + 1, 1, none⟩) (by show w.heap.size ≤ w.heap.size + 1; omega) _).drew
  · obtain ⟨k, hk⟩ : ∃ k, m.length = k := ⟨_, rfl⟩
    obtain rfl : n = k + 1 := by have := HN.out; rw [List.length_append, hk] at this; simpa using this.symm
    obtain ⟨ad, y, rfl, hbl, hy, hc⟩ := St.at HS.out (k := k) (by omega)
    obtain rfl : y = [46, 46] := by rw [← hk, List.getElem?_append_right (Nat.le_refl _), Nat.sub_self, hx] at hy; simpa using hy.symm
    have HC := hid h1
    have HH := hid h2
    have HX := hid h3
    have hkm : k ≤ 1000 := by omega
    clear h1 h2 h3 hx hk hbl hy
    go_wp2_with fail
    go_region
    go_wp2
    have hF := (HR.out.put 0 (.slice none 0 0)).put 1 (.bool false)
    have k0 : _ = some (Value.slice none 0 0) := hF.cell 0
    have k1 : _ = some (Value.bool false) := hF.cell 1
    refine bodyPost_ret (v := .tuple #[.agg #[.slice none 0 0, .bool false], .string ⟨#[]⟩, .iface 106 (.pointer (some (S 13)))]) (by simp [results, Tryd.results12, go_sem, k0, k1]) rfl ?_
    refine ⟨none, 0, 0, _, by rw [HX.out], by rw [HC.out]; exact EV.err 13 (by decide), by rw [HH.out]; exact Sv.empty _ _, ?_⟩
    exact ((HB0.out.setCell (p := ⟨w.heap.size + 1, 0, none⟩) (by show w.heap.size ≤ w.heap.size + 1; omega) _).setCell (p := ⟨w.heap.size + 1, 1, none⟩) (by show w.heap.size ≤ w.heap.size + 1; omega) _).drew
  · obtain ⟨k, hk⟩ : ∃ k, m.length = k := ⟨_, rfl⟩
    obtain rfl : n = k + 1 := by have := HN.out; rw [List.length_append, hk] at this; simpa using this.symm
    obtain ⟨ad, y, rfl, hbl, hy, hc⟩ := St.at HS.out (k := k) (by omega)
    obtain rfl : y = x := by rw [← hk, List.getElem?_append_right (Nat.le_refl _), Nat.sub_self] at hy; simpa using hy.symm
    have t2 : (y == [46, 46]) = false := beq_eq_false_iff_ne.2 hx
    have HC := hid h1
    have HH := hid h2
    have HX := hid h3
    have hkm : k ≤ 1000 := by omega
    have HM := hid (show St W B (some ad) k c m by
      have := Sv.head HS.out (k := k) (by omega)
      rw [← Tx_take, show (m ++ [y]).take k = m by rw [← hk]; exact List.take_left] at this
      exact this)
    have HMd := hid (show St W.drew B (some ad) k c m from Sv.keep HM.out (fun _ _ => rfl))
    have HBL := hid hbl
    clear h1 h2 h3 hx hk hbl hy
    have hbk := World.block_lt_of_cell? W _ hc
    have HNE := hid (show (ad.add k).block ≠ w.heap.size + 1 by rw [add_block]; have := HBL.out; omega)
    have hkc : k ≤ c := by have := HS.out.cap; omega
    go_wp2_with fail
    go_region_law (refine step_append_st rfl (.const (.slice none 0 0)) (.tmp 25) rfl W.heap.size B (.slice none 0 0) [] m (by simp [Act.eval]) (OwnV.nil _ _ _) ad k c (by simp [Act.eval, Act.put]) HMd.out (by simp; omega) (Nat.le_refl _) ?_; intro v7 w7 hown7 hb7; obtain ⟨A7, m7, c7, hv7⟩ : ∃ A m c, v7 = .slice A m c := (let ⟨A, c, h, _⟩ := Ot.is hown7; ⟨_, _, _, h⟩); subst hv7; have HO7 := hid hown7; have HB7 := hid (show Below W.heap.size W w7 from ⟨hb7.os, hb7.tape, hb7.output, hb7.size, hb7.block⟩); have q7 := (HB7.out.cell (p := ⟨w.heap.size, 0, none⟩) HQ.out.lt).trans q0; have c7' := (HB7.out.cell hbk).trans hc; have hr7 := HR.out.below HB7.out HR.out.lt; have r70 : w7.cell? ⟨w.heap.size + 1, 0, none⟩ = some (.slice none 0 0) := hr7.cell 0; have r71 : w7.cell? ⟨w.heap.size + 1, 1, none⟩ = some (.bool false) := hr7.cell 1; have f70 := hr7.free 0; have f71 := hr7.free 1; have HR7 := hid hr7; have c8 := cell_far (u := .bool false) (p := ⟨w.heap.size + 1, 1, none⟩) (cell_far (u := .slice A7 m7 c7) (p := ⟨w.heap.size + 1, 0, none⟩) c7' HNE.out) HNE.out; clear hown7 hb7 hr7)
    all_goals
      clear q7 c7' r70 r71 f70 f71 c8
      go_wp2
      have hF := (HR7.out.put 0 (.slice A7 m7 c7)).put 1 (.bool false)
      have k0 : _ = some (Value.slice A7 m7 c7) := hF.cell 0
      have k1 : _ = some (Value.bool false) := hF.cell 1
      refine bodyPost_ret (v := .tuple #[.agg #[.slice A7 m7 c7, .bool false], encStr y, .nilIface]) (by simp [results, Tryd.results12, go_sem, k0, k1]) rfl ?_
      obtain ⟨hst7, hA7⟩ := ot_st HO7.out
      have hfar : ∀ ad, A7 = some ad → ad.block ≠ w.heap.size + 1 := fun ad h => by have := hA7 ad h; omega
      have hs := Sv.aside (Sv.aside hst7 (p := ⟨w.heap.size + 1, 0, none⟩) hfar (.slice A7 m7 c7)) (p := ⟨w.heap.size + 1, 1, none⟩) hfar (.bool false)
      refine ⟨A7, m7, c7, _, by rw [HX.out], by rw [HC.out]; exact EV.fine, ?_, ?_⟩
      · rw [HH.out]
        simpa using hs
      · exact (((HB0.out.trans (HB7.out.mono (by omega))).setCell (p := ⟨w.heap.size + 1, 0, none⟩) (by show w.heap.size ≤ w.heap.size + 1; omega) _).setCell (p := ⟨w.heap.size + 1, 1, none⟩) (by show w.heap.size ≤ w.heap.size + 1; omega) _)
end Go.Proofs.YtjoajjndopfbmaaDoor
