/- Put together out of 6 texts. A keep's Commit: nothing new; one leaf. -/
import Derived.Test.YtkhdgacjgccnnaaGreatDoorGXbj
import Derived.Lib.AppendZeros
import Derived.Test.YtkhdgacjgccnnaaGreatDoorGXbi
namespace Go.Proofs.YtkhdgacjgccnnaaGreatDoor
open Go.RowKit

theorem KRow.only {w w' : World} {B : Nat} {v : Value} {l : List Rec} {F : Nat → Prop} (h : KRow w B v l) (ho : Only F w w') (hn : ∀ k, v.ownBlock = some k → ¬ F k) : KRow w' B v l := by
  have hlt := h.lt
  rcases h.2 with ⟨rfl, h0⟩ | ⟨g, cap, cur, rfl, hb, hg, rest⟩
  · exact ⟨h.1, .inl ⟨rfl, h0⟩⟩
  · exact ⟨h.1, .inr ⟨g, cap, cur, rfl, hb, (ho.block g (hlt g rfl).2 (hn g rfl)).trans hg, rest⟩⟩
theorem Lf1.lsl {w : World} {B g cap n c : Nat} {r : Addr} {p : Int} {l : List Rec} (h : Lf1 w B g cap r n c p l) : LSl w w.heap.size (some ⟨g, 0, none⟩) 1 cap [(p, l)] :=
  ⟨rfl, h.cap1, h.capm, (fun e => by cases e), fun ad ha _ => by
    cases ha
    refine ⟨h.lt, fun j x hx => ?_⟩
    rcases j with _ | j
    · simp at hx
      subst hx
      refine ⟨r, n, c, ?_, ?_, h.rs⟩
      · rw [Addr.add_lit]; exact h.c0
      · rw [Addr.add_lit]; exact h.c1
    · simp at hx⟩
theorem LvO.on {w w' : World} {F : Nat → Prop} {lv : Value} {Ao : Option Addr} {no co : Nat} {l0 : List Rec} (h : LvO w F lv Ao no co l0) (hb : Below w.heap.size w w') : LvO w' F lv Ao no co l0 :=
  h.only (Only.of_below (F := fun _ => False) hb) (fun _ _ h => h)
/-- all records of the leaves as they were -/
theorem LvO.recs {w : World} {F : Nat → Prop} {lv : Value} {Ao : Option Addr} {no co : Nat} {l0 : List Rec} (h : LvO w F lv Ao no co l0) (hn : l0.length ≤ 10000) : Calls Tryz.prog 16 #[lv] w (RecO w l0) := by
  rcases h with ⟨rfl, _, _, _, rfl⟩ | ⟨Bo, go, capo, ro, rfl, h2, _⟩
  · exact recordsOf_any none 0 0 [] w (lsl_nil _ _) (by omega) (Nat.zero_le _)
  · have e : recsOf [((0 : Int), l0)] = l0 := by unfold recsOf; simp
    have h3 := recordsOf_any _ 1 capo [(0, l0)] w h2.lsl (by omega) (by rw [e]; exact hn)
    rw [e] at h3
    exact h3
theorem eqRec_yes (A A' : Option Addr) (n c n' c' : Nat) (l : List Rec) (B B' : Nat) (w : World) (h : RSl w B A n c l) (h' : RSl w B' A' n' c' l) :
    Calls Tryz.prog 15 #[.slice A n c, .slice A' n' c'] w (Quiet w (.bool true)) := by
  refine (eqRec_any A A' n c n' c' l l B B' w h h').mono ?_
  rintro e w' ⟨b, q, rfl, hb, rfl⟩
  rw [hb.2 rfl]
  exact ⟨rfl, q, rfl⟩
end Go.Proofs.YtkhdgacjgccnnaaGreatDoor
namespace Go.Proofs.YtkhdgacjgccnnaaGreatDoor
open Go.RowKit

section
variable {Real : World → Nat → DSt → (Nat → Prop) → Prop} {PR : World → Nat → Nat → Nat → Nat → (Nat → Prop) → Prop} {S : Nat → Addr} {w0 w : World} {d g n q mk : Nat} {T : Nat → Prop} {s : DSt} {P : PS} {ch : Chg} {cont : Cont}
end
end Go.Proofs.YtkhdgacjgccnnaaGreatDoor
namespace Go.Proofs.YtkhdgacjgccnnaaGreatDoor
open Go.RowKit

def lenOf : Value → Nat
  | .slice _ n _ => n
  | _ => 0
theorem laidR_split {l : List Rec} {k : Nat} {x : Rec} (h : l[k]? = some x) : laidR l = laidR (l.take k) ++ (recB x ++ laidR (l.drop (k + 1))) := by
  obtain ⟨hk, rfl⟩ := List.getElem?_eq_some_iff.1 h
  have e : l = l.take k ++ (l[k] :: l.drop (k + 1)) := by rw [← List.drop_eq_getElem_cons hk, List.take_append_drop]
  conv => lhs; rw [e]
  unfold laidR
  rw [List.flatMap_append, List.flatMap_cons]
theorem text_at {L R : List Int} {p : Nat} {s : ByteArray} (h : L.drop p = textB s ++ R) (hp : p ≤ L.length) (hs : s.size ≤ 1000) :
    scan (L.drop p) 0 0 = (0, zz (s.size : Int), p + (enc (s.size : Int)).length - p) ∧ unzz (zz (s.size : Int)) = (s.size : Int) ∧ p + (enc (s.size : Int)).length + s.size ≤ L.length ∧ strOfNums ((L.drop (p + (enc (s.size : Int)).length)).take s.size) = s ∧ L.drop (p + (enc (s.size : Int)).length + s.size) = R := by
  unfold textB at h
  rw [List.append_assoc] at h
  have h1 : L.drop (p + (enc (s.size : Int)).length) = str s ++ R := by rw [← List.drop_drop, h, List.drop_left' rfl]
  have hl := congrArg List.length h
  simp only [List.length_drop, List.length_append, str_len] at hl
  refine ⟨?_, unzz_zz _, by omega, ?_, ?_⟩
  · rw [h, scan_num (by omega) (by omega), Nat.add_sub_cancel_left]
  · rw [h1, List.take_left' (str_len s), str_of]
  · rw [← List.drop_drop, h1, List.drop_left' (str_len s)]
theorem KRow.base {w : World} {B B' : Nat} {v : Value} {l : List Rec} (h : KRow w B v l) (hB : B' ≤ B) : KRow w B' v l := by
  rcases h.2 with ⟨rfl, h0⟩ | ⟨g, cap, cu, rfl, hg, rest⟩
  · exact ⟨h.1, .inl ⟨rfl, h0⟩⟩
  · exact ⟨h.1, .inr ⟨g, cap, cu, rfl, by omega, rest⟩⟩
theorem Rdr.same {w w' : World} {g n c : Nat} {A : Option Addr} {l : List Int} {p : Int} {ev : Value} (h : Rdr w g A n c l p ev) (hb : Below (g + 1) w w') : Rdr w' g A n c l p ev :=
  ⟨h.blk.below hb (Nat.lt_succ_self g), h.sl.below (hb.mono (Nat.le_succ g))⟩
theorem Errs.below {w w' : World} {aR aE aS : Addr} (h : Errs w aR aE aS) (hb : Below w.heap.size w w') : Errs w' aR aE aS :=
  ⟨(hb.cell (World.block_lt_of_cell? w _ h.range)).trans h.range, (hb.cell (World.block_lt_of_cell? w _ h.ends)).trans h.ends, (hb.cell (World.block_lt_of_cell? w _ h.shape)).trans h.shape⟩
set_option maxRecDepth 100000 in
set_option maxHeartbeats 4000000 in
theorem keepTold_any (A : Option Addr) (n c : Nat) (l : List Rec) (aR aE aS : Addr) (w : World) (h : Sl w w.heap.size A n c (laidR l)) (hn : n ≤ 248) (hs : ∀ x, x ∈ l → x.1.size ≤ 40 ∧ x.2.size ≤ 120) (hE : Errs w aR aE aS) :
    Calls Tryz.prog 69 #[.slice A n c] w fun e w' => ∃ v, e = .returned (.tuple #[v, .nilIface]) ∧ KRow w' w.heap.size v l ∧ Below w.heap.size w w' := by
  obtain ⟨i0, hi, hz0, hz1, hz2⟩ := info_parts Tryz.infoRec
  have HNr := hid (newReader_any A n c (laidR l) w h (by omega))
  have hlen := h.len
  have HEr := hid hE
  have HSz := hid hs
  have hyt : Byt (laidR l) := laidR_byt (fun x hx => by have := hs x hx; omega)
  have HY := hid hyt
  have HLn := hid hlen
  clear h hs hE hyt hlen
  go_enter Tryz.func69, Tryz.ntmps69
  go_wp2_with fail
  refine HNr.out.mono ?_
  rintro e w1 ⟨g, A1, c1, rfl, hg, hr, hb, hA⟩
  have HR1 := hid hr
  have HB1 := hid hb
  have hgl := hr.lt
  have hkl : l.length ≤ 248 := by
    have h1 : ∀ k, k ≤ l.length → k ≤ (laidR (l.take k)).length := by
      intro k
      induction k with
      | zero => intro _; exact Nat.zero_le _
      | succ k ih =>
        intro hk
        have e := laidR_take (l := l) (k := k) (x := l[k]) (List.getElem?_eq_getElem (by omega))
        have h2 := ih (by omega)
        have h3 := enc_pos (l[k].1.size : Int)
        rw [e, List.length_append]
        unfold recB textB
        simp only [List.length_append]
        omega
    have h2 := h1 l.length (Nat.le_refl _)
    have h3 := laidR_part l l.length
    have := HLn.out
    omega
  clear hr hb
  go_wp2
  go_loopw [4] (fun ov wr => ∃ k : Nat, k ≤ l.length ∧ KRow wr (g + 1) ov (l.take k) ∧ Rdr wr g A1 n c1 (laidR l) ((laidR (l.take k)).length : Int) .nilIface ∧ Below w.heap.size w wr) (fun ov _ => l.length - lenOf ov)
  case atStart => exact ⟨0, Nat.zero_le _, krow_nil _ _, HR1.out, HB1.out⟩
  case round =>
    obtain ⟨k, hk, hown, hrd, hb⟩ := hrel
    have HB := hid hb
    have HO := hid hown
    have HRd := hid hrd
    have hgw := hrd.lt
    obtain ⟨A2, n2, c2, rfl, hn2, _⟩ := hown.form
    by_cases hlt : k < l.length
    · obtain ⟨x, hx⟩ : ∃ x, l[k]? = some x := ⟨_, List.getElem?_eq_getElem hlt⟩
      have hsx := HSz.out x (List.mem_of_getElem? hx)
      have hsp := laidR_split hx
      have hnx := laidR_take hx
      have HTk := hid (takeRc_next hx)
      obtain ⟨p, hp⟩ : ∃ p, (laidR (l.take k)).length = p := ⟨_, rfl⟩
      obtain ⟨L, hL⟩ : ∃ L, laidR l = L := ⟨_, rfl⟩
      have hd0 : L.drop p = textB x.1 ++ (textB x.2 ++ laidR (l.drop (k + 1))) := by
        rw [← hL, hsp, List.drop_left' hp]
        unfold recB
        rw [List.append_assoc]
      have hpl : p ≤ L.length := by rw [← hL, hsp, List.length_append, hp]; omega
      obtain ⟨q1, hq1⟩ : ∃ q, p + (enc (x.1.size : Int)).length = q := ⟨_, rfl⟩
      obtain ⟨s1, s2, s3, s4, s5⟩ := text_at hd0 hpl (by omega)
      rw [hq1] at s1 s3 s4 s5
      obtain ⟨q2, hq2⟩ : ∃ q, q1 + x.1.size + (enc (x.2.size : Int)).length = q := ⟨_, rfl⟩
      obtain ⟨t1, t2, t3, t4, t5⟩ := text_at s5 s3 (by omega)
      rw [hq2] at t1 t3 t4 t5
      have hpk : (laidR (l.take (k + 1))).length = q2 + x.2.size := by
        rw [hnx, List.length_append, hp]
        unfold recB textB
        simp only [List.length_append, str_len]
        omega
      have hln : L.length = n := by rw [← hL]; exact HLn.out
      rw [hL] at HRd HY
      rw [hp] at HRd
      have hgr := hrd.sl
      have hM : (0 : Int) < ((n - p : Nat) : Int) := by have := (enc_len (x.1.size : Int)).1; omega
      have HLe := hid (left_any HRd.out (by omega) (by omega))
      obtain ⟨M, hMe⟩ : ∃ M : Nat, n - p = M := ⟨_, rfl⟩
      rw [hMe] at hM HLe
      have HT1 := hid (fun k2 => text_ok (aR := aR) (aE := aE) (aS := aS) 40 (HRd.out.drewN k2) (HEr.out.below (below_drewN HB.out k2)) HY.out (by omega) s1 (by omega) s2 (by omega) (by omega))
      rw [s4] at HT1
      have HT2 := hid (fun (W : World) (hb : Below w.heap.size w W) (hr : Rdr W g A1 n c1 L ((q1 + x.1.size : Nat) : Int) .nilIface) => text_ok (aR := aR) (aE := aE) (aS := aS) 120 hr (HEr.out.below hb) HY.out (by omega) t1 (by omega) t2 (by omega) (by omega))
      rw [t4] at HT2
      have HPk := hid hpk
      clear hown hrd hb hx hsx hsp hnx hd0 hpl s1 s2 s3 s4 s5 t1 t2 t3 t4 t5 hpk hgr hMe hq1 hq2
      go_wp2_with fail
      refine (err_any HRd.out).mono ?_
      rintro e w2 ⟨rfl, rfl⟩
      go_wp2_with fail
      refine HLe.out.mono ?_
      rintro e w2 ⟨rfl, k2, rfl⟩
      go_wp2_with fail
      refine (HT1.out k2).mono ?_
      rintro e w2 ⟨rfl, hr2, hg2⟩
      have HB2 := hid (show Below w.heap.size w w2 from (below_drewN HB.out k2).grown hg2 HB.out.size (fun j hj => by injection hj with hj; omega))
      have HO2 := hid (show KRow w2 (g + 1) (.slice A2 n2 c2) (l.take k) from (HO.out.on (below_drewN (Below.refl _ _) k2)).kept hg2 (fun j hj => by have := (HO.out.lt j hj).1; omega))
      have HR2 := hid hr2
      clear hr2 hg2
      go_wp2_with fail
      refine (HT2.out w2 HB2.out HR2.out).mono ?_
      rintro e w3 ⟨rfl, hr3, hg3⟩
      have HB3 := hid (show Below w.heap.size w w3 from HB2.out.grown hg3 HB2.out.size (fun j hj => by injection hj with hj; omega))
      have HO3 := hid (show KRow w3 (g + 1) (.slice A2 n2 c2) (l.take k) from HO2.out.kept hg3 (fun j hj => by have := (HO2.out.lt j hj).1; omega))
      have HR3 := hid hr3
      have hg3' := hr3.lt
      have hkk : (l.take k).length = k := by rw [List.length_take]; omega
      clear hr3 hg3
      go_wp2_with (at_builtin; refine wpList_append_own _ rfl _ _ 48 rfl (g + 1) 44 i0 (.agg #[.string ⟨#[]⟩, .string ⟨#[]⟩]) 2 32 Tryz.underlying48 hi hz0 hz1 hz2 rfl (by decide) _ _ _ rfl (World.ownsRow.alloc HO3.out _) ⟨w3.heap.size, 0, none⟩ 1 1 (recC [x]) rfl rfl ?c1 (recC_one _) ?c3 ?c4 ?c5 ?_)
      case c1 => exact argR_cells (Blk.new w3 _ _)
      case c3 => rw [hkk]; unfold maxLen; omega
      case c4 => rw [hkk]; omega
      case c5 => simp; omega
      intro v' w5 hown' hgrow _
      have R1 := hid (show KRow w5 (g + 1) v' (l.take (k + 1)) from by
        show World.ownsRow _ _ _ _ _ _ _
        rw [HTk.out, recC_app, List.length_append, hn2]
        simpa using hown')
      have R2 := hid (show Below w.heap.size w w5 from (HB3.out.alloc HB3.out.size _).grown hgrow (by have := HB3.out.size; simp; omega) (fun q hq => by have := (HO3.out.lt q hq).1; omega))
      have R3 := hid (show Rdr w5 g A1 n c1 L ((laidR (l.take (k + 1))).length : Int) .nilIface from by
        rw [HPk.out]
        exact HR3.out.same (((Below.refl (g + 1) w3).alloc (by omega) _).grown hgrow (by simp; omega) (fun q hq => (HO3.out.lt q hq).1)))
      have hlo : lenOf v' = k + 1 := by
        obtain ⟨A5, n5, c5, rfl, h5, _⟩ := R1.out.form
        rw [List.length_take] at h5
        show n5 = _
        omega
      have hlo0 : lenOf (.slice A2 n2 c2) = k := by show n2 = k; omega
      clear hown' hgrow
      go_wp2
      go_roundw
      case rel => exact ⟨k + 1, by omega, R1.out, by rw [hL]; exact R3.out, R2.out⟩
      case measure => omega
    · have he : l.take k = l := List.take_of_length_le (by omega)
      rw [he] at HO HRd
      have HLe := hid (left_any HRd.out (by have := HLn.out; omega) (by omega))
      have hz : n - (laidR l).length = 0 := by have := HLn.out; omega
      rw [hz] at HLe
      clear hown hrd hb
      go_wp2_with fail
      refine (err_any HRd.out).mono ?_
      rintro e w2 ⟨rfl, rfl⟩
      go_wp2_with fail
      refine HLe.out.mono ?_
      rintro e w2 ⟨rfl, k2, rfl⟩
      go_wp2_with fail
      refine (err_any (HRd.out.drewN k2)).mono ?_
      rintro e w2 ⟨rfl, rfl⟩
      have HF := hid (show KRow (wr.drewN k2) w.heap.size (.slice A2 n2 c2) l ∧ Below w.heap.size w (wr.drewN k2) from ⟨(HO.out.on (below_drewN (Below.refl _ _) k2)).base (by omega), below_drewN HB.out k2⟩)
      go_wp2
      go_ret2
      exact ⟨_, rfl, HF.out⟩
end Go.Proofs.YtkhdgacjgccnnaaGreatDoor
namespace Go.Proofs.YtkhdgacjgccnnaaGreatDoor
open Go.RowKit

theorem less_cb : ∀ a b : List UInt8, Op.bytesLess a b = true → Lib.compareBytes a b < 0
  | _, [], h => by simp [Op.bytesLess] at h
  | [], _ :: _, _ => by simp [Lib.compareBytes]
  | a :: ta, b :: tb, h => by
    simp only [Op.bytesLess, Bool.or_eq_true, Bool.and_eq_true, decide_eq_true_eq, beq_iff_eq] at h
    unfold Lib.compareBytes
    rcases h with h | ⟨rfl, h⟩
    · rw [if_pos h]; decide
    · have h2 : ¬ a < a := UInt8.lt_irrefl a
      rw [if_neg h2, if_neg h2]
      exact less_cb ta tb h
theorem leq_no {a b : ByteArray} (h : kc b a < 0) : (Op.bytesLess a.toList b.toList || a.toList == b.toList) = false := by
  rw [ByteArray.toList_eq, ByteArray.toList_eq, Bool.or_eq_false_iff]
  have h1 := kc_swap b a
  constructor
  · rcases hb : Op.bytesLess a.data.toList b.data.toList with _ | _
    · rfl
    · have h2 : kc a b < 0 := less_cb _ _ hb
      omega
  · rw [beq_eq_false_iff_ne]
    intro e
    have e2 : a = b := show (⟨a.data⟩ : ByteArray) = ⟨b.data⟩ from congrArg ByteArray.mk (Array.ext' e)
    subst e2
    rw [kc_self] at h
    omega
theorem kc_empty {a : ByteArray} (h : 1 ≤ a.size) : kc ⟨#[]⟩ a < 0 := by
  unfold kc
  have h2 : a.data.toList.length = a.size := Array.length_toList
  generalize a.data.toList = l at h2
  rcases l with _ | ⟨x, t⟩
  · rw [List.length_nil] at h2; omega
  · show Lib.compareBytes [] (x :: t) < 0
    simp [Lib.compareBytes]
def lastK (l : List Rec) : Nat → ByteArray
  | 0 => ⟨#[]⟩
  | k + 1 => (l.getD k (⟨#[]⟩, ⟨#[]⟩)).1
theorem lastK_lt {l : List Rec} {k : Nat} {x : Rec} (hr : Ris l) (h1 : ∀ x, x ∈ l → 1 ≤ x.1.size) (hx : l[k]? = some x) : kc (lastK l k) x.1 < 0 := by
  rcases k with _ | k
  · exact kc_empty (h1 x (List.mem_of_getElem? hx))
  · have hk := (List.getElem?_eq_some_iff.1 hx).1
    have hy : l[k]? = some l[k] := List.getElem?_eq_getElem (by omega)
    have e : lastK l (k + 1) = l[k].1 := by
      show (l.getD k _).1 = _
      rw [List.getD_eq_getElem?_getD, hy]
      rfl
    rw [e]
    exact hr.lt (Nat.lt_succ_self k) hy hx
theorem lastK_next {l : List Rec} {k : Nat} {x : Rec} (hx : l[k]? = some x) : lastK l (k + 1) = x.1 := by
  show (l.getD k _).1 = _
  rw [List.getD_eq_getElem?_getD, hx]
  rfl
set_option maxRecDepth 100000 in
set_option maxHeartbeats 2000000 in
theorem rising_any (A : Option Addr) (n c : Nat) (l : List Rec) (w : World) (h : RSl w w.heap.size A n c l) (hr : Ris l) (h1 : ∀ x, x ∈ l → 1 ≤ x.1.size) :
    Calls Tryz.prog 72 #[.slice A n c] w fun e w' => e = .returned (.bool true) ∧ Below w.heap.size w w' := by
  have HS := hid h
  have HLt := hid (fun k x => lastK_lt (k := k) (x := x) hr h1)
  have hmx : n ≤ 9223372036854775807 := by have := h.cap; have := h.max; unfold maxLen at this; omega
  clear h hr h1
  go_enter Tryz.func72, Tryz.ntmps72
  go_wp2
  go_loopw [3, 8] (fun a b wr => ∃ k : Nat, k ≤ n ∧ a = .string (lastK l k) ∧ b = .int .i64 (k : Int) ∧ Below w.heap.size w wr) (fun _ b _ => n - (intOf b).toNat)
  case atStart => exact ⟨0, Nat.zero_le _, rfl, rfl, Below.refl _ _⟩
  case round =>
    obtain ⟨k, hk, rfl, rfl, hb⟩ := hrel
    have HB := hid hb
    by_cases hlt : k < n
    · obtain ⟨ad, x, rfl, hbl, hx, hc, hd⟩ := (HS.out.on hb).get hlt
      have hle := leq_no (HLt.out k x hx)
      have HNx := hid (lastK_next hx)
      have hki : (k : Int) < n := by omega
      have HB2 := hid (hb.alloc hb.size (.cells #[.string x.1, .string x.2] 44))
      clear hb hx
      go_wp2
      go_roundw
      case rel => exact ⟨k + 1, by omega, by rw [HNx.out], by go_num, HB2.out⟩
      case measure => simp [intOf]; omega
    · have hki : ¬ (k : Int) < n := by omega
      clear hb
      go_wp2
      go_ret
      exact ⟨rfl, HB.out⟩
end Go.Proofs.YtkhdgacjgccnnaaGreatDoor
namespace Go.Proofs.YtkhdgacjgccnnaaGreatDoor
open Go.RowKit

set_option maxRecDepth 100000 in
set_option maxHeartbeats 1000000 in
theorem growRec_any (n : Nat) (w : World) (h0 : 0 < n) (hn : n ≤ 1000) :
    Calls Tryz.prog 96 #[.slice none 0 0, .int .i64 (n : Int)] w (RecO w []) := by
  obtain ⟨i0, hi, hz0, hz1, hz2⟩ := info_parts Tryz.infoRec
  have hn1 : (n : Int) ≤ 1000 := by omega
  have hn0 : 0 < (n : Int) := by omega
  have hge := grownCap_ge w n 0 44
  have hcm : grownCap w n 0 44 ≤ maxLen := grownCap_le_maxLen w n 0 44 (by unfold maxLen; omega)
  have hrun := fun ty => Lib.run_append_nil_zeros (P := Tryz.prog) w 48 3 ty 44 i0 (.agg #[.string ⟨#[]⟩, .string ⟨#[]⟩]) .i64 .i64 Tryz.underlying48 Tryz.underlying3 hi hz0 n h0 (by rw [hz1]; omega) (by omega) (by rw [hz2]; omega)
  obtain ⟨cp, hcp⟩ : ∃ cp, grownCap w n 0 44 = cp := ⟨_, rfl⟩
  rw [hcp] at hrun hge hcm
  obtain ⟨cs, hcs⟩ : ∃ cs, Builtin.zeroCells (Value.agg #[.string ⟨#[]⟩, .string ⟨#[]⟩]).cells n ++ Builtin.zeroCells (Value.agg #[.string ⟨#[]⟩, .string ⟨#[]⟩]).cells (cp - n) = cs := ⟨_, rfl⟩
  have hsz : cs.size = cp * 2 := by
    rw [← hcs, Array.size_append, size_zeroCells, size_zeroCells]
    show n * 2 + (cp - n) * 2 = cp * 2
    omega
  rw [hcs] at hrun
  have HF := hid (show RecO w [] (.returned (.slice (some ⟨w.heap.size, 0, none⟩) 0 cp)) (w.drew.alloc (.cells cs 44)) from
    ⟨_, rfl, ⟨rfl, .inr ⟨w.heap.size, cp, cs, rfl, Nat.le_refl _, heap_alloc_new w.drew _, Nat.zero_le _, hcm, hsz, by simp [recC]⟩⟩, ((Below.refl w.heap.size w).drew).alloc (Nat.le_refl _) _⟩)
  have hR := hid hrun
  have hcp1 : (cp : Int) ≤ 9223372036854775807 := by unfold maxLen at hcm; omega
  clear hcp hcs hsz hrun hcm hge hi hz0 hz1 hz2
  go_enter Tryz.func96, Tryz.ntmps96
  go_wp2_with (at_builtin; refine Lib.wpList_append_run _ rfl _ _ 48 3 rfl _ _ rfl rfl _ _ (hR.out _) ?_)
  go_wp2
  go_ret
  exact HF.out
set_option maxRecDepth 100000 in
set_option maxHeartbeats 2000000 in
theorem concatRec_any (b : Nat) (ad ad' : Addr) (n c n' c' : Nat) (l l' : List Rec) (w : World) (hb : Blk w b 48 #[.slice (some ad) n c, .slice (some ad') n' c']) (h : RSl w w.heap.size (some ad) n c l) (h' : RSl w w.heap.size (some ad') n' c' l') (h0 : 0 < n + n') (hn : n + n' ≤ 900) :
    Calls Tryz.prog 56 #[.slice (some ⟨b, 0, none⟩) 2 2] w (RecO w (l ++ l')) := by
  obtain ⟨i0, hi, hz0, hz1, hz2⟩ := info_parts Tryz.infoRec
  have HK := hid hb
  have HS := hid h
  have HS' := hid h'
  obtain ⟨N, hN⟩ : ∃ N, N = n + n' := ⟨_, rfl⟩
  have HN := hid (show N = n + n' ∧ 0 < N ∧ N ≤ 900 from by omega)
  have k0 := hb.cell 0
  have k1 := hb.cell 1
  simp at k0 k1
  have hn1 : (n : Int) ≤ 900 := by omega
  have hn2 : (n' : Int) ≤ 900 := by omega
  clear hb h h' h0 hn hN
  go_enter Tryz.func56, Tryz.ntmps56
  go_wp2
  go_loopw [11, 3] (fun i s wr => ∃ (k z : Nat), i = .int .i64 (k : Int) ∧ s = .int .i64 (z : Int) ∧ ((k = 0 ∧ z = 0) ∨ (k = 1 ∧ z = n) ∨ (k = 2 ∧ z = N)) ∧ wr = w) (fun i _ _ => 2 - (intOf i).toNat)
  case atStart => exact ⟨0, 0, rfl, rfl, .inl ⟨rfl, rfl⟩, rfl⟩
  case round =>
    obtain ⟨k, z, rfl, rfl, hkz, rfl⟩ := hrel
    rcases hkz with ⟨rfl, rfl⟩ | ⟨rfl, rfl⟩ | ⟨rfl, rfl⟩
    · go_wp2
      go_roundw
      case rel => exact ⟨1, n, rfl, rfl, .inr (.inl ⟨rfl, rfl⟩), trivial⟩
      case measure => simp [intOf]
    · have hz0' : ((z : Int) + (n' : Int)) = (N : Int) := by have := HN.out; omega
      have hNN : 0 ≤ (z : Int) + (n' : Int) := by omega
      go_wp2
      go_roundw
      case rel => exact ⟨2, N, rfl, rfl, .inr (.inr ⟨rfl, rfl⟩), trivial⟩
      case measure => simp [intOf]
    · have hz9 : (z : Int) ≤ 900 := by have := HN.out; omega
      go_wp2_with fail
      refine (growRec_any z _ (by have := HN.out; omega) (by omega)).mono ?_
      rintro e w1 ⟨v, rfl, hown, hb1⟩
      have HO := hid hown
      have HB1 := hid hb1
      have HNN := hid (show z = n + n' from HN.out.1)
      clear hown hb1 hz9 k0 k1
      go_wp2
      go_loopw [27, 6] (fun i v wx => ∃ (k : Nat) (q : List Rec), i = .int .i64 (k : Int) ∧ KRow wx wr.heap.size v q ∧ ((k = 0 ∧ q = []) ∨ (k = 1 ∧ q = l) ∨ (k = 2 ∧ q = l ++ l')) ∧ Below wr.heap.size wr wx) (fun i _ _ => 2 - (intOf i).toNat)
      case atStart => exact ⟨0, [], rfl, HO.out, .inl ⟨rfl, rfl⟩, HB1.out⟩
      case round =>
        rename World => wx
        obtain ⟨k, q, rfl, hown, hkq, hb⟩ := hrel
        have HOw := hid hown
        have HBx := hid hb
        have HKx := hid (HK.out.below hb HK.out.lt)
        have HSx := hid (HS.out.on hb)
        have HSx' := hid (HS'.out.on hb)
        have k0 := HKx.out.cell 0
        have k1 := HKx.out.cell 1
        simp at k0 k1
        clear hown hb
        rcases hkq with ⟨rfl, rfl⟩ | ⟨rfl, rfl⟩ | ⟨rfl, rfl⟩
        · go_wp2_with (at_builtin; refine wpList_append_own _ rfl _ _ 48 rfl wr.heap.size 44 i0 (.agg #[.string ⟨#[]⟩, .string ⟨#[]⟩]) 2 32 Tryz.underlying48 hi hz0 hz1 hz2 rfl (by decide) _ 0 [] rfl HOw.out ad n c (recC l) rfl ?c0 (RSl.cells HSx.out) (recC_one l) ?c3 ?c4 ?c5 ?_)
          case c0 => rw [recC_len, HSx.out.len]
          case c3 => have := HNN.out; have := HN.out; unfold maxLen; omega
          case c4 => have := HNN.out; have := HN.out; omega
          case c5 => exact HBx.out.size
          intro v' w2 hown' hgrow _
          have HO2 := hid (show KRow w2 wr.heap.size v' l from by
            show World.ownsRow _ _ _ _ _ _ _; rw [HSx.out.len]; simpa using hown')
          have HB2 := hid (show Below wr.heap.size wr w2 from HBx.out.grown hgrow HBx.out.size (fun j hj => (World.ownsRow.lt HOw.out j hj).1))
          clear hown' hgrow
          go_wp2
          go_roundw
          case rel => exact ⟨1, l, rfl, HO2.out, .inr (.inl ⟨rfl, rfl⟩), HB2.out⟩
          case measure => simp [intOf]
        · have HOq := hid (show wx.ownsRow wr.heap.size 44 2 u6 n (recC q) from by have := HOw.out; unfold KRow at this; rwa [HSx.out.len] at this)
          go_wp2_with (at_builtin; refine wpList_append_own _ rfl _ _ 48 rfl wr.heap.size 44 i0 (.agg #[.string ⟨#[]⟩, .string ⟨#[]⟩]) 2 32 Tryz.underlying48 hi hz0 hz1 hz2 rfl (by decide) _ n (recC q) rfl HOq.out ad' n' c' (recC l') rfl ?c0 (RSl.cells HSx'.out) (recC_one l') ?c3 ?c4 ?c5 ?_)
          case c0 => rw [recC_len, HSx'.out.len]
          case c3 => have := HNN.out; have := HN.out; unfold maxLen; omega
          case c4 => have := HNN.out; have := HN.out; omega
          case c5 => exact HBx.out.size
          intro v' w2 hown' hgrow _
          have HO2 := hid (show KRow w2 wr.heap.size v' (q ++ l') from by
            show World.ownsRow _ _ _ _ _ _ _; rw [List.length_append, HSx.out.len, HSx'.out.len, recC_app]; exact hown')
          have HB2 := hid (show Below wr.heap.size wr w2 from HBx.out.grown hgrow HBx.out.size (fun j hj => (World.ownsRow.lt HOw.out j hj).1))
          clear hown' hgrow
          go_wp2
          go_roundw
          case rel => exact ⟨2, q ++ l', rfl, HO2.out, .inr (.inr ⟨rfl, rfl⟩), HB2.out⟩
          case measure => simp [intOf]
        · have HF := hid (show RecO wr (l ++ l') (.returned u6) wx from ⟨_, rfl, HOw.out, HBx.out⟩)
          go_wp2
          go_ret
          exact HF.out
end Go.Proofs.YtkhdgacjgccnnaaGreatDoor
namespace Go.Proofs.YtkhdgacjgccnnaaGreatDoor
open Go.RowKit

theorem lfC_set {xs : List (Int × Value)} {j : Nat} {p : Int} {u u' : Value} (h : xs[j]? = some (p, u)) : (lfC xs).set (j * 2 + 1) u' = lfC (xs.set j (p, u')) := by
  induction xs generalizing j with
  | nil => simp at h
  | cons y l ih =>
    have e : lfC (y :: l) = .int .i64 y.1 :: y.2 :: lfC l := rfl
    rcases j with _ | j
    · simp at h
      subst h
      rfl
    · simp at h
      rw [e, show (j + 1) * 2 + 1 = (j * 2 + 1) + 1 + 1 by omega, List.set_cons_succ, List.set_cons_succ, ih h, List.set_cons_succ]
      rfl
/-- a leaf's records are others now -/
theorem LOwn.setR {w : World} {B g n cap j : Nat} {Q : Nat → Prop} {L : List Lf} {p : Int} {l l' : List Rec} {r' : Addr} {n' c' : Nat} (h : LOwn w B Q (.slice (some ⟨g, 0, none⟩) n cap) L) (hj : L[j]? = some (p, l)) (hr : RSl w w.heap.size (some r') n' c' l') (hq : Q r'.block) (hne : r'.block ≠ g) : LOwn (w.setCell ⟨g, j * 2 + 1, none⟩ (.slice (some r') n' c')) B Q (.slice (some ⟨g, 0, none⟩) n cap) (L.set j (p, l')) := by
  obtain ⟨xs, h1, h2, h3⟩ := h
  obtain rfl : n = L.length := by
    rcases h2.2 with ⟨e, _⟩ | ⟨g', cap', cur, e, _⟩
    · cases e
    · cases e; rfl
  obtain ⟨k1, k2⟩ := h2.stored (j * 2 + 1) (.slice (some r') n' c')
  obtain ⟨r, m, c, e1, _, _, _⟩ := h3 j (p, l) hj
  have hS : ∀ {a : Addr} {m c : Nat} {q : List Rec}, RSl w w.heap.size (some a) m c q → a.block ≠ g → RSl (w.setCell ⟨g, j * 2 + 1, none⟩ (.slice (some r') n' c')) (w.setCell ⟨g, j * 2 + 1, none⟩ (.slice (some r') n' c')).heap.size (some a) m c q := fun {a m c q} hx ha =>
    hx.same (by simp) (fun ad hd h0 => by
      cases hd
      exact k2.block _ (hx.at_ a rfl h0).1 (by simpa using ha))
  refine ⟨xs.set j (p, .slice (some r') n' c'), by rw [List.length_set, List.length_set, h1], ?_, fun i x hx => ?_⟩
  · rw [List.length_set, ← lfC_set e1]
    exact k1
  · by_cases e : i = j
    · subst e
      have hi := (List.getElem?_eq_some_iff.1 hj).1
      rw [List.getElem?_set_self hi] at hx
      cases hx
      exact ⟨r', n', c', by rw [List.getElem?_set_self (by rw [h1]; exact hi)], hS hr hne, hq, fun g' hg' => by cases hg'; exact hne⟩
    · rw [List.getElem?_set_ne (fun e2 => e e2.symm)] at hx
      obtain ⟨r2, m2, c2, f1, f2, f3, f4⟩ := h3 i x hx
      exact ⟨r2, m2, c2, by rw [List.getElem?_set_ne (fun e2 => e e2.symm)]; exact f1, hS f2 (f4 g rfl), f3, f4⟩
/-- one leaf more -/
theorem LOwn.push {w w' : World} {B : Nat} {Q : Nat → Prop} {v v' : Value} {L : List Lf} {p : Int} {l : List Rec} {r : Addr} {n c : Nat} {xs : List (Int × Value)} (h1 : xs.length = L.length) (h3 : ∀ (j : Nat) (x : Lf), L[j]? = some x → ∃ r n c, xs[j]? = some (x.1, Value.slice (some r) n c) ∧ RSl w w.heap.size (some r) n c x.2 ∧ Q r.block ∧ ∀ g, v.ownBlock = some g → r.block ≠ g) (hr : RSl w w.heap.size (some r) n c l) (hn : 0 < n) (hq : Q r.block) (hne : ∀ g, v.ownBlock = some g → r.block ≠ g) (hL : ∀ x, x ∈ L → x.2 ≠ [])
    (ho : w'.ownsRow B 77 2 v' (L.length + 1) (lfC xs ++ [.int .i64 p, .slice (some r) n c])) (hg : w.grownBy w' v.ownBlock) (ha : v'.ownBlock = v.ownBlock ∨ v'.ownBlock = some w.heap.size) : LOwn w' B Q v' (L ++ [(p, l)]) := by
  have hS : ∀ {a : Addr} {m c : Nat} {q : List Rec}, RSl w w.heap.size (some a) m c q → (∀ g, v.ownBlock = some g → a.block ≠ g) → RSl w' w'.heap.size (some a) m c q := fun {a m c q} hx hd =>
    hx.same hg.size (fun ad he h0 => by
      cases he
      exact hg.block _ (hx.at_ a rfl h0).1 (fun e => hd _ e.symm rfl))
  have hN : ∀ {a : Addr} {m c : Nat} {q : List Rec}, RSl w w.heap.size (some a) m c q → 0 < m → (∀ g, v.ownBlock = some g → a.block ≠ g) → ∀ g, v'.ownBlock = some g → a.block ≠ g := fun {a m c q} hx h0 hd g hg' => by
    rcases ha with e | e
    · exact hd g (e ▸ hg')
    · rw [e] at hg'
      injection hg' with hg'
      have := (hx.at_ a rfl h0).1
      omega
  refine ⟨xs ++ [(p, .slice (some r) n c)], by simp [h1], ?_, fun i x hx => ?_⟩
  · have e : lfC (xs ++ [(p, Value.slice (some r) n c)]) = lfC xs ++ [.int .i64 p, .slice (some r) n c] := by
      unfold lfC
      rw [List.flatMap_append]
      simp
    rw [List.length_append, e]
    exact ho
  · rcases Nat.lt_or_ge i L.length with hi | hi
    · rw [List.getElem?_append_left hi] at hx
      obtain ⟨r2, m2, c2, f1, f2, f3, f4⟩ := h3 i x hx
      have hm : 0 < m2 := by
        have h5 := f2.len
        have h6 := hL x (List.mem_of_getElem? hx)
        rcases Nat.eq_zero_or_pos m2 with e | e
        · exact absurd (List.eq_nil_of_length_eq_zero (by omega)) h6
        · exact e
      exact ⟨r2, m2, c2, by rw [List.getElem?_append_left (by omega)]; exact f1, hS f2 f4, f3, hN f2 hm f4⟩
    · have hi2 := (List.getElem?_eq_some_iff.1 hx).1
      rw [List.length_append] at hi2
      have e : i = L.length := by simp at hi2; omega
      subst e
      rw [List.getElem?_append_right (Nat.le_refl _), Nat.sub_self] at hx
      simp at hx
      subst hx
      exact ⟨r, n, c, by rw [List.getElem?_append_right (by omega), h1, Nat.sub_self]; rfl, hS hr hne, hq, hN hr hn hne⟩
end Go.Proofs.YtkhdgacjgccnnaaGreatDoor
