/- The document's Parse. -/
import Derived.Test.YtjoajjndopfbmaaDoorGPaD
namespace Go.Proofs.YtjoajjndopfbmaaDoor
open Go.RowKit Go.Shelf Go.Lib

/-- what the document's Parse hands back -/
def RefO (s : Nam) (w : World) (e : Ending) (w' : World) : Prop :=
  ∃ A n c, e = .returned (.tuple #[.agg #[.slice A n c, .bool (prsS s)], .int .i64 (prsC s)]) ∧ St w' w'.heap.size A n c (prsP s) ∧ Below w.heap.size w w'
theorem refO_of {l : Nam} {w w' : World} {A : Option Addr} {n c : Nat} (h1 : chkC l = 0) (h2 : longP (ptsOf l) = false) (h4 : St w' w'.heap.size A n c (ptsOf l)) (h5 : Below w.heap.size w w') :
    RefO l w (.returned (.tuple #[.agg #[.slice A n c, .bool (decide (0 < (ptsOf l).length) && l.getLast? == some 47)], .int .i64 0])) w' := by
  have hc : prsC l = 0 := by rw [prs_fine h1, h2]; rfl
  refine ⟨A, n, c, ?_, ?_, h5⟩
  · rw [prsS, hc]; rfl
  · rw [prsP, if_pos hc]; exact h4
theorem refO_bad {l : Nam} {w w' : World} {c : Int} (h : prsC l = c) (h0 : c ≠ 0) (h5 : Below w.heap.size w w') :
    RefO l w (.returned (.tuple #[.agg #[.slice none 0 0, .bool false], .int .i64 c])) w' := by
  refine ⟨none, 0, 0, ?_, ?_, h5⟩
  · rw [prsS, h, beq_eq_false_iff_ne.2 h0]; rfl
  · rw [prsP, if_neg (by rw [h]; exact h0)]; exact Sv.empty _ _
theorem ptsOf_tail {l : Nam} (h : l.head? = some 47) : ptsOf l = kept (sg [] (l.drop 1)) := by
  rcases l with _ | ⟨x, l⟩
  · cases h
  · obtain rfl : x = 47 := by simpa using h
    rw [ptsOf, sg, if_pos rfl]
    rfl
theorem beq_flip (x y : UInt8) : (x == y) = (y == x) := by
  rcases h : (y == x) with _ | _
  · exact beq_eq_false_iff_ne.2 fun e => (beq_eq_false_iff_ne.1 h) e.symm
  · exact beq_iff_eq.2 (beq_iff_eq.1 h).symm
theorem take_has {l : Nam} {i : Nat} {x : UInt8} (h : l[i]? = some x) : (l.take (i + 1)).contains 0 = ((l.take i).contains 0 || x == 0) := by
  rw [List.take_add_one, h, List.contains_eq_any_beq, List.contains_eq_any_beq, List.any_append]
  congr 1
  rw [beq_flip x 0]
  simp
theorem drop_pt {l : Nam} {i : Nat} {x : UInt8} (h : l[i]? = some x) : l.drop i = x :: l.drop (i + 1) := by
  obtain ⟨hi, hx⟩ := List.getElem?_eq_some_iff.1 h
  rw [List.drop_eq_getElem_cons hi, hx]
theorem b_zero (x : UInt8) : ((x.toNat : Int) == 0) = (x == 0) := by
  rw [Bool.eq_iff_iff, beq_iff_eq, beq_iff_eq]
  constructor
  · intro h
    apply UInt8.toNat_inj.1
    show x.toNat = 0
    omega
  · rintro rfl
    rfl
theorem b_slash (x : UInt8) : ((x.toNat : Int) == 47) = (x == 47) := by
  rw [Bool.eq_iff_iff, beq_iff_eq, beq_iff_eq]
  constructor
  · intro h
    apply UInt8.toNat_inj.1
    show x.toNat = 47
    omega
  · rintro rfl
    rfl
set_option maxHeartbeats 4000000 in
set_option maxRecDepth 100000 in
theorem refParse_any (s : ByteArray) (w : World) : Calls Tryd.prog 9 #[.string s] w (RefO s.data.toList w) := by
  obtain ⟨l, hl⟩ : ∃ l, s.data.toList = l := ⟨_, rfl⟩
  have hways := chk_ways s
  rw [hl] at hways ⊢
  have HL := hid hl
  have HLn := hid (show l.length = s.size by rw [← hl, ← Lib.size_eq])
  clear hl
  rcases hways with ⟨h1, h⟩ | ⟨h1, h2, h⟩ | h'
  · have HV := hid h
    clear h
    go_enter Tryd.func9, Tryd.ntmps9
    go_wp2
    refine bodyPost_ret (v := .tuple #[.agg #[.slice none 0 0, .bool false], .int .i64 109]) (by simp [results, Tryd.results9, go_sem]) rfl ?_
    refine refO_bad (prs_bad HV.out (by decide)).1 (by decide) ?_
    repeat (first | exact Below.refl _ _ | refine Below.setCell ?_ (Nat.le_refl _) _ | refine Below.alloc ?_ (Nat.le_refl _) _)
  · have HV := hid h
    have g : decide ((256 : Int) < (s.size : Int)) = true := decide_eq_true (by omega)
    clear h
    go_enter Tryd.func9, Tryd.ntmps9
    go_wp2
    refine bodyPost_ret (v := .tuple #[.agg #[.slice none 0 0, .bool false], .int .i64 115]) (by simp [results, Tryd.results9, go_sem]) rfl ?_
    refine refO_bad (prs_bad HV.out (by decide)).1 (by decide) ?_
    repeat (first | exact Below.refl _ _ | refine Below.setCell ?_ (Nat.le_refl _) _ | refine Below.alloc ?_ (Nat.le_refl _) _)
  · have h1 : s.toList.isEmpty = false := by rcases h' with h | h | h; exact h.1; exact h.1; exact h.1
    have h2 : s.size ≤ 256 := by rcases h' with h | h | h; exact h.2.1; exact h.2.1; exact h.2.1
    have g : decide ((256 : Int) < (s.size : Int)) = false := decide_eq_false (by omega)
    have H' := hid h'
    have hpos : 0 < s.size := by
      rw [emp_of] at h1
      have := of_decide_eq_false h1
      omega
    clear h'
    go_enter Tryd.func9, Tryd.ntmps9
    go_wp2
    go_loopg [4, 5] s.size (fun g s4 s5 wr => ∃ i : Nat, i ≤ s.size ∧ s.size - i ≤ g ∧ s4 = .bool ((l.take i).contains 0) ∧ s5 = .int .i64 i ∧ Hid (wr = w.alloc (.cells #[.slice none 0 0, .bool false] 30)))
    case atStart => exact ⟨0, Nat.zero_le _, Nat.le_refl _, rfl, rfl, rfl⟩
    case round =>
      obtain ⟨i, hi, hig, rfl, rfl, HW⟩ := hrel
      by_cases hlt : i < s.size
      · obtain ⟨x, hx⟩ : ∃ x : UInt8, s[i]'hlt = x := ⟨_, rfl⟩
        have HX := hid (show l[i]? = some x by rw [← hx, ← HL.out]; exact Lib.data_getElem? s i hlt)
        have HT := hid (take_has HX.out)
        rcases hb : (l.take i).contains 0 with _ | _
        · rw [hb] at HT
          by_cases h0 : x = 0
          · have e1 : ((x.toNat : Int) == 0) = true := by rw [b_zero, h0]; rfl
            have HT2 := hid (show (l.take (i + 1)).contains 0 = true by rw [HT.out, h0]; rfl)
            clear h0 hb
            go_wp2
            go_roundg (s.size - (i + 1))
            case measure => omega
            case rel => exact ⟨i + 1, by omega, Nat.le_refl _, by rw [HT2.out], rfl, HW⟩
          · have e1 : ((x.toNat : Int) == 0) = false := by rw [b_zero]; exact beq_eq_false_iff_ne.2 h0
            have HT2 := hid (show (l.take (i + 1)).contains 0 = false by rw [HT.out, beq_eq_false_iff_ne.2 h0]; rfl)
            clear h0 hb
            go_wp2
            go_roundg (s.size - (i + 1))
            case measure => omega
            case rel => exact ⟨i + 1, by omega, Nat.le_refl _, by rw [HT2.out], rfl, HW⟩
        · rw [hb] at HT
          have HT2 := hid (show (l.take (i + 1)).contains 0 = true by rw [HT.out]; rfl)
          clear hb
          go_wp2
          go_roundg (s.size - (i + 1))
          case measure => omega
          case rel => exact ⟨i + 1, by omega, Nat.le_refl _, by rw [HT2.out], rfl, HW⟩
      · obtain rfl : i = s.size := by omega
        have hfull : l.take s.size = l := List.take_of_length_le (by rw [HLn.out]; exact Nat.le_refl _)
        obtain rfl := HW.out
        rw [hfull]
        clear hfull
        obtain ⟨x, hx⟩ : ∃ x : UInt8, s[0]'hpos = x := ⟨_, rfl⟩
        have HX := hid (show l.head? = some x by rw [List.head?_eq_getElem?, ← hx, ← HL.out]; exact Lib.data_getElem? s 0 hpos)
        rcases H'.out with ⟨_, _, h3, h⟩ | ⟨_, _, h3, h4, h⟩ | ⟨_, _, h3, h4, h⟩
        · have HV := hid h
          have e1 : ((x.toNat : Int) != 47) = true := by
            rw [HX.out] at h3
            rw [bne, b_slash, show (x == 47) = false from h3]; rfl
          clear h h3
          go_wp2
          refine bodyPost_ret (v := .tuple #[.agg #[.slice none 0 0, .bool false], .int .i64 114]) (by simp [results, Tryd.results9, go_sem]) rfl ?_
          refine refO_bad (prs_bad HV.out (by decide)).1 (by decide) ?_
          repeat (first | exact Below.refl _ _ | refine Below.setCell ?_ (Nat.le_refl _) _ | refine Below.alloc ?_ (Nat.le_refl _) _)
        · have HV := hid h
          have e1 : ((x.toNat : Int) != 47) = false := by
            rw [HX.out] at h3
            rw [bne, b_slash, show (x == 47) = true from h3]; rfl
          rw [h4]
          clear h h3 h4
          go_wp2
          refine bodyPost_ret (v := .tuple #[.agg #[.slice none 0 0, .bool false], .int .i64 114]) (by simp [results, Tryd.results9, go_sem]) rfl ?_
          refine refO_bad (prs_bad HV.out (by decide)).1 (by decide) ?_
          repeat (first | exact Below.refl _ _ | refine Below.setCell ?_ (Nat.le_refl _) _ | refine Below.alloc ?_ (Nat.le_refl _) _)
        · have HV := hid h
          have e1 : ((x.toNat : Int) != 47) = false := by
            rw [HX.out] at h3
            rw [bne, b_slash, show (x == 47) = true from h3]; rfl
          have H3 := hid (show l.head? = some 47 by simpa using h3)
          rw [h4]
          clear h h3 h4
          go_wp2
          go_loopw [7, 8, 9] (fun s7 s8 s9 wr => ∃ (i : Nat) (p : Nam) (D : List Nam), 1 ≤ i ∧ i ≤ s.size + 1 ∧ p.length ≤ i ∧ s7 = encStr p ∧ s8 = .bool (longP (kept D)) ∧ s9 = .int .i64 (i : Int) ∧ Hid ((i ≤ s.size ∧ sg [] (l.drop 1) = D ++ sg p (l.drop i)) ∨ (i = s.size + 1 ∧ sg [] (l.drop 1) = D)) ∧ (∃ v, Hid (Ot wr (w.heap.size + 2) v (kept D)) ∧ Hid (Blk wr (w.heap.size + 1) 30 #[v, .bool false])) ∧ Hid (Blk wr w.heap.size 30 #[.slice none 0 0, .bool false]) ∧ Hid (Below w.heap.size w wr) ∧ Hid (w.heap.size + 2 ≤ wr.heap.size)) (fun _ _ i _ => s.size + 2 - (RowKit.intOf i).toNat)
          case atStart =>
            refine ⟨1, [], [], Nat.le_refl _, by omega, by simp, rfl, rfl, rfl, hid (.inl ⟨hpos, rfl⟩), ⟨.slice none 0 0, hid (OwnV.nil _ _ _), hid ?_⟩, hid ?_, hid ?_, hid ?_⟩
            · have := Blk.new (w.alloc (.cells #[.slice none 0 0, .bool false] 30)) 30 #[.slice none 0 0, .bool false]
              simp only [World.size_alloc] at this
              exact this
            · exact (Blk.new w 30 #[.slice none 0 0, .bool false]).alloc (.cells #[.slice none 0 0, .bool false] 30)
            · exact ((Below.refl _ _).alloc (Nat.le_refl _) _).alloc (by simp [World.size_alloc]) _
            · simp [World.size_alloc]
          case round =>
            obtain ⟨i, p, D, hi1, hi2, hpl, rfl, rfl, rfl, HI, ⟨v, HO, HP⟩, HR, HW2, HZ⟩ := hrel
            by_cases hle : i ≤ s.size
            · have HD := hid (show sg [] (l.drop 1) = D ++ sg p (l.drop i) by
                rcases HI.out with h | h
                · exact h.2
                · omega)
              have hlb : decide ((i : Int) ≤ (s.size : Int)) = true := decide_eq_true (by omega)
              have hway : (∃ (hlt : i < s.size) (x : UInt8), s[i]'hlt = x ∧ x ≠ 47 ∧ sg [] (l.drop 1) = D ++ sg (p ++ [x]) (l.drop (i + 1))) ∨ (∃ (hlt : i < s.size) (x : UInt8), s[i]'hlt = x ∧ x = 47 ∧ sg [] (l.drop 1) = (D ++ [p]) ++ sg [] (l.drop (i + 1))) ∨ (i = s.size ∧ sg [] (l.drop 1) = D ++ [p]) := by
                by_cases hlt : i < s.size
                · have hx : l[i]? = some (s[i]'hlt) := by rw [← HL.out]; exact Lib.data_getElem? s i hlt
                  have hd := HD.out
                  rw [drop_pt hx, sg] at hd
                  by_cases h47 : s[i]'hlt = 47
                  · rw [if_pos h47] at hd
                    exact .inr (.inl ⟨hlt, _, rfl, h47, by rw [hd]; simp⟩)
                  · rw [if_neg h47] at hd
                    exact .inl ⟨hlt, _, rfl, h47, hd⟩
                · refine .inr (.inr ⟨by omega, ?_⟩)
                  have hd := HD.out
                  have h0 : l.drop i = [] := List.drop_eq_nil_of_le (by rw [HLn.out]; omega)
                  rwa [h0, sg] at hd
              rcases hway with ⟨hlt, x, hx, h47, hn⟩ | hway
              · have HN := hid hn
                have e1 : ((x.toNat : Int) != 47) = true := by rw [bne, b_slash, beq_eq_false_iff_ne.2 h47]; rfl
                have HX := hid (show (s.extract i (i + 1)).data.toList = [x] by
                  rw [← Lib.toList_data, Lib.extract_toList, HL.out]
                  have hx' : l[i]? = some x := by rw [← hx, ← HL.out]; exact Lib.data_getElem? s i hlt
                  rw [drop_pt hx', show i + 1 - i = 1 by omega]
                  rfl)
                have hcat : ¬ 9223372036854775807 < List.length p + (min (i + 1) s.size - i) := by omega
                clear hn h47
                go_wp2
                go_roundw
                case rel =>
                  refine ⟨i + 1, p ++ [x], D, by omega, by omega, by simp; omega, ?_, rfl, by go_num, hid (.inl ⟨by omega, HN.out⟩), ⟨v, HO, HP⟩, HR, HW2, HZ⟩
                  unfold encStr
                  congr 1
                  apply ByteArray.ext
                  apply Array.ext'
                  rw [ByteArray.data_append, Array.toList_append, HX.out]
                case measure => simp [RowKit.intOf]; omega
              · have HDl := hid (show D.length ≤ 257 by
                  have h1 := sg_len (l.drop 1) []
                  rw [HD.out, List.length_append, List.length_drop, HLn.out] at h1
                  omega)
                have hpl2 : p.length ≤ 300 := by omega
                rcases hway with ⟨hlt, x, hx, h47, hn⟩ | ⟨hls, hn⟩
                case' inl =>
                  have e1 : ((x.toNat : Int) != 47) = false := by rw [bne, b_slash, h47]; rfl
                  have HI2 : Hid ((i + 1 ≤ s.size ∧ sg [] (l.drop 1) = (D ++ [p]) ++ sg [] (l.drop (i + 1))) ∨ (i + 1 = s.size + 1 ∧ sg [] (l.drop 1) = D ++ [p])) := hid (by
                    rcases Nat.lt_or_ge i s.size with h | h
                    · exact .inl ⟨h, hn⟩
                    · omega)
                  clear h47 hn
                case' inr =>
                  have hlz : decide ((i : Int) < (s.size : Int)) = false := decide_eq_false (by omega)
                  have HI2 : Hid ((i + 1 ≤ s.size ∧ sg [] (l.drop 1) = (D ++ [p]) ++ sg [] (l.drop (i + 1))) ∨ (i + 1 = s.size + 1 ∧ sg [] (l.drop 1) = D ++ [p])) := hid (.inr ⟨by omega, hn⟩)
                  clear hn
                all_goals
                 rcases outP_ways p with ⟨ho1, ho⟩ | ⟨ho1, ho2, ho⟩ | ⟨ho1, ho2, ho⟩
                 · have HK := hid (show kept (D ++ [p]) = kept D by rw [kept_append]; simp [kept, ho])
                   subst ho1
                   clear ho
                   go_wp2
                   go_roundw
                   case rel => exact ⟨i + 1, [], _, by omega, by omega, by simp, rfl, by rw [HK.out], by go_num, HI2, ⟨v, by rw [HK.out]; exact HO, HP⟩, HR, HW2, HZ⟩
                   case measure => simp [RowKit.intOf]; omega
                 · have HK := hid (show kept (D ++ [p]) = kept D by rw [kept_append]; simp [kept, ho])
                   subst ho2
                   clear ho
                   go_wp2
                   go_roundw
                   case rel => exact ⟨i + 1, [], _, by omega, by omega, by simp, rfl, by rw [HK.out], by go_num, HI2, ⟨v, by rw [HK.out]; exact HO, HP⟩, HR, HW2, HZ⟩
                   case measure => simp [RowKit.intOf]; omega
                 · have HK := hid (show kept (D ++ [p]) = kept D ++ [p] by rw [kept_append]; simp [kept, ho])
                   have p0 : wr.cell? ⟨w.heap.size + 1, 0, none⟩ = some v := HP.out.cell 0
                   have t1 : p.isEmpty = false := by rcases p with _ | _; exact absurd rfl ho1; rfl
                   have t2 : (p == [46]) = false := beq_eq_false_iff_ne.2 ho2
                   have HL8' := hid (show longP (kept (D ++ [p])) = (longP (kept D) || decide (24 < p.length)) by rw [HK.out, longP_append]; simp [longP])
                   clear ho ho1 ho2
                   rcases hlD : longP (kept D) with _ | _
                   · by_cases h24 : 24 < p.length
                     · have g24 : decide ((24 : Int) < (p.length : Int)) = true := decide_eq_true (by omega)
                       have HL8 := hid (show longP (kept (D ++ [p])) = true by rw [HL8'.out, hlD, decide_eq_true h24]; rfl)
                       clear hlD HL8' h24
                       go_wp2_with (at_builtin; refine wpList_append_tx rfl _ _ rfl (w.heap.size + 2) (wr.heap.size + 1) _ (kept D) [p] rfl (World.ownsRow.alloc HO.out _) (some ⟨wr.heap.size, 0, none⟩) 1 1 rfl (st_one wr p) ?c1 ?c2 ?_)
                       case c1 => have h1 := kept_len D; have h2 := HDl.out; omega
                       case c2 => have := HZ.out; simp; omega
                       intro v' w5 hown' hb5
                       obtain ⟨A5, m5, c5, hv5⟩ : ∃ A m c, v' = .slice A m c := by
                         obtain ⟨A, c, h, _⟩ := Ot.is hown'
                         exact ⟨_, _, _, h⟩
                       subst hv5
                       have hP5 := (HP.out.alloc (.cells #[encStr p] 9)).below hb5 (by omega)
                       have q0 : w5.cell? ⟨w.heap.size + 1, 0, none⟩ = some v := hP5.cell 0
                       have e0 := hP5.free 0
                       have HP5 := hid hP5
                       have HR5 := hid ((HR.out.alloc (.cells #[encStr p] 9)).below hb5 (by omega))
                       have HW5 := hid ((HW2.out.alloc HW2.out.size (.cells #[encStr p] 9)).trans (hb5.mono (by omega)))
                       have HZ5 := hid (show w.heap.size + 2 ≤ w5.heap.size from Nat.le_trans HZ.out (Nat.le_trans (by simp [World.size_alloc]) hb5.size))
                       have HO5 := hid (show Ot w5 (w.heap.size + 2) (.slice A5 m5 c5) (kept (D ++ [p])) by rw [HK.out]; exact hown')
                       clear hown' hb5 hP5
                       go_wp2
                       go_roundw
                       case rel => exact ⟨i + 1, [], _, by omega, by omega, by simp, rfl, by rw [HL8.out], by go_num, HI2, ⟨.slice A5 m5 c5, hid (OwnV.aside HO5.out (by show w.heap.size + 1 < _; omega) _), hid (HP5.out.put 0 (.slice A5 m5 c5))⟩, hid (HR5.out.far (by show w.heap.size ≠ w.heap.size + 1; omega) _), hid (HW5.out.setCell (by show w.heap.size ≤ w.heap.size + 1; omega) _), hid (by simpa using HZ5.out)⟩
                       case measure => simp [RowKit.intOf]; omega
                     · have g24 : decide ((24 : Int) < (p.length : Int)) = false := decide_eq_false (by omega)
                       have HL8 := hid (show longP (kept (D ++ [p])) = false by rw [HL8'.out, hlD, decide_eq_false h24]; rfl)
                       clear hlD HL8' h24
                       go_wp2_with (at_builtin; refine wpList_append_tx rfl _ _ rfl (w.heap.size + 2) (wr.heap.size + 1) _ (kept D) [p] rfl (World.ownsRow.alloc HO.out _) (some ⟨wr.heap.size, 0, none⟩) 1 1 rfl (st_one wr p) ?c1 ?c2 ?_)
                       case c1 => have h1 := kept_len D; have h2 := HDl.out; omega
                       case c2 => have := HZ.out; simp; omega
                       intro v' w5 hown' hb5
                       obtain ⟨A5, m5, c5, hv5⟩ : ∃ A m c, v' = .slice A m c := by
                         obtain ⟨A, c, h, _⟩ := Ot.is hown'
                         exact ⟨_, _, _, h⟩
                       subst hv5
                       have hP5 := (HP.out.alloc (.cells #[encStr p] 9)).below hb5 (by omega)
                       have q0 : w5.cell? ⟨w.heap.size + 1, 0, none⟩ = some v := hP5.cell 0
                       have e0 := hP5.free 0
                       have HP5 := hid hP5
                       have HR5 := hid ((HR.out.alloc (.cells #[encStr p] 9)).below hb5 (by omega))
                       have HW5 := hid ((HW2.out.alloc HW2.out.size (.cells #[encStr p] 9)).trans (hb5.mono (by omega)))
                       have HZ5 := hid (show w.heap.size + 2 ≤ w5.heap.size from Nat.le_trans HZ.out (Nat.le_trans (by simp [World.size_alloc]) hb5.size))
                       have HO5 := hid (show Ot w5 (w.heap.size + 2) (.slice A5 m5 c5) (kept (D ++ [p])) by rw [HK.out]; exact hown')
                       clear hown' hb5 hP5
                       go_wp2
                       go_roundw
                       case rel => exact ⟨i + 1, [], _, by omega, by omega, by simp, rfl, by rw [HL8.out], by go_num, HI2, ⟨.slice A5 m5 c5, hid (OwnV.aside HO5.out (by show w.heap.size + 1 < _; omega) _), hid (HP5.out.put 0 (.slice A5 m5 c5))⟩, hid (HR5.out.far (by show w.heap.size ≠ w.heap.size + 1; omega) _), hid (HW5.out.setCell (by show w.heap.size ≤ w.heap.size + 1; omega) _), hid (by simpa using HZ5.out)⟩
                       case measure => simp [RowKit.intOf]; omega
                   · have HL8 := hid (show longP (kept (D ++ [p])) = true by rw [HL8'.out, hlD]; rfl)
                     clear hlD HL8'
                     go_wp2_with (at_builtin; refine wpList_append_tx rfl _ _ rfl (w.heap.size + 2) (wr.heap.size + 1) _ (kept D) [p] rfl (World.ownsRow.alloc HO.out _) (some ⟨wr.heap.size, 0, none⟩) 1 1 rfl (st_one wr p) ?c1 ?c2 ?_)
                     case c1 => have h1 := kept_len D; have h2 := HDl.out; omega
                     case c2 => have := HZ.out; simp; omega
                     intro v' w5 hown' hb5
                     obtain ⟨A5, m5, c5, hv5⟩ : ∃ A m c, v' = .slice A m c := by
                       obtain ⟨A, c, h, _⟩ := Ot.is hown'
                       exact ⟨_, _, _, h⟩
                     subst hv5
                     have hP5 := (HP.out.alloc (.cells #[encStr p] 9)).below hb5 (by omega)
                     have q0 : w5.cell? ⟨w.heap.size + 1, 0, none⟩ = some v := hP5.cell 0
                     have e0 := hP5.free 0
                     have HP5 := hid hP5
                     have HR5 := hid ((HR.out.alloc (.cells #[encStr p] 9)).below hb5 (by omega))
                     have HW5 := hid ((HW2.out.alloc HW2.out.size (.cells #[encStr p] 9)).trans (hb5.mono (by omega)))
                     have HZ5 := hid (show w.heap.size + 2 ≤ w5.heap.size from Nat.le_trans HZ.out (Nat.le_trans (by simp [World.size_alloc]) hb5.size))
                     have HO5 := hid (show Ot w5 (w.heap.size + 2) (.slice A5 m5 c5) (kept (D ++ [p])) by rw [HK.out]; exact hown')
                     clear hown' hb5 hP5
                     go_wp2
                     go_roundw
                     case rel => exact ⟨i + 1, [], _, by omega, by omega, by simp, rfl, by rw [HL8.out], by go_num, HI2, ⟨.slice A5 m5 c5, hid (OwnV.aside HO5.out (by show w.heap.size + 1 < _; omega) _), hid (HP5.out.put 0 (.slice A5 m5 c5))⟩, hid (HR5.out.far (by show w.heap.size ≠ w.heap.size + 1; omega) _), hid (HW5.out.setCell (by show w.heap.size ≤ w.heap.size + 1; omega) _), hid (by simpa using HZ5.out)⟩
                     case measure => simp [RowKit.intOf]; omega
            · obtain ⟨rfl, hD⟩ : i = s.size + 1 ∧ sg [] (l.drop 1) = D := by
                rcases HI.out with h | h
                · omega
                · exact h
              have hDk : kept D = ptsOf l := by rw [← hD, ptsOf_tail H3.out]
              have hlb : decide (((s.size + 1 : Nat) : Int) ≤ (s.size : Int)) = false := decide_eq_false (by omega)
              rw [hDk] at HO ⊢
              clear hD hDk HI
              have r0 : wr.cell? ⟨w.heap.size, 0, none⟩ = some (.slice none 0 0) := HR.out.cell 0
              have r1 : wr.cell? ⟨w.heap.size, 1, none⟩ = some (.bool false) := HR.out.cell 1
              have f0 := HR.out.free 0
              have f1 := HR.out.free 1
              rcases hlg : longP (ptsOf l) with _ | _
              · have HG := hid hlg
                clear hlg
                obtain ⟨A1, c1, rfl, hst1, hA1⟩ := Ot.is HO.out
                have HA1 := hid hA1
                obtain ⟨m, hm⟩ : ∃ m, (ptsOf l).length = m := ⟨_, rfl⟩
                rw [hm] at hst1
                have HST1 := hid hst1
                have HM := hid hm
                have p0 : wr.cell? ⟨w.heap.size + 1, 0, none⟩ = some (.slice A1 m c1) := by rw [← hm]; exact HP.out.cell 0
                have p1 : wr.cell? ⟨w.heap.size + 1, 1, none⟩ = some (.bool false) := HP.out.cell 1
                have e1 := HP.out.free 1
                have hfar : ∀ ad, A1 = some ad → ad.block ≠ w.heap.size + 1 ∧ ad.block ≠ w.heap.size := fun ad h => by have h1 := HA1.out ad h; omega
                have HF := hid hfar
                clear hA1 hst1 hm hfar
                by_cases hm0 : m = 0
                · subst hm0
                  go_wp2
                  have hF := (((HR.out.far (p := ⟨w.heap.size + 1, 1, none⟩) (by show w.heap.size ≠ w.heap.size + 1; omega) (.bool false)).put 0 (.slice A1 0 c1)).put 1 (.bool false))
                  have k0 : _ = some (Value.slice A1 0 c1) := hF.cell 0
                  have k1 : _ = some (Value.bool false) := hF.cell 1
                  refine bodyPost_ret (v := .tuple #[.agg #[.slice A1 0 c1, .bool false], .int .i64 0]) (by simp [results, Tryd.results9, go_sem, k0, k1]) rfl ?_
                  have hp := refO_of (w := w) (w' := ((wr.setCell ⟨w.heap.size + 1, 1, none⟩ (.bool false)).setCell ⟨w.heap.size, 0, none⟩ (.slice A1 0 c1)).setCell ⟨w.heap.size, 1, none⟩ (.bool false)) (A := A1) (n := 0) (c := c1) HV.out HG.out
                    (by have := Sv.aside (Sv.aside (Sv.aside HST1.out (p := ⟨w.heap.size + 1, 1, none⟩) (fun ad h => (HF.out ad h).1) (.bool false)) (p := ⟨w.heap.size, 0, none⟩) (fun ad h => (HF.out ad h).2) (.slice A1 0 c1)) (p := ⟨w.heap.size, 1, none⟩) (fun ad h => (HF.out ad h).2) (.bool false); simpa using this)
                    (((HW2.out.setCell (p := ⟨w.heap.size + 1, 1, none⟩) (by show w.heap.size ≤ w.heap.size + 1; omega) _).setCell (p := ⟨w.heap.size, 0, none⟩) (Nat.le_refl _) _).setCell (p := ⟨w.heap.size, 1, none⟩) (Nat.le_refl _) _)
                  have e : (decide (0 < (ptsOf l).length) && l.getLast? == some 47) = false := by rw [HM.out]; rfl
                  rw [e] at hp
                  exact hp
                · have g0 : decide ((0 : Int) < (m : Int)) = true := decide_eq_true (by omega)
                  obtain ⟨y, hy⟩ : ∃ y : UInt8, s[s.size - 1]'(by omega) = y := ⟨_, rfl⟩
                  have HY := hid (show l.getLast? = some y by rw [List.getLast?_eq_getElem?, ← hy, ← HL.out, ← Lib.size_eq]; exact Lib.data_getElem? s _ (by omega))
                  have hb := b_slash y
                  obtain ⟨b, hyb⟩ : ∃ b, (y == 47) = b := ⟨_, rfl⟩
                  rw [hyb] at hb
                  have HB := hid hyb
                  have hsub : ((s.size : Int) - 1) = ((s.size - 1 : Nat) : Int) := by omega
                  clear hyb
                  go_wp2
                  have hF := (((HR.out.far (p := ⟨w.heap.size + 1, 1, none⟩) (by show w.heap.size ≠ w.heap.size + 1; omega) (.bool b)).put 0 (.slice A1 m c1)).put 1 (.bool b))
                  have k0 : _ = some (Value.slice A1 m c1) := hF.cell 0
                  have k1 : _ = some (Value.bool b) := hF.cell 1
                  refine bodyPost_ret (v := .tuple #[.agg #[.slice A1 m c1, .bool b], .int .i64 0]) (by simp [results, Tryd.results9, go_sem, k0, k1]) rfl ?_
                  have hp := refO_of (w := w) (w' := ((wr.setCell ⟨w.heap.size + 1, 1, none⟩ (.bool b)).setCell ⟨w.heap.size, 0, none⟩ (.slice A1 m c1)).setCell ⟨w.heap.size, 1, none⟩ (.bool b)) (A := A1) (n := m) (c := c1) HV.out HG.out
                    (by have := Sv.aside (Sv.aside (Sv.aside HST1.out (p := ⟨w.heap.size + 1, 1, none⟩) (fun ad h => (HF.out ad h).1) (.bool b)) (p := ⟨w.heap.size, 0, none⟩) (fun ad h => (HF.out ad h).2) (.slice A1 m c1)) (p := ⟨w.heap.size, 1, none⟩) (fun ad h => (HF.out ad h).2) (.bool b); simpa using this)
                    (((HW2.out.setCell (p := ⟨w.heap.size + 1, 1, none⟩) (by show w.heap.size ≤ w.heap.size + 1; omega) _).setCell (p := ⟨w.heap.size, 0, none⟩) (Nat.le_refl _) _).setCell (p := ⟨w.heap.size, 1, none⟩) (Nat.le_refl _) _)
                  have e : (decide (0 < (ptsOf l).length) && l.getLast? == some 47) = b := by
                    rw [HM.out, HY.out, decide_eq_true (by omega : 0 < m), show (some y == some (47 : UInt8)) = (y == 47) from rfl, HB.out]; rfl
                  rw [e] at hp
                  exact hp
              · have HC2 := hid (show prsC l = 115 by rw [prs_fine HV.out, hlg]; rfl)
                clear hlg
                go_wp2
                have hF := (HR.out.put 0 (.slice none 0 0)).put 1 (.bool false)
                have k0 : _ = some (Value.slice none 0 0) := hF.cell 0
                have k1 : _ = some (Value.bool false) := hF.cell 1
                refine bodyPost_ret (v := .tuple #[.agg #[.slice none 0 0, .bool false], .int .i64 115]) (by simp [results, Tryd.results9, go_sem, k0, k1]) rfl ?_
                exact refO_bad HC2.out (by decide) ((HW2.out.setCell (p := ⟨w.heap.size, 0, none⟩) (Nat.le_refl _) _).setCell (p := ⟨w.heap.size, 1, none⟩) (Nat.le_refl _) _)
end Go.Proofs.YtjoajjndopfbmaaDoor
