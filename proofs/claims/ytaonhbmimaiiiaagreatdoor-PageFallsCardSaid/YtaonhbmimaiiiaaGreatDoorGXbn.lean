/- Put together out of 2 texts. The walk of PageFalls. -/
import Derived.Test.YtaonhbmimaiiiaaGreatDoorGXbm
import Derived.Test.YtaonhbmimaiiiaaGreatDoorGXbh
import Derived.Test.YtaonhbmimaiiiaaGreatDoorGXam
import Derived.Test.YtaonhbmimaiiiaaGreatDoorGXan
import Derived.Test.YtaonhbmimaiiiaaGreatDoorGXaq
namespace Go.Proofs.YtaonhbmimaiiiaaGreatDoor
open Go.RowKit Go.Maps

section
variable {Real : World → Nat → DSt → (Nat → Prop) → Prop} {PR : World → Nat → Nat → Nat → Nat → (Nat → Prop) → Prop}
/-- an act that is no Commit, told both: the device stays -/
theorem toldN_any {S : Nat → Addr} {w0 w : World} {d g n q mk hb : Nat} {s : DSt} {P : PS} {ch : Chg} {cont : Cont} {M : Mdl} (D : DevOk Real) (O : PairOk Real PR) (hS : Sent w0 S) (h : ShM Real PR S w0 w d g n q mk hb s P ch cont M) {t : Stq} (ht : StqOk w0 w0.heap.size t) (h3 : t.nB ≤ 300) (hn : t.n < 30 ∨ 256 ≤ t.n) (hk : t.k ≠ 3) :
    Calls Tryz.prog 16 #[.pointer (some ⟨g, 0, none⟩), .pointer (some ⟨hb, 0, none⟩), .agg #[.int .i64 t.k, .int .i64 t.n, .slice t.B t.nB t.cB]] w fun e w' => e = .returned (.bool true) ∧ ∃ ch' M', ShM Real PR S w0 w' d g n q mk hb s P ch' cont M' := by
  have fin : ∀ (e : Ending) (w' : World) ch' M', e = .returned (.bool true) ∧ ShM Real PR S w0 w' d g n q mk hb s P ch' cont M' → e = .returned (.bool true) ∧ ∃ ch' M', ShM Real PR S w0 w' d g n q mk hb s P ch' cont M' := by
    rintro e w' ch' M' ⟨rfl, hx⟩
    exact ⟨rfl, ch', M', hx⟩
  obtain ⟨k, i, B, nB, cB, l⟩ := t
  have hl := ht.hB
  have hy := ht.yB
  simp only at h3 hn hl hy hk ⊢
  by_cases k1 : k = 1
  · subst k1
    rcases ho : numOk i with _ | _
    · exact (toldBadN1_any D O hS h ho).mono fun e w' hx => fin e w' _ _ hx
    · have hi : 0 ≤ i ∧ i < 256 := by unfold numOk at ho; simpa using ho
      by_cases hb1 : nB = 0 ∨ 248 < nB
      · exact (toldBadL1_any D O hS h ho hb1).mono fun e w' hx => fin e w' _ _ hx
      · obtain ⟨p, rfl⟩ : ∃ p : Nat, i = (p : Int) := ⟨i.toNat, by omega⟩
        exact (toldWrite_any D O hS h (by omega) hl (by omega) (by omega) hy).mono fun e w' hx => fin e w' _ _ hx
  · by_cases k2 : k = 2
    · subst k2
      rcases ho : numOk i with _ | _
      · exact (toldBadN2_any D O hS h ho).mono fun e w' hx => fin e w' _ _ hx
      · have hi : 0 ≤ i ∧ i < 256 := by unfold numOk at ho; simpa using ho
        obtain ⟨p, rfl⟩ : ∃ p : Nat, i = (p : Int) := ⟨i.toNat, by omega⟩
        exact (toldDrop_any D O hS h (by omega) hl h3).mono fun e w' hx => fin e w' _ _ hx
    · exact (toldAbort_any D O h (by simpa using k1) (by simpa using k2) (by simpa using hk)).mono fun e w' hx => fin e w' _ _ hx
/-- between two acts -/
def PfAt (Real : World → Nat → DSt → (Nat → Prop) → Prop) (PR : World → Nat → Nat → Nat → Nat → (Nat → Prop) → Prop) (S : Nat → Addr) (w1 : World) (d g hb i : Nat) (wr : World) : Prop :=
  ∃ s P ch cont M, ShM Real PR S w1 wr d g 600 (2000 * i) 7 hb s P ch cont M ∧ Keeps s 600 (2000 * i) P cont ∧ Calm s
/-- .. behind an act: what is carried, alone -/
theorem pf_next {S : Nat → Addr} {w1 wr : World} {d g hb i q : Nat} {s : DSt} {P : PS} {ch : Chg} {cont : Cont} {M : Mdl} {f : Nat → Value} {T : Nat → Prop} {L : List (Nat × (Nat → Value) × Mdl)} (h : Mols (ShR Real PR S w1 d g 600 q s P ch) w1.heap.size wr T ((hb, f, M) :: L)) (hk : Keeps s 600 q P cont) (hc : Calm s) (ha : Agr P ch cont M) (hq : q ≤ 2000 * (i + 1)) (hi : i ≤ 50) : PfAt Real PR S w1 d g hb (i + 1) wr := by
  obtain ⟨k1, k2, k3⟩ := h.first
  exact ⟨s, P, ch, cont, M, ⟨T, Shop.more k1 hq (by omega) (Nat.le_refl _), k3, k2, ha, hk.fine⟩, hk.more hq, hc⟩
theorem cmT_below {S : Nat → Addr} {w0 w : World} {d g n q : Nat} {s : DSt} {P : PS} {ch : Chg} {Mb : Mdl} {v : Value} {T : Nat → Prop} (h : CmT Real PR S w0 d g n q s P ch Mb v T w) : Below w0.heap.size w0 w := by
  rcases h with ⟨_, k', s', P', cont', _, h3, _⟩ | ⟨_, _, u, h3, _⟩
  · exact Shop.below h3
  · exact h3.2.1
theorem Tryz.sizeM (x : Nat → Value) : (Tryz.prog.info? 34).map (·.size) = some (fnL 151 x).length := by rw [fnL_len]; exact Tryz.size_model
theorem blkF_all {w : World} {g n : Nat} {t : TypeId} {f : Nat → Value} (h : Blk w g t (fnL n f).toArray) : w.rangeAt g 0 (fnL n f) := by
  have := blkF_range h (o := 0) (m := n) (by omega)
  simpa only [Nat.zero_add] using this
set_option maxRecDepth 100000 in
set_option maxHeartbeats 16000000 in
theorem pageFalls_any (D : DevOk Real) (O : PairOk Real PR) (OA : PairArm Real PR) (S : Nat → Addr) (A : Option Addr) (len cap : Nat) (T : Nat → Stq) (Aa : Option Addr) (la ca : Nat) (al : List Int) (Ap : Option Addr) (lp cp : Nat) (pl : List Int) (w : World) (hS : Sent w S) (hd : Doq w w.heap.size A len T) (ha : Sn w w.heap.size Aa la ca al) (hp : Sn w w.heap.size Ap lp cp pl) :
    Calls Tryz.prog 4 #[.slice A len cap, .slice Aa la ca, .slice Ap lp cp] w (Yes w) := by
  have HF := hid (first7_any D O w hS.seven)
  have HOp := hid (fun (w' : World) (hb : Below w.heap.size w w') => opened7_any D O 600 w' (hS.on hb).seven (by omega) (by omega))
  have HD := hid D
  have HO := hid O
  have HOA := hid OA
  have HS := hid hS
  have HDos := hid hd
  have HAr := hid ha
  have HPk := hid hp
  have hh : halN 600 = 150 := by decide
  have HK0 := hid (keeps_new (n := 600) (by omega) (by omega))
  clear D O OA hS hd ha hp
  go_enter Tryz.func4, Tryz.ntmps4
  go_wp2_with fail
  refine HF.out.mono ?_
  rintro e w1 ⟨rfl, hb1⟩
  have HB1 := hid hb1
  have HS1 := hid (HS.out.on hb1)
  have HD1 := hid (HDos.out.below hb1)
  have HA1 := hid (sn_on HAr.out hb1)
  have HP1 := hid (sn_on HPk.out hb1)
  clear hb1
  go_wp2_with fail
  refine (light_any A len cap 40 T w1 { HD1.out with lt := fun ad ha h0 => Nat.lt_of_lt_of_le (HD1.out.lt ad ha h0) HB1.out.size, ok := fun i hi => { HD1.out.ok i hi with hB := (HD1.out.ok i hi).hB.more HB1.out.size } } (by omega)).mono ?_
  rintro e w2 ⟨b, rfl, rfl, hlight⟩
  rcases b with _ | _
  · clear hlight
    go_wp2
    go_ret
    exact ⟨rfl, HB1.out⟩
  have HLi := hid (hlight rfl)
  clear hlight
  by_cases h0 : 40 < la ∨ 12 < lp
  · by_cases e1 : 40 < la
    · have k1 : decide ((40 : Int) < la) = true := by simp; omega
      go_wp2
      go_ret
      exact ⟨rfl, HB1.out⟩
    · have k1 : decide ((40 : Int) < la) = false := by simp; omega
      have k2 : decide ((12 : Int) < lp) = true := by simp; omega
      go_wp2
      go_ret
      exact ⟨rfl, HB1.out⟩
  have k1 : decide ((40 : Int) < la) = false := by simp; omega
  have k2 : decide ((12 : Int) < lp) = false := by simp; omega
  have HLs := hid (show la ≤ 40 ∧ lp ≤ 12 from by omega)
  clear h0
  go_wp2_with fail
  refine (HOp.out _ HB1.out).mono ?_
  rintro e w3 ⟨g, d, T3, rfl, hsh, hb⟩
  have HSh3 := hid hsh
  clear hsh hb k1 k2
  go_upto_region 10 with fail
  rw [show Tryz.zeroCells34 = (fnL 151 mdl0F).toArray from by kernel_rfl]
  obtain ⟨hb, hhb⟩ : ∃ hb, w3.heap.size = hb := ⟨_, rfl⟩
  obtain ⟨W4, hW4⟩ : ∃ W, w3.alloc (.cells (fnL 151 mdl0F).toArray 34) = W := ⟨_, rfl⟩
  have h4 : PfAt Real PR S w2 d g hb 0 W4 := by
    have z1 : Below w3.heap.size w3 W4 := by rw [← hW4]; exact (Below.refl _ _).alloc (Nat.le_refl _) _
    have z2 : Blk W4 w3.heap.size 34 (fnL 151 mdl0F).toArray := by rw [← hW4]; exact Blk.new w3 _ _
    rw [hhb] at z2
    refine ⟨_, _, _, _, mdl0, ⟨T3, HSh3.out.on HD.out HO.out z1, ⟨mdl0F, fun h => ?_, z2, mdOk_new _ _⟩, by rw [← hhb]; exact HSh3.out.below.size, agr_new, HK0.out.fine⟩, HK0.out, calm_new 600⟩
    have := HSh3.out.lt HD.out HO.out hb h; omega
  have H4 := hid h4
  rw [hW4, hhb]
  clear h4 hW4 hhb
  go_wp2
  go_loopw [11, 8] (fun iv gv wr => ∃ i g : Nat, i ≤ len ∧ iv = .int .i64 (i : Int) ∧ gv = .pointer (some ⟨g, 0, none⟩) ∧ PfAt Real PR S w2 d g hb i wr) (fun iv _ _ => len - (intOf iv).toNat)
  case atStart => exact ⟨0, g, Nat.zero_le _, rfl, rfl, H4.out⟩
  case round =>
    rename World => wx
    obtain ⟨i, gx, hi, rfl, rfl, s, P, ch, cont, M, hsm, hkp, hcm⟩ := hrel
    have HSm := hid hsm
    have HKp := hid hkp
    have HCm := hid hcm
    clear hsm hkp hcm
    by_cases hlt : i < len
    · have hil : (i : Int) < len := by omega
      have HI := hid (show i ≤ 40 from by have := HLi.out.1; omega)
      obtain ⟨ad, had⟩ : ∃ ad, A = some ad := by
        rcases hA : A with _ | ad
        · have := HDos.out.nil hA; omega
        · exact ⟨ad, rfl⟩
      subst had
      have HBx := hid (show Below w2.heap.size w2 wx from by obtain ⟨_, h, _⟩ := HSm.out; exact h.below)
      have HT := hid (show StqOk w2 w2.heap.size (T i) from { HD1.out.ok i hlt with hB := (HD1.out.ok i hlt).hB.more HB1.out.size })
      have HL := hid (HLi.out.2 i hlt)
      have HCk := hid (fun (w' : World) (hb' : Below w2.heap.size w2 w') => (show w'.cell? (ad.add (i * 3)) = some (.int .i64 (T i).k) ∧ w'.cell? ⟨(ad.add (i * 3)).block, (ad.add (i * 3)).off + 1, none⟩ = some (.int .i64 (T i).n) ∧ w'.cell? ⟨(ad.add (i * 3)).block, (ad.add (i * 3)).off + 2, none⟩ = some (.slice (T i).B (T i).nB (T i).cB) from by
        have hdk := HD1.out.below (hb'.mono HB1.out.size)
        have c0 := hdk.at_ ad rfl i hlt 0 (by omega)
        have c1 := hdk.at_ ad rfl i hlt 1 (by omega)
        have c2 := hdk.at_ ad rfl i hlt 2 (by omega)
        rw [add_atR ad (i * 3) (by omega)] at c1 c2
        simp only [Stq.cell, Nat.add_zero] at c0 c1 c2
        exact ⟨c0, c1, c2⟩))
      have hck := HCk.out wx HBx.out
      obtain ⟨tk, htk⟩ : ∃ t, T i = t := ⟨_, rfl⟩
      rw [htk] at hck HCk HT HL
      obtain ⟨c0, c1, c2⟩ := hck
      clear htk
      have hi40 : (i : Int) ≤ 40 := by have := HI.out; omega
      rcases hk3 : (tk.k != 3) with _ | _
      · obtain ⟨Tx, hsx, ⟨fx, x1, x2, x3⟩, x4, x5, x6⟩ := HSm.out
        have HM0 := hid (show Mols (ShT Real PR S w2 d gx 600 (2000 * i) 0 s P ch) w2.heap.size wx Tx [(hb, fx, M)] from mols_one (sh_armed hsx) x4 x1 x2 x3)
        have HAg := hid x5
        have HEp := hid (show 0 ≤ M.ep ∧ M.ep ≤ 100000 from by have h1 := HKp.out.ep0; have h2 := HKp.out.ep1; rw [x5.ep] at h1 h2; omega)
        have HSta := hid (show Stays s 600 (2000 * i) P cont from HKp.out.stays HCm.out hsx.pd.1)
        have HChg := hid hsx.chg
        have HFit := hid (show fitsB P ch (halN 600) = true from fits_room HKp.out.fine (N := 30) (fun j hj => by rw [x5.cnt j]; exact if_neg (by omega)) (by rw [hh]; omega))
        clear hsx x1 x2 x3 x4 x5 x6
        go_upto_if 78 with fail
        go_cut [] from 47 to 176 (fun wz => ∃ kk Tz, kk ≤ 1000 ∧ Mols (ShT Real PR S w2 d gx 600 (2000 * i) kk s P ch) w2.heap.size wz Tz [(hb, fx, M)])
        case first =>
          by_cases hia : i < la
          · have hial : (i : Int) < la := by omega
            obtain ⟨ad2, y2, hA2, _, hy2, c3⟩ := (sn_on HA1.out HBx.out).get hia
            subst hA2
            go_wp2_with fail
            refine (number_any y2 50 _ (by omega) (by omega)).mono ?_
            rintro e w5 ⟨rfl, rfl⟩
            go_wp2_with fail
            refine (mol_armS HD.out HO.out HM0.out (by omega) y2).mono ?_
            rintro e w6 ⟨rfl, j, T6, hj, h6⟩
            have H6 := hid h6
            have HJ := hid hj
            clear h6 hj c3
            go_wp2
            go_meet
            exact ⟨j, T6, HJ.out, H6.out⟩
          · have hial : decide (i < la) = false := by simpa using hia
            go_wp2
            go_meet
            exact ⟨0, Tx, by omega, HM0.out⟩
        case rest =>
          clear c0 c1 c2
          obtain ⟨kk, Tz, hkk, hmz⟩ := hcut
          rename World => wz
          have HMz := hid hmz
          have HKk := hid hkk
          clear hmz hkk
          go_wp2_with fail
          refine (sh_changed (Real := RealA Real kk) HMz.out.st).mono ?_
          rintro e w5 ⟨rfl, rfl⟩
          go_wp2_with fail
          refine (mol_commit HD.out HO.out HOA.out HS1.out.seven HMz.out HKk.out HKp.out HCm.out HAg.out (by rw [hh]; omega) (by have := HI.out; omega)).mono ?_
          rintro e w6 ⟨val, T6, rfl, h6⟩
          obtain ⟨Mb, hMb⟩ : ∃ Mb, M.commit (if 0 < (keysOf ch).length then M.ep + 1 else M.ep) = Mb := ⟨_, rfl⟩
          have HMb := hid hMb
          rw [hMb] at h6
          obtain ⟨CT, hCT⟩ : ∃ CT, CmT Real PR S w2 d gx 600 (2000 * i + 1000) s P ch Mb val = CT := ⟨_, rfl⟩
          have HBs := hid (show Bsd CT w2.heap.size from by rw [← hCT]; exact cmT_bsd HD.out HO.out)
          have HCT := hid hCT
          rw [hCT] at h6
          have H6 := hid h6
          clear h6 hMb
          go_upto_region 20 with fail
          have r6 := hid (blkF_all (H6.out.blk _ (List.mem_cons_self ..)))
          have hz6 : w2.heap.size ≤ w6.heap.size := by have h9 := H6.out.st; rw [← HCT.out] at h9; exact (cmT_below h9).size
          have h7 := H6.out.copy HBs.out (y := (hb, fx, M)) (List.mem_cons_self ..) hz6
          clear hCT
          go_upto_region 21 with (first
            | (refine wpList_load_mid rfl 34 (.tmp 92) rfl hb 0 rfl (fnL 151 fx) _ r6.out Tryz.underlying34 rfl (Tryz.sizeM _) ?_)
            | (refine wpList_store_last rfl 34 (.tmp 14) (.tmp 93) rfl w6.heap.size (by simp) Tryz.zeroCells34 (fnL 151 fx).toArray rfl rfl ?b1 ?b2 ?b3 ?_))
          case b1 => exact Option.map_eq_some_iff.1 (Tryz.sizeM fx)
          case b2 => exact (fnL_len _ _).symm
          case b3 => exact fnL_one (fun i hi => (H6.out.md _ (List.mem_cons_self ..)).one i hi)
          obtain ⟨bb, hbb⟩ : ∃ bb, w6.heap.size = bb := ⟨_, rfl⟩
          obtain ⟨W7, hW7⟩ : ∃ W, w6.alloc (.cells (fnL 151 fx).toArray 34) = W := ⟨_, rfl⟩
          have H7 := hid (show Mols CT w2.heap.size W7 T6 [(hb, fx, M), (bb, fx, M)] from by rw [← hW7, ← hbb]; exact h7)
          rw [hW7, hbb]
          clear h7 hW7 hbb r6 hz6
          have m8 := hid ((H7.out.md (bb, fx, M) (List.mem_cons_of_mem _ (List.mem_cons_self ..))).putWas (x := fun i => fx (0 + i)) M.now (fun i hi => by
            rw [Nat.zero_add]
            exact (H7.out.md (hb, fx, M) (List.mem_cons_self ..)).now i hi))
          have r8 := hid (blkF_range (H7.out.blk (hb, fx, M) (List.mem_cons_self ..)) (o := 0) (m := 30) (by omega))
          have t8 := hid (show W7.there bb 30 (fnL 30 (fun i => fx (0 + i))).toArray.size from by rw [List.size_toArray, fnL_len]; exact blkF_there (H7.out.blk (bb, fx, M) (List.mem_cons_of_mem _ (List.mem_cons_self ..))) (by omega))
          have o8 := hid (all_oneCell_toArray (fnL_one (n := 30) (f := fun i => fx (0 + i)) (fun i hi => by
            rw [Nat.zero_add]
            exact (H7.out.md (hb, fx, M) (List.mem_cons_self ..)).oneNow i hi)))
          have h8 := H7.out.puts HBs.out (i := 1) rfl (by omega) m8.out
          go_upto_region 22 with (first
            | (refine wpList_load_mid rfl 31 (.tmp 96) rfl hb 0 rfl (fnL 30 (fun i => fx (0 + i))) _ r8.out Tryz.underlying31 rfl (Tryz.size_pagesL _) ?_)
            | (refine wpList_store_mid rfl 31 (.tmp 98) (.tmp 97) rfl bb 30 (fnL 30 (fun i => fx (0 + i))).toArray rfl rfl t8.out (Tryz.size_pagesL _) o8.out ?_))
          obtain ⟨W8, hW8⟩ : ∃ W, W7.setCells bb 30 (fnL 30 (fun i => fx (0 + i))) = W := ⟨_, rfl⟩
          obtain ⟨f8, hf8⟩ : ∃ f', putF fx 30 30 (fun i => fx (0 + i)) = f' := ⟨_, rfl⟩
          obtain ⟨M8, hM8⟩ : ∃ M', { M with was := M.now } = M' := ⟨_, rfl⟩
          have HM8 := hid hM8
          rw [hW8, hf8, hM8] at h8
          have H8 := hid (show Mols CT w2.heap.size W8 T6 [(hb, fx, M), (bb, f8, M8)] from h8)
          rw [hW8]
          clear hW8 hf8 hM8 h8 m8 r8 t8 o8
          have m9 := hid ((H8.out.md (bb, f8, M8) (List.mem_cons_of_mem _ (List.mem_cons_self ..))).putHad (x := fun i => fx (60 + i)) M.on (fun i hi => (H8.out.md (hb, fx, M) (List.mem_cons_self ..)).on i hi))
          have r9 := hid (blkF_range (H8.out.blk (hb, fx, M) (List.mem_cons_self ..)) (o := 60) (m := 30) (by omega))
          have t9 := hid (show W8.there bb 90 (fnL 30 (fun i => fx (60 + i))).toArray.size from by rw [List.size_toArray, fnL_len]; exact blkF_there (H8.out.blk (bb, f8, M8) (List.mem_cons_of_mem _ (List.mem_cons_self ..))) (by omega))
          have o9 := hid (all_oneCell_toArray (fnL_one (n := 30) (f := fun i => fx (60 + i)) (fun i hi => (H8.out.md (hb, fx, M) (List.mem_cons_self ..)).oneOn i hi)))
          have h9 := H8.out.puts HBs.out (i := 1) rfl (by omega) m9.out
          go_upto_region 23 with (first
            | (refine wpList_load_mid rfl 32 (.tmp 101) rfl hb 60 rfl (fnL 30 (fun i => fx (60 + i))) _ r9.out Tryz.underlying32 rfl (Tryz.size_boolsL _) ?_)
            | (refine wpList_store_mid rfl 32 (.tmp 103) (.tmp 102) rfl bb 90 (fnL 30 (fun i => fx (60 + i))).toArray rfl rfl t9.out (Tryz.size_boolsL _) o9.out ?_))
          obtain ⟨W9, hW9⟩ : ∃ W, W8.setCells bb 90 (fnL 30 (fun i => fx (60 + i))) = W := ⟨_, rfl⟩
          obtain ⟨f9, hf9⟩ : ∃ f', putF f8 90 30 (fun i => fx (60 + i)) = f' := ⟨_, rfl⟩
          obtain ⟨M9, hM9⟩ : ∃ M', { M8 with had := M.on } = M' := ⟨_, rfl⟩
          have HM9 := hid hM9
          rw [hW9, hf9, hM9] at h9
          have H9 := hid (show Mols CT w2.heap.size W9 T6 [(hb, fx, M), (bb, f9, M9)] from h9)
          rw [hW9]
          clear hW9 hf9 hM9 h9 m9 r9 t9 o9
          have m10 := hid ((H9.out.md (bb, f9, M9) (List.mem_cons_of_mem _ (List.mem_cons_self ..))).clear)
          have t10 := hid (show W9.there bb 121 (fnL 30 (fun _ => .bool false)).toArray.size from by rw [List.size_toArray, fnL_len]; exact blkF_there (H9.out.blk (bb, f9, M9) (List.mem_cons_of_mem _ (List.mem_cons_self ..))) (by omega))
          have h10 := H9.out.puts HBs.out (i := 1) rfl (by omega) m10.out
          go_upto_region 24 with (first
            | (refine wpList_built rfl 32 #[] rfl (fnL 30 (fun _ => .bool false)).toArray Tryz.built_bools ?_)
            | (refine wpList_store_mid rfl 32 (.tmp 105) (.tmp 104) rfl bb 121 (fnL 30 (fun _ => .bool false)).toArray rfl rfl t10.out (Tryz.size_boolsL _) (all_oneCell_toArray (fnL_one (fun _ _ => rfl))) ?_))
          obtain ⟨W10, hW10⟩ : ∃ W, W9.setCells bb 121 (fnL 30 (fun _ => .bool false)) = W := ⟨_, rfl⟩
          obtain ⟨f10, hf10⟩ : ∃ f', putF f9 121 30 (fun _ => .bool false) = f' := ⟨_, rfl⟩
          obtain ⟨M10, hM10⟩ : ∃ M', { M9 with tch := fun _ => false } = M' := ⟨_, rfl⟩
          have HM10 := hid (show M10 = { M with was := M.now, had := M.on, tch := fun _ => false } from by rw [← hM10, ← HM9.out, ← HM8.out])
          rw [hW10, hf10, hM10] at h10
          have H10 := hid (show Mols CT w2.heap.size W10 T6 [(hb, fx, M), (bb, f10, M10)] from h10)
          rw [hW10]
          clear hW10 hf10 hM10 h10 m10 t10 HM8 HM9
          by_cases hk0 : 0 < (keysOf ch).length
          · have hkd : decide (0 < (keysOf ch).length) = true := by simpa using hk0
            have hmb := HMb.out
            rw [if_pos hk0] at hmb
            have e10 : M10.ep = M.ep := by rw [HM10.out]
            have m11 := hid ((H10.out.md (bb, f10, M10) (List.mem_cons_of_mem _ (List.mem_cons_self ..))).setEp (M.ep + 1))
            have h11 := H10.out.up HBs.out (i := 1) rfl m11.out
            obtain ⟨W11, hW11⟩ : ∃ W, W10.setCell ⟨bb, 120, none⟩ (.int .i64 (M.ep + 1)) = W := ⟨_, rfl⟩
            obtain ⟨f11, hf11⟩ : ∃ f', upF f10 120 (.int .i64 (M.ep + 1)) = f' := ⟨_, rfl⟩
            have H11 := hid (show Mols CT w2.heap.size W11 T6 [(hb, fx, M), (bb, f11, Mb)] from by
              rw [← hmb, ← hW11, ← hf11, show M.commit (M.ep + 1) = { M10 with ep := M.ep + 1 } from by rw [HM10.out]; rfl]
              exact h11)
            have cE : W10.cell? ⟨bb, 120, none⟩ = some (.int .i64 M.ep) := by
              rw [blkF_cell (H10.out.blk (bb, f10, M10) (List.mem_cons_of_mem _ (List.mem_cons_self ..))) (by omega), (H10.out.md (bb, f10, M10) (List.mem_cons_of_mem _ (List.mem_cons_self ..))).ep, e10]
            have fE := Blk.free (H10.out.blk (bb, f10, M10) (List.mem_cons_of_mem _ (List.mem_cons_self ..))) 120
            have hE := HEp.out
            clear h11 m11 e10 hmb hf11
            go_upto_region 26 with fail
            try rw [hW11]
            clear hW11 cE fE
            have hst := H11.out.st
            rw [← HCT.out] at hst
            rcases hst with ⟨hv, k', s', P', cont', hk', hsh, hkp', hcm', hag'⟩ | ⟨hv, hk1, u, hrt, hcf, hup⟩
            · obtain rfl : val = .nilIface := hv
              have H12 := hid (show Mols (ShT Real PR S w2 d gx 600 (2000 * i + 1000) k' s' P' noChg) w2.heap.size W11 T6 [(hb, fx, M), (bb, f11, Mb)] from H11.out.turn hsh)
              have HKk' := hid hk'
              have HKp' := hid hkp'
              have HRe' := hid (And.intro hcm' hag')
              clear hk' hkp' hcm' hag' hsh
              go_wp2_with fail
              refine (sh_down HD.out H12.out.st HKk'.out).mono ?_
              rintro e w13 ⟨rfl, kd, rfl⟩
              obtain ⟨W13, hW13⟩ : ∃ W, World.drewN W11 kd = W := ⟨_, rfl⟩
              have H13 := hid (show Mols (ShT Real PR S w2 d gx 600 (2000 * i + 1000) k' s' P' noChg) w2.heap.size W13 T6 [(hb, fx, M), (bb, f11, Mb)] from by rw [← hW13]; exact H12.out.on (shT_bsd HD.out HO.out) (below_drewN (Below.refl _ _) kd))
              rw [hW13]
              clear hW13
              go_wp2_with fail
              refine (mol_disarm HD.out HO.out H13.out HKk'.out).mono ?_
              rintro e w14 ⟨rfl, T14, h14⟩
              have H14 := hid h14
              clear h14
              go_upto_if 117 with fail
              go_upto_region 30 with fail
              have r14 := hid (blkF_all (H14.out.blk (bb, f11, Mb) (List.mem_cons_of_mem _ (List.mem_cons_self ..))))
              have t14 := hid (show w14.there hb 0 (fnL 151 f11).toArray.size from by rw [List.size_toArray, fnL_len]; exact blkF_there (H14.out.blk (hb, fx, M) (List.mem_cons_self ..)) (by omega))
              have o14 := hid (all_oneCell_toArray (fnL_one (fun i hi => (H14.out.md (bb, f11, Mb) (List.mem_cons_of_mem _ (List.mem_cons_self ..))).one i hi)))
              have m15 := hid ((H14.out.md (bb, f11, Mb) (List.mem_cons_of_mem _ (List.mem_cons_self ..))).putAll fx)
              have h15 := H14.out.puts (shR_bsd HD.out HO.out) (i := 0) rfl (by omega) m15.out
              have HN := hid (show PfAt Real PR S w2 d gx hb (i + 1) (w14.setCells hb 0 (fnL 151 f11)) from pf_next h15 HKp'.out HRe'.out.1 HRe'.out.2 (by omega) (by omega))
              clear h15 m15
              go_upto_region 12 with (first
                | (refine wpList_load_mid rfl 34 (.tmp 14) rfl bb 0 rfl (fnL 151 f11) _ r14.out Tryz.underlying34 rfl (Tryz.sizeM _) ?_)
                | (refine wpList_store_mid rfl 34 (.tmp 120) (.tmp 119) rfl hb 0 (fnL 151 f11).toArray rfl rfl t14.out (Tryz.sizeM _) o14.out ?_))
              go_wp2
              go_roundw
              case rel => exact ⟨i + 1, gx, by omega, by go_num, rfl, HN.out⟩
              case measure => simp [intOf]; omega
            · have HQ := hid (show ∃ Pq cq, Stays (u.crash pl) 600 (2000 * i + 1000) Pq cq ∧ ((Pq = P ∧ cq = cont) ∨ (Pq = (commitTo P ch s (halN 600)).2 ∧ cq = contC cont ch)) from by
                rcases cfall_stays HSta.out hcf hup (by omega) (by omega) HChg.out.1 HChg.out.2 HFit.out pl with k | k
                · exact ⟨_, _, k, .inl ⟨rfl, rfl⟩⟩
                · exact ⟨_, _, k, .inr ⟨rfl, rfl⟩⟩)
              obtain ⟨j0, hj1, hj2, hvj⟩ := hv.one (by decide)
              clear hj1 hj2
              have HV := hid hv
              have H12 := hid (show Mols (RealT Real w2 d u.fall) w2.heap.size W11 T6 [(hb, fx, M), (bb, f11, Mb)] from H11.out.turn hrt)
              have HOk := hid (hup.fall_ok (by omega))
              have hDn := HD.out.down d u.fall T6 W11 hrt.1 HOk.out
              rw [show u.fall.down = true from rfl] at hDn
              have HDn := hid hDn
              obtain ⟨vq, hvq⟩ : ∃ vq, u.crash pl = vq := ⟨_, rfl⟩
              have hvq' : u.fall.crash pl = vq := hvq
              rw [hvq] at HQ
              have HVq := hid hvq'
              clear hv hrt hcf hup hDn hvq hvq'
              subst hvj
              go_wp2_with fail
              refine HDn.out.mono ?_
              rintro e w13 ⟨rfl, kd, rfl⟩
              obtain ⟨W13, hW13⟩ : ∃ W, World.drewN W11 kd = W := ⟨_, rfl⟩
              have H13 := hid (show Mols (RealT Real w2 d u.fall) w2.heap.size W13 T6 [(hb, fx, M), (bb, f11, Mb)] from by rw [← hW13]; exact H12.out.on (realT_bsd HD.out) (below_drewN (Below.refl _ _) kd))
              rw [hW13]
              clear hW13
              go_wp2_with fail
              refine (is_any S 106 106 _ W13 (HS1.out.on H13.out.st.2.1) HV.out).mono ?_
              rw [show ((106 : Int) == 106) = true from rfl]
              rintro e w14 ⟨rfl, hb14⟩
              have H14 := hid (H13.out.on (realT_bsd HD.out) hb14)
              clear hb14
              go_wp2_with fail
              refine (mol_crash HD.out H14.out HOk.out HP1.out (by have := HLs.out.2; omega)).mono ?_
              rw [HVq.out]
              rintro e w15 ⟨rfl, T15, h15⟩
              have H15 := hid h15
              obtain ⟨Pq, cq, hst, hwh⟩ := HQ.out
              have HSt := hid hst
              have HWh := hid hwh
              clear h15 hst hwh
              go_upto_region 34 with fail
              -- STOP
              go_wp2_with fail
              refine (mol_arm HD.out H15.out (HSt.out.up.ok (by omega)) (1 + i % 4)).mono ?_
              rintro e w16 ⟨rfl, T16, h16⟩
              have H16 := hid h16
              clear h16
              go_wp2_with fail
              refine (mol_openA HD.out HO.out HOA.out HS1.out.seven H16.out (by omega) HSt.out (by omega) (by omega) (by omega)).mono ?_
              rintro e w17 ⟨⟨r17, rfl⟩, t17, T17, h17, ok17, fall17⟩
              obtain ⟨v18, hv18⟩ : ∃ v, t17.crash pl = v := ⟨_, rfl⟩
              have HV18 := hid hv18
              have H17 := hid h17
              have HOk17 := hid ok17
              have HF17 := hid (fall17 pl)
              rw [hv18] at HF17
              clear h17 ok17 fall17 hv18
              go_wp2_with fail
              refine (mol_crash HD.out H17.out HOk17.out HP1.out (by have := HLs.out.2; omega)).mono ?_
              rw [HV18.out]
              rintro e w18 ⟨rfl, T18, h18⟩
              have H18 := hid h18
              clear h18
              go_wp2_with fail
              refine (mol_open HD.out HO.out HS1.out.seven H18.out HF17.out (by omega) (by omega) (by omega)).mono ?_
              rintro e w19 ⟨g', s', T19, rfl, h19, hk19, hc19⟩
              have H19 := hid h19
              have HKq := hid (And.intro hk19 hc19)
              clear h19 hk19 hc19
              go_upto_region 41 with fail
              -- STOP2
              have r19 := hid (blkF_all (H19.out.blk (hb, fx, M) (List.mem_cons_self ..)))
              have hz19 := H19.out.st.below.size
              have h20 := H19.out.copy (shR_bsd HD.out HO.out) (y := (hb, fx, M)) (List.mem_cons_self ..) hz19
              go_upto_region 42 with (first
                | (refine wpList_load_mid rfl 34 (.tmp 150) rfl hb 0 rfl (fnL 151 fx) _ r19.out Tryz.underlying34 rfl (Tryz.sizeM _) ?_)
                | (refine wpList_store_last rfl 34 (.tmp 17) (.tmp 151) rfl w19.heap.size (by simp) Tryz.zeroCells34 (fnL 151 fx).toArray rfl rfl ?b1 ?b2 ?b3 ?_))
              case b1 => exact Option.map_eq_some_iff.1 (Tryz.sizeM fx)
              case b2 => exact (fnL_len _ _).symm
              case b3 => exact fnL_one (fun i hi => (H19.out.md (hb, fx, M) (List.mem_cons_self ..)).one i hi)
              obtain ⟨ab, hab⟩ : ∃ ab, w19.heap.size = ab := ⟨_, rfl⟩
              obtain ⟨W20, hW20⟩ : ∃ W, w19.alloc (.cells (fnL 151 fx).toArray 34) = W := ⟨_, rfl⟩
              have H20 := hid (show Mols (ShR Real PR S w2 d g' 600 (2000 * i + 1000 + 3 + 10) s' Pq noChg) w2.heap.size W20 T19 [(hb, fx, M), (bb, f11, Mb), (ab, fx, M)] from by rw [← hW20, ← hab]; exact h20)
              rw [hW20, hab]
              clear h20 hW20 hab r19 hz19
              have m21 := hid ((H20.out.md (ab, fx, M) (List.mem_cons_of_mem _ (List.mem_cons_of_mem _ (List.mem_cons_self ..)))).putNow (x := fun i => fx (30 + i)) M.was (fun i hi => (H20.out.md (hb, fx, M) (List.mem_cons_self ..)).was i hi))
              have r21 := hid (blkF_range (H20.out.blk (hb, fx, M) (List.mem_cons_self ..)) (o := 30) (m := 30) (by omega))
              have t21 := hid (show W20.there ab 0 (fnL 30 (fun i => fx (30 + i))).toArray.size from by rw [List.size_toArray, fnL_len]; exact blkF_there (H20.out.blk (ab, fx, M) (List.mem_cons_of_mem _ (List.mem_cons_of_mem _ (List.mem_cons_self ..)))) (by omega))
              have o21 := hid (all_oneCell_toArray (fnL_one (n := 30) (f := fun i => fx (30 + i)) (fun i hi => (H20.out.md (hb, fx, M) (List.mem_cons_self ..)).oneWas i hi)))
              have h21 := H20.out.puts (shR_bsd HD.out HO.out) (i := 2) rfl (by omega) m21.out
              go_upto_region 43 with (first
                | (refine wpList_load_mid rfl 31 (.tmp 154) rfl hb 30 rfl (fnL 30 (fun i => fx (30 + i))) _ r21.out Tryz.underlying31 rfl (Tryz.size_pagesL _) ?_)
                | (refine wpList_store_mid rfl 31 (.tmp 156) (.tmp 155) rfl ab 0 (fnL 30 (fun i => fx (30 + i))).toArray rfl rfl t21.out (Tryz.size_pagesL _) o21.out ?_))
              obtain ⟨W21, hW21⟩ : ∃ W, W20.setCells ab 0 (fnL 30 (fun i => fx (30 + i))) = W := ⟨_, rfl⟩
              obtain ⟨f21, hf21⟩ : ∃ f', putF fx 0 30 (fun i => fx (30 + i)) = f' := ⟨_, rfl⟩
              obtain ⟨M21, hM21⟩ : ∃ M', { M with now := M.was } = M' := ⟨_, rfl⟩
              have HM21 := hid hM21
              rw [hW21, hf21, hM21] at h21
              have H21 := hid (show Mols (ShR Real PR S w2 d g' 600 (2000 * i + 1000 + 3 + 10) s' Pq noChg) w2.heap.size W21 T19 [(hb, fx, M), (bb, f11, Mb), (ab, f21, M21)] from h21)
              rw [hW21]
              clear hW21 hf21 hM21 h21 m21 r21 t21 o21
              have m22 := hid ((H21.out.md (ab, f21, M21) (List.mem_cons_of_mem _ (List.mem_cons_of_mem _ (List.mem_cons_self ..)))).putOn (x := fun i => fx (90 + i)) M.had (fun i hi => (H21.out.md (hb, fx, M) (List.mem_cons_self ..)).had i hi))
              have r22 := hid (blkF_range (H21.out.blk (hb, fx, M) (List.mem_cons_self ..)) (o := 90) (m := 30) (by omega))
              have t22 := hid (show W21.there ab 60 (fnL 30 (fun i => fx (90 + i))).toArray.size from by rw [List.size_toArray, fnL_len]; exact blkF_there (H21.out.blk (ab, f21, M21) (List.mem_cons_of_mem _ (List.mem_cons_of_mem _ (List.mem_cons_self ..)))) (by omega))
              have o22 := hid (all_oneCell_toArray (fnL_one (n := 30) (f := fun i => fx (90 + i)) (fun i hi => (H21.out.md (hb, fx, M) (List.mem_cons_self ..)).oneHad i hi)))
              have h22 := H21.out.puts (shR_bsd HD.out HO.out) (i := 2) rfl (by omega) m22.out
              go_upto_region 44 with (first
                | (refine wpList_load_mid rfl 32 (.tmp 159) rfl hb 90 rfl (fnL 30 (fun i => fx (90 + i))) _ r22.out Tryz.underlying32 rfl (Tryz.size_boolsL _) ?_)
                | (refine wpList_store_mid rfl 32 (.tmp 161) (.tmp 160) rfl ab 60 (fnL 30 (fun i => fx (90 + i))).toArray rfl rfl t22.out (Tryz.size_boolsL _) o22.out ?_))
              obtain ⟨W22, hW22⟩ : ∃ W, W21.setCells ab 60 (fnL 30 (fun i => fx (90 + i))) = W := ⟨_, rfl⟩
              obtain ⟨f22, hf22⟩ : ∃ f', putF f21 60 30 (fun i => fx (90 + i)) = f' := ⟨_, rfl⟩
              obtain ⟨M22, hM22⟩ : ∃ M', { M21 with on := M.had } = M' := ⟨_, rfl⟩
              have HM22 := hid hM22
              rw [hW22, hf22, hM22] at h22
              have H22 := hid (show Mols (ShR Real PR S w2 d g' 600 (2000 * i + 1000 + 3 + 10) s' Pq noChg) w2.heap.size W22 T19 [(hb, fx, M), (bb, f11, Mb), (ab, f22, M22)] from h22)
              rw [hW22]
              clear hW22 hf22 hM22 h22 m22 r22 t22 o22
              have m23 := hid ((H22.out.md (ab, f22, M22) (List.mem_cons_of_mem _ (List.mem_cons_of_mem _ (List.mem_cons_self ..)))).clear)
              have t23 := hid (show W22.there ab 121 (fnL 30 (fun _ => .bool false)).toArray.size from by rw [List.size_toArray, fnL_len]; exact blkF_there (H22.out.blk (ab, f22, M22) (List.mem_cons_of_mem _ (List.mem_cons_of_mem _ (List.mem_cons_self ..)))) (by omega))
              have h23 := H22.out.puts (shR_bsd HD.out HO.out) (i := 2) rfl (by omega) m23.out
              have e23 : { M22 with tch := fun _ => false } = M.abort := by rw [← HM22.out, ← HM21.out]; rfl
              rw [e23] at h23
              go_upto_region 46 with (first
                | (refine wpList_built rfl 32 #[] rfl (fnL 30 (fun _ => .bool false)).toArray Tryz.built_bools ?_)
                | (refine wpList_store_mid rfl 32 (.tmp 163) (.tmp 162) rfl ab 121 (fnL 30 (fun _ => .bool false)).toArray rfl rfl t23.out (Tryz.size_boolsL _) (all_oneCell_toArray (fnL_one (fun _ _ => rfl))) ?_))
              obtain ⟨W23, hW23⟩ : ∃ W, W22.setCells ab 121 (fnL 30 (fun _ => .bool false)) = W := ⟨_, rfl⟩
              obtain ⟨f23, hf23⟩ : ∃ f', putF f22 121 30 (fun _ => .bool false) = f' := ⟨_, rfl⟩
              rw [hW23, hf23] at h23
              have H23 := hid (show Mols (ShR Real PR S w2 d g' 600 (2000 * i + 1000 + 3 + 10) s' Pq noChg) w2.heap.size W23 T19 [(hb, fx, M), (bb, f11, Mb), (ab, f23, M.abort)] from h23)
              rw [hW23]
              clear hW23 hf23 h23 m23 t23 e23 HM21 HM22
              -- STOP3
              go_wp2_with fail
              refine (mol_same HD.out HO.out HS1.out H23.out HKq.out.1 (by omega) (i := 2) rfl).mono ?_
              rintro e w24 ⟨r24, T24, rfl, h24, hno, hyes⟩
              have H24 := hid h24
              have HEp2 := hid (commitTo_epoch P ch s (halN 600))
              rcases HWh.out with ⟨rfl, rfl⟩ | ⟨rfl, rfl⟩
              · have hr := hyes (agr_abort HAg.out)
                subst hr
                have H25 := hid H24.out
                clear h24 hno hyes
                have r26 := hid (blkF_all (H25.out.blk (ab, f23, M.abort) (List.mem_cons_of_mem _ (List.mem_cons_of_mem _ (List.mem_cons_self ..)))))
                have t26 := hid (show w24.there hb 0 (fnL 151 f23).toArray.size from by rw [List.size_toArray, fnL_len]; exact blkF_there (H25.out.blk (hb, fx, M) (List.mem_cons_self ..)) (by omega))
                have o26 := hid (all_oneCell_toArray (fnL_one (fun i hi => (H25.out.md (ab, f23, M.abort) (List.mem_cons_of_mem _ (List.mem_cons_of_mem _ (List.mem_cons_self ..)))).one i hi)))
                have m26 := hid ((H25.out.md (ab, f23, M.abort) (List.mem_cons_of_mem _ (List.mem_cons_of_mem _ (List.mem_cons_self ..)))).putAll fx)
                have h26 := H25.out.puts (shR_bsd HD.out HO.out) (i := 0) rfl (by omega) m26.out
                have HN := hid (show PfAt Real PR S w2 d g' hb (i + 1) (w24.setCells hb 0 (fnL 151 f23)) from pf_next h26 HKq.out.1 HKq.out.2 (agr_abort HAg.out) (by omega) (by omega))
                clear h26 m26
                go_upto_region 12 with (first
                  | (refine wpList_load_mid rfl 34 (.tmp 17) rfl ab 0 rfl (fnL 151 f23) _ r26.out Tryz.underlying34 rfl (Tryz.sizeM _) ?_)
                  | (refine wpList_store_mid rfl 34 (.tmp 169) (.tmp 168) rfl hb 0 (fnL 151 f23).toArray rfl rfl t26.out (Tryz.sizeM _) o26.out ?_))
                go_wp2
                go_roundw
                case rel => exact ⟨i + 1, g', by omega, by go_num, rfl, HN.out⟩
                case measure => simp [intOf]; omega
              · have hr : r24 = false := by
                  rcases r24 with _ | _
                  · rfl
                  · have h1 := hno rfl
                    have h2 := HAg.out.ep
                    have h3 := HEp2.out
                    have h4 : M.abort.ep = M.ep := rfl
                    omega
                subst hr
                have HAgb := hid (show Agr (commitTo P ch s (halN 600)).2 noChg (contC cont ch) Mb from by
                  have h1 := HMb.out
                  rw [if_pos hk0] at h1
                  rw [← h1]
                  exact agr_commit HAg.out (by rw [HEp2.out, HAg.out.ep]))
                clear h24 hno hyes
                go_wp2_with fail
                refine (mol_same HD.out HO.out HS1.out H24.out HKq.out.1 (by omega) (i := 1) rfl).mono ?_
                rintro e w25 ⟨r25, T25, rfl, h25, _, hyes⟩
                have hr := hyes HAgb.out
                subst hr
                have H25 := hid h25
                clear h25 hyes
                have r26 := hid (blkF_all (H25.out.blk (bb, f11, Mb) (List.mem_cons_of_mem _ (List.mem_cons_self ..))))
                have t26 := hid (show w25.there hb 0 (fnL 151 f11).toArray.size from by rw [List.size_toArray, fnL_len]; exact blkF_there (H25.out.blk (hb, fx, M) (List.mem_cons_self ..)) (by omega))
                have o26 := hid (all_oneCell_toArray (fnL_one (fun i hi => (H25.out.md (bb, f11, Mb) (List.mem_cons_of_mem _ (List.mem_cons_self ..))).one i hi)))
                have m26 := hid ((H25.out.md (bb, f11, Mb) (List.mem_cons_of_mem _ (List.mem_cons_self ..))).putAll fx)
                have h26 := H25.out.puts (shR_bsd HD.out HO.out) (i := 0) rfl (by omega) m26.out
                have HN := hid (show PfAt Real PR S w2 d g' hb (i + 1) (w25.setCells hb 0 (fnL 151 f11)) from pf_next h26 HKq.out.1 HKq.out.2 HAgb.out (by omega) (by omega))
                clear h26 m26
                go_upto_region 12 with (first
                  | (refine wpList_load_mid rfl 34 (.tmp 14) rfl bb 0 rfl (fnL 151 f11) _ r26.out Tryz.underlying34 rfl (Tryz.sizeM _) ?_)
                  | (refine wpList_store_mid rfl 34 (.tmp 175) (.tmp 174) rfl hb 0 (fnL 151 f11).toArray rfl rfl t26.out (Tryz.sizeM _) o26.out ?_))
                go_wp2
                go_roundw
                case rel => exact ⟨i + 1, g', by omega, by go_num, rfl, HN.out⟩
                case measure => simp [intOf]; omega
          · have hkd : decide (0 < (keysOf ch).length) = false := by simpa using hk0
            have hmb := HMb.out
            rw [if_neg hk0] at hmb
            have H11 := hid (show Mols CT w2.heap.size W10 T6 [(hb, fx, M), (bb, f10, Mb)] from by
              rw [← hmb, show M.commit M.ep = M10 from by rw [HM10.out]; rfl]
              exact H10.out)
            clear hmb
            go_upto_region 26 with fail
            have hst := H11.out.st
            rw [← HCT.out] at hst
            rcases hst with ⟨hv, k', s', P', cont', hk', hsh, hkp', hcm', hag'⟩ | ⟨hv, hk1, u, hrt, hcf, hup⟩
            · obtain rfl : val = .nilIface := hv
              have H12 := hid (show Mols (ShT Real PR S w2 d gx 600 (2000 * i + 1000) k' s' P' noChg) w2.heap.size W10 T6 [(hb, fx, M), (bb, f10, Mb)] from H11.out.turn hsh)
              have HKk' := hid hk'
              have HKp' := hid hkp'
              have HRe' := hid (And.intro hcm' hag')
              clear hk' hkp' hcm' hag' hsh
              go_wp2_with fail
              refine (sh_down HD.out H12.out.st HKk'.out).mono ?_
              rintro e w13 ⟨rfl, kd, rfl⟩
              obtain ⟨W13, hW13⟩ : ∃ W, World.drewN W10 kd = W := ⟨_, rfl⟩
              have H13 := hid (show Mols (ShT Real PR S w2 d gx 600 (2000 * i + 1000) k' s' P' noChg) w2.heap.size W13 T6 [(hb, fx, M), (bb, f10, Mb)] from by rw [← hW13]; exact H12.out.on (shT_bsd HD.out HO.out) (below_drewN (Below.refl _ _) kd))
              rw [hW13]
              clear hW13
              go_wp2_with fail
              refine (mol_disarm HD.out HO.out H13.out HKk'.out).mono ?_
              rintro e w14 ⟨rfl, T14, h14⟩
              have H14 := hid h14
              clear h14
              go_upto_if 117 with fail
              go_upto_region 30 with fail
              have r14 := hid (blkF_all (H14.out.blk (bb, f10, Mb) (List.mem_cons_of_mem _ (List.mem_cons_self ..))))
              have t14 := hid (show w14.there hb 0 (fnL 151 f10).toArray.size from by rw [List.size_toArray, fnL_len]; exact blkF_there (H14.out.blk (hb, fx, M) (List.mem_cons_self ..)) (by omega))
              have o14 := hid (all_oneCell_toArray (fnL_one (fun i hi => (H14.out.md (bb, f10, Mb) (List.mem_cons_of_mem _ (List.mem_cons_self ..))).one i hi)))
              have m15 := hid ((H14.out.md (bb, f10, Mb) (List.mem_cons_of_mem _ (List.mem_cons_self ..))).putAll fx)
              have h15 := H14.out.puts (shR_bsd HD.out HO.out) (i := 0) rfl (by omega) m15.out
              have HN := hid (show PfAt Real PR S w2 d gx hb (i + 1) (w14.setCells hb 0 (fnL 151 f10)) from pf_next h15 HKp'.out HRe'.out.1 HRe'.out.2 (by omega) (by omega))
              clear h15 m15
              go_upto_region 12 with (first
                | (refine wpList_load_mid rfl 34 (.tmp 14) rfl bb 0 rfl (fnL 151 f10) _ r14.out Tryz.underlying34 rfl (Tryz.sizeM _) ?_)
                | (refine wpList_store_mid rfl 34 (.tmp 120) (.tmp 119) rfl hb 0 (fnL 151 f10).toArray rfl rfl t14.out (Tryz.sizeM _) o14.out ?_))
              go_wp2
              go_roundw
              case rel => exact ⟨i + 1, gx, by omega, by go_num, rfl, HN.out⟩
              case measure => simp [intOf]; omega
            · exact absurd hk1 hk0
      · have HN3 := hid (show tk.k ≠ 3 from by simpa using hk3)
        rcases hk5 : decide (tk.k < 5) with _ | _
        · have HN := hid (show PfAt Real PR S w2 d gx hb (i + 1) wx from ⟨s, P, ch, cont, M, HSm.out.more (by omega) (by have := HI.out; omega), HKp.out.more (by omega), HCm.out⟩)
          go_wp2
          go_roundw
          case rel => exact ⟨i + 1, gx, by omega, by go_num, rfl, HN.out⟩
          case measure => simp [intOf]; omega
        · go_wp2_with fail
          refine (toldN_any HD.out HO.out HS1.out HSm.out HT.out HL.out.1 HL.out.2 HN3.out).mono ?_
          rintro e w5 ⟨rfl, ch5, M5, h5⟩
          have HN := hid (show PfAt Real PR S w2 d gx hb (i + 1) w5 from ⟨s, P, ch5, cont, M5, h5.more (by omega) (by have := HI.out; omega), HKp.out.more (by omega), HCm.out⟩)
          clear h5 c0 c1 c2
          go_wp2
          go_roundw
          case rel => exact ⟨i + 1, gx, by omega, by go_num, rfl, HN.out⟩
          case measure => simp [intOf]; omega
    · have hnlt : decide (i < len) = false := by simpa using hlt
      have HBx := hid (show Below w.heap.size w wx from by obtain ⟨_, h, _⟩ := HSm.out; exact HB1.out.trans (h.below.mono HB1.out.size))
      go_wp2
      go_ret
      exact ⟨rfl, HBx.out⟩
end
end Go.Proofs.YtaonhbmimaiiiaaGreatDoor
namespace Go.Proofs.YtaonhbmimaiiiaaGreatDoor
open Go.ChangeShapes Go.WideShapes Go.ChangeAt Go.RowKit

theorem pageFalls_all (A : Option Addr) (len cap : Nat) (T : Nat → Stq) (B : Option Addr) (len' cap' : Nat) (ys : List Int) (C : Option Addr) (len2 cap2 : Nat) (zs : List Int) (w : World) (hd : Doq w w.heap.size A len T) (hr : IsRow .i64 w B len' cap' ys) (hr' : IsRow .i64 w C len2 cap2 zs) (hL : laidMetH Tryz.prog laid24 w) :
    Calls Tryz.prog 4 #[.slice A len cap, .slice B len' cap', .slice C len2 cap2] w (Yes w) := by
  obtain ⟨S, hS⟩ := sent_of_laid hL
  exact pageFalls_any dvOk (prOk dvOk) (prArm dvOk) S A len cap T B len' cap' _ C len2 cap2 _ w hS hd (sn_of_row hr).1 (sn_of_row hr').1
end Go.Proofs.YtaonhbmimaiiiaaGreatDoor
