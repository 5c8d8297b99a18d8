/- Put together out of 4 texts. Package page's laws: an act told both: Commit. -/
import Derived.Test.YtaonhbmimaiiiaaGreatDoorGFaj
import Derived.Test.YtaonhbmimaiiiaaGreatDoorGFag
namespace Go.Proofs.YtaonhbmimaiiiaaGreatDoor
open Go.RowKit Go.Maps

section
variable {Real : World → Nat → DSt → (Nat → Prop) → Prop} {PR : World → Nat → Nat → Nat → Nat → (Nat → Prop) → Prop} {S : Nat → Addr} {w0 w w' : World} {d g n q mk hb : Nat} {s : DSt} {P : PS} {ch : Chg} {cont : Cont} {M : Mdl}
set_option maxRecDepth 100000 in
set_option maxHeartbeats 16000000 in
theorem toldCommitNone_any (D : DevOk Real) (O : PairOk Real PR) (h : ShM Real PR S w0 w d g n q mk hb s P ch cont M) (hk0 : (keysOf ch).length = 0) {i : Int} {B : Option Addr} {nB cB : Nat} :
    Calls Tryz.prog 16 #[.pointer (some ⟨g, 0, none⟩), .pointer (some ⟨hb, 0, none⟩), .agg #[.int .i64 3, .int .i64 i, .slice B nB cB]] w fun e w' => e = .returned (.bool true) ∧ ShM Real PR S w0 w' d g n q mk hb s P noChg cont (M.commit M.ep) := by
  obtain ⟨T, hsh, ⟨f, hf1, hf2, hf3⟩, hw, hag, hfi⟩ := h
  have HD := hid D
  have HO := hid O
  have HSh := hid hsh
  have HW := hid hfi
  have hng := agr_nokeys hag hk0
  subst hng
  have HK0 := hid (show tchTo M 30 = 0 from by rw [← agr_keys hag]; exact hk0)
  have HEnd := hid (fun (w7 : World) (T3 : Nat → Prop) (f7 : Nat → Value) (h : MdO Real PR S w0 w7 d g n q mk hb T3 f7 s P noChg (M.commit M.ep)) => (show ShM Real PR S w0 w7 d g n q mk hb s P noChg cont (M.commit M.ep) from
    ⟨T3, h.1, ⟨f7, h.2.1, h.2.2.2.1, h.2.2.2.2⟩, h.2.2.1, by have := agr_commit hag (e := M.ep) hag.ep; rwa [noChg_cont] at this, hfi⟩))
  have HK := hid (agr_keys hag)
  have H0 := hid (show MdO Real PR S w0 w d g n q mk hb T f s P noChg M from ⟨hsh, hf1, hw, hf2, hf3⟩)
  clear D O hsh hf1 hf2 hf3 hw hag hfi hk0
  go_enter Tryz.func16, Tryz.ntmps16
  go_upto_region 1 with fail
  obtain ⟨tb, htb⟩ : ∃ tb, w.heap.size = tb := ⟨_, rfl⟩
  have HTb := hid htb
  have HB0 := hid ((Below.refl w.heap.size w).alloc (Nat.le_refl _) (.cells #[.int .i64 3, .int .i64 i, .slice B nB cB] 36))
  have hbk := Blk.new w 36 #[.int .i64 3, .int .i64 i, .slice B nB cB]
  generalize w.alloc (.cells #[.int .i64 3, .int .i64 i, .slice B nB cB] 36) = w1 at *
  rw [htb] at hbk ⊢
  have HBk := hid hbk
  have c0 := hbk.cell 0
  have c1 := hbk.cell 1
  simp at c0 c1
  have H1 := hid (show MdO Real PR S w0 w1 d g n q mk hb T f s P noChg M from ⟨H0.out.1.on HD.out HO.out HB0.out, H0.out.2.1, H0.out.2.2.1, Blk.below H0.out.2.2.2.1 HB0.out H0.out.2.2.2.1.lt, H0.out.2.2.2.2.below HB0.out⟩)
  clear htb hbk
  go_wp2
  go_loopw [10, 9] (fun iv kv wr => ∃ j : Nat, j ≤ 30 ∧ iv = .int .i64 (j : Int) ∧ kv = .int .i64 (tchTo M j : Int) ∧ wr = w1) (fun iv _ _ => 30 - (intOf iv).toNat)
  case atStart => exact ⟨0, Nat.zero_le _, rfl, rfl, rfl⟩
  case round =>
    obtain ⟨j, hj, rfl, rfl, rfl⟩ := hrel
    by_cases hlt : j < 30
    · have hj30 : (j : Int) < 30 := by omega
      have d0 : wr.cell? ⟨hb, 121 + j, none⟩ = some (.bool (M.tch j)) := by rw [blkF_cell H1.out.2.2.2.1 (by omega), H1.out.2.2.2.2.tch j hlt]
      have HLe := hid (tchTo_le M j)
      rcases htc : M.tch j with _ | _
      · rw [htc] at d0
        have HT := hid (tchTo_no htc)
        clear htc
        go_wp2
        go_roundw
        case rel => exact ⟨j + 1, by omega, by go_num, by rw [HT.out], by trivial⟩
        case measure => simp [intOf]; omega
      · rw [htc] at d0
        have HT := hid (tchTo_yes htc)
        clear htc
        have hle : (tchTo M j : Int) ≤ 30 := by have := HLe.out; omega
        go_wp2
        go_roundw
        case rel => exact ⟨j + 1, by omega, by go_num, by rw [HT.out]; go_num, by trivial⟩
        case measure => simp [intOf]; omega
    · have hnlt : decide (j < 30) = false := by simpa using hlt
      obtain rfl : j = 30 := by omega
      go_wp2_with fail
      refine (sh_changed H1.out.1).mono ?_
      rw [HK.out]
      rintro e w2 ⟨rfl, rfl⟩
      go_wp2_with fail
      refine (sh_commitNone HD.out HO.out H1.out.1 (by decide)).mono ?_
      rintro e w3 ⟨rfl, T3, hsh, ho, hT3⟩
      have H3 := hid (show MdO Real PR S w0 w3 d g n q mk hb T3 f s P noChg M from
        ⟨hsh, fun h => (hT3 hb h).elim H1.out.2.1 (fun h => by have := H1.out.2.2.2.1.lt; omega), H1.out.2.2.1, (ho.block hb H1.out.2.2.2.1.lt H1.out.2.1).trans H1.out.2.2.2.1, H1.out.2.2.2.2.only ho (fun k hk => .inl (.inl hk)) (fun k hk => hk.elim (fun h => (hT3 k h).imp .inl id) (fun h => .inl (.inr h)))⟩)
      clear hsh ho hT3 c0 c1
      rw [HK0.out]
      have H4 := hid H3.out
      have m4 := hid H4.out.2.2.2.2.keepNow
      have r4 := hid (blkF_range H4.out.2.2.2.1 (o := 0) (m := 30) (by omega))
      have t4 := hid (H4.out.there (x := fun i => f i) (o := 30) (m := 30) (by omega))
      have o4 := hid (all_oneCell_toArray (fnL_one H4.out.2.2.2.2.oneNow))
      have h5 := H4.out.puts HD.out HO.out (by omega) m4.out
      go_upto_region 33 with (first
        | (refine wpList_load_mid rfl 31 (.tmp 135) rfl hb 0 rfl (fnL 30 (fun i => f i)) _ r4.out Tryz.underlying31 rfl (Tryz.size_pagesL _) ?_)
        | (refine wpList_store_mid rfl 31 (.tmp 138) (.tmp 136) rfl hb 30 (fnL 30 (fun i => f i)).toArray rfl rfl t4.out (Tryz.size_pagesL _) o4.out ?_))
      obtain ⟨W5, hW5⟩ : ∃ W, w3.setCells hb 30 (fnL 30 (fun i => f i)) = W := ⟨_, rfl⟩
      obtain ⟨f5, hf5⟩ : ∃ f', putF f 30 30 (fun i => f i) = f' := ⟨_, rfl⟩
      rw [hW5, hf5] at h5
      have H5 := hid h5
      rw [hW5]
      clear hW5 hf5 h5 m4 r4 t4 o4
      have m5 := hid H5.out.2.2.2.2.keepOn
      have r5 := hid (blkF_range H5.out.2.2.2.1 (o := 60) (m := 30) (by omega))
      have t5 := hid (H5.out.there (x := fun i => f5 (60 + i)) (o := 90) (m := 30) (by omega))
      have o5 := hid (all_oneCell_toArray (fnL_one H5.out.2.2.2.2.oneOn))
      have h6 := H5.out.puts HD.out HO.out (by omega) m5.out
      go_upto_region 37 with (first
        | (refine wpList_load_mid rfl 32 (.tmp 142) rfl hb 60 rfl (fnL 30 (fun i => f5 (60 + i))) _ r5.out Tryz.underlying32 rfl (Tryz.size_boolsL _) ?_)
        | (refine wpList_store_mid rfl 32 (.tmp 145) (.tmp 143) rfl hb 90 (fnL 30 (fun i => f5 (60 + i))).toArray rfl rfl t5.out (Tryz.size_boolsL _) o5.out ?_))
      obtain ⟨W6, hW6⟩ : ∃ W, W5.setCells hb 90 (fnL 30 (fun i => f5 (60 + i))) = W := ⟨_, rfl⟩
      obtain ⟨f6, hf6⟩ : ∃ f', putF f5 90 30 (fun i => f5 (60 + i)) = f' := ⟨_, rfl⟩
      rw [hW6, hf6] at h6
      have H6 := hid h6
      rw [hW6]
      clear hW6 hf6 h6 m5 r5 t5 o5
      have m6 := hid H6.out.2.2.2.2.clear
      have t6 := hid (H6.out.there (x := fun _ => .bool false) (o := 121) (m := 30) (by omega))
      have h7 := H6.out.puts HD.out HO.out (by omega) m6.out
      go_upto_region 38 with (first
        | (refine wpList_built rfl 32 #[] rfl (fnL 30 (fun _ => .bool false)).toArray Tryz.built_bools ?_)
        | (refine wpList_store_mid rfl 32 (.tmp 165) (.tmp 163) rfl hb 121 (fnL 30 (fun _ => .bool false)).toArray rfl rfl t6.out (Tryz.size_boolsL _) (all_oneCell_toArray (fnL_one (fun _ _ => rfl))) ?_))
      obtain ⟨W7, hW7⟩ : ∃ W, W6.setCells hb 121 (fnL 30 (fun _ => .bool false)) = W := ⟨_, rfl⟩
      rw [hW7] at h7
      have H7 := hid h7
      rw [hW7]
      clear hW7 h7 m6 t6
      go_wp2_with fail
      refine (sh_changed H7.out.1).mono ?_
      rintro e w7 ⟨rfl, rfl⟩
      rw [show (keysOf noChg).length = 0 from by decide]
      have HF := hid (HEnd.out w7 T3 _ H7.out)
      go_wp2
      go_ret
      exact ⟨rfl, HF.out⟩
set_option maxRecDepth 100000 in
set_option maxHeartbeats 16000000 in
theorem toldCommitYes_any (D : DevOk Real) (O : PairOk Real PR) (h : ShM Real PR S w0 w d g n q mk hb s P ch cont M) (hS : Sent7 w0 S) (hk : Keeps s n q P cont) (hk0 : 0 < (keysOf ch).length) (hr : 100 ≤ halN n) (hq : q ≤ 500000) {i : Int} {B : Option Addr} {nB cB : Nat} :
    Calls Tryz.prog 16 #[.pointer (some ⟨g, 0, none⟩), .pointer (some ⟨hb, 0, none⟩), .agg #[.int .i64 3, .int .i64 i, .slice B nB cB]] w fun e w' => e = .returned (.bool true) ∧ ShM Real PR S w0 w' d g n (q + 1000) mk hb (comDev P ch s (halN n)) (commitTo P ch s (halN n)).2 noChg (contC cont ch) (M.commit (M.ep + 1)) ∧ Keeps (comDev P ch s (halN n)) n (q + 1000) (commitTo P ch s (halN n)).2 (contC cont ch) := by
  obtain ⟨T, hsh, ⟨f, hf1, hf2, hf3⟩, hw, hag, hfi⟩ := h
  have HD := hid D
  have HO := hid O
  have HSh := hid hsh
  have hfit : fitsB P ch (halN n) = true := fits_room hk.fine (N := 30) (fun j hj => by rw [hag.cnt j]; exact if_neg (by omega)) (by omega)
  obtain ⟨_, hku, hkk⟩ := keeps_commit hk hsh.pd.1 (by omega) hsh.chg.1 hsh.chg.2 hfit
  have HKp := hid hk
  have HFit := hid (And.intro hfit hk0)
  have HQ := hid hq
  have HS := hid hS
  obtain ⟨s2, hs2⟩ : ∃ s2, comDev P ch s (halN n) = s2 := ⟨_, rfl⟩
  obtain ⟨P2, hP2⟩ : ∃ P2, (commitTo P ch s (halN n)).2 = P2 := ⟨_, rfl⟩
  have hep2 : P2.epoch = M.ep + 1 := by rw [← hP2, commitTo_epoch, hag.ep]
  have HE2 := hid (And.intro hs2 hP2)
  rw [hs2, hP2] at hkk ⊢
  have HKk := hid hkk
  have hep0 := hk.ep0
  have hep1 := hk.ep1
  rw [hag.ep] at hep0 hep1
  have hepq : M.ep ≤ 500000 := by omega
  have HEnd := hid (fun (w7 : World) (T3 : Nat → Prop) (f7 : Nat → Value) (h : MdO Real PR S w0 w7 d g n (q + 1000) mk hb T3 f7 s2 P2 noChg (M.commit (M.ep + 1))) => (show ShM Real PR S w0 w7 d g n (q + 1000) mk hb s2 P2 noChg (contC cont ch) (M.commit (M.ep + 1)) from
    ⟨T3, h.1, ⟨f7, h.2.1, h.2.2.2.1, h.2.2.2.2⟩, h.2.2.1, agr_commit hag hep2, hkk.fine⟩))
  have HK0 := hid (show 0 < tchTo M 30 from by rw [← agr_keys hag]; exact hk0)
  have HK := hid (agr_keys hag)
  have H0 := hid (show MdO Real PR S w0 w d g n q mk hb T f s P ch M from ⟨hsh, hf1, hw, hf2, hf3⟩)
  clear D O hsh hf1 hf2 hf3 hw hag hfi hk0 hS hk hr hq hfit hku hs2 hP2 hep2 hkk hep1
  go_enter Tryz.func16, Tryz.ntmps16
  go_upto_region 1 with fail
  obtain ⟨tb, htb⟩ : ∃ tb, w.heap.size = tb := ⟨_, rfl⟩
  have HTb := hid htb
  have HB0 := hid ((Below.refl w.heap.size w).alloc (Nat.le_refl _) (.cells #[.int .i64 3, .int .i64 i, .slice B nB cB] 36))
  have hbk := Blk.new w 36 #[.int .i64 3, .int .i64 i, .slice B nB cB]
  generalize w.alloc (.cells #[.int .i64 3, .int .i64 i, .slice B nB cB] 36) = w1 at *
  rw [htb] at hbk ⊢
  have HBk := hid hbk
  have c0 := hbk.cell 0
  have c1 := hbk.cell 1
  simp at c0 c1
  have H1 := hid (show MdO Real PR S w0 w1 d g n q mk hb T f s P ch M from ⟨H0.out.1.on HD.out HO.out HB0.out, H0.out.2.1, H0.out.2.2.1, Blk.below H0.out.2.2.2.1 HB0.out H0.out.2.2.2.1.lt, H0.out.2.2.2.2.below HB0.out⟩)
  clear htb hbk
  go_wp2
  go_loopw [10, 9] (fun iv kv wr => ∃ j : Nat, j ≤ 30 ∧ iv = .int .i64 (j : Int) ∧ kv = .int .i64 (tchTo M j : Int) ∧ wr = w1) (fun iv _ _ => 30 - (intOf iv).toNat)
  case atStart => exact ⟨0, Nat.zero_le _, rfl, rfl, rfl⟩
  case round =>
    obtain ⟨j, hj, rfl, rfl, rfl⟩ := hrel
    by_cases hlt : j < 30
    · have hj30 : (j : Int) < 30 := by omega
      have d0 : wr.cell? ⟨hb, 121 + j, none⟩ = some (.bool (M.tch j)) := by rw [blkF_cell H1.out.2.2.2.1 (by omega), H1.out.2.2.2.2.tch j hlt]
      have HLe := hid (tchTo_le M j)
      rcases htc : M.tch j with _ | _
      · rw [htc] at d0
        have HT := hid (tchTo_no htc)
        clear htc
        go_wp2
        go_roundw
        case rel => exact ⟨j + 1, by omega, by go_num, by rw [HT.out], by trivial⟩
        case measure => simp [intOf]; omega
      · rw [htc] at d0
        have HT := hid (tchTo_yes htc)
        clear htc
        have hle : (tchTo M j : Int) ≤ 30 := by have := HLe.out; omega
        go_wp2
        go_roundw
        case rel => exact ⟨j + 1, by omega, by go_num, by rw [HT.out]; go_num, by trivial⟩
        case measure => simp [intOf]; omega
    · have hnlt : decide (j < 30) = false := by simpa using hlt
      obtain rfl : j = 30 := by omega
      go_wp2_with fail
      refine (sh_changed H1.out.1).mono ?_
      rw [HK.out]
      rintro e w2 ⟨rfl, rfl⟩
      have HLe := hid (tchTo_le M 30)
      obtain ⟨K, hK⟩ : ∃ K, tchTo M 30 = K := ⟨_, rfl⟩
      rw [hK] at HLe HK0 ⊢
      have hKp : decide (0 < K) = true := by have := HK0.out; simp; omega
      have hKi : (0 : Int) < (K : Int) := by have := HK0.out; omega
      clear hK
      go_wp2_with fail
      refine (sh_commit HD.out HO.out HS.out H1.out.1 HKp.out HFit.out.2 HFit.out.1 (by have := HQ.out; omega)).mono ?_
      rw [HE2.out.1, HE2.out.2]
      rintro e w3 ⟨rfl, T3, hsh, ho, hT3⟩
      have H3 := hid (show MdO Real PR S w0 w3 d g n (q + 1000) mk hb T3 f s2 P2 noChg M from
        ⟨hsh, fun h => (hT3 hb h).elim H1.out.2.1 (fun h => by have := H1.out.2.2.2.1.lt; omega), H1.out.2.2.1, (ho.block hb H1.out.2.2.2.1.lt H1.out.2.1).trans H1.out.2.2.2.1, H1.out.2.2.2.2.only ho (fun k hk => .inl (.inl hk)) (fun k hk => hk.elim (fun h => (hT3 k h).imp .inl id) (fun h => .inl (.inr h)))⟩)
      have e0 : w3.cell? ⟨hb, 120, none⟩ = some (.int .i64 M.ep) := by rw [blkF_cell H3.out.2.2.2.1 (by omega), H3.out.2.2.2.2.ep]
      have e1 := Blk.free H3.out.2.2.2.1 120
      have m3 := hid (H3.out.2.2.2.2.setEp (M.ep + 1))
      have h4 := H3.out.up HD.out HO.out m3.out
      clear hsh ho hT3 c0 c1
      go_upto_region 32 with fail
      obtain ⟨W4, hW4⟩ : ∃ W, w3.setCell ⟨hb, 120, none⟩ (.int .i64 (M.ep + 1)) = W := ⟨_, rfl⟩
      obtain ⟨f4, hf4⟩ : ∃ f', upF f 120 (.int .i64 (M.ep + 1)) = f' := ⟨_, rfl⟩
      rw [hW4, hf4] at h4
      have H4 := hid h4
      rw [hW4]
      clear hW4 hf4 h4 m3 e0 e1
      have m4 := hid H4.out.2.2.2.2.keepNow
      have r4 := hid (blkF_range H4.out.2.2.2.1 (o := 0) (m := 30) (by omega))
      have t4 := hid (H4.out.there (x := fun i => f4 i) (o := 30) (m := 30) (by omega))
      have o4 := hid (all_oneCell_toArray (fnL_one H4.out.2.2.2.2.oneNow))
      have h5 := H4.out.puts HD.out HO.out (by omega) m4.out
      go_upto_region 33 with (first
        | (refine wpList_load_mid rfl 31 (.tmp 135) rfl hb 0 rfl (fnL 30 (fun i => f4 i)) _ r4.out Tryz.underlying31 rfl (Tryz.size_pagesL _) ?_)
        | (refine wpList_store_mid rfl 31 (.tmp 138) (.tmp 136) rfl hb 30 (fnL 30 (fun i => f4 i)).toArray rfl rfl t4.out (Tryz.size_pagesL _) o4.out ?_))
      obtain ⟨W5, hW5⟩ : ∃ W, W4.setCells hb 30 (fnL 30 (fun i => f4 i)) = W := ⟨_, rfl⟩
      obtain ⟨f5, hf5⟩ : ∃ f', putF f4 30 30 (fun i => f4 i) = f' := ⟨_, rfl⟩
      rw [hW5, hf5] at h5
      have H5 := hid h5
      rw [hW5]
      clear hW5 hf5 h5 m4 r4 t4 o4
      have m5 := hid H5.out.2.2.2.2.keepOn
      have r5 := hid (blkF_range H5.out.2.2.2.1 (o := 60) (m := 30) (by omega))
      have t5 := hid (H5.out.there (x := fun i => f5 (60 + i)) (o := 90) (m := 30) (by omega))
      have o5 := hid (all_oneCell_toArray (fnL_one H5.out.2.2.2.2.oneOn))
      have h6 := H5.out.puts HD.out HO.out (by omega) m5.out
      go_upto_region 37 with (first
        | (refine wpList_load_mid rfl 32 (.tmp 142) rfl hb 60 rfl (fnL 30 (fun i => f5 (60 + i))) _ r5.out Tryz.underlying32 rfl (Tryz.size_boolsL _) ?_)
        | (refine wpList_store_mid rfl 32 (.tmp 145) (.tmp 143) rfl hb 90 (fnL 30 (fun i => f5 (60 + i))).toArray rfl rfl t5.out (Tryz.size_boolsL _) o5.out ?_))
      obtain ⟨W6, hW6⟩ : ∃ W, W5.setCells hb 90 (fnL 30 (fun i => f5 (60 + i))) = W := ⟨_, rfl⟩
      obtain ⟨f6, hf6⟩ : ∃ f', putF f5 90 30 (fun i => f5 (60 + i)) = f' := ⟨_, rfl⟩
      rw [hW6, hf6] at h6
      have H6 := hid h6
      rw [hW6]
      clear hW6 hf6 h6 m5 r5 t5 o5
      have m6 := hid H6.out.2.2.2.2.clear
      have t6 := hid (H6.out.there (x := fun _ => .bool false) (o := 121) (m := 30) (by omega))
      have h7 := H6.out.puts HD.out HO.out (by omega) m6.out
      go_upto_region 38 with (first
        | (refine wpList_built rfl 32 #[] rfl (fnL 30 (fun _ => .bool false)).toArray Tryz.built_bools ?_)
        | (refine wpList_store_mid rfl 32 (.tmp 165) (.tmp 163) rfl hb 121 (fnL 30 (fun _ => .bool false)).toArray rfl rfl t6.out (Tryz.size_boolsL _) (all_oneCell_toArray (fnL_one (fun _ _ => rfl))) ?_))
      obtain ⟨W7, hW7⟩ : ∃ W, W6.setCells hb 121 (fnL 30 (fun _ => .bool false)) = W := ⟨_, rfl⟩
      rw [hW7] at h7
      have H7 := hid h7
      rw [hW7]
      clear hW7 h7 m6 t6
      go_wp2_with fail
      refine (sh_changed H7.out.1).mono ?_
      rintro e w7 ⟨rfl, rfl⟩
      rw [show (keysOf noChg).length = 0 from by decide]
      have HF := hid (HEnd.out w7 T3 _ H7.out)
      go_wp2
      go_ret
      exact ⟨rfl, HF.out, HKk.out⟩
end
end Go.Proofs.YtaonhbmimaiiiaaGreatDoor
namespace Go.Proofs.YtaonhbmimaiiiaaGreatDoor
open Go.RowKit Go.Maps

section
variable {Real : World → Nat → DSt → (Nat → Prop) → Prop} {PR : World → Nat → Nat → Nat → Nat → (Nat → Prop) → Prop} {S : Nat → Addr} {w0 w w' : World} {d g n q mk hb : Nat} {s : DSt} {P : PS} {ch : Chg} {cont : Cont} {M : Mdl}
theorem pages_some {cnt : Cont} (hk : Fine (halN n) P cont) (hc : contC cont ch = cnt) (h0 : ∀ i, 30 ≤ i → cnt i = none) : pagesTo P ch 256 = someTo cnt 30 := by
  subst hc
  unfold pagesTo someTo
  rw [show (256 : Nat) = 30 + 226 from rfl, List.range_add, List.filter_append]
  have e1 : ((List.range 226).map (30 + ·)).filter (thereB P ch) = [] := by
    rw [List.filter_eq_nil_iff]
    intro a ha
    obtain ⟨j, hj, rfl⟩ := List.mem_map.1 ha
    have := List.mem_range.1 hj
    rw [there_cont hk (by omega), h0 _ (by omega)]; decide
  rw [e1, List.append_nil]
  apply List.filter_congr
  intro a ha
  exact there_cont hk (by have := List.mem_range.1 ha; omega)
theorem mcont_off {M : Mdl} {i : Nat} (h : 30 ≤ i) : M.cont i = none := if_neg (by omega)
theorem ShM.more {q' : Nat} (h : ShM Real PR S w0 w d g n q mk hb s P ch cont M) (hq : q ≤ q') (hq' : q' ≤ 900000) : ShM Real PR S w0 w d g n q' mk hb s P ch cont M := by
  obtain ⟨T, h1, h2⟩ := h
  exact ⟨T, h1.more hq hq' (Nat.le_refl _), h2⟩
end
end Go.Proofs.YtaonhbmimaiiiaaGreatDoor
namespace Go.Proofs.YtaonhbmimaiiiaaGreatDoor
open Go.RowKit

/-- what the root's blocks are to have -/
def hasB (P : PS) : List Int := if P.epoch = 0 then zerosL 256 else bytesOf (rootSt P)
/-- may b stand in block i? -/
def rightB (P : PS) (i : Nat) (b : List Int) : Bool := if (i : Int) = P.epoch % 2 then sameB b (hasB P) else (readR b).isSome || zeroB b
section
variable {P : PS} {ch : Chg} {S : Nat → Addr}
/-- a root that may be -/
def RtOk (P : PS) : Prop := 0 ≤ P.epoch ∧ P.epoch ≤ 1099511627776 ∧ (0 < P.epoch → (rootSt P).code = 0) ∧ Sums (rootSt P).refs
theorem hasB_len (h : RtOk P) : (hasB P).length = 256 ∧ Byt (hasB P) := by
  unfold hasB
  split
  · refine ⟨List.length_replicate, fun x hx => ?_⟩
    have : x = 0 := List.eq_of_mem_replicate hx
    omega
  · rename_i h0
    have hc := h.2.2.1 (by have := h.1; omega)
    have hf := (rootSt P).fine hc
    exact ⟨bytesOf_len hf.2.2.2, bytesOf_byt _⟩
set_option maxRecDepth 100000 in
set_option maxHeartbeats 4000000 in
theorem rootBlock_any (g d p mm : Nat) (D : DataW Unit) (C : Nat → Prop) (w : World) (hS : Sent6 w S) (h : Sto w g d p mm P ch D C) (hr : RtOk P) :
    Calls Tryz.prog 116 #[.pointer (some ⟨g, 0, none⟩)] w fun e w' => ∃ A c, e = .returned (.tuple #[.slice A 256 c, .nilIface]) ∧ Sl w' w'.heap.size A 256 c (hasB P) ∧ (∀ ad, A = some ad → w.heap.size ≤ ad.block) ∧ Below w.heap.size w w' := by
  obtain ⟨i0, hi, hz0, hz1, hz2⟩ := info_parts Tryz.info5
  have c0 := h.epoch
  by_cases h0 : P.epoch = 0
  · have hq : (P.epoch == 0) = true := by simpa using h0
    have e1 : hasB P = zerosL 256 := by unfold hasB; rw [if_pos h0]
    rw [e1]
    clear h hr h0 e1 hS
    go_enter Tryz.func116, Tryz.ntmps116
    go_wp2_with (at_make; refine wpList_make_full _ rfl _ _ 30 rfl w.heap.size 5 i0 (.int .u8 0) 1 Tryz.underlying30 hi hz0 hz1 _ _ _ _ 256 rfl rfl rfl rfl ?b2 ?b3 ?b4 ?_)
    case b2 => rw [hz2]; omega
    case b3 => unfold maxLen; omega
    case b4 => exact Nat.le_refl _
    intro w2 hown hgrow
    have hbm : Below w.heap.size w w2 := (Below.refl _ _).grown hgrow (Nat.le_refl _) (fun _ h => by cases h)
    have hO : Own w2 w.heap.size (.slice (some ⟨w.heap.size, 0, none⟩) 256 256) (zerosL 256) := by
      rw [zeros] at hown
      have e : (zerosL 256).length = 256 := List.length_replicate
      unfold Own
      rw [e]
      exact hown
    obtain ⟨A2, c2, e2, hs2, hap2⟩ := hO.form
    cases e2
    have HF := hid (And.intro hs2 (And.intro hap2 hbm))
    clear hown hgrow hbm hO hs2 hap2
    go_wp2
    go_ret2
    exact ⟨_, _, rfl, HF.out⟩
  · have hq : (P.epoch == 0) = false := by rw [beq_eq_false_iff_ne]; exact h0
    have e1 : hasB P = bytesOf (rootSt P) := by unfold hasB; rw [if_neg h0]
    rw [e1]
    have HRo := hid (rootOf_any P g 2 _ _ _ w h.box h.len rfl)
    have HBy := hid (fun (A : Option Addr) (c : Nat) (w' : World) (hb : Below w.heap.size w w') (hrf : Rf w' w'.heap.size A 7 c P.idx) => rootBytes_any S (rootSt P) A 7 c w' (hS.on hb) hrf hr.2.2.2 (by have h1 := hr.1; show _ ≤ P.epoch; omega) (by have h1 := hr.2.1; show P.epoch ≤ _; omega))
    have HC := hid (show (rootSt P).code = 0 from hr.2.2.1 (by have h1 := hr.1; omega))
    clear h hr h0 e1 hS
    go_enter Tryz.func116, Tryz.ntmps116
    go_wp2_with fail
    refine HRo.out.mono ?_
    rintro e w1 ⟨A1, c1, rfl, hrf, hap, hb⟩
    have HBy1 := hid (HBy.out A1 c1 w1 hb hrf)
    have HB1 := hid hb
    clear hrf hap hb
    go_wp2_with fail
    refine HBy1.out.mono ?_
    rintro e w2 ⟨hor, hb2⟩
    rcases hor with ⟨_, A2, c2, rfl, hs2, hap2⟩ | ⟨hn, _⟩
    · have HF := hid (show Sl w2 w2.heap.size A2 256 c2 (bytesOf (rootSt P)) ∧ (∀ ad, A2 = some ad → w.heap.size ≤ ad.block) ∧ Below w.heap.size w w2 from ⟨hs2, fun ad ha => Nat.le_trans HB1.out.size (hap2 ad ha), HB1.out.trans (hb2.mono HB1.out.size)⟩)
      clear hs2 hap2 hb2
      go_wp2
      go_ret2
      exact ⟨A2, c2, rfl, HF.out⟩
    · exact absurd HC.out hn
end
end Go.Proofs.YtaonhbmimaiiiaaGreatDoor
namespace Go.Proofs.YtaonhbmimaiiiaaGreatDoor
open Go.RowKit

section
variable {P : PS} {ch : Chg} {S : Nat → Addr}
set_option maxRecDepth 100000 in
set_option maxHeartbeats 4000000 in
theorem rightRoot_any (g d p mm i nb c c2 : Nat) (A A2 : Option Addr) (b : List Int) (D : DataW Unit) (C : Nat → Prop) (w : World) (hS : Sent6 w S) (h : Sto w g d p mm P ch D C) (hr : RtOk P) (hb : Sl w w.heap.size A nb c b) (hy : Byt b) (hh : Sl w w.heap.size A2 256 c2 (hasB P)) :
    Calls Tryz.prog 117 #[.pointer (some ⟨g, 0, none⟩), .int .i64 (i : Int), .slice A nb c, .slice A2 256 c2] w fun e w' => e = .returned (.bool (rightB P i b)) ∧ Below w.heap.size w w' := by
  have c0 := h.epoch
  have he0 := hr.1
  have he1 : P.epoch ≤ 1099511627776 := hr.2.1
  obtain ⟨e2, he2, he2l⟩ : ∃ e2 : Nat, P.epoch % 2 = (e2 : Int) ∧ e2 < 2 := ⟨(P.epoch % 2).toNat, by omega, by omega⟩
  by_cases h0 : i = e2
  · subst h0
    have e1 : rightB P i b = sameB b (hasB P) := by unfold rightB; rw [if_pos he2.symm]
    rw [e1]
    have HEq := hid (bytesEqual_any A A2 nb c 256 c2 b (hasB P) _ _ w hb hh hy (hasB_len hr).2)
    have hq : (i == i) = true := by simp
    clear h hr hS hb hh hy e1
    go_enter Tryz.func117, Tryz.ntmps117
    go_wp2_with fail
    refine HEq.out.mono ?_
    rintro e w1 ⟨rfl, k, rfl⟩
    go_wp2
    go_ret
    exact ⟨rfl, below_drewN (Below.refl _ _) _⟩
  · have e1 : rightB P i b = ((readR b).isSome || zeroB b) := by unfold rightB; rw [if_neg (by rw [he2]; omega)]
    rw [e1]
    have HRd := hid (read_any S A nb c b w hS hb hy)
    have HBl := hid (fun (W : World) (hbW : Below w.heap.size w W) => blank_any A nb c b W (hb.on hbW) hy)
    have hq : (i == e2) = false := by simpa using h0
    clear h hr hS hb hh hy e1 h0
    go_enter Tryz.func117, Tryz.ntmps117
    go_wp2_with fail
    refine HRd.out.mono ?_
    rintro e w1 ⟨A1, n1, c1, rfl, _, hb1, _⟩
    have HB1 := hid hb1
    generalize hrd : (readR b).isSome = rb
    have HRb := hid hrd
    clear hb1 hrd
    have HBx := hid (fun (o : Obj) => HBl.out (w1.alloc o) (HB1.out.trans (((Below.refl _ _).alloc (Nat.le_refl _) o).mono HB1.out.size)))
    have HB1x := hid (fun (o : Obj) => (show Below w.heap.size w (w1.alloc o) from HB1.out.trans (((Below.refl _ _).alloc (Nat.le_refl _) o).mono HB1.out.size)))
    cases rb
    · go_wp2_with fail
      refine (HBx.out _).mono ?_
      rintro e w2 ⟨rfl, hb2⟩
      have HB2 := hid ((HB1x.out _).trans (hb2.mono (HB1x.out _).size))
      clear hb2
      go_wp2
      go_ret
      exact ⟨by rw [HRb.out]; rfl, HB2.out⟩
    · go_wp2
      go_ret
      exact ⟨by rw [HRb.out]; rfl, HB1x.out _⟩
end
end Go.Proofs.YtaonhbmimaiiiaaGreatDoor
