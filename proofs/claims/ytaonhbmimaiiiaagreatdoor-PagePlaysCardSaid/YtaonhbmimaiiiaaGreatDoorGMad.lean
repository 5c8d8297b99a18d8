/- Put together out of 4 texts. Package page's laws: an act told both: Commit. -/
import Derived.Test.YtaonhbmimaiiiaaGreatDoorGMac
import Derived.Test.YtaonhbmimaiiiaaGreatDoorGKal
import Derived.Test.YtaonhbmimaiiiaaGreatDoorGKam
import Derived.Test.YtaonhbmimaiiiaaGreatDoorGKap
namespace Go.Proofs.YtaonhbmimaiiiaaGreatDoor
open Go.RowKit Go.Maps

section
variable {Real : World → Nat → DSt → (Nat → Prop) → Prop} {PR : World → Nat → Nat → Nat → Nat → (Nat → Prop) → Prop} {S : Nat → Addr} {w0 w w' : World} {d g n q mk hb : Nat} {s : DSt} {P : PS} {ch : Chg} {cont : Cont} {M : Mdl}
set_option maxRecDepth 100000 in
set_option maxHeartbeats 16000000 in
theorem toldCommitNone_any (D : DevOk Real) (O : PairOk Real PR) (h : ShM Real PR S w0 w d g n q mk hb s P ch cont M) (hk0 : (keysOf ch).length = 0) {i : Int} {B : Option Addr} {nB cB : Nat} :
    Calls Tryz.prog 16 #[.pointer (some ⟨g, 0, none⟩), .pointer (some ⟨hb, 0, none⟩), .agg #[.int .i64 3, .int .i64 i, .slice B nB cB]] w fun e w' => e = .returned (.bool true) ∧ ShM Real PR S w0 w' d g n q mk hb s P noChg cont (M.commit M.ep) := by
  obtain ⟨T, hsh, ⟨f, hf1, hf2, hf3⟩, hw, hag, hfi⟩ := h
  have HD := hid D
  have HO := hid O
  have HSh := hid hsh
  have HW := hid hfi
  have hng := agr_nokeys hag hk0
  subst hng
  have HK0 := hid (show tchTo M 30 = 0 from by rw [← agr_keys hag]; exact hk0)
  have HEnd := hid (fun (w7 : World) (T3 : Nat → Prop) (f7 : Nat → Value) (h : MdO Real PR S w0 w7 d g n q mk hb T3 f7 s P noChg (M.commit M.ep)) => (show ShM Real PR S w0 w7 d g n q mk hb s P noChg cont (M.commit M.ep) from
    ⟨T3, h.1, ⟨f7, h.2.1, h.2.2.2.1, h.2.2.2.2⟩, h.2.2.1, by have := agr_commit hag (e := M.ep) hag.ep; rwa [noChg_cont] at this, hfi⟩))
  have HK := hid (agr_keys hag)
  have H0 := hid (show MdO Real PR S w0 w d g n q mk hb T f s P noChg M from ⟨hsh, hf1, hw, hf2, hf3⟩)
  clear D O hsh hf1 hf2 hf3 hw hag hfi hk0
  go_enter Tryz.func16, Tryz.ntmps16
  go_upto_region 1 with fail
  obtain ⟨tb, htb⟩ : ∃ tb, w.heap.size = tb := ⟨_, rfl⟩
  have HTb := hid htb
  have HB0 := hid ((Below.refl w.heap.size w).alloc (Nat.le_refl _) (.cells #[.int .i64 3, .int .i64 i, .slice B nB cB] 36))
  have hbk := Blk.new w 36 #[.int .i64 3, .int .i64 i, .slice B nB cB]
  generalize w.alloc (.cells #[.int .i64 3, .int .i64 i, .slice B nB cB] 36) = w1 at *
  rw [htb] at hbk ⊢
  have HBk := hid hbk
  have c0 := hbk.cell 0
  have c1 := hbk.cell 1
  simp at c0 c1
  have H1 := hid (show MdO Real PR S w0 w1 d g n q mk hb T f s P noChg M from ⟨H0.out.1.on HD.out HO.out HB0.out, H0.out.2.1, H0.out.2.2.1, Blk.below H0.out.2.2.2.1 HB0.out H0.out.2.2.2.1.lt, H0.out.2.2.2.2.below HB0.out⟩)
  clear htb hbk
  go_wp2
  go_loopw [10, 9] (fun iv kv wr => ∃ j : Nat, j ≤ 30 ∧ iv = .int .i64 (j : Int) ∧ kv = .int .i64 (tchTo M j : Int) ∧ wr = w1) (fun iv _ _ => 30 - (intOf iv).toNat)
  case atStart => exact ⟨0, Nat.zero_le _, rfl, rfl, rfl⟩
  case round =>
    obtain ⟨j, hj, rfl, rfl, rfl⟩ := hrel
    by_cases hlt : j < 30
    · have hj30 : (j : Int) < 30 := by omega
      have d0 : wr.cell? ⟨hb, 121 + j, none⟩ = some (.bool (M.tch j)) := by rw [blkF_cell H1.out.2.2.2.1 (by omega), H1.out.2.2.2.2.tch j hlt]
      have HLe := hid (tchTo_le M j)
      rcases htc : M.tch j with _ | _
      · rw [htc] at d0
        have HT := hid (tchTo_no htc)
        clear htc
        go_wp2
        go_roundw
        case rel => exact ⟨j + 1, by omega, by go_num, by rw [HT.out], by trivial⟩
        case measure => simp [intOf]; omega
      · rw [htc] at d0
        have HT := hid (tchTo_yes htc)
        clear htc
        have hle : (tchTo M j : Int) ≤ 30 := by have := HLe.out; omega
        go_wp2
        go_roundw
        case rel => exact ⟨j + 1, by omega, by go_num, by rw [HT.out]; go_num, by trivial⟩
        case measure => simp [intOf]; omega
    · have hnlt : decide (j < 30) = false := by simpa using hlt
      obtain rfl : j = 30 := by omega
      go_wp2_with fail
      refine (sh_changed H1.out.1).mono ?_
      rw [HK.out]
      rintro e w2 ⟨rfl, rfl⟩
      go_wp2_with fail
      refine (sh_commitNone HD.out HO.out H1.out.1 (by decide)).mono ?_
      rintro e w3 ⟨rfl, T3, hsh, ho, hT3⟩
      have H3 := hid (show MdO Real PR S w0 w3 d g n q mk hb T3 f s P noChg M from
        ⟨hsh, fun h => (hT3 hb h).elim H1.out.2.1 (fun h => by have := H1.out.2.2.2.1.lt; omega), H1.out.2.2.1, (ho.block hb H1.out.2.2.2.1.lt H1.out.2.1).trans H1.out.2.2.2.1, H1.out.2.2.2.2.only ho (fun k hk => .inl (.inl hk)) (fun k hk => hk.elim (fun h => (hT3 k h).imp .inl id) (fun h => .inl (.inr h)))⟩)
      clear hsh ho hT3 c0 c1
      rw [HK0.out]
      have H4 := hid H3.out
      have m4 := hid H4.out.2.2.2.2.keepNow
      have r4 := hid (blkF_range H4.out.2.2.2.1 (o := 0) (m := 30) (by omega))
      have t4 := hid (H4.out.there (x := fun i => f i) (o := 30) (m := 30) (by omega))
      have o4 := hid (all_oneCell_toArray (fnL_one H4.out.2.2.2.2.oneNow))
      have h5 := H4.out.puts HD.out HO.out (by omega) m4.out
      go_upto_region 33 with (first
        | (refine wpList_load_mid rfl 31 (.tmp 135) rfl hb 0 rfl (fnL 30 (fun i => f i)) _ r4.out Tryz.underlying31 rfl (Tryz.size_pagesL _) ?_)
        | (refine wpList_store_mid rfl 31 (.tmp 138) (.tmp 136) rfl hb 30 (fnL 30 (fun i => f i)).toArray rfl rfl t4.out (Tryz.size_pagesL _) o4.out ?_))
      obtain ⟨W5, hW5⟩ : ∃ W, w3.setCells hb 30 (fnL 30 (fun i => f i)) = W := ⟨_, rfl⟩
      obtain ⟨f5, hf5⟩ : ∃ f', putF f 30 30 (fun i => f i) = f' := ⟨_, rfl⟩
      rw [hW5, hf5] at h5
      have H5 := hid h5
      rw [hW5]
      clear hW5 hf5 h5 m4 r4 t4 o4
      have m5 := hid H5.out.2.2.2.2.keepOn
      have r5 := hid (blkF_range H5.out.2.2.2.1 (o := 60) (m := 30) (by omega))
      have t5 := hid (H5.out.there (x := fun i => f5 (60 + i)) (o := 90) (m := 30) (by omega))
      have o5 := hid (all_oneCell_toArray (fnL_one H5.out.2.2.2.2.oneOn))
      have h6 := H5.out.puts HD.out HO.out (by omega) m5.out
      go_upto_region 37 with (first
        | (refine wpList_load_mid rfl 32 (.tmp 142) rfl hb 60 rfl (fnL 30 (fun i => f5 (60 + i))) _ r5.out Tryz.underlying32 rfl (Tryz.size_boolsL _) ?_)
        | (refine wpList_store_mid rfl 32 (.tmp 145) (.tmp 143) rfl hb 90 (fnL 30 (fun i => f5 (60 + i))).toArray rfl rfl t5.out (Tryz.size_boolsL _) o5.out ?_))
      obtain ⟨W6, hW6⟩ : ∃ W, W5.setCells hb 90 (fnL 30 (fun i => f5 (60 + i))) = W := ⟨_, rfl⟩
      obtain ⟨f6, hf6⟩ : ∃ f', putF f5 90 30 (fun i => f5 (60 + i)) = f' := ⟨_, rfl⟩
      rw [hW6, hf6] at h6
      have H6 := hid h6
      rw [hW6]
      clear hW6 hf6 h6 m5 r5 t5 o5
      have m6 := hid H6.out.2.2.2.2.clear
      have t6 := hid (H6.out.there (x := fun _ => .bool false) (o := 121) (m := 30) (by omega))
      have h7 := H6.out.puts HD.out HO.out (by omega) m6.out
      go_upto_region 38 with (first
        | (refine wpList_built rfl 32 #[] rfl (fnL 30 (fun _ => .bool false)).toArray Tryz.built_bools ?_)
        | (refine wpList_store_mid rfl 32 (.tmp 165) (.tmp 163) rfl hb 121 (fnL 30 (fun _ => .bool false)).toArray rfl rfl t6.out (Tryz.size_boolsL _) (all_oneCell_toArray (fnL_one (fun _ _ => rfl))) ?_))
      obtain ⟨W7, hW7⟩ : ∃ W, W6.setCells hb 121 (fnL 30 (fun _ => .bool false)) = W := ⟨_, rfl⟩
      rw [hW7] at h7
      have H7 := hid h7
      rw [hW7]
      clear hW7 h7 m6 t6
      go_wp2_with fail
      refine (sh_changed H7.out.1).mono ?_
      rintro e w7 ⟨rfl, rfl⟩
      rw [show (keysOf noChg).length = 0 from by decide]
      have HF := hid (HEnd.out w7 T3 _ H7.out)
      go_wp2
      go_ret
      exact ⟨rfl, HF.out⟩
set_option maxRecDepth 100000 in
set_option maxHeartbeats 16000000 in
theorem toldCommitYes_any (D : DevOk Real) (O : PairOk Real PR) (h : ShM Real PR S w0 w d g n q mk hb s P ch cont M) (hS : Sent7 w0 S) (hk : Keeps s n q P cont) (hk0 : 0 < (keysOf ch).length) (hr : 100 ≤ halN n) (hq : q ≤ 500000) {i : Int} {B : Option Addr} {nB cB : Nat} :
    Calls Tryz.prog 16 #[.pointer (some ⟨g, 0, none⟩), .pointer (some ⟨hb, 0, none⟩), .agg #[.int .i64 3, .int .i64 i, .slice B nB cB]] w fun e w' => e = .returned (.bool true) ∧ ShM Real PR S w0 w' d g n (q + 1000) mk hb (comDev P ch s (halN n)) (commitTo P ch s (halN n)).2 noChg (contC cont ch) (M.commit (M.ep + 1)) ∧ Keeps (comDev P ch s (halN n)) n (q + 1000) (commitTo P ch s (halN n)).2 (contC cont ch) := by
  obtain ⟨T, hsh, ⟨f, hf1, hf2, hf3⟩, hw, hag, hfi⟩ := h
  have HD := hid D
  have HO := hid O
  have HSh := hid hsh
  have hfit : fitsB P ch (halN n) = true := fits_room hk.fine (N := 30) (fun j hj => by rw [hag.cnt j]; exact if_neg (by omega)) (by omega)
  obtain ⟨_, hku, hkk⟩ := keeps_commit hk hsh.pd.1 (by omega) hsh.chg.1 hsh.chg.2 hfit
  have HKp := hid hk
  have HFit := hid (And.intro hfit hk0)
  have HQ := hid hq
  have HS := hid hS
  obtain ⟨s2, hs2⟩ : ∃ s2, comDev P ch s (halN n) = s2 := ⟨_, rfl⟩
  obtain ⟨P2, hP2⟩ : ∃ P2, (commitTo P ch s (halN n)).2 = P2 := ⟨_, rfl⟩
  have hep2 : P2.epoch = M.ep + 1 := by rw [← hP2, commitTo_epoch, hag.ep]
  have HE2 := hid (And.intro hs2 hP2)
  rw [hs2, hP2] at hkk ⊢
  have HKk := hid hkk
  have hep0 := hk.ep0
  have hep1 := hk.ep1
  rw [hag.ep] at hep0 hep1
  have hepq : M.ep ≤ 500000 := by omega
  have HEnd := hid (fun (w7 : World) (T3 : Nat → Prop) (f7 : Nat → Value) (h : MdO Real PR S w0 w7 d g n (q + 1000) mk hb T3 f7 s2 P2 noChg (M.commit (M.ep + 1))) => (show ShM Real PR S w0 w7 d g n (q + 1000) mk hb s2 P2 noChg (contC cont ch) (M.commit (M.ep + 1)) from
    ⟨T3, h.1, ⟨f7, h.2.1, h.2.2.2.1, h.2.2.2.2⟩, h.2.2.1, agr_commit hag hep2, hkk.fine⟩))
  have HK0 := hid (show 0 < tchTo M 30 from by rw [← agr_keys hag]; exact hk0)
  have HK := hid (agr_keys hag)
  have H0 := hid (show MdO Real PR S w0 w d g n q mk hb T f s P ch M from ⟨hsh, hf1, hw, hf2, hf3⟩)
  clear D O hsh hf1 hf2 hf3 hw hag hfi hk0 hS hk hr hq hfit hku hs2 hP2 hep2 hkk hep1
  go_enter Tryz.func16, Tryz.ntmps16
  go_upto_region 1 with fail
  obtain ⟨tb, htb⟩ : ∃ tb, w.heap.size = tb := ⟨_, rfl⟩
  have HTb := hid htb
  have HB0 := hid ((Below.refl w.heap.size w).alloc (Nat.le_refl _) (.cells #[.int .i64 3, .int .i64 i, .slice B nB cB] 36))
  have hbk := Blk.new w 36 #[.int .i64 3, .int .i64 i, .slice B nB cB]
  generalize w.alloc (.cells #[.int .i64 3, .int .i64 i, .slice B nB cB] 36) = w1 at *
  rw [htb] at hbk ⊢
  have HBk := hid hbk
  have c0 := hbk.cell 0
  have c1 := hbk.cell 1
  simp at c0 c1
  have H1 := hid (show MdO Real PR S w0 w1 d g n q mk hb T f s P ch M from ⟨H0.out.1.on HD.out HO.out HB0.out, H0.out.2.1, H0.out.2.2.1, Blk.below H0.out.2.2.2.1 HB0.out H0.out.2.2.2.1.lt, H0.out.2.2.2.2.below HB0.out⟩)
  clear htb hbk
  go_wp2
  go_loopw [10, 9] (fun iv kv wr => ∃ j : Nat, j ≤ 30 ∧ iv = .int .i64 (j : Int) ∧ kv = .int .i64 (tchTo M j : Int) ∧ wr = w1) (fun iv _ _ => 30 - (intOf iv).toNat)
  case atStart => exact ⟨0, Nat.zero_le _, rfl, rfl, rfl⟩
  case round =>
    obtain ⟨j, hj, rfl, rfl, rfl⟩ := hrel
    by_cases hlt : j < 30
    · have hj30 : (j : Int) < 30 := by omega
      have d0 : wr.cell? ⟨hb, 121 + j, none⟩ = some (.bool (M.tch j)) := by rw [blkF_cell H1.out.2.2.2.1 (by omega), H1.out.2.2.2.2.tch j hlt]
      have HLe := hid (tchTo_le M j)
      rcases htc : M.tch j with _ | _
      · rw [htc] at d0
        have HT := hid (tchTo_no htc)
        clear htc
        go_wp2
        go_roundw
        case rel => exact ⟨j + 1, by omega, by go_num, by rw [HT.out], by trivial⟩
        case measure => simp [intOf]; omega
      · rw [htc] at d0
        have HT := hid (tchTo_yes htc)
        clear htc
        have hle : (tchTo M j : Int) ≤ 30 := by have := HLe.out; omega
        go_wp2
        go_roundw
        case rel => exact ⟨j + 1, by omega, by go_num, by rw [HT.out]; go_num, by trivial⟩
        case measure => simp [intOf]; omega
    · have hnlt : decide (j < 30) = false := by simpa using hlt
      obtain rfl : j = 30 := by omega
      go_wp2_with fail
      refine (sh_changed H1.out.1).mono ?_
      rw [HK.out]
      rintro e w2 ⟨rfl, rfl⟩
      have HLe := hid (tchTo_le M 30)
      obtain ⟨K, hK⟩ : ∃ K, tchTo M 30 = K := ⟨_, rfl⟩
      rw [hK] at HLe HK0 ⊢
      have hKp : decide (0 < K) = true := by have := HK0.out; simp; omega
      have hKi : (0 : Int) < (K : Int) := by have := HK0.out; omega
      clear hK
      go_wp2_with fail
      refine (sh_commit HD.out HO.out HS.out H1.out.1 HKp.out HFit.out.2 HFit.out.1 (by have := HQ.out; omega)).mono ?_
      rw [HE2.out.1, HE2.out.2]
      rintro e w3 ⟨rfl, T3, hsh, ho, hT3⟩
      have H3 := hid (show MdO Real PR S w0 w3 d g n (q + 1000) mk hb T3 f s2 P2 noChg M from
        ⟨hsh, fun h => (hT3 hb h).elim H1.out.2.1 (fun h => by have := H1.out.2.2.2.1.lt; omega), H1.out.2.2.1, (ho.block hb H1.out.2.2.2.1.lt H1.out.2.1).trans H1.out.2.2.2.1, H1.out.2.2.2.2.only ho (fun k hk => .inl (.inl hk)) (fun k hk => hk.elim (fun h => (hT3 k h).imp .inl id) (fun h => .inl (.inr h)))⟩)
      have e0 : w3.cell? ⟨hb, 120, none⟩ = some (.int .i64 M.ep) := by rw [blkF_cell H3.out.2.2.2.1 (by omega), H3.out.2.2.2.2.ep]
      have e1 := Blk.free H3.out.2.2.2.1 120
      have m3 := hid (H3.out.2.2.2.2.setEp (M.ep + 1))
      have h4 := H3.out.up HD.out HO.out m3.out
      clear hsh ho hT3 c0 c1
      go_upto_region 32 with fail
      obtain ⟨W4, hW4⟩ : ∃ W, w3.setCell ⟨hb, 120, none⟩ (.int .i64 (M.ep + 1)) = W := ⟨_, rfl⟩
      obtain ⟨f4, hf4⟩ : ∃ f', upF f 120 (.int .i64 (M.ep + 1)) = f' := ⟨_, rfl⟩
      rw [hW4, hf4] at h4
      have H4 := hid h4
      rw [hW4]
      clear hW4 hf4 h4 m3 e0 e1
      have m4 := hid H4.out.2.2.2.2.keepNow
      have r4 := hid (blkF_range H4.out.2.2.2.1 (o := 0) (m := 30) (by omega))
      have t4 := hid (H4.out.there (x := fun i => f4 i) (o := 30) (m := 30) (by omega))
      have o4 := hid (all_oneCell_toArray (fnL_one H4.out.2.2.2.2.oneNow))
      have h5 := H4.out.puts HD.out HO.out (by omega) m4.out
      go_upto_region 33 with (first
        | (refine wpList_load_mid rfl 31 (.tmp 135) rfl hb 0 rfl (fnL 30 (fun i => f4 i)) _ r4.out Tryz.underlying31 rfl (Tryz.size_pagesL _) ?_)
        | (refine wpList_store_mid rfl 31 (.tmp 138) (.tmp 136) rfl hb 30 (fnL 30 (fun i => f4 i)).toArray rfl rfl t4.out (Tryz.size_pagesL _) o4.out ?_))
      obtain ⟨W5, hW5⟩ : ∃ W, W4.setCells hb 30 (fnL 30 (fun i => f4 i)) = W := ⟨_, rfl⟩
      obtain ⟨f5, hf5⟩ : ∃ f', putF f4 30 30 (fun i => f4 i) = f' := ⟨_, rfl⟩
      rw [hW5, hf5] at h5
      have H5 := hid h5
      rw [hW5]
      clear hW5 hf5 h5 m4 r4 t4 o4
      have m5 := hid H5.out.2.2.2.2.keepOn
      have r5 := hid (blkF_range H5.out.2.2.2.1 (o := 60) (m := 30) (by omega))
      have t5 := hid (H5.out.there (x := fun i => f5 (60 + i)) (o := 90) (m := 30) (by omega))
      have o5 := hid (all_oneCell_toArray (fnL_one H5.out.2.2.2.2.oneOn))
      have h6 := H5.out.puts HD.out HO.out (by omega) m5.out
      go_upto_region 37 with (first
        | (refine wpList_load_mid rfl 32 (.tmp 142) rfl hb 60 rfl (fnL 30 (fun i => f5 (60 + i))) _ r5.out Tryz.underlying32 rfl (Tryz.size_boolsL _) ?_)
        | (refine wpList_store_mid rfl 32 (.tmp 145) (.tmp 143) rfl hb 90 (fnL 30 (fun i => f5 (60 + i))).toArray rfl rfl t5.out (Tryz.size_boolsL _) o5.out ?_))
      obtain ⟨W6, hW6⟩ : ∃ W, W5.setCells hb 90 (fnL 30 (fun i => f5 (60 + i))) = W := ⟨_, rfl⟩
      obtain ⟨f6, hf6⟩ : ∃ f', putF f5 90 30 (fun i => f5 (60 + i)) = f' := ⟨_, rfl⟩
      rw [hW6, hf6] at h6
      have H6 := hid h6
      rw [hW6]
      clear hW6 hf6 h6 m5 r5 t5 o5
      have m6 := hid H6.out.2.2.2.2.clear
      have t6 := hid (H6.out.there (x := fun _ => .bool false) (o := 121) (m := 30) (by omega))
      have h7 := H6.out.puts HD.out HO.out (by omega) m6.out
      go_upto_region 38 with (first
        | (refine wpList_built rfl 32 #[] rfl (fnL 30 (fun _ => .bool false)).toArray Tryz.built_bools ?_)
        | (refine wpList_store_mid rfl 32 (.tmp 165) (.tmp 163) rfl hb 121 (fnL 30 (fun _ => .bool false)).toArray rfl rfl t6.out (Tryz.size_boolsL _) (all_oneCell_toArray (fnL_one (fun _ _ => rfl))) ?_))
      obtain ⟨W7, hW7⟩ : ∃ W, W6.setCells hb 121 (fnL 30 (fun _ => .bool false)) = W := ⟨_, rfl⟩
      rw [hW7] at h7
      have H7 := hid h7
      rw [hW7]
      clear hW7 h7 m6 t6
      go_wp2_with fail
      refine (sh_changed H7.out.1).mono ?_
      rintro e w7 ⟨rfl, rfl⟩
      rw [show (keysOf noChg).length = 0 from by decide]
      have HF := hid (HEnd.out w7 T3 _ H7.out)
      go_wp2
      go_ret
      exact ⟨rfl, HF.out, HKk.out⟩
end
end Go.Proofs.YtaonhbmimaiiiaaGreatDoor
namespace Go.Proofs.YtaonhbmimaiiiaaGreatDoor
open Go.RowKit Go.Maps

section
variable {Real : World → Nat → DSt → (Nat → Prop) → Prop} {PR : World → Nat → Nat → Nat → Nat → (Nat → Prop) → Prop} {S : Nat → Addr} {w0 w w' : World} {d g n q mk hb : Nat} {s : DSt} {P : PS} {ch : Chg} {cont : Cont} {M : Mdl}
theorem pages_some {cnt : Cont} (hk : Fine (halN n) P cont) (hc : contC cont ch = cnt) (h0 : ∀ i, 30 ≤ i → cnt i = none) : pagesTo P ch 256 = someTo cnt 30 := by
  subst hc
  unfold pagesTo someTo
  rw [show (256 : Nat) = 30 + 226 from rfl, List.range_add, List.filter_append]
  have e1 : ((List.range 226).map (30 + ·)).filter (thereB P ch) = [] := by
    rw [List.filter_eq_nil_iff]
    intro a ha
    obtain ⟨j, hj, rfl⟩ := List.mem_map.1 ha
    have := List.mem_range.1 hj
    rw [there_cont hk (by omega), h0 _ (by omega)]; decide
  rw [e1, List.append_nil]
  apply List.filter_congr
  intro a ha
  exact there_cont hk (by have := List.mem_range.1 ha; omega)
/-- a store can be asked -/
theorem asks_of (D : DevOk Real) (O : PairOk Real PR) (hS : Sent w0 S) (hk : Keeps s n q P cont) (hq : q + 1 ≤ 900000) (hmk : mk ≤ 1000) : Asks (fun T w => Shop Real PR S w0 w d g n q mk T s P ch) S w0.heap.size g (contC cont ch) (natsI (pagesTo P ch 256)) P.epoch where
  beside := fun T K w w' h ho hd hK => h.beside D O ho hd hK
  lt := fun T w h => h.lt D O
  sent := fun T w h => hS.on h.below
  no := fun T w i h hi hc => (sh_readNo D O hS.seven h hk.fine (by omega) hc).mono (by
    rintro e w' ⟨h1, h2, _⟩
    exact ⟨h1, h2⟩)
  yes := fun T w i l h hi hc => (sh_readYes D O h hk hq hmk (by omega) hc).mono (by
    rintro e w' ⟨⟨A, k, c, h1, h2, _⟩, h3⟩
    exact ⟨⟨A, k, c, h1, h2⟩, h3⟩)
  pages := fun T w h => sh_pages h
  epoch := fun T w h => sh_epoch h
theorem mcont_off {M : Mdl} {i : Nat} (h : 30 ≤ i) : M.cont i = none := if_neg (by omega)
theorem sameA_any (D : DevOk Real) (O : PairOk Real PR) (hS : Sent w0 S) (h : ShM Real PR S w0 w d g n q mk hb s P ch cont M) (hk : Keeps s n q P cont) (hq : q + 1 ≤ 900000) (hmk : mk ≤ 1000) :
    Calls Tryz.prog 17 #[.pointer (some ⟨g, 0, none⟩), .pointer (some ⟨hb, 0, none⟩)] w fun e w' => e = .returned (.bool true) ∧ ShM Real PR S w0 w' d g n q mk hb s P ch cont M := by
  obtain ⟨T, h1, ⟨f, f1, f2, f3⟩, h3, h4, h5⟩ := h
  refine (sameP_any (asks_of D O hS hk hq hmk) hb f M T w h1 h1.below.size f1 f2 f3).mono ?_
  rintro e w' ⟨b, rfl, ⟨T', k1, k2, k3⟩, _, k4⟩
  have e1 : contC cont ch = M.cont := funext h4.cnt
  have hb1 := k4 (fun i _ => h4.cnt i) (by rw [pages_some hk.fine e1 (fun i hi => mcont_off hi), e1]) h4.ep
  rw [hb1]
  exact ⟨rfl, T', k1, MdAt.only ⟨f, f1, f2, f3⟩ k2 k3, h3, h4, h5⟩
theorem ShM.more {q' : Nat} (h : ShM Real PR S w0 w d g n q mk hb s P ch cont M) (hq : q ≤ q') (hq' : q' ≤ 900000) : ShM Real PR S w0 w d g n q' mk hb s P ch cont M := by
  obtain ⟨T, h1, h2⟩ := h
  exact ⟨T, h1.more hq hq' (Nat.le_refl _), h2⟩
/-- an act, told both -/
theorem toldA_any (D : DevOk Real) (O : PairOk Real PR) (hS : Sent w0 S) (h : ShM Real PR S w0 w d g n q mk hb s P ch cont M) (hk : Keeps s n q P cont) (hr : 100 ≤ halN n) (hq : q ≤ 500000) {t : Stq} (ht : StqOk w0 w0.heap.size t) (h3 : t.nB ≤ 300) (hn : t.n < 30 ∨ 256 ≤ t.n) :
    Calls Tryz.prog 16 #[.pointer (some ⟨g, 0, none⟩), .pointer (some ⟨hb, 0, none⟩), .agg #[.int .i64 t.k, .int .i64 t.n, .slice t.B t.nB t.cB]] w fun e w' => e = .returned (.bool true) ∧ ∃ s' P' ch' cont' M', ShM Real PR S w0 w' d g n (q + 1000) mk hb s' P' ch' cont' M' ∧ Keeps s' n (q + 1000) P' cont' := by
  have fin : ∀ (e : Ending) (w' : World) P' ch' M', e = .returned (.bool true) ∧ ShM Real PR S w0 w' d g n q mk hb s P' ch' cont M' → P' = P → e = .returned (.bool true) ∧ ∃ s' P' ch' cont' M', ShM Real PR S w0 w' d g n (q + 1000) mk hb s' P' ch' cont' M' ∧ Keeps s' n (q + 1000) P' cont' := by
    rintro e w' P' ch' M' ⟨rfl, hx⟩ rfl
    exact ⟨rfl, s, P', ch', cont, M', hx.more (by omega) (by omega), hk.more (by omega)⟩
  obtain ⟨k, i, B, nB, cB, l⟩ := t
  have hl := ht.hB
  have hy := ht.yB
  simp only at h3 hn hl hy ⊢
  by_cases k1 : k = 1
  · subst k1
    rcases ho : numOk i with _ | _
    · exact (toldBadN1_any D O hS h ho).mono fun e w' hx => fin e w' _ _ _ hx rfl
    · have hi : 0 ≤ i ∧ i < 256 := by unfold numOk at ho; simpa using ho
      by_cases hb1 : nB = 0 ∨ 248 < nB
      · exact (toldBadL1_any D O hS h ho hb1).mono fun e w' hx => fin e w' _ _ _ hx rfl
      · obtain ⟨p, rfl⟩ : ∃ p : Nat, i = (p : Int) := ⟨i.toNat, by omega⟩
        exact (toldWrite_any D O hS h (by omega) hl (by omega) (by omega) hy).mono fun e w' hx => fin e w' _ _ _ hx rfl
  · by_cases k2 : k = 2
    · subst k2
      rcases ho : numOk i with _ | _
      · exact (toldBadN2_any D O hS h ho).mono fun e w' hx => fin e w' _ _ _ hx rfl
      · have hi : 0 ≤ i ∧ i < 256 := by unfold numOk at ho; simpa using ho
        obtain ⟨p, rfl⟩ : ∃ p : Nat, i = (p : Int) := ⟨i.toNat, by omega⟩
        exact (toldDrop_any D O hS h (by omega) hl h3).mono fun e w' hx => fin e w' _ _ _ hx rfl
    · by_cases k3 : k = 3
      · subst k3
        rcases Nat.eq_zero_or_pos (keysOf ch).length with h0 | h0
        · exact (toldCommitNone_any D O h h0).mono fun e w' hx => fin e w' _ _ _ hx rfl
        · refine (toldCommitYes_any D O h hS.seven hk h0 hr hq).mono ?_
          rintro e w' ⟨rfl, h1, h2⟩
          exact ⟨rfl, _, _, _, _, _, h1, h2⟩
      · exact (toldAbort_any D O h (by simpa using k1) (by simpa using k2) (by simpa using k3)).mono fun e w' hx => fin e w' _ _ _ hx rfl
end
end Go.Proofs.YtaonhbmimaiiiaaGreatDoor
namespace Go.Proofs.YtaonhbmimaiiiaaGreatDoor
open Go.RowKit Go.Maps

section
variable {Real : World → Nat → DSt → (Nat → Prop) → Prop} {PR : World → Nat → Nat → Nat → Nat → (Nat → Prop) → Prop}
/-- between two acts -/
def PpAt (Real : World → Nat → DSt → (Nat → Prop) → Prop) (PR : World → Nat → Nat → Nat → Nat → (Nat → Prop) → Prop) (S : Nat → Addr) (w1 : World) (d g hb i : Nat) (wr : World) : Prop :=
  ∃ s P ch cont M, ShM Real PR S w1 wr d g 600 (1000 * i) 7 hb s P ch cont M ∧ Keeps s 600 (1000 * i) P cont
theorem agr_new : Agr (noPS 0) noChg (fun _ => none) mdl0 where
  ep := rfl
  cnt := fun i => by rw [noChg_cont]; exact (mcont_no rfl).symm
  had := fun i => (if_neg (fun h => by cases h.2)).symm
  tch := fun i => by simp [noChg, mdl0]
set_option maxRecDepth 100000 in
set_option maxHeartbeats 16000000 in
theorem pagePlays_any (D : DevOk Real) (O : PairOk Real PR) (S : Nat → Addr) (A : Option Addr) (len cap : Nat) (T : Nat → Stq) (w : World) (hS : Sent w S) (hd : Doq w w.heap.size A len T) :
    Calls Tryz.prog 3 #[.slice A len cap] w (Yes w) := by
  have HF := hid (first7_any D O w hS.seven)
  have HOp := hid (fun (w' : World) (hb : Below w.heap.size w w') => opened7_any D O 600 w' (hS.on hb).seven (by omega) (by omega))
  have HD := hid D
  have HO := hid O
  have HS := hid hS
  have HDos := hid hd
  have hh : halN 600 = 150 := by decide
  have HK0 := hid (keeps_new (n := 600) (by omega) (by omega))
  clear D O hS hd
  go_enter Tryz.func3, Tryz.ntmps3
  go_wp2_with fail
  refine HF.out.mono ?_
  rintro e w1 ⟨rfl, hb1⟩
  have HB1 := hid hb1
  have HS1 := hid (HS.out.on hb1)
  have HD1 := hid (HDos.out.below hb1)
  clear hb1
  go_wp2_with fail
  refine (light_any A len cap 50 T w1 { HD1.out with lt := fun ad ha h0 => Nat.lt_of_lt_of_le (HD1.out.lt ad ha h0) HB1.out.size, ok := fun i hi => { HD1.out.ok i hi with hB := (HD1.out.ok i hi).hB.more HB1.out.size } } (by omega)).mono ?_
  rintro e w2 ⟨b, rfl, rfl, hlight⟩
  rcases b with _ | _
  · clear hlight
    go_wp2
    go_ret
    exact ⟨rfl, HB1.out⟩
  have HLi := hid (hlight rfl)
  clear hlight
  go_wp2_with fail
  refine (HOp.out _ HB1.out).mono ?_
  rintro e w3 ⟨g, d, T3, rfl, hsh, hb⟩
  have HSh3 := hid hsh
  clear hsh hb
  go_upto_region 10 with fail
  rw [show Tryz.zeroCells34 = (fnL 151 mdl0F).toArray from by kernel_rfl]
  obtain ⟨hb, hhb⟩ : ∃ hb, w3.heap.size = hb := ⟨_, rfl⟩
  obtain ⟨W4, hW4⟩ : ∃ W, w3.alloc (.cells (fnL 151 mdl0F).toArray 34) = W := ⟨_, rfl⟩
  have h4 : PpAt Real PR S w2 d g hb 0 W4 := by
    have z1 : Below w3.heap.size w3 W4 := by rw [← hW4]; exact (Below.refl _ _).alloc (Nat.le_refl _) _
    have z2 : Blk W4 w3.heap.size 34 (fnL 151 mdl0F).toArray := by rw [← hW4]; exact Blk.new w3 _ _
    rw [hhb] at z2
    refine ⟨_, _, _, _, mdl0, ⟨T3, HSh3.out.on HD.out HO.out z1, ⟨mdl0F, fun h => ?_, z2, mdOk_new _ _⟩, by rw [← hhb]; exact HSh3.out.below.size, agr_new, HK0.out.fine⟩, HK0.out⟩
    have := HSh3.out.lt HD.out HO.out hb h; omega
  have H4 := hid h4
  rw [hW4, hhb]
  clear h4 hW4 hhb
  go_wp2
  go_loopw [7, 4] (fun iv gv wr => ∃ i g : Nat, i ≤ len ∧ iv = .int .i64 (i : Int) ∧ gv = .pointer (some ⟨g, 0, none⟩) ∧ PpAt Real PR S w2 d g hb i wr) (fun iv _ _ => len - (intOf iv).toNat)
  case atStart => exact ⟨0, g, Nat.zero_le _, rfl, rfl, H4.out⟩
  case round =>
    rename World => wx
    obtain ⟨i, gx, hi, rfl, rfl, s, P, ch, cont, M, hsm, hkp⟩ := hrel
    have HSm := hid hsm
    have HKp := hid hkp
    clear hsm hkp
    by_cases hlt : i < len
    · have hil : (i : Int) < len := by omega
      have HI := hid (show i ≤ 50 from by have := HLi.out.1; omega)
      obtain ⟨ad, had⟩ : ∃ ad, A = some ad := by
        rcases hA : A with _ | ad
        · have := HDos.out.nil hA; omega
        · exact ⟨ad, rfl⟩
      subst had
      have HBx := hid (show Below w2.heap.size w2 wx from by obtain ⟨_, h, _⟩ := HSm.out; exact h.below)
      have HT := hid (show StqOk w2 w2.heap.size (T i) from { HD1.out.ok i hlt with hB := (HD1.out.ok i hlt).hB.more HB1.out.size })
      have HL := hid (HLi.out.2 i hlt)
      have hdk := HD1.out.below (HBx.out.mono HB1.out.size)
      have c0 := hdk.at_ ad rfl i hlt 0 (by omega)
      have c1 := hdk.at_ ad rfl i hlt 1 (by omega)
      have c2 := hdk.at_ ad rfl i hlt 2 (by omega)
      clear hdk
      rw [add_atR ad (i * 3) (by omega)] at c1 c2
      simp only [Stq.cell, Nat.add_zero] at c0 c1 c2
      obtain ⟨tk, htk⟩ : ∃ t, T i = t := ⟨_, rfl⟩
      rw [htk] at c0 c1 c2 HT HL
      clear htk
      go_upto_if 40 with fail
      go_cut [4] from 29 to 83 (fun gv wz => ∃ g' : Nat, gv = .pointer (some ⟨g', 0, none⟩) ∧ PpAt Real PR S w2 d g' hb (i + 1) wz)
      case first =>
        rcases hk5 : (tk.k == 5) with _ | _
        · go_wp2_with fail
          refine (toldA_any HD.out HO.out HS1.out HSm.out HKp.out (by rw [hh]; omega) (by have := HI.out; omega) HT.out HL.out.1 HL.out.2).mono ?_
          rintro e w5 ⟨rfl, s5, P5, ch5, cont5, M5, h5, k5⟩
          have HN := hid (show PpAt Real PR S w2 d gx hb (i + 1) w5 from ⟨s5, P5, ch5, cont5, M5, by rw [show 1000 * (i + 1) = 1000 * i + 1000 by omega]; exact h5, by rw [show 1000 * (i + 1) = 1000 * i + 1000 by omega]; exact k5⟩)
          clear h5 k5
          go_wp2
          go_meet
          exact ⟨gx, rfl, HN.out⟩
        · obtain ⟨Tx, hsx, ⟨fx, x1, x2, x3⟩, x4, x5, x6⟩ := HSm.out
          have HX := hid (show MdO Real PR S w2 wx d gx 600 (1000 * i) 7 hb Tx fx s P ch M from ⟨hsx, x1, x4, x2, x3⟩)
          have HAg := hid (agr_abort x5)
          clear hsx x1 x2 x3 x4 x5 x6
          go_wp2_with fail
          refine (sh_open HD.out HO.out HS1.out.seven HX.out.1 (by have := HI.out; omega) HKp.out).mono ?_
          rintro e w3 ⟨g3, T3, rfl, hsh, ho, hT3⟩
          have H3 := hid (show MdO Real PR S w2 w3 d g3 600 (1000 * i) 7 hb T3 fx s P noChg M from
            ⟨hsh, fun h => (hT3 hb h).elim HX.out.2.1 (fun h => by have := HX.out.2.2.2.1.lt; omega), HX.out.2.2.1, (ho.block hb HX.out.2.2.2.1.lt HX.out.2.1).trans HX.out.2.2.2.1, HX.out.2.2.2.2.only ho (fun k hk => .inl (.inl hk)) (fun k hk => hk.elim (fun h => (hT3 k h).imp .inl id) (fun h => .inl (.inr h)))⟩)
          clear hsh ho hT3 c0 c1 c2
          go_upto_region 18 with fail
          have m3 := hid H3.out.2.2.2.2.backNow
          have r3 := hid (blkF_range H3.out.2.2.2.1 (o := 30) (m := 30) (by omega))
          have t3 := hid (H3.out.there (x := fun i => fx (30 + i)) (o := 0) (m := 30) (by omega))
          have o3 := hid (all_oneCell_toArray (fnL_one H3.out.2.2.2.2.oneWas))
          have h4 := H3.out.puts HD.out HO.out (by omega) m3.out
          go_upto_region 19 with (first
            | (refine wpList_load_mid rfl 31 (.tmp 56) rfl hb 30 rfl (fnL 30 (fun i => fx (30 + i))) _ r3.out Tryz.underlying31 rfl (Tryz.size_pagesL _) ?_)
            | (refine wpList_store_mid rfl 31 (.tmp 59) (.tmp 57) rfl hb 0 (fnL 30 (fun i => fx (30 + i))).toArray rfl rfl t3.out (Tryz.size_pagesL _) o3.out ?_))
          obtain ⟨W4, hW4⟩ : ∃ W, w3.setCells hb 0 (fnL 30 (fun i => fx (30 + i))) = W := ⟨_, rfl⟩
          obtain ⟨f4, hf4⟩ : ∃ f', putF fx 0 30 (fun i => fx (30 + i)) = f' := ⟨_, rfl⟩
          rw [hW4, hf4] at h4
          have H4 := hid h4
          rw [hW4]
          clear hW4 hf4 h4 m3 r3 t3 o3
          have m4 := hid H4.out.2.2.2.2.backOn
          have r4 := hid (blkF_range H4.out.2.2.2.1 (o := 90) (m := 30) (by omega))
          have t4 := hid (H4.out.there (x := fun i => f4 (90 + i)) (o := 60) (m := 30) (by omega))
          have o4 := hid (all_oneCell_toArray (fnL_one H4.out.2.2.2.2.oneHad))
          have h5 := H4.out.puts HD.out HO.out (by omega) m4.out
          go_upto_region 20 with (first
            | (refine wpList_load_mid rfl 32 (.tmp 63) rfl hb 90 rfl (fnL 30 (fun i => f4 (90 + i))) _ r4.out Tryz.underlying32 rfl (Tryz.size_boolsL _) ?_)
            | (refine wpList_store_mid rfl 32 (.tmp 66) (.tmp 64) rfl hb 60 (fnL 30 (fun i => f4 (90 + i))).toArray rfl rfl t4.out (Tryz.size_boolsL _) o4.out ?_))
          obtain ⟨W5, hW5⟩ : ∃ W, W4.setCells hb 60 (fnL 30 (fun i => f4 (90 + i))) = W := ⟨_, rfl⟩
          obtain ⟨f5, hf5⟩ : ∃ f', putF f4 60 30 (fun i => f4 (90 + i)) = f' := ⟨_, rfl⟩
          rw [hW5, hf5] at h5
          have H5 := hid h5
          rw [hW5]
          clear hW5 hf5 h5 m4 r4 t4 o4
          have m5 := hid H5.out.2.2.2.2.clear
          have t5 := hid (H5.out.there (x := fun _ => .bool false) (o := 121) (m := 30) (by omega))
          have h6 := H5.out.puts HD.out HO.out (by omega) m5.out
          go_wp2_with (first
            | (refine wpList_built rfl 32 #[] rfl (fnL 30 (fun _ => .bool false)).toArray Tryz.built_bools ?_)
            | (refine wpList_store_mid rfl 32 (.tmp 70) (.tmp 68) rfl hb 121 (fnL 30 (fun _ => .bool false)).toArray rfl rfl t5.out (Tryz.size_boolsL _) (all_oneCell_toArray (fnL_one (fun _ _ => rfl))) ?_))
          have HN := hid (show PpAt Real PR S w2 d g3 hb (i + 1) (W5.setCells hb 121 (fnL 30 (fun _ => .bool false))) from
            ⟨s, P, noChg, cont, M.abort, ShM.more ⟨T3, h6.1, ⟨_, h6.2.1, h6.2.2.2.1, h6.2.2.2.2⟩, h6.2.2.1, HAg.out, HKp.out.fine⟩ (by omega) (by have := HI.out; omega), HKp.out.more (by omega)⟩)
          clear h6 m5 t5
          go_meet
          exact ⟨g3, rfl, HN.out⟩
      case rest =>
        obtain ⟨g', rfl, s5, P5, ch5, cont5, M5, h5, k5⟩ := hcut
        have H5 := hid h5
        have K5 := hid k5
        rename World => w5
        clear h5 k5 c0 c1 c2
        go_wp2_with fail
        refine (sameA_any HD.out HO.out HS1.out H5.out K5.out (by have := HI.out; omega) (by omega)).mono ?_
        rintro e w6 ⟨rfl, h6⟩
        have HN := hid (show PpAt Real PR S w2 d g' hb (i + 1) w6 from ⟨s5, P5, ch5, cont5, M5, h6, K5.out⟩)
        clear h6
        have hi50 : (i : Int) ≤ 50 := by have := HI.out; omega
        go_wp2
        go_roundw
        case rel => exact ⟨i + 1, g', by omega, by go_num, rfl, HN.out⟩
        case measure => simp [intOf]; omega
    · have hnlt : decide (i < len) = false := by simpa using hlt
      have HBx := hid (show Below w.heap.size w wx from by obtain ⟨_, h, _⟩ := HSm.out; exact HB1.out.trans (h.below.mono HB1.out.size))
      go_wp2
      go_ret
      exact ⟨rfl, HBx.out⟩
end
end Go.Proofs.YtaonhbmimaiiiaaGreatDoor
namespace Go.Proofs.YtaonhbmimaiiiaaGreatDoor
open Go.ChangeShapes Go.WideShapes Go.ChangeAt Go.RowKit

theorem pagePlays_all (A : Option Addr) (len cap : Nat) (T : Nat → Stq) (w : World) (hd : Doq w w.heap.size A len T) (hL : laidMetH Tryz.prog laid24 w) :
    Calls Tryz.prog 3 #[.slice A len cap] w (Yes w) := by
  obtain ⟨S, hS⟩ := sent_of_laid hL
  exact pagePlays_any dvOk (prOk dvOk) S A len cap T w hS hd
end Go.Proofs.YtaonhbmimaiiiaaGreatDoor
