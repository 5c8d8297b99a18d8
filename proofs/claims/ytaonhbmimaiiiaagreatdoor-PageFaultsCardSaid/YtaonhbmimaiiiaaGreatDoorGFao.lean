/- Put together out of 1 texts. The walk of PageFaults. -/
import Derived.BigQuiet
import Derived.Test.YtaonhbmimaiiiaaGreatDoorGFan
namespace Go.Proofs.YtaonhbmimaiiiaaGreatDoor
open Go.RowKit Go.Maps

section
variable {Real : World → Nat → DSt → (Nat → Prop) → Prop} {PR : World → Nat → Nat → Nat → Nat → (Nat → Prop) → Prop}
theorem FA.below {S : Nat → Addr} {w0 w : World} {d g n Q M hb db : Nat} {P : PS} {cont : Cont} {K : (Nat → Bool) → Prop} {dn : Nat → Bool} {Mm : Mdl} (h : FA (FSt Real PR S w0 d g n Q M P cont K) hb db dn Mm w) : Below w0.heap.size w0 w := by
  obtain ⟨T, f, ⟨s, q, mk, c, done, h1, _⟩, _⟩ := h
  exact h1.below
/-- only those that the law knows of, of the first hundred -/
def Knows (dn d : Nat → Bool) : Prop := ∀ j, d j = true → dn j = true ∧ j < 100
theorem knows_off {dn : Nat → Bool} : ∀ d f, Knows dn d → Knows dn (setD d f false) := fun d f h j hj => by
  unfold setD at hj
  by_cases e : j = f
  · rw [if_pos e] at hj; cases hj
  · rw [if_neg e] at hj; exact h j hj
theorem knows_on {dn : Nat → Bool} {f : Nat} (hf : f < 100) : ∀ d, Knows dn d → Knows (setD dn f true) (setD d f true) := fun d h j hj => by
  unfold setD at hj ⊢
  by_cases e : j = f
  · rw [if_pos e]; exact ⟨rfl, by omega⟩
  · rw [if_neg e] at hj ⊢; exact h j hj
theorem knows_not {dn : Nat → Bool} {f : Nat} (hf : dn f = false) : ∀ d, Knows dn d → d f = false := fun d h => by
  rcases hd : d f with _ | _
  · rfl
  · rw [(h f hd).1] at hf; cases hf
theorem and1F (t : Int) : ∃ b : Nat, b ≤ 1 ∧ bits .and .i64 t 1 = (b : Int) := by
  refine ⟨(BitVec.ofInt 64 t).toNat % 2, by omega, ?_⟩
  show IntKind.i64.wrap ((BitVec.ofInt 64 t &&& BitVec.ofInt 64 1).toNat : Int) = _
  have h1 : (BitVec.ofInt 64 (1 : Int)).toNat = 1 := by decide
  rw [BitVec.toNat_and, h1, Nat.and_one_is_mod, IntKind.wrap_i64]
  omega
theorem or1F (a : Nat) : ∃ m : Nat, m < 4294967296 ∧ bits .or .u32 (a : Int) 1 = (m : Int) := by
  refine ⟨((BitVec.ofInt 32 (a : Int) ||| BitVec.ofInt 32 1).toNat), (BitVec.ofInt 32 (a : Int) ||| BitVec.ofInt 32 1).isLt, ?_⟩
  have h := (BitVec.ofInt 32 (a : Int) ||| BitVec.ofInt 32 1).isLt
  show IntKind.u32.wrap ((BitVec.ofInt 32 (a : Int) ||| BitVec.ofInt 32 1).toNat : Int) = _
  rw [IntKind.wrap_u32]
  omega
theorem agrF_new : Agr (noPS 0) noChg (fun _ => none) mdl0 where
  ep := rfl
  cnt := fun i => by rw [noChg_cont]; exact (mcont_no rfl).symm
  had := fun i => (if_neg (fun h => by cases h.2)).symm
  tch := fun i => by simp [noChg, mdl0]
set_option maxRecDepth 100000 in
set_option maxHeartbeats 16000000 in
theorem pageFaults_any (D : DevOk Real) (O : PairOk Real PR) (S : Nat → Addr) (A : Option Addr) (len cap : Nat) (pl : List Int) (A2 : Option Addr) (len2 cap2 : Nat) (fl2 : List Int) (b : Nat) (w : World) (hS : Sent w S) (hp : Sn w w.heap.size A len cap pl) (hf : Sn w w.heap.size A2 len2 cap2 fl2) (hb : b < 4294967296) :
    Calls Tryz.prog 5 #[.slice A len cap, .slice A2 len2 cap2, .int .u32 (b : Int)] w (Yes w) := by
  have HF := hid (first7_any D O w hS.seven)
  have HOp := hid (fun (w' : World) (hb : Below w.heap.size w w') => opened7_any D O 400 w' (hS.on hb).seven (by omega) (by omega))
  have HD := hid D
  have HO := hid O
  have HS := hid hS
  have HPl := hid hp
  have HFl := hid hf
  have HBt := hid hb
  have HK0 := hid (keeps_new (n := 400) (by omega) (by omega))
  have HR0 := hid (rtAll_new (n := 400) (by omega))
  clear D O hS hp hf hb
  go_enter Tryz.func5, Tryz.ntmps5
  go_wp2_with fail
  refine HF.out.mono ?_
  rintro e w1 ⟨rfl, hb1⟩
  have HB1 := hid hb1
  have HS1 := hid (HS.out.on hb1)
  clear hb1
  by_cases h0 : len = 0 ∨ 30 < len ∨ 20 < len2
  · by_cases e0 : len = 0
    · have k1 : decide ((len : Int) = 0) = true := by simpa using e0
      go_wp2
      go_ret
      exact ⟨rfl, HB1.out⟩
    · have k1 : decide (len = 0) = false := by simpa using e0
      by_cases e1 : 30 < len
      · have k2 : decide ((30 : Int) < len) = true := by simp; omega
        go_wp2
        go_ret
        exact ⟨rfl, HB1.out⟩
      · have k2 : decide ((30 : Int) < len) = false := by simp; omega
        have k3 : decide ((20 : Int) < len2) = true := by simp; omega
        go_wp2
        go_ret
        exact ⟨rfl, HB1.out⟩
  have k1 : decide (len = 0) = false := by simp; omega
  have k2 : decide ((30 : Int) < len) = false := by simp; omega
  have k3 : decide ((20 : Int) < len2) = false := by simp; omega
  have e0 : ¬ len = 0 := by omega
  have HLe := hid h0
  clear h0
  go_wp2_with fail
  refine (HOp.out _ HB1.out).mono ?_
  rintro e w3 ⟨g, d, T3, rfl, hsh, hb⟩
  have HSh3 := hid hsh
  clear hsh hb k1 k2 k3 e0
  go_upto_region 10 with fail
  rw [show Tryz.zeroCells34 = (fnL 151 mdl0F).toArray from by kernel_rfl]
  obtain ⟨hb, hhb⟩ : ∃ hb, w3.heap.size = hb := ⟨_, rfl⟩
  obtain ⟨W4, hW4⟩ : ∃ W, w3.alloc (.cells (fnL 151 mdl0F).toArray 34) = W := ⟨_, rfl⟩
  have h4 : Bl Real PR S w1 d g hb (2000 * 0) (0 < 0) W4 := by
    have z1 : Below w3.heap.size w3 W4 := by rw [← hW4]; exact (Below.refl _ _).alloc (Nat.le_refl _) _
    have z2 : Blk W4 w3.heap.size 34 (fnL 151 mdl0F).toArray := by rw [← hW4]; exact Blk.new w3 _ _
    rw [hhb] at z2
    refine ⟨_, _, _, _, mdl0, ⟨T3, HSh3.out.on HD.out HO.out z1, ⟨mdl0F, fun h => ?_, z2, mdOk_new _ _⟩, by rw [← hhb]; exact HSh3.out.below.size, agrF_new, HK0.out.fine⟩, HK0.out, HR0.out, fun h => absurd h (by omega)⟩
    have := HSh3.out.lt HD.out HO.out hb h; omega
  have H4 := hid h4
  rw [hW4, hhb]
  clear h4 hW4 hhb
  go_wp2
  go_loopw [11] (fun iv wr => ∃ i : Nat, i ≤ len ∧ iv = .int .i64 (i : Int) ∧ Bl Real PR S w1 d g hb (2000 * i) (0 < i) wr) (fun iv _ => len - (intOf iv).toNat)
  case atStart => exact ⟨0, Nat.zero_le _, rfl, H4.out⟩
  case round =>
    rename World => wx
    obtain ⟨i, hi, rfl, hbl⟩ := hrel
    have HBl := hid hbl
    clear hbl
    by_cases hlt : i < len
    · have hil : (i : Int) < len := by omega
      have HI := hid (show i < 30 from by have := HLe.out; omega)
      obtain ⟨ad, x, rfl, _, hx, hc⟩ := (HPl.out.below (HB1.out.trans (HBl.out.below.mono HB1.out.size))).get hlt
      have HC := hid (fun (W : World) (h : Below w1.heap.size w1 W) => (show W.cell? (ad.add i) = some (.int .i64 x) from by
        obtain ⟨ad', x', e1, _, hx', hc'⟩ := (HPl.out.below (HB1.out.trans (h.mono HB1.out.size))).get hlt
        cases e1
        rw [hx] at hx'; cases hx'; exact hc'))
      have HX := hid (show (0 : Int) ≤ x % 30 ∧ x % 30 < 30 from by omega)
      obtain ⟨tb, htb⟩ : ∃ tb, wx.heap.size = tb := ⟨_, rfl⟩
      have HT := hid (fun (W : World) (h1 : Below tb wx W) (h2 : Blk W tb 5 #[.int .u8 (IntKind.u8.wrap (i : Int)), .int .u8 (IntKind.u8.wrap x), .int .u8 3]) => bl_write HD.out HO.out HS1.out HBl.out (by rw [htb]; exact h1) (by omega) (by rw [IntKind.wrap_u8]; omega) (by rw [IntKind.wrap_u8]; omega) h2 HX.out)
      have HQ := hid (fun (W : World) (h : Bl Real PR S w1 d g hb (2000 * i) True W) (k : Int) => bl_commit HD.out HO.out HS1.out trivial h (by have := HI.out; omega) (i := k) (B := none) (nB := 0) (cB := 0))
      have HTb := hid htb
      clear hx
      go_upto_region 13 with fail
      --GEN
      refine wp_region_held_drew (S := fun w' => w'.cell? (ad.add i) = some (.int .i64 x)) (by kernel_rfl) hc (fun hH => ?_)
      refine wpAnyH_take (i := 0) (oi := _) (v := ?_) (by simp only [gA, gC]; rfl) (by kernel_rfl) (by kernel_rfl) (by kernel_rfl) (by exact fun _ _ _ h => h) (Or.inl ⟨by rfl, ?_⟩) hH ?_
      rotate_left
      · intro w hSw; (try dsimp only at hSw); go_simp; try with_reducible rfl
      try simp only [Act.put, List.setIfInBounds_toArray, List.set_cons_zero, List.set_cons_succ]
      refine wpAnyH_take (i := 1) (oi := _) (v := ?_) (by simp only [gA, gB, gC]; rfl) (by kernel_rfl) (by kernel_rfl) (by kernel_rfl) (by exact fun _ _ _ h => h) (Or.inl ⟨by rfl, ?_⟩) hH ?_
      rotate_left
      · intro w hSw; (try dsimp only at hSw); go_simp; try with_reducible rfl
      try simp only [Act.put, List.setIfInBounds_toArray, List.set_cons_zero, List.set_cons_succ]
      refine wpAnyH_take (i := 2) (oi := _) (v := ?_) (by simp only [gA, gB, gC]; rfl) (by kernel_rfl) (by kernel_rfl) (by kernel_rfl) (by exact fun _ _ _ h => h) (Or.inl ⟨by rfl, ?_⟩) hH ?_
      rotate_left
      · intro w hSw; (try dsimp only at hSw); go_simp; try with_reducible rfl
      try simp only [Act.put, List.setIfInBounds_toArray, List.set_cons_zero, List.set_cons_succ]
      refine wpAnyH_take (i := 3) (oi := _) (v := ?_) (by simp only [gA, gB, gC]; rfl) (by kernel_rfl) (by kernel_rfl) (by kernel_rfl) (by exact fun _ _ _ h => h) (Or.inl ⟨by rfl, ?_⟩) hH ?_
      rotate_left
      · intro w hSw; (try dsimp only at hSw); go_simp; try with_reducible rfl
      try simp only [Act.put, List.setIfInBounds_toArray, List.set_cons_zero, List.set_cons_succ]
      refine wpAnyH_take (i := 4) (oi := _) (v := ?_) (by simp only [gA, gB, gC]; rfl) (by kernel_rfl) (by kernel_rfl) (by kernel_rfl) (by exact fun _ _ _ h => h) (Or.inl ⟨by rfl, ?_⟩) hH ?_
      rotate_left
      · intro w hSw; (try dsimp only at hSw); go_simp; try with_reducible rfl
      try simp only [Act.put, List.setIfInBounds_toArray, List.set_cons_zero, List.set_cons_succ]
      refine wpAnyH_take (i := 5) (oi := _) (v := ?_) (by simp only [gA, gB, gC]; rfl) (by kernel_rfl) (by kernel_rfl) (by kernel_rfl) (by exact fun _ _ _ h => h) (Or.inl ⟨by rfl, ?_⟩) hH ?_
      rotate_left
      · intro w hSw; (try dsimp only at hSw); go_simp; try with_reducible rfl
      try simp only [Act.put, List.setIfInBounds_toArray, List.set_cons_zero, List.set_cons_succ]
      refine wpAnyH_take (i := 7) (oi := _) (v := ?_) (by simp only [gA, gB, gC]; rfl) (by kernel_rfl) (by kernel_rfl) (by kernel_rfl) (by exact fun _ _ _ h => h) (Or.inl ⟨by rfl, ?_⟩) hH ?_
      rotate_left
      · intro w hSw; (try dsimp only at hSw); go_simp; try with_reducible rfl
      try simp only [Act.put, List.setIfInBounds_toArray, List.set_cons_zero, List.set_cons_succ]
      refine wpAnyH_take (i := 8) (oi := _) (v := ?_) (by simp only [gA, gB, gC]; rfl) (by kernel_rfl) (by kernel_rfl) (by kernel_rfl) (by exact fun _ _ _ h => h) (Or.inl ⟨by rfl, ?_⟩) hH ?_
      rotate_left
      · intro w hSw; (try dsimp only at hSw); go_simp; try with_reducible rfl
      try simp only [Act.put, List.setIfInBounds_toArray, List.set_cons_zero, List.set_cons_succ]
      refine wpAnyH_take (i := 9) (oi := _) (v := ?_) (by simp only [gA, gB, gC]; rfl) (by kernel_rfl) (by kernel_rfl) (by kernel_rfl) (by exact fun _ _ _ h => h) (Or.inl ⟨by rfl, ?_⟩) hH ?_
      rotate_left
      · intro w hSw; (try dsimp only at hSw); go_simp; try with_reducible rfl
      try simp only [Act.put, List.setIfInBounds_toArray, List.set_cons_zero, List.set_cons_succ]
      refine wpAnyH_take (i := 10) (oi := _) (v := ?_) (by simp only [gA, gB, gC]; rfl) (by kernel_rfl) (by kernel_rfl) (by kernel_rfl) (by exact fun _ _ _ h => h) (Or.inl ⟨by rfl, ?_⟩) hH ?_
      rotate_left
      · intro w hSw; (try dsimp only at hSw); go_simp; try with_reducible rfl
      try simp only [Act.put, List.setIfInBounds_toArray, List.set_cons_zero, List.set_cons_succ]
      refine wpAnyH_take (i := 11) (oi := _) (v := ?_) (by simp only [gA, gB, gC]; rfl) (by kernel_rfl) (by kernel_rfl) (by kernel_rfl) (by exact fun _ _ _ h => h) (Or.inl ⟨by rfl, ?_⟩) hH ?_
      rotate_left
      · intro w hSw; (try dsimp only at hSw); go_simp; try with_reducible rfl
      try simp only [Act.put, List.setIfInBounds_toArray, List.set_cons_zero, List.set_cons_succ]
      refine wpAnyH_take (i := 12) (oi := _) (v := ?_) (by simp only [gA, gB, gC]; rfl) (by kernel_rfl) (by kernel_rfl) (by kernel_rfl) (by exact fun _ _ _ h => h) (Or.inl ⟨by rfl, ?_⟩) hH ?_
      rotate_left
      · intro w hSw; (try dsimp only at hSw); go_simp; try with_reducible rfl
      try simp only [Act.put, List.setIfInBounds_toArray, List.set_cons_zero, List.set_cons_succ]
      refine wpAnyH_take (i := 13) (oi := _) (v := ?_) (by simp only [gA, gB, gC]; rfl) (by kernel_rfl) (by kernel_rfl) (by kernel_rfl) (by exact fun _ _ _ h => h) (Or.inl ⟨by rfl, ?_⟩) hH ?_
      rotate_left
      · intro w hSw; (try dsimp only at hSw); go_simp; try with_reducible rfl
      try simp only [Act.put, List.setIfInBounds_toArray, List.set_cons_zero, List.set_cons_succ]
      refine wpAnyH_ready (rs := [6, 14]) (by kernel_rfl) (by simp) (AllReadyH.cons rfl (fun K hK => ?_) (AllReadyH.cons rfl (fun K hK => ?_) AllReadyH.nil))
      · go_simp
        go_at_call 19
        refine (number_any x 30 _ (by omega) (by omega)).mono ?_
        rintro e w9 ⟨rfl, rfl⟩
        refine hK.out _ _ hc (fun hH => ?_)
        clear hK K
        try simp only [Act.put, List.setIfInBounds_toArray, List.set_cons_zero, List.set_cons_succ]
        refine wpAnyH_ready (rs := [14]) (by kernel_rfl) (by simp) (AllReadyH.cons rfl (fun K hK => ?_) AllReadyH.nil)
        go_simp
        obtain ⟨W4, hW4⟩ : ∃ W, (wx.alloc (.cells #[.int .u8 (IntKind.u8.wrap (i : Int)), .int .u8 (IntKind.u8.wrap x), .int .u8 3] 5)) = W := ⟨_, rfl⟩
        have HB4 := hid (show Below tb wx W4 from by rw [← hW4, ← htb]; exact (Below.refl _ _).alloc (Nat.le_refl _) _)
        have HK4 := hid (show Blk W4 tb 5 #[.int .u8 (IntKind.u8.wrap (i : Int)), .int .u8 (IntKind.u8.wrap x), .int .u8 3] from by rw [← hW4, ← htb]; exact Blk.new wx _ _)
        have hc4 : W4.cell? (ad.add i) = some (.int .i64 x) := HC.out W4 (HBl.out.below.trans ((HTb.out ▸ HB4.out).mono HBl.out.below.size))
        have hcd : W4.drew.cell? (ad.add i) = some (.int .i64 x) := hc4
        (try rw [htb])
        rw [hW4]
        clear hW4 htb
        refine hK.out _ _ (by first | exact hc4 | exact hcd) (fun hH => ?_)
        clear hK K
        try simp only [Act.put, List.setIfInBounds_toArray, List.set_cons_zero, List.set_cons_succ]
        refine wpAnyH_take (i := 15) (oi := _) (v := ?_) (by simp only [gA, gB, gC]; rfl) (by kernel_rfl) (by kernel_rfl) (by kernel_rfl) (by exact fun _ _ _ h => h) (Or.inl ⟨by rfl, ?_⟩) hH ?_
        rotate_left
        · intro w hSw; (try dsimp only at hSw); go_simp; try with_reducible rfl
        try simp only [Act.put, List.setIfInBounds_toArray, List.set_cons_zero, List.set_cons_succ]
        refine wpAnyH_ready (rs := [16]) (by kernel_rfl) (by simp) (AllReadyH.cons rfl (fun K hK => ?_) AllReadyH.nil)
        go_simp
        go_at_call 16
        refine (HT.out _ (by first | exact HB4.out | exact HB4.out.drew) (by first | exact HK4.out | exact HK4.out.drew)).mono ?_
        rintro e w5 ⟨rfl, hbl5⟩
        have HN5 := hid hbl5
        have hc5 := HC.out w5 hbl5.below
        clear hbl5
        refine hK.out _ _ hc5 (fun hH => ?_)
        clear hK K
        try simp only [Act.put, List.setIfInBounds_toArray, List.set_cons_zero, List.set_cons_succ]
        refine wpAnyH_take (i := 17) (oi := _) (v := ?_) (by simp only [gA, gB, gC]; rfl) (by kernel_rfl) (by kernel_rfl) (by kernel_rfl) (by exact fun _ _ _ h => h) (Or.inl ⟨by rfl, ?_⟩) hH ?_
        rotate_left
        · intro w hSw; (try dsimp only at hSw); go_simp; try with_reducible rfl
        try simp only [Act.put, List.setIfInBounds_toArray, List.set_cons_zero, List.set_cons_succ]
        refine wpAnyH_take (i := 18) (oi := _) (v := ?_) (by simp only [gA, gB, gC]; rfl) (by kernel_rfl) (by kernel_rfl) (by kernel_rfl) (by exact fun _ _ _ h => h) (Or.inl ⟨by rfl, ?_⟩) hH ?_
        rotate_left
        · intro w hSw; (try dsimp only at hSw); go_simp; try with_reducible rfl
        try simp only [Act.put, List.setIfInBounds_toArray, List.set_cons_zero, List.set_cons_succ]
        refine wpAnyH_take (i := 19) (oi := _) (v := ?_) (by simp only [gA, gB, gC]; rfl) (by kernel_rfl) (by kernel_rfl) (by kernel_rfl) (by exact fun _ _ _ h => h) (Or.inl ⟨by rfl, ?_⟩) hH ?_
        rotate_left
        · intro w hSw; (try dsimp only at hSw); go_simp; try with_reducible rfl
        try simp only [Act.put, List.setIfInBounds_toArray, List.set_cons_zero, List.set_cons_succ]
        refine wpAnyH_take (i := 20) (oi := _) (v := ?_) (by simp only [gA, gB, gC]; rfl) (by kernel_rfl) (by kernel_rfl) (by kernel_rfl) (by exact fun _ _ _ h => h) (Or.inl ⟨by rfl, ?_⟩) hH ?_
        rotate_left
        · intro w hSw; (try dsimp only at hSw); go_simp; try with_reducible rfl
        try simp only [Act.put, List.setIfInBounds_toArray, List.set_cons_zero, List.set_cons_succ]
        refine wpAnyH_take (i := 21) (oi := _) (v := ?_) (by simp only [gA, gB, gC]; rfl) (by kernel_rfl) (by kernel_rfl) (by kernel_rfl) (by exact fun _ _ _ h => h) (Or.inl ⟨by rfl, ?_⟩) hH ?_
        rotate_left
        · intro w hSw; (try dsimp only at hSw); go_simp; try with_reducible rfl
        try simp only [Act.put, List.setIfInBounds_toArray, List.set_cons_zero, List.set_cons_succ]
        refine wpAnyH_take (i := 22) (oi := _) (v := ?_) (by simp only [gA, gB, gC]; rfl) (by kernel_rfl) (by kernel_rfl) (by kernel_rfl) (by exact fun _ _ _ h => h) (Or.inl ⟨by rfl, ?_⟩) hH ?_
        rotate_left
        · intro w hSw; (try dsimp only at hSw); go_simp; try with_reducible rfl
        try simp only [Act.put, List.setIfInBounds_toArray, List.set_cons_zero, List.set_cons_succ]
        rcases hm : ((i : Int).tmod 9 == 8) with _ | _
        · refine wpAnyH_take (i := 23) (oi := _) (v := undef) (by simp only [gA, gB, gC]; rfl) (by kernel_rfl) (by kernel_rfl) (by kernel_rfl) (by exact fun _ _ _ h => h) (Or.inr ⟨by rfl, rfl⟩) hH ?_
          try simp only [Act.put, List.setIfInBounds_toArray, List.set_cons_zero, List.set_cons_succ]
          refine wpAnyH_take (i := 24) (oi := _) (v := undef) (by simp only [gA, gB, gC]; rfl) (by kernel_rfl) (by kernel_rfl) (by kernel_rfl) (by exact fun _ _ _ h => h) (Or.inr ⟨by rfl, rfl⟩) hH ?_
          try simp only [Act.put, List.setIfInBounds_toArray, List.set_cons_zero, List.set_cons_succ]
          refine wpAnyH_take (i := 25) (oi := _) (v := undef) (by simp only [gA, gB, gC]; rfl) (by kernel_rfl) (by kernel_rfl) (by kernel_rfl) (by exact fun _ _ _ h => h) (Or.inr ⟨by rfl, rfl⟩) hH ?_
          try simp only [Act.put, List.setIfInBounds_toArray, List.set_cons_zero, List.set_cons_succ]
          refine wpAnyH_take (i := 26) (oi := _) (v := undef) (by simp only [gA, gB, gC]; rfl) (by kernel_rfl) (by kernel_rfl) (by kernel_rfl) (by exact fun _ _ _ h => h) (Or.inr ⟨by rfl, rfl⟩) hH ?_
          try simp only [Act.put, List.setIfInBounds_toArray, List.set_cons_zero, List.set_cons_succ]
          refine wpAnyH_take (i := 27) (oi := _) (v := undef) (by simp only [gA, gB, gC]; rfl) (by kernel_rfl) (by kernel_rfl) (by kernel_rfl) (by exact fun _ _ _ h => h) (Or.inr ⟨by rfl, rfl⟩) hH ?_
          try simp only [Act.put, List.setIfInBounds_toArray, List.set_cons_zero, List.set_cons_succ]
          refine wpAnyH_take (i := 28) (oi := _) (v := ?_) (by simp only [gA, gB, gC]; rfl) (by kernel_rfl) (by kernel_rfl) (by kernel_rfl) (by exact fun _ _ _ h => h) (Or.inl ⟨by rfl, ?_⟩) hH ?_
          rotate_left
          · intro w hSw; (try dsimp only at hSw); go_simp; try with_reducible rfl
          try simp only [Act.put, List.setIfInBounds_toArray, List.set_cons_zero, List.set_cons_succ]
          refine wpAnyH_take (i := 29) (oi := _) (v := ?_) (by simp only [gA, gB, gC]; rfl) (by kernel_rfl) (by kernel_rfl) (by kernel_rfl) (by exact fun _ _ _ h => h) (Or.inl ⟨by rfl, ?_⟩) hH ?_
          rotate_left
          · intro w hSw; (try dsimp only at hSw); go_simp; try with_reducible rfl
          try simp only [Act.put, List.setIfInBounds_toArray, List.set_cons_zero, List.set_cons_succ]
          refine wpAnyH_done (by kernel_rfl) ?_ _
          have HN := hid (show Bl Real PR S w1 d g hb (2000 * (i + 1)) (0 < i + 1) w5 from by
            obtain ⟨s5, P5, ch5, c5, M5, z1, z2, z3, z4⟩ := HN5.out.more (q' := 2000 * (i + 1)) (by omega) (by have := HI.out; omega)
            exact ⟨s5, P5, ch5, c5, M5, z1, z2, z3, fun _ => z4 trivial⟩)
          have hi30 : (i : Int) < 30 := by have := HI.out; omega
          clear hm
          go_wp2
          go_roundw
          case rel => exact ⟨i + 1, by omega, by go_num, HN.out⟩
          case measure => simp [intOf]; omega
        · refine wpAnyH_take (i := 23) (oi := _) (v := ?_) (by simp only [gA, gB, gC]; rfl) (by kernel_rfl) (by kernel_rfl) (by kernel_rfl) (by exact fun _ _ _ h => h) (Or.inl ⟨by rfl, ?_⟩) hH ?_
          rotate_left
          · intro w hSw; (try dsimp only at hSw); go_simp; try with_reducible rfl
          try simp only [Act.put, List.setIfInBounds_toArray, List.set_cons_zero, List.set_cons_succ]
          refine wpAnyH_take (i := 24) (oi := _) (v := ?_) (by simp only [gA, gB, gC]; rfl) (by kernel_rfl) (by kernel_rfl) (by kernel_rfl) (by exact fun _ _ _ h => h) (Or.inl ⟨by rfl, ?_⟩) hH ?_
          rotate_left
          · intro w hSw; (try dsimp only at hSw); go_simp; try with_reducible rfl
          try simp only [Act.put, List.setIfInBounds_toArray, List.set_cons_zero, List.set_cons_succ]
          refine wpAnyH_take (i := 25) (oi := _) (v := ?_) (by simp only [gA, gB, gC]; rfl) (by kernel_rfl) (by kernel_rfl) (by kernel_rfl) (by exact fun _ _ _ h => h) (Or.inl ⟨by rfl, ?_⟩) hH ?_
          rotate_left
          · intro w hSw; (try dsimp only at hSw); go_simp; try with_reducible rfl
          try simp only [Act.put, List.setIfInBounds_toArray, List.set_cons_zero, List.set_cons_succ]
          refine wpAnyH_ready (rs := [26]) (by kernel_rfl) (by simp) (AllReadyH.cons rfl (fun K hK => ?_) AllReadyH.nil)
          go_simp
          go_at_call 16
          refine (HQ.out _ HN5.out 0).mono ?_
          rintro e w6 ⟨rfl, hbl6⟩
          have HN6 := hid hbl6
          have hc6 := HC.out w6 (hbl6.bl True).below
          clear hbl6 hc5
          refine hK.out _ _ hc6 (fun hH => ?_)
          clear hK K
          try simp only [Act.put, List.setIfInBounds_toArray, List.set_cons_zero, List.set_cons_succ]
          refine wpAnyH_take (i := 27) (oi := _) (v := ?_) (by simp only [gA, gB, gC]; rfl) (by kernel_rfl) (by kernel_rfl) (by kernel_rfl) (by exact fun _ _ _ h => h) (Or.inl ⟨by rfl, ?_⟩) hH ?_
          rotate_left
          · intro w hSw; (try dsimp only at hSw); go_simp; try with_reducible rfl
          try simp only [Act.put, List.setIfInBounds_toArray, List.set_cons_zero, List.set_cons_succ]
          refine wpAnyH_take (i := 28) (oi := _) (v := ?_) (by simp only [gA, gB, gC]; rfl) (by kernel_rfl) (by kernel_rfl) (by kernel_rfl) (by exact fun _ _ _ h => h) (Or.inl ⟨by rfl, ?_⟩) hH ?_
          rotate_left
          · intro w hSw; (try dsimp only at hSw); go_simp; try with_reducible rfl
          try simp only [Act.put, List.setIfInBounds_toArray, List.set_cons_zero, List.set_cons_succ]
          refine wpAnyH_take (i := 29) (oi := _) (v := ?_) (by simp only [gA, gB, gC]; rfl) (by kernel_rfl) (by kernel_rfl) (by kernel_rfl) (by exact fun _ _ _ h => h) (Or.inl ⟨by rfl, ?_⟩) hH ?_
          rotate_left
          · intro w hSw; (try dsimp only at hSw); go_simp; try with_reducible rfl
          try simp only [Act.put, List.setIfInBounds_toArray, List.set_cons_zero, List.set_cons_succ]
          refine wpAnyH_done (by kernel_rfl) ?_ _
          have HN := hid (show Bl Real PR S w1 d g hb (2000 * (i + 1)) (0 < i + 1) w6 from (HN6.out.bl _).more (by omega) (by have := HI.out; omega))
          have hi30 : (i : Int) < 30 := by have := HI.out; omega
          clear hm
          go_wp2
          go_roundw
          case rel => exact ⟨i + 1, by omega, by go_num, HN.out⟩
          case measure => simp [intOf]; omega
      · go_simp
        obtain ⟨W4, hW4⟩ : ∃ W, (wx.alloc (.cells #[.int .u8 (IntKind.u8.wrap (i : Int)), .int .u8 (IntKind.u8.wrap x), .int .u8 3] 5)) = W := ⟨_, rfl⟩
        have HB4 := hid (show Below tb wx W4 from by rw [← hW4, ← htb]; exact (Below.refl _ _).alloc (Nat.le_refl _) _)
        have HK4 := hid (show Blk W4 tb 5 #[.int .u8 (IntKind.u8.wrap (i : Int)), .int .u8 (IntKind.u8.wrap x), .int .u8 3] from by rw [← hW4, ← htb]; exact Blk.new wx _ _)
        have hc4 : W4.cell? (ad.add i) = some (.int .i64 x) := HC.out W4 (HBl.out.below.trans ((HTb.out ▸ HB4.out).mono HBl.out.below.size))
        have hcd : W4.drew.cell? (ad.add i) = some (.int .i64 x) := hc4
        (try rw [htb])
        rw [hW4]
        clear hW4 htb
        refine hK.out _ _ (by first | exact hc4 | exact hcd) (fun hH => ?_)
        clear hK K
        try simp only [Act.put, List.setIfInBounds_toArray, List.set_cons_zero, List.set_cons_succ]
        refine wpAnyH_ready (rs := [6]) (by kernel_rfl) (by simp) (AllReadyH.cons rfl (fun K hK => ?_) AllReadyH.nil)
        go_simp
        go_at_call 19
        refine (number_any x 30 _ (by omega) (by omega)).mono ?_
        rintro e w9 ⟨rfl, rfl⟩
        refine hK.out _ _ (by first | exact hc4 | exact hcd) (fun hH => ?_)
        clear hK K
        try simp only [Act.put, List.setIfInBounds_toArray, List.set_cons_zero, List.set_cons_succ]
        refine wpAnyH_take (i := 15) (oi := _) (v := ?_) (by simp only [gA, gB, gC]; rfl) (by kernel_rfl) (by kernel_rfl) (by kernel_rfl) (by exact fun _ _ _ h => h) (Or.inl ⟨by rfl, ?_⟩) hH ?_
        rotate_left
        · intro w hSw; (try dsimp only at hSw); go_simp; try with_reducible rfl
        try simp only [Act.put, List.setIfInBounds_toArray, List.set_cons_zero, List.set_cons_succ]
        refine wpAnyH_ready (rs := [16]) (by kernel_rfl) (by simp) (AllReadyH.cons rfl (fun K hK => ?_) AllReadyH.nil)
        go_simp
        go_at_call 16
        refine (HT.out _ (by first | exact HB4.out | exact HB4.out.drew) (by first | exact HK4.out | exact HK4.out.drew)).mono ?_
        rintro e w5 ⟨rfl, hbl5⟩
        have HN5 := hid hbl5
        have hc5 := HC.out w5 hbl5.below
        clear hbl5
        refine hK.out _ _ hc5 (fun hH => ?_)
        clear hK K
        try simp only [Act.put, List.setIfInBounds_toArray, List.set_cons_zero, List.set_cons_succ]
        refine wpAnyH_take (i := 17) (oi := _) (v := ?_) (by simp only [gA, gB, gC]; rfl) (by kernel_rfl) (by kernel_rfl) (by kernel_rfl) (by exact fun _ _ _ h => h) (Or.inl ⟨by rfl, ?_⟩) hH ?_
        rotate_left
        · intro w hSw; (try dsimp only at hSw); go_simp; try with_reducible rfl
        try simp only [Act.put, List.setIfInBounds_toArray, List.set_cons_zero, List.set_cons_succ]
        refine wpAnyH_take (i := 18) (oi := _) (v := ?_) (by simp only [gA, gB, gC]; rfl) (by kernel_rfl) (by kernel_rfl) (by kernel_rfl) (by exact fun _ _ _ h => h) (Or.inl ⟨by rfl, ?_⟩) hH ?_
        rotate_left
        · intro w hSw; (try dsimp only at hSw); go_simp; try with_reducible rfl
        try simp only [Act.put, List.setIfInBounds_toArray, List.set_cons_zero, List.set_cons_succ]
        refine wpAnyH_take (i := 19) (oi := _) (v := ?_) (by simp only [gA, gB, gC]; rfl) (by kernel_rfl) (by kernel_rfl) (by kernel_rfl) (by exact fun _ _ _ h => h) (Or.inl ⟨by rfl, ?_⟩) hH ?_
        rotate_left
        · intro w hSw; (try dsimp only at hSw); go_simp; try with_reducible rfl
        try simp only [Act.put, List.setIfInBounds_toArray, List.set_cons_zero, List.set_cons_succ]
        refine wpAnyH_take (i := 20) (oi := _) (v := ?_) (by simp only [gA, gB, gC]; rfl) (by kernel_rfl) (by kernel_rfl) (by kernel_rfl) (by exact fun _ _ _ h => h) (Or.inl ⟨by rfl, ?_⟩) hH ?_
        rotate_left
        · intro w hSw; (try dsimp only at hSw); go_simp; try with_reducible rfl
        try simp only [Act.put, List.setIfInBounds_toArray, List.set_cons_zero, List.set_cons_succ]
        refine wpAnyH_take (i := 21) (oi := _) (v := ?_) (by simp only [gA, gB, gC]; rfl) (by kernel_rfl) (by kernel_rfl) (by kernel_rfl) (by exact fun _ _ _ h => h) (Or.inl ⟨by rfl, ?_⟩) hH ?_
        rotate_left
        · intro w hSw; (try dsimp only at hSw); go_simp; try with_reducible rfl
        try simp only [Act.put, List.setIfInBounds_toArray, List.set_cons_zero, List.set_cons_succ]
        refine wpAnyH_take (i := 22) (oi := _) (v := ?_) (by simp only [gA, gB, gC]; rfl) (by kernel_rfl) (by kernel_rfl) (by kernel_rfl) (by exact fun _ _ _ h => h) (Or.inl ⟨by rfl, ?_⟩) hH ?_
        rotate_left
        · intro w hSw; (try dsimp only at hSw); go_simp; try with_reducible rfl
        try simp only [Act.put, List.setIfInBounds_toArray, List.set_cons_zero, List.set_cons_succ]
        rcases hm : ((i : Int).tmod 9 == 8) with _ | _
        · refine wpAnyH_take (i := 23) (oi := _) (v := undef) (by simp only [gA, gB, gC]; rfl) (by kernel_rfl) (by kernel_rfl) (by kernel_rfl) (by exact fun _ _ _ h => h) (Or.inr ⟨by rfl, rfl⟩) hH ?_
          try simp only [Act.put, List.setIfInBounds_toArray, List.set_cons_zero, List.set_cons_succ]
          refine wpAnyH_take (i := 24) (oi := _) (v := undef) (by simp only [gA, gB, gC]; rfl) (by kernel_rfl) (by kernel_rfl) (by kernel_rfl) (by exact fun _ _ _ h => h) (Or.inr ⟨by rfl, rfl⟩) hH ?_
          try simp only [Act.put, List.setIfInBounds_toArray, List.set_cons_zero, List.set_cons_succ]
          refine wpAnyH_take (i := 25) (oi := _) (v := undef) (by simp only [gA, gB, gC]; rfl) (by kernel_rfl) (by kernel_rfl) (by kernel_rfl) (by exact fun _ _ _ h => h) (Or.inr ⟨by rfl, rfl⟩) hH ?_
          try simp only [Act.put, List.setIfInBounds_toArray, List.set_cons_zero, List.set_cons_succ]
          refine wpAnyH_take (i := 26) (oi := _) (v := undef) (by simp only [gA, gB, gC]; rfl) (by kernel_rfl) (by kernel_rfl) (by kernel_rfl) (by exact fun _ _ _ h => h) (Or.inr ⟨by rfl, rfl⟩) hH ?_
          try simp only [Act.put, List.setIfInBounds_toArray, List.set_cons_zero, List.set_cons_succ]
          refine wpAnyH_take (i := 27) (oi := _) (v := undef) (by simp only [gA, gB, gC]; rfl) (by kernel_rfl) (by kernel_rfl) (by kernel_rfl) (by exact fun _ _ _ h => h) (Or.inr ⟨by rfl, rfl⟩) hH ?_
          try simp only [Act.put, List.setIfInBounds_toArray, List.set_cons_zero, List.set_cons_succ]
          refine wpAnyH_take (i := 28) (oi := _) (v := ?_) (by simp only [gA, gB, gC]; rfl) (by kernel_rfl) (by kernel_rfl) (by kernel_rfl) (by exact fun _ _ _ h => h) (Or.inl ⟨by rfl, ?_⟩) hH ?_
          rotate_left
          · intro w hSw; (try dsimp only at hSw); go_simp; try with_reducible rfl
          try simp only [Act.put, List.setIfInBounds_toArray, List.set_cons_zero, List.set_cons_succ]
          refine wpAnyH_take (i := 29) (oi := _) (v := ?_) (by simp only [gA, gB, gC]; rfl) (by kernel_rfl) (by kernel_rfl) (by kernel_rfl) (by exact fun _ _ _ h => h) (Or.inl ⟨by rfl, ?_⟩) hH ?_
          rotate_left
          · intro w hSw; (try dsimp only at hSw); go_simp; try with_reducible rfl
          try simp only [Act.put, List.setIfInBounds_toArray, List.set_cons_zero, List.set_cons_succ]
          refine wpAnyH_done (by kernel_rfl) ?_ _
          have HN := hid (show Bl Real PR S w1 d g hb (2000 * (i + 1)) (0 < i + 1) w5 from by
            obtain ⟨s5, P5, ch5, c5, M5, z1, z2, z3, z4⟩ := HN5.out.more (q' := 2000 * (i + 1)) (by omega) (by have := HI.out; omega)
            exact ⟨s5, P5, ch5, c5, M5, z1, z2, z3, fun _ => z4 trivial⟩)
          have hi30 : (i : Int) < 30 := by have := HI.out; omega
          clear hm
          go_wp2
          go_roundw
          case rel => exact ⟨i + 1, by omega, by go_num, HN.out⟩
          case measure => simp [intOf]; omega
        · refine wpAnyH_take (i := 23) (oi := _) (v := ?_) (by simp only [gA, gB, gC]; rfl) (by kernel_rfl) (by kernel_rfl) (by kernel_rfl) (by exact fun _ _ _ h => h) (Or.inl ⟨by rfl, ?_⟩) hH ?_
          rotate_left
          · intro w hSw; (try dsimp only at hSw); go_simp; try with_reducible rfl
          try simp only [Act.put, List.setIfInBounds_toArray, List.set_cons_zero, List.set_cons_succ]
          refine wpAnyH_take (i := 24) (oi := _) (v := ?_) (by simp only [gA, gB, gC]; rfl) (by kernel_rfl) (by kernel_rfl) (by kernel_rfl) (by exact fun _ _ _ h => h) (Or.inl ⟨by rfl, ?_⟩) hH ?_
          rotate_left
          · intro w hSw; (try dsimp only at hSw); go_simp; try with_reducible rfl
          try simp only [Act.put, List.setIfInBounds_toArray, List.set_cons_zero, List.set_cons_succ]
          refine wpAnyH_take (i := 25) (oi := _) (v := ?_) (by simp only [gA, gB, gC]; rfl) (by kernel_rfl) (by kernel_rfl) (by kernel_rfl) (by exact fun _ _ _ h => h) (Or.inl ⟨by rfl, ?_⟩) hH ?_
          rotate_left
          · intro w hSw; (try dsimp only at hSw); go_simp; try with_reducible rfl
          try simp only [Act.put, List.setIfInBounds_toArray, List.set_cons_zero, List.set_cons_succ]
          refine wpAnyH_ready (rs := [26]) (by kernel_rfl) (by simp) (AllReadyH.cons rfl (fun K hK => ?_) AllReadyH.nil)
          go_simp
          go_at_call 16
          refine (HQ.out _ HN5.out 0).mono ?_
          rintro e w6 ⟨rfl, hbl6⟩
          have HN6 := hid hbl6
          have hc6 := HC.out w6 (hbl6.bl True).below
          clear hbl6 hc5
          refine hK.out _ _ hc6 (fun hH => ?_)
          clear hK K
          try simp only [Act.put, List.setIfInBounds_toArray, List.set_cons_zero, List.set_cons_succ]
          refine wpAnyH_take (i := 27) (oi := _) (v := ?_) (by simp only [gA, gB, gC]; rfl) (by kernel_rfl) (by kernel_rfl) (by kernel_rfl) (by exact fun _ _ _ h => h) (Or.inl ⟨by rfl, ?_⟩) hH ?_
          rotate_left
          · intro w hSw; (try dsimp only at hSw); go_simp; try with_reducible rfl
          try simp only [Act.put, List.setIfInBounds_toArray, List.set_cons_zero, List.set_cons_succ]
          refine wpAnyH_take (i := 28) (oi := _) (v := ?_) (by simp only [gA, gB, gC]; rfl) (by kernel_rfl) (by kernel_rfl) (by kernel_rfl) (by exact fun _ _ _ h => h) (Or.inl ⟨by rfl, ?_⟩) hH ?_
          rotate_left
          · intro w hSw; (try dsimp only at hSw); go_simp; try with_reducible rfl
          try simp only [Act.put, List.setIfInBounds_toArray, List.set_cons_zero, List.set_cons_succ]
          refine wpAnyH_take (i := 29) (oi := _) (v := ?_) (by simp only [gA, gB, gC]; rfl) (by kernel_rfl) (by kernel_rfl) (by kernel_rfl) (by exact fun _ _ _ h => h) (Or.inl ⟨by rfl, ?_⟩) hH ?_
          rotate_left
          · intro w hSw; (try dsimp only at hSw); go_simp; try with_reducible rfl
          try simp only [Act.put, List.setIfInBounds_toArray, List.set_cons_zero, List.set_cons_succ]
          refine wpAnyH_done (by kernel_rfl) ?_ _
          have HN := hid (show Bl Real PR S w1 d g hb (2000 * (i + 1)) (0 < i + 1) w6 from (HN6.out.bl _).more (by omega) (by have := HI.out; omega))
          have hi30 : (i : Int) < 30 := by have := HI.out; omega
          clear hm
          go_wp2
          go_roundw
          case rel => exact ⟨i + 1, by omega, by go_num, HN.out⟩
          case measure => simp [intOf]; omega
      --END
    · have HLn := hid (show i = len ∧ 0 < len ∧ len ≤ 30 ∧ len2 ≤ 20 from by have := HLe.out; omega)
      have hnlt : decide (i < len) = false := by simpa using hlt
      go_wp2_with fail
      refine (bl_commit HD.out HO.out HS1.out (by have := HLn.out; omega) HBl.out (by have := HLn.out; omega)).mono ?_
      rintro e w5 ⟨rfl, s5, P5, cont5, M5, ⟨T5, hs5, ⟨f5, z1, z2, z3⟩, z4, hag, hfi⟩, hkp, hrt, hep⟩
      obtain ⟨c5, hfau⟩ := Fau.start hkp hs5.pd.1 (by omega) (by have := HLn.out; omega) hep hrt
      have HAl := hid (show Alk 400 P5 cont5 M5 from ⟨hfi, hag.ep, fun i => by rw [← hag.cnt i, noChg_cont]⟩)
      have HQ5 := hid (show 2000 * i + 1000 ≤ 70000 from by have := HLn.out; omega)
      have HX5 := hid (And.intro hs5 (And.intro z1 (And.intro z2 (And.intro z3 (And.intro z4 hfau)))))
      clear hs5 z1 z2 z3 z4 hag hfi hkp hrt hep hfau hnlt
      go_upto_region 18 with fail
      rw [show Tryz.zeroCells53 = (fnL 100 (fun _ => .bool false)).toArray from by kernel_rfl]
      obtain ⟨db, hdb⟩ : ∃ db, w5.heap.size = db := ⟨_, rfl⟩
      obtain ⟨W6, hW6⟩ : ∃ W, w5.alloc (.cells (fnL 100 (fun _ => .bool false)).toArray 53) = W := ⟨_, rfl⟩
      have h6 : FA (FSt Real PR S w1 d g 400 (100000 + 0) (110 + 0) P5 cont5 (Knows (fun _ => false))) hb db (fun _ => false) M5 W6 := by
        have y1 : Below w5.heap.size w5 W6 := by rw [← hW6]; exact (Below.refl _ _).alloc (Nat.le_refl _) _
        have y2 : Blk W6 w5.heap.size 53 (fnL 100 (fun _ => .bool false)).toArray := by rw [← hW6]; exact Blk.new w5 _ _
        rw [hdb] at y2
        obtain ⟨x1, x2, x3, x4, x5, x6⟩ := HX5.out
        have hlt := x1.lt HD.out HO.out
        have hcn := cnt_le (fun _ => false) (halN 400)
        have h400 := h400
        refine ⟨T5, f5, ⟨s5, _, 7, c5, fun _ => false, x1.on HD.out HO.out y1, x6, by have := HQ5.out; omega, by omega, fun j hj => by cases hj⟩, x2, fun h => by have := hlt db h; omega, x3.on y1, (x4.only (K := fun _ => False) (Only.refl _ _) (fun _ h => h.elim) (fun k hk => hk.elim .inl (fun e => .inr (by omega)))).below y1, y2⟩
      have HD6 := hid (show w1.heap.size ≤ db ∧ db ≠ hb ∧ w1.heap.size ≤ hb from by
        obtain ⟨x1, x2, x3, x4, x5, x6⟩ := HX5.out
        have := x1.below.size
        have := x3.lt
        omega)
      have H6 := hid h6
      rw [hW6, hdb]
      clear h6 hW6 hdb
      go_wp2
      go_loopw [13] (fun iv wr => ∃ (i : Nat) (dn : Nat → Bool), i ≤ len2 ∧ iv = .int .i64 (i : Int) ∧ FA (FSt Real PR S w1 d g 400 (100000 + i) (110 + i) P5 cont5 (Knows dn)) hb db dn M5 wr) (fun iv _ => len2 - (intOf iv).toNat)
      case atStart => exact ⟨0, _, Nat.zero_le _, rfl, H6.out⟩
      case round =>
        rename World => wy
        obtain ⟨j, dn, hj, rfl, hfa⟩ := hrel
        have HFa := hid hfa
        clear hfa
        by_cases hlt2 : j < len2
        · have hjl : (j : Int) < len2 := by omega
          obtain ⟨ad2, x, rfl, _, hx, hc⟩ := (HFl.out.below (HB1.out.trans (HFa.out.below.mono HB1.out.size))).get hlt2
          have HC := hid (fun (W : World) (h : Below w1.heap.size w1 W) => (show W.cell? (ad2.add j) = some (.int .i64 x) from by
            obtain ⟨ad', x', e1, _, hx', hc'⟩ := (HFl.out.below (HB1.out.trans (h.mono HB1.out.size))).get hlt2
            cases e1
            rw [hx] at hx'; cases hx'; exact hc'))
          have HJ := hid (show j < 20 from by have := HLn.out; omega)
          clear hx
          obtain ⟨k, hk, hk1⟩ : ∃ k : Nat, x % 100 = (k : Int) ∧ k < 100 := ⟨(x % 100).toNat, by omega, by omega⟩
          have hk100 : (k : Int) < 100 := by omega
          go_wp2_with fail
          refine (number_any x 100 _ (by omega) (by omega)).mono ?_
          rw [hk]
          rintro e w9 ⟨rfl, rfl⟩
          obtain ⟨c0, c1⟩ := HFa.out.cell hk1
          have HK := hid (And.intro hk hk1)
          clear hk hk1
          rcases hd : dn k with _ | _
          · rw [hd] at c0
            have hx7 := HFa.out.set (bes_fst HD.out HO.out) HD6.out.1 HD6.out.2.1 k
            go_upto_region 24 with fail
            obtain ⟨W7, hW7⟩ : ∃ W, wy.setCell ⟨db, k, none⟩ (.bool true) = W := ⟨_, rfl⟩
            rw [hW7] at hx7 ⊢
            have HF7 := hid hx7
            have hc7 := HC.out W7 hx7.below
            clear hx7 hW7 c0 c1 hc
            obtain ⟨b1, hb1, hb1e⟩ := and1F (wrap64 (x.tdiv 300))
            have hb1i : (b1 : Int) ≤ 1 := by omega
            have hj20 : (j : Int) < 20 := by have := HJ.out; omega
            have hab : k + 100 * b1 = k ∨ k + 100 * b1 = k + halN 400 := by rw [h400]; omega
            have hkh : k < halN 400 := by rw [h400]; exact HK.out.2
            have hce : ((k + 100 * b1 : Nat) : Int) = (k : Int) + 100 * (b1 : Int) := by omega
            have HAb := hid (And.intro hab (And.intro hkh hce))
            have HKn := hid (And.intro (knows_not hd) (knows_on (dn := dn) HK.out.2))
            clear hab hkh hce hd
            rcases hm : (x.tmod 3 == 0) with _ | _
            · obtain ⟨b2, hb2, hb2e⟩ := or1F b
              have HSp := hid (fun (W : World) (h : Below W7.heap.size W7 W) => (HF7.out.on (bes_fst HD.out HO.out) h).call (fun T h => fst_spoil HD.out HO.out h HAb.out.2.1 HAb.out.1 (at' := (IntKind.i64.wrap (x.tdiv 7)) % 253) hb2 HKn.out.1 HKn.out.2))
              rw [HAb.out.2.2] at HSp
              have hcd : W7.drew.cell? (ad2.add j) = some (.int .i64 x) := hc7
              have hb1f : bits .and .i64 (IntKind.i64.wrap (x.tdiv 300)) 1 = (b1 : Int) := (congrArg (fun z => bits .and .i64 z 1) (IntWalk.i64_left _)).trans hb1e
              have hk1 := HK.out.2
              have hw1 : IntKind.i64.wrap (100 * (b1 : Int)) = 100 * (b1 : Int) := by rw [IntKind.wrap_i64]; omega
              have hw2 : IntKind.i64.wrap ((k : Int) + 100 * (b1 : Int)) = (k : Int) + 100 * (b1 : Int) := by rw [IntKind.wrap_i64]; omega
              clear hk1
              go_upto_region 26 with fail
              refine wp_region_held_drew (S := fun w' => w'.cell? (ad2.add j) = some (.int .i64 x)) (by kernel_rfl) hc7 (fun hH => ?_)
              refine wpAnyH_take (i := 0) (oi := _) (v := ?_) (by simp only [gA, gC]; rfl) (by kernel_rfl) (by kernel_rfl) (by kernel_rfl) (by exact fun _ _ _ h => h) (Or.inl ⟨by rfl, ?_⟩) hH ?_
              rotate_left
              · intro w hSw; (try dsimp only at hSw); go_simp; try with_reducible rfl
              try simp only [Act.put, List.setIfInBounds_toArray, List.set_cons_zero, List.set_cons_succ]
              refine wpAnyH_take (i := 1) (oi := _) (v := ?_) (by simp only [gA, gB, gC]; rfl) (by kernel_rfl) (by kernel_rfl) (by kernel_rfl) (by exact fun _ _ _ h => h) (Or.inl ⟨by rfl, ?_⟩) hH ?_
              rotate_left
              · intro w hSw; (try dsimp only at hSw); go_simp; try with_reducible rfl
              try simp only [Act.put, List.setIfInBounds_toArray, List.set_cons_zero, List.set_cons_succ]
              refine wpAnyH_take (i := 2) (oi := _) (v := ?_) (by simp only [gA, gB, gC]; rfl) (by kernel_rfl) (by kernel_rfl) (by kernel_rfl) (by exact fun _ _ _ h => h) (Or.inl ⟨by rfl, ?_⟩) hH ?_
              rotate_left
              · intro w hSw; (try dsimp only at hSw); go_simp; try with_reducible rfl
              try simp only [Act.put, List.setIfInBounds_toArray, List.set_cons_zero, List.set_cons_succ]
              refine wpAnyH_take (i := 3) (oi := _) (v := ?_) (by simp only [gA, gB, gC]; rfl) (by kernel_rfl) (by kernel_rfl) (by kernel_rfl) (by exact fun _ _ _ h => h) (Or.inl ⟨by rfl, ?_⟩) hH ?_
              rotate_left
              · intro w hSw; (try dsimp only at hSw); go_simp; try with_reducible rfl
              try simp only [Act.put, List.setIfInBounds_toArray, List.set_cons_zero, List.set_cons_succ]
              refine wpAnyH_take (i := 4) (oi := _) (v := ?_) (by simp only [gA, gB, gC]; rfl) (by kernel_rfl) (by kernel_rfl) (by kernel_rfl) (by exact fun _ _ _ h => h) (Or.inl ⟨by rfl, ?_⟩) hH ?_
              rotate_left
              · intro w hSw; (try dsimp only at hSw); go_simp; try with_reducible rfl
              try simp only [Act.put, List.setIfInBounds_toArray, List.set_cons_zero, List.set_cons_succ]
              refine wpAnyH_take (i := 5) (oi := _) (v := ?_) (by simp only [gA, gB, gC]; rfl) (by kernel_rfl) (by kernel_rfl) (by kernel_rfl) (by exact fun _ _ _ h => h) (Or.inl ⟨by rfl, ?_⟩) hH ?_
              rotate_left
              · intro w hSw; (try dsimp only at hSw); go_simp; try with_reducible rfl
              try simp only [Act.put, List.setIfInBounds_toArray, List.set_cons_zero, List.set_cons_succ]
              refine wpAnyH_take (i := 6) (oi := _) (v := ?_) (by simp only [gA, gB, gC]; rfl) (by kernel_rfl) (by kernel_rfl) (by kernel_rfl) (by exact fun _ _ _ h => h) (Or.inl ⟨by rfl, ?_⟩) hH ?_
              rotate_left
              · intro w hSw; (try dsimp only at hSw); go_simp; try with_reducible rfl
              try simp only [Act.put, List.setIfInBounds_toArray, List.set_cons_zero, List.set_cons_succ]
              refine wpAnyH_take (i := 7) (oi := _) (v := ?_) (by simp only [gA, gB, gC]; rfl) (by kernel_rfl) (by kernel_rfl) (by kernel_rfl) (by exact fun _ _ _ h => h) (Or.inl ⟨by rfl, ?_⟩) hH ?_
              rotate_left
              · intro w hSw; (try dsimp only at hSw); go_simp; try with_reducible rfl
              try simp only [Act.put, List.setIfInBounds_toArray, List.set_cons_zero, List.set_cons_succ]
              refine wpAnyH_take (i := 8) (oi := _) (v := ?_) (by simp only [gA, gB, gC]; rfl) (by kernel_rfl) (by kernel_rfl) (by kernel_rfl) (by exact fun _ _ _ h => h) (Or.inl ⟨by rfl, ?_⟩) hH ?_
              rotate_left
              · intro w hSw; (try dsimp only at hSw); go_simp; try with_reducible rfl
              try simp only [Act.put, List.setIfInBounds_toArray, List.set_cons_zero, List.set_cons_succ]
              refine wpAnyH_take (i := 9) (oi := _) (v := ?_) (by simp only [gA, gB, gC]; rfl) (by kernel_rfl) (by kernel_rfl) (by kernel_rfl) (by exact fun _ _ _ h => h) (Or.inl ⟨by rfl, ?_⟩) hH ?_
              rotate_left
              · intro w hSw; (try dsimp only at hSw); go_simp; try with_reducible rfl
              try simp only [Act.put, List.setIfInBounds_toArray, List.set_cons_zero, List.set_cons_succ]
              refine wpAnyH_take (i := 10) (oi := _) (v := ?_) (by simp only [gA, gB, gC]; rfl) (by kernel_rfl) (by kernel_rfl) (by kernel_rfl) (by exact fun _ _ _ h => h) (Or.inl ⟨by rfl, ?_⟩) hH ?_
              rotate_left
              · intro w hSw; (try dsimp only at hSw); go_simp; try with_reducible rfl
              try simp only [Act.put, List.setIfInBounds_toArray, List.set_cons_zero, List.set_cons_succ]
              refine wpAnyH_take (i := 11) (oi := _) (v := ?_) (by simp only [gA, gB, gC]; rfl) (by kernel_rfl) (by kernel_rfl) (by kernel_rfl) (by exact fun _ _ _ h => h) (Or.inl ⟨by rfl, ?_⟩) hH ?_
              rotate_left
              · intro w hSw; (try dsimp only at hSw); go_simp; try with_reducible rfl
              try simp only [Act.put, List.setIfInBounds_toArray, List.set_cons_zero, List.set_cons_succ]
              refine wpAnyH_take (i := 12) (oi := _) (v := ?_) (by simp only [gA, gB, gC]; rfl) (by kernel_rfl) (by kernel_rfl) (by kernel_rfl) (by exact fun _ _ _ h => h) (Or.inl ⟨by rfl, ?_⟩) hH ?_
              rotate_left
              · intro w hSw; (try dsimp only at hSw); go_simp; try with_reducible rfl
              try simp only [Act.put, List.setIfInBounds_toArray, List.set_cons_zero, List.set_cons_succ]
              refine wpAnyH_take (i := 13) (oi := _) (v := ?_) (by simp only [gA, gB, gC]; rfl) (by kernel_rfl) (by kernel_rfl) (by kernel_rfl) (by exact fun _ _ _ h => h) (Or.inl ⟨by rfl, ?_⟩) hH ?_
              rotate_left
              · intro w hSw; (try dsimp only at hSw); go_simp; try with_reducible rfl
              try simp only [Act.put, List.setIfInBounds_toArray, List.set_cons_zero, List.set_cons_succ]
              refine wpAnyH_take (i := 14) (oi := _) (v := ?_) (by simp only [gA, gB, gC]; rfl) (by kernel_rfl) (by kernel_rfl) (by kernel_rfl) (by exact fun _ _ _ h => h) (Or.inl ⟨by rfl, ?_⟩) hH ?_
              rotate_left
              · intro w hSw; (try dsimp only at hSw); go_simp; try with_reducible rfl
              try simp only [Act.put, List.setIfInBounds_toArray, List.set_cons_zero, List.set_cons_succ]
              refine wpAnyH_take (i := 16) (oi := _) (v := ?_) (by simp only [gA, gB, gC]; rfl) (by kernel_rfl) (by kernel_rfl) (by kernel_rfl) (by exact fun _ _ _ h => h) (Or.inl ⟨by rfl, ?_⟩) hH ?_
              rotate_left
              · intro w hSw; (try dsimp only at hSw); go_simp; try with_reducible rfl
              try simp only [Act.put, List.setIfInBounds_toArray, List.set_cons_zero, List.set_cons_succ]
              refine wpAnyH_take (i := 17) (oi := _) (v := ?_) (by simp only [gA, gB, gC]; rfl) (by kernel_rfl) (by kernel_rfl) (by kernel_rfl) (by exact fun _ _ _ h => h) (Or.inl ⟨by rfl, ?_⟩) hH ?_
              rotate_left
              · intro w hSw; (try dsimp only at hSw); go_simp; try with_reducible rfl
              try simp only [Act.put, List.setIfInBounds_toArray, List.set_cons_zero, List.set_cons_succ]
              refine wpAnyH_ready (rs := [15]) (by kernel_rfl) (by simp) (AllReadyH.cons rfl (fun K hK => ?_) AllReadyH.nil)
              go_simp
              go_at_call 19
              refine (number_any (IntKind.i64.wrap (x.tdiv 7)) 253 _ (of_decide_eq_true rfl) (of_decide_eq_true rfl)).mono ?_
              rintro e y5 ⟨rfl, hy5⟩
              have HB8 := hid (show Below W7.heap.size W7 y5 from by rw [← hy5]; first | exact Below.refl _ _ | exact (Below.refl _ _).drew)
              have hc8 : y5.cell? (ad2.add j) = some (.int .i64 x) := by rw [← hy5]; first | exact hc7 | exact hcd
              refine hK.out _ _ hc8 (fun hH => ?_)
              clear hK K
              try simp only [Act.put, List.setIfInBounds_toArray, List.set_cons_zero, List.set_cons_succ]
              refine wpAnyH_ready (rs := [18]) (by kernel_rfl) (by simp) (AllReadyH.cons rfl (fun K hK => ?_) AllReadyH.nil)
              go_simp
              go_at_call 26
              refine (HSp.out _ (by first | exact HB8.out | exact HB8.out.drew)).mono ?_
              rintro e y6 ⟨⟨b6, rfl⟩, hfa6⟩
              have HF8 := hid hfa6
              have hc9 := HC.out y6 hfa6.below
              clear hfa6
              refine hK.out _ _ hc9 (fun hH => ?_)
              clear hK K
              try simp only [Act.put, List.setIfInBounds_toArray, List.set_cons_zero, List.set_cons_succ]
              refine wpAnyH_done (by kernel_rfl) ?_ _
              have HN := hid (show FA (FSt Real PR S w1 d g 400 (100000 + (j + 1)) (110 + (j + 1)) P5 cont5 (Knows (setD dn k true))) hb db (setD dn k true) M5 y6 from HF8.out)
              go_wp2
              go_roundw
              case rel => exact ⟨j + 1, _, by omega, by go_num, HN.out⟩
              case measure => simp [intOf]; omega
            · have HFl := hid (HF7.out.call (fun T h => fst_fail HD.out HO.out h HAb.out.2.1 HAb.out.1 HKn.out.1 HKn.out.2))
              rw [HAb.out.2.2] at HFl
              go_wp2_with fail
              refine HFl.out.mono ?_
              rintro e y6 ⟨⟨b6, rfl⟩, hfa6⟩
              have HN := hid (show FA (FSt Real PR S w1 d g 400 (100000 + (j + 1)) (110 + (j + 1)) P5 cont5 (Knows (setD dn k true))) hb db (setD dn k true) M5 y6 from hfa6)
              clear hfa6 hc7
              go_wp2
              go_roundw
              case rel => exact ⟨j + 1, _, by omega, by go_num, HN.out⟩
              case measure => simp [intOf]; omega
          · rw [hd] at c0
            have hj20 : (j : Int) < 20 := by have := HJ.out; omega
            have HN := hid (HFa.out.imp (fun T h => FSt.turn (Q' := 100000 + (j + 1)) (M' := 110 + (j + 1)) h (by omega) (by omega) (fun _ h => h)))
            go_wp2
            exact ⟨⟨j + 1, dn, by omega, rfl, HN.out⟩, by simp [intOf]; omega⟩
        · have hnlt2 : decide (j < len2) = false := by simpa using hlt2
          have HJ := hid (show j ≤ 20 from by have := HLn.out; omega)
          go_wp2_with fail
          refine (fa_open (Q2 := 200000) (M2 := 110) HD.out HO.out HS1.out (by have := HJ.out; omega) (by have := HJ.out; omega) (by decide) HFa.out).mono ?_
          rintro e w7 ⟨g7, rfl, hfa7⟩
          have HFa7 := hid hfa7
          clear hfa7 hnlt2
          go_wp2_with fail
          refine (fa_same HD.out HO.out HS1.out (by omega) (by omega) knows_off HAl.out HFa7.out.below HFa7.out).mono ?_
          rintro e w8 ⟨rfl, hfa8⟩
          have H8 := hid (show FA (FSt Real PR S w1 d g7 400 (200000 + 0) (110 + 0) P5 cont5 (fun dd => ∀ a, dd a = true → 0 ≤ a ∧ a < 100)) hb db dn M5 w8 from hfa8.imp (fun T h => h.turn (by omega) (by omega) (fun dd hk a ha => ⟨by omega, (hk a ha).2⟩)))
          clear hfa8
          go_wp2
          go_loopw [17] (fun iv wr => ∃ m : Nat, m ≤ 100 ∧ iv = .int .i64 (m : Int) ∧ FA (FSt Real PR S w1 d g7 400 (200000 + m) (110 + m) P5 cont5 (fun dd => ∀ a, dd a = true → m ≤ a ∧ a < 100)) hb db dn M5 wr) (fun iv _ => 100 - (intOf iv).toNat)
          case atStart => exact ⟨0, by omega, rfl, H8.out⟩
          case round =>
            rename World => wz
            obtain ⟨m, hm, rfl, hfm⟩ := hrel
            have HFm := hid hfm
            clear hfm
            by_cases hlt3 : m < 100
            · have hm1 : (m : Int) < 100 := by omega
              go_wp2_with fail
              refine (HFm.out.call (fun T h => fst_heal (K' := fun dd => ∀ a, dd a = true → m + 1 ≤ a ∧ a < 100) HD.out HO.out HS1.out.seven h (by omega) (by omega) (i := m) (by rw [h400]; exact hlt3) (fun dd hk a ha => ?_))).mono ?_
              · unfold setD at ha
                by_cases e : a = m
                · rw [if_pos e] at ha; cases ha
                · rw [if_neg e] at ha; have := hk a ha; omega
              rintro e w9 ⟨⟨k9, rfl⟩, hfa9⟩
              have HN := hid hfa9
              clear hfa9
              go_wp2
              go_roundw
              case rel => exact ⟨m + 1, by omega, by go_num, HN.out⟩
              case measure => simp [intOf]; omega
            · have hm1 : m = 100 := by omega
              subst hm1
              go_wp2_with fail
              refine (HFm.out.call (fun T h => fst_flush HD.out HO.out (by omega) h (fun dd hk a => ?_))).mono ?_
              · rcases hd : dd a with _ | _
                · rfl
                · have := hk a hd; omega
              rintro e w9 ⟨rfl, hfa9⟩
              have HF9 := hid hfa9
              clear hfa9
              go_wp2_with fail
              refine (fa_used HD.out HO.out HF9.out).mono ?_
              rintro e wa ⟨Au, ku, rfl, hfa⟩
              have HFu := hid hfa
              clear hfa
              obtain ⟨L, hL⟩ : ∃ L, P5.used.length = L := ⟨_, rfl⟩
              have HL := hid hL
              have HL2 := hid (show 0 < L ∧ L ≤ 50 from by
                have h1 := HAl.out.fine.room
                rw [used_len] at hL h1
                have := h400
                omega)
              rw [hL]
              clear hL
              go_wp2
              go_loopw [21] (fun iv wr => ∃ m : Nat, m ≤ L ∧ iv = .int .i64 (m : Int) ∧ FA (Wl (FZ Real PR S w1 d g7 400 (200000 + 100 + 1) (110 + 100) P5 cont5 (fun dd => ∀ a, dd a = true → 100 ≤ a ∧ a < 100)) Au ku P5.used) hb db dn M5 wr) (fun iv _ => L - (intOf iv).toNat)
              case atStart => exact ⟨0, by omega, rfl, HFu.out⟩
              case round =>
                rename World => wb
                obtain ⟨m, hm, rfl, hfm⟩ := hrel
                have HFv := hid hfm
                clear hfm
                by_cases hlt4 : m < L
                · have hm1 : (m : Int) < L := by omega
                  have HLm := hid (show m < 50 from by have := HL2.out; omega)
                  obtain ⟨adu, x, rfl, hx, hc⟩ := HFv.out.row (j := m) (by rw [HL.out]; exact hlt4)
                  have HMe := hid (List.mem_of_getElem? hx)
                  have HLp := hid (show 0 < P5.used.length from by rw [HL.out]; exact HL2.out.1)
                  obtain ⟨u, rfl, hu⟩ : ∃ u : Nat, x = (u : Int) ∧ u < 100 := by
                    have h1 := used_at HAl.out.fine HMe.out
                    rw [h400] at h1
                    exact ⟨x.toNat, by omega, by omega⟩
                  have hu1 : (u : Int) < 100 := by omega
                  go_wp2_with fail
                  refine (fa_faulted HD.out HO.out HLp.out HFv.out HMe.out (.inl rfl)).mono ?_
                  rintro e w9 ⟨rfl, hfa9⟩
                  have HF9 := hid hfa9
                  obtain ⟨ad9, x9, e9, hx9, hc9⟩ := hfa9.row (j := m) (by rw [HL.out]; exact hlt4)
                  cases e9
                  rw [hx] at hx9
                  cases hx9
                  clear hfa9 hc
                  go_wp2_with fail
                  refine (fa_faulted HD.out HO.out HLp.out HF9.out HMe.out (.inr (by rw [h400]; rfl))).mono ?_
                  rintro e w10 ⟨rfl, hfa10⟩
                  have HN := hid hfa10
                  have hm50 : (m : Int) < 50 := by have := HLm.out; omega
                  clear hfa10 hc9 hx
                  go_wp2
                  go_roundw
                  case rel => exact ⟨m + 1, by omega, by go_num, HN.out⟩
                  case measure => simp [intOf]; omega
                · have hnlt4 : decide (m < L) = false := by simpa using hlt4
                  have H9 := hid (show FA (Wl (FSt Real PR S w1 d g7 400 (210000 + 0) (310 + 0) P5 cont5 (fun dd => ∀ a, dd a = true → ∃ t, t < 0 ∧ P5.used[t]? = some (a : Int))) Au ku P5.used) hb db dn M5 wb from HFv.out.imp (fun T h => ⟨h.1.fst.turn (by omega) (by omega) (fun dd hk a ha => by have := hk a ha; omega), h.2⟩))
                  go_wp2
                  go_loopw [22] (fun iv wr => ∃ m : Nat, m ≤ L ∧ iv = .int .i64 (m : Int) ∧ FA (Wl (FSt Real PR S w1 d g7 400 (210000 + m) (310 + m) P5 cont5 (fun dd => ∀ a, dd a = true → ∃ t, t < m ∧ P5.used[t]? = some (a : Int))) Au ku P5.used) hb db dn M5 wr) (fun iv _ => L - (intOf iv).toNat)
                  case atStart => exact ⟨0, by omega, rfl, H9.out⟩
                  case round =>
                    rename World => wc
                    obtain ⟨m, hm, rfl, hfm⟩ := hrel
                    have HFw := hid hfm
                    clear hfm
                    by_cases hlt5 : m < L
                    · have hm1 : (m : Int) < L := by omega
                      have HLm := hid (show m < 50 from by have := HL2.out; omega)
                      have hm50 : (m : Int) < 50 := by have := HLm.out; omega
                      obtain ⟨adu, x, rfl, hx, hc⟩ := HFw.out.row (j := m) (by rw [HL.out]; exact hlt5)
                      have HMe := hid (List.mem_of_getElem? hx)
                      have HLp := hid (show 0 < P5.used.length from by rw [HL.out]; exact HL2.out.1)
                      obtain ⟨u, rfl, hu⟩ : ∃ u : Nat, x = (u : Int) ∧ u < 100 := by
                        have h1 := used_at HAl.out.fine HMe.out
                        rw [h400] at h1
                        exact ⟨x.toNat, by omega, by omega⟩
                      have hu1 : (u : Int) < 100 := by omega
                      obtain ⟨c0, _⟩ := HFw.out.cell hu
                      have HX := hid hx
                      have HU := hid hu
                      clear hx hu
                      rcases hd : dn u with _ | _
                      · rw [hd] at c0
                        have HN := hid (show FA (Wl (FSt Real PR S w1 d g7 400 (210000 + (m + 1)) (310 + (m + 1)) P5 cont5 (fun dd => ∀ a, dd a = true → ∃ t, t < m + 1 ∧ P5.used[t]? = some (a : Int))) (some adu) ku P5.used) hb db dn M5 wc from HFw.out.imp (fun T h => ⟨h.1.turn (by omega) (by omega) (fun dd hk a ha => by obtain ⟨t, h1, h2⟩ := hk a ha; exact ⟨t, by omega, h2⟩), h.2⟩))
                        go_wp2
                        go_roundw
                        case rel => exact ⟨m + 1, by omega, by go_num, HN.out⟩
                        case measure => simp [intOf]; omega
                      · rw [hd] at c0
                        obtain ⟨b1, hb1, hb1e⟩ := and1F (m : Int)
                        have hb1i : (b1 : Int) ≤ 1 := by omega
                        have hab : u + 100 * b1 = u ∨ u + 100 * b1 = u + halN 400 := by rw [h400]; omega
                        have hkh : u < halN 400 := by rw [h400]; exact HU.out
                        have hce : ((u + 100 * b1 : Nat) : Int) = (u : Int) + 100 * (b1 : Int) := by omega
                        have HFa9 := hid (HFw.out.wcall HLp.out (fun T h => fst_fail (K' := fun dd => ∀ a, dd a = true → ∃ t, t < m + 1 ∧ P5.used[t]? = some (a : Int)) HD.out HO.out h hkh hab (fun dd hk => by
                            rcases hdu : dd u with _ | _
                            · rfl
                            · obtain ⟨t, h1, h2⟩ := hk u hdu
                              have := used_inj HAl.out.fine h2 HX.out
                              omega) (fun dd hk a ha => by
                            by_cases e : a = u
                            · subst e; exact ⟨m, by omega, HX.out⟩
                            · unfold setD at ha
                              rw [if_neg e] at ha
                              obtain ⟨t, h1, h2⟩ := hk a ha
                              exact ⟨t, by omega, h2⟩)))
                        rw [hce] at HFa9
                        clear hab hkh hce hd
                        go_wp2_with fail
                        refine HFa9.out.mono ?_
                        rintro e w9 ⟨⟨b9, rfl⟩, hfa9⟩
                        have HN := hid (show FA (Wl (FSt Real PR S w1 d g7 400 (210000 + (m + 1)) (310 + (m + 1)) P5 cont5 (fun dd => ∀ a, dd a = true → ∃ t, t < m + 1 ∧ P5.used[t]? = some (a : Int))) (some adu) ku P5.used) hb db dn M5 w9 from hfa9)
                        clear hfa9 c0 hc
                        go_wp2
                        go_roundw
                        case rel => exact ⟨m + 1, by omega, by go_num, HN.out⟩
                        case measure => simp [intOf]; omega
                    · have hnlt5 : decide (m < L) = false := by simpa using hlt5
                      have HLm := hid (show m ≤ 50 from by have := HL2.out; omega)
                      have HFx := hid (HFw.out.imp (fun T h => h.1))
                      go_wp2_with fail
                      refine (fa_open (Q2 := 300000) (M2 := 110) HD.out HO.out HS1.out (by have := HLm.out; omega) (by have := HLm.out; omega) (by decide) HFx.out).mono ?_
                      rintro e w9 ⟨g9, rfl, hfa9⟩
                      have HFy := hid hfa9
                      clear hfa9 hnlt5
                      go_wp2_with fail
                      refine (fa_same HD.out HO.out HS1.out (by omega) (by omega) (fun dd f hk a ha => by
                        unfold setD at ha
                        by_cases e : a = f
                        · rw [if_pos e] at ha; cases ha
                        · rw [if_neg e] at ha; exact hk a ha) HAl.out HFy.out.below HFy.out).mono ?_
                      rintro e w10 ⟨rfl, hfa10⟩
                      have HBz := hid (HB1.out.trans (hfa10.below.mono HB1.out.size))
                      clear hfa10
                      go_wp2
                      go_ret
                      exact ⟨rfl, HBz.out⟩
end
end Go.Proofs.YtaonhbmimaiiiaaGreatDoor
