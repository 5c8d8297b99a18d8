/- The chapter's example, and PathWrong, walked. -/
import Derived.Test.YtjoajjndopfbmaaDoorGPaI
import Derived.Test.YtjoajjndopfbmaaDoorGNumber
namespace Go.Proofs.YtjoajjndopfbmaaDoor
open Go.RowKit Go.Shelf Go.Lib

/-- texts laid by a literal -/
theorem st_lit (w : World) (l : List Nam) (h : l.length ≤ 1000) : St (w.alloc (.cells (Tx l).toArray 9)) (w.heap.size + 1) (some ⟨w.heap.size, 0, none⟩) l.length l.length l :=
  ⟨Tx_len l, Nat.le_refl _, by unfold maxLen; omega, fun h => (by cases h), fun ad ha _ => by
    cases ha
    refine ⟨Nat.lt_succ_self _, fun j u hu => ?_⟩
    have hz : (⟨w.heap.size, 0, none⟩ : Addr).add j = ⟨w.heap.size, j, none⟩ := by
      rcases Nat.eq_zero_or_pos j with rfl | hj
      · rfl
      · simp [Addr.add]; omega
    rw [hz, World.cell?_alloc_new]
    simpa using hu⟩
theorem sg_ex : prsC [47, 47, 97, 47, 46, 47, 98, 47] = 0 ∧ prsP [47, 47, 97, 47, 46, 47, 98, 47] = [[97], [98]] ∧ prsS [47, 47, 97, 47, 46, 47, 98, 47] = true := by decide
set_option maxRecDepth 100000 in
set_option maxHeartbeats 1000000 in
theorem first12_any (S : Nat → Addr) (w : World) (hS : SentL [8, 13, 14] w S) : Calls Tryd.prog 7 #[] w fun e w' => e = .returned (.bool true) ∧ Below w.heap.size w w' := by
  have HE := hid hS
  clear hS
  go_enter Tryd.func7, Tryd.ntmps7
  go_wp2_with fail
  refine (parse_any S ⟨#[47, 47, 97, 47, 46, 47, 98, 47]⟩ w HE.out).mono ?_
  rintro e w1 ⟨A, n, c, ve, rfl, hev, hst, hb⟩
  have hx := sg_ex
  rw [show (⟨#[47, 47, 97, 47, 46, 47, 98, 47]⟩ : ByteArray).data.toList = [47, 47, 97, 47, 46, 47, 98, 47] from rfl] at hev hst ⊢
  rw [hx.2.2]
  rw [hx.1] at hev
  rw [hx.2.1] at hst
  obtain rfl := hev.nil rfl
  have HST := hid hst
  have HB := hid hb
  clear hev hst hb hx
  go_wp2_with fail
  have HL1 := hid (st_lit (w1.alloc (.cells #[.slice A n c, .bool true] 24)) [[97], [98]] (by decide))
  refine (sameTexts_any A _ n c 2 2 [[97], [98]] [[97], [98]] w1.heap.size (w1.heap.size + 1 + 1) _ ((HST.out.alloc (Nat.le_refl _) _).alloc (by simp [World.size_alloc]) _) (by have := HL1.out; simp only [World.size_alloc] at this; exact this)).mono ?_
  rintro e w2 ⟨rfl, q, rfl⟩
  have ht : decide ([[97], [98]] = ([[97], [98]] : List Nam)) = true := decide_eq_true rfl
  rw [ht]
  clear ht
  go_wp2
  go_ret
  refine ⟨rfl, below_drewN ((HB.out.alloc HB.out.size _).alloc ?_ _) q⟩
  have := HB.out.size
  simp [World.size_alloc]
  omega

/-- ab/ab/ .. -/
def rep : Nat → Nam
  | 0 => []
  | k + 1 => rep k ++ [97, 98, 47]
theorem rep_len : ∀ k, (rep k).length = 3 * k
  | 0 => rfl
  | k + 1 => by rw [rep, List.length_append, rep_len k]; simp; omega
theorem rep_free : ∀ k, (0 : UInt8) ∉ rep k
  | 0 => by simp [rep]
  | k + 1 => by
    rw [rep, List.mem_append]
    rintro (h | h)
    · exact rep_free k h
    · revert h; decide
theorem rep_pts : ∀ (k : Nat) (v : Nam), longP (ptsOf (47 :: (rep k ++ v))) = longP (ptsOf v)
  | 0, v => by
    have := ptsOf_app [] v
    rw [List.nil_append] at this
    rw [rep, List.nil_append, this, longP_append]
    rfl
  | k + 1, v => by
    have e : rep (k + 1) ++ v = rep k ++ ([97, 98] ++ 47 :: v) := by simp [rep]
    rw [e, rep_pts k, ptsOf_app, longP_append]
    have : longP (ptsOf [97, 98]) = false := by decide
    rw [this]
    rfl
theorem prs_of {V : Nam} (h0 : V ≠ []) : prsC V = if 256 < V.length then 115 else (if V.head? = some 47 ∧ (0 : UInt8) ∉ V then (if longP (ptsOf V) then 115 else 0) else 114) := by
  rw [prsC, if_neg h0]
theorem pw_0 (k : Nat) : prsC (47 :: rep k) = if 256 < 1 + 3 * k then 115 else 0 := by
  have h := rep_pts k []
  rw [List.append_nil] at h
  rw [prs_of (by simp), List.length_cons, rep_len, Nat.add_comm (3 * k) 1, if_pos (show (47 :: rep k).head? = some 47 ∧ (0 : UInt8) ∉ 47 :: rep k from ⟨rfl, by simp [rep_free k]⟩), h]
  rfl
theorem pw_2 (k : Nat) : prsC (120 :: 47 :: rep k) = if 256 < 2 + 3 * k then 115 else 114 := by
  rw [prs_of (by simp), List.length_cons, List.length_cons, rep_len, if_neg (show ¬ ((120 :: 47 :: rep k).head? = some 47 ∧ (0 : UInt8) ∉ 120 :: 47 :: rep k) from fun h => by cases h.1), show 3 * k + 1 + 1 = 2 + 3 * k by omega]
theorem prs_114 {V : Nam} (h0 : V ≠ []) (h : ¬ (V.head? = some 47 ∧ (0 : UInt8) ∉ V)) {n : Nat} (hl : V.length = n) : prsC V = if 256 < n then 115 else 114 := by
  rw [prs_of h0, if_neg h, hl]
theorem prs_115 {V : Nam} (h0 : V ≠ []) (h : V.head? = some 47 ∧ (0 : UInt8) ∉ V) (hL : longP (ptsOf V) = true) {n : Nat} (hl : V.length = n) : prsC V = if 256 < n then 115 else 115 := by
  rw [prs_of h0, if_pos h, hl, hL]
  rfl
theorem pw_3 (k : Nat) : prsC (47 :: rep k ++ [0]) = if 256 < 2 + 3 * k then 115 else 114 :=
  prs_114 (by simp) (fun h => h.2 (by simp)) (by rw [List.length_append, List.length_cons, rep_len]; simp; omega)
theorem pw_4 (k : Nat) : prsC (47 :: rep k ++ [97, 97, 97, 97, 97, 97, 97, 97, 97, 97, 97, 97, 97, 97, 97, 97, 97, 97, 97, 97, 97, 97, 97, 97, 97]) = if 256 < 26 + 3 * k then 115 else 115 :=
  prs_115 (by simp) ⟨rfl, by simp [rep_free k]⟩ (by
    have h := rep_pts k [97, 97, 97, 97, 97, 97, 97, 97, 97, 97, 97, 97, 97, 97, 97, 97, 97, 97, 97, 97, 97, 97, 97, 97, 97]
    rw [List.cons_append, h]
    decide) (by rw [List.length_append, List.length_cons, rep_len]; simp; omega)
set_option maxRecDepth 100000 in
set_option maxHeartbeats 4000000 in
theorem pathWrong_any (S : Nat → Addr) (n what : Int) (w : World) (hS : Sent w S) : Calls Tryd.prog 5 #[.int .i64 n, .int .i64 what] w fun e w' => e = .returned (.bool true) ∧ Below w.heap.size w w' := by
  have HE := hid hS
  clear hS
  go_enter Tryd.func5, Tryd.ntmps5
  go_wp2_with fail
  refine (first12_any S w (HE.out.some (by decide))).mono ?_
  rintro e w1 ⟨rfl, hb⟩
  have HB := hid hb
  have HE1 := hid (HE.out.on hb)
  clear hb
  go_wp2_with fail
  refine (number_any n 300 w1 (by decide) (by decide)).mono ?_
  rintro e w2 ⟨rfl, rfl⟩
  obtain ⟨m, hm, hm3⟩ : ∃ m : Nat, n % 300 = (m : Int) ∧ m < 300 := ⟨(n % 300).toNat, by omega, by omega⟩
  rw [hm]
  clear hm
  go_wp2
  go_loopg [6] (m + 3) (fun g s6 wr => ∃ k : Nat, 1 + 3 * k ≤ m + 3 ∧ m + 3 - 3 * k ≤ g ∧ s6 = encStr (47 :: rep k) ∧ Hid (wr = w1))
  case atStart => exact ⟨0, by omega, by omega, rfl, rfl⟩
  case round =>
    obtain ⟨k, hk, hkg, rfl, HW⟩ := hrel
    obtain rfl := HW.out
    obtain ⟨U, hU⟩ : ∃ U, 47 :: rep k = U := ⟨_, rfl⟩
    have hUl : U.length = 1 + 3 * k := by rw [← hU, List.length_cons, rep_len]; omega
    rw [hU]
    have HU := hid hU
    have HUL := hid hUl
    have hu3 : U.length ≤ 400 := by omega
    clear hU
    by_cases hlt : 1 + 3 * k < m
    · have g0 : decide (U.length < m) = true := decide_eq_true (by omega)
      clear hUl
      go_wp2
      go_roundg (m + 3 - 3 * (k + 1))
      case measure => omega
      case rel => exact ⟨k + 1, by omega, Nat.le_refl _, (str_app U [97, 98, 47]).trans (by rw [← HU.out]; rfl), rfl⟩
    · have g0 : decide (U.length < m) = false := decide_eq_false (by omega)
      clear hlt hUl
      go_wp2_with fail
      refine (number_any what 5 wr (by decide) (by decide)).mono ?_
      rintro e w3 ⟨rfl, rfl⟩
      obtain ⟨x, hx, hx5⟩ : ∃ x : Nat, what % 5 = (x : Int) ∧ x < 5 := ⟨(what % 5).toNat, by omega, by omega⟩
      rw [hx]
      clear hx
      obtain rfl | rfl | rfl | rfl | rfl : x = 0 ∨ x = 1 ∨ x = 2 ∨ x = 3 ∨ x = 4 := by omega
      · go_upto_region 22 with fail
        obtain ⟨V, hV⟩ : ∃ V, U = V := ⟨_, rfl⟩
        have HP := hid (show prsC V = if 256 < V.length then 115 else 0 by
          rw [← hV]
          exact (by rw [← HU.out, pw_0, List.length_cons, rep_len, show 3 * k + 1 = 1 + 3 * k by omega]))
        have hVl : V.length ≤ 500 := by rw [← hV]; omega
        rw [hV]
        clear hV
        by_cases h256 : 256 < V.length
        · have HC := hid (show prsC V = 115 by rw [HP.out, if_pos h256])
          have g2 : decide ((256 : Int) < (V.length : Int)) = true := decide_eq_true (by omega)
          clear h256
          go_wp2_with fail
          refine (parse_any S ⟨V.toArray⟩ wr (HE1.out.some (by decide))).mono ?_
          rintro e w4 ⟨A4, n4, c4, ve, rfl, hev, hst, hb⟩
          rw [show (⟨V.toArray⟩ : ByteArray).data.toList = V by simp] at hev ⊢
          rw [HC.out] at hev
          have HEV := hid hev
          have HE4 := hid ((HE1.out.on hb).on ((Below.refl _ _).alloc (Nat.le_refl _) (.cells #[.slice A4 n4 c4, .bool (prsS V)] 24)))
          have HB4 := hid ((HB.out.trans (hb.mono HB.out.size)).alloc (HB.out.trans (hb.mono HB.out.size)).size (.cells #[.slice A4 n4 c4, .bool (prsS V)] 24))
          obtain ⟨bs, hbs⟩ : ∃ bs, prsS V = bs := ⟨_, rfl⟩
          rw [hbs] at HE4 HB4 ⊢
          clear hev hst hb hbs
          go_wp2_with fail
          refine (is_any S _ _ ve _ HE4.out HEV.out).mono ?_
          rw [beq_self_eq_true]
          rintro e w5 ⟨rfl, hb⟩
          have HB5 := hid (HB4.out.trans (hb.mono HB4.out.size))
          clear hb
          go_wp2
          go_ret
          exact ⟨rfl, HB5.out⟩
        · have HC := hid (show prsC V = 0 by rw [HP.out, if_neg h256])
          have g2 : decide ((256 : Int) < (V.length : Int)) = false := decide_eq_false (by omega)
          clear h256
          go_wp2_with fail
          refine (parse_any S ⟨V.toArray⟩ wr (HE1.out.some (by decide))).mono ?_
          rintro e w4 ⟨A4, n4, c4, ve, rfl, hev, hst, hb⟩
          rw [show (⟨V.toArray⟩ : ByteArray).data.toList = V by simp] at hev ⊢
          rw [HC.out] at hev
          have HEV := hid hev
          have HE4 := hid ((HE1.out.on hb).on ((Below.refl _ _).alloc (Nat.le_refl _) (.cells #[.slice A4 n4 c4, .bool (prsS V)] 24)))
          have HB4 := hid ((HB.out.trans (hb.mono HB.out.size)).alloc (HB.out.trans (hb.mono HB.out.size)).size (.cells #[.slice A4 n4 c4, .bool (prsS V)] 24))
          obtain ⟨bs, hbs⟩ : ∃ bs, prsS V = bs := ⟨_, rfl⟩
          rw [hbs] at HE4 HB4 ⊢
          clear hev hst hb hbs
          go_wp2_with fail
          refine (is_any S _ _ ve _ HE4.out HEV.out).mono ?_
          rw [beq_self_eq_true]
          rintro e w5 ⟨rfl, hb⟩
          have HB5 := hid (HB4.out.trans (hb.mono HB4.out.size))
          clear hb
          go_wp2
          go_ret
          exact ⟨rfl, HB5.out⟩
      · go_upto_region 22 with fail
        rw [show Value.string ⟨#[]⟩ = encStr [] from rfl]
        obtain ⟨V, hV⟩ : ∃ V, ([] : Nam) = V := ⟨_, rfl⟩
        have HP := hid (show prsC V = if 256 < V.length then 115 else 109 by
          rw [← hV]
          exact (rfl))
        have hVl : V.length ≤ 500 := by rw [← hV]; simp
        rw [hV]
        clear hV
        by_cases h256 : 256 < V.length
        · have HC := hid (show prsC V = 115 by rw [HP.out, if_pos h256])
          have g2 : decide ((256 : Int) < (V.length : Int)) = true := decide_eq_true (by omega)
          clear h256
          go_wp2_with fail
          refine (parse_any S ⟨V.toArray⟩ wr (HE1.out.some (by decide))).mono ?_
          rintro e w4 ⟨A4, n4, c4, ve, rfl, hev, hst, hb⟩
          rw [show (⟨V.toArray⟩ : ByteArray).data.toList = V by simp] at hev ⊢
          rw [HC.out] at hev
          have HEV := hid hev
          have HE4 := hid ((HE1.out.on hb).on ((Below.refl _ _).alloc (Nat.le_refl _) (.cells #[.slice A4 n4 c4, .bool (prsS V)] 24)))
          have HB4 := hid ((HB.out.trans (hb.mono HB.out.size)).alloc (HB.out.trans (hb.mono HB.out.size)).size (.cells #[.slice A4 n4 c4, .bool (prsS V)] 24))
          obtain ⟨bs, hbs⟩ : ∃ bs, prsS V = bs := ⟨_, rfl⟩
          rw [hbs] at HE4 HB4 ⊢
          clear hev hst hb hbs
          go_wp2_with fail
          refine (is_any S _ _ ve _ HE4.out HEV.out).mono ?_
          rw [beq_self_eq_true]
          rintro e w5 ⟨rfl, hb⟩
          have HB5 := hid (HB4.out.trans (hb.mono HB4.out.size))
          clear hb
          go_wp2
          go_ret
          exact ⟨rfl, HB5.out⟩
        · have HC := hid (show prsC V = 109 by rw [HP.out, if_neg h256])
          have g2 : decide ((256 : Int) < (V.length : Int)) = false := decide_eq_false (by omega)
          clear h256
          go_wp2_with fail
          refine (parse_any S ⟨V.toArray⟩ wr (HE1.out.some (by decide))).mono ?_
          rintro e w4 ⟨A4, n4, c4, ve, rfl, hev, hst, hb⟩
          rw [show (⟨V.toArray⟩ : ByteArray).data.toList = V by simp] at hev ⊢
          rw [HC.out] at hev
          have HEV := hid hev
          have HE4 := hid ((HE1.out.on hb).on ((Below.refl _ _).alloc (Nat.le_refl _) (.cells #[.slice A4 n4 c4, .bool (prsS V)] 24)))
          have HB4 := hid ((HB.out.trans (hb.mono HB.out.size)).alloc (HB.out.trans (hb.mono HB.out.size)).size (.cells #[.slice A4 n4 c4, .bool (prsS V)] 24))
          obtain ⟨bs, hbs⟩ : ∃ bs, prsS V = bs := ⟨_, rfl⟩
          rw [hbs] at HE4 HB4 ⊢
          clear hev hst hb hbs
          go_wp2_with fail
          refine (is_any S _ _ ve _ HE4.out HEV.out).mono ?_
          rw [beq_self_eq_true]
          rintro e w5 ⟨rfl, hb⟩
          have HB5 := hid (HB4.out.trans (hb.mono HB4.out.size))
          clear hb
          go_wp2
          go_ret
          exact ⟨rfl, HB5.out⟩
      · go_upto_region 22 with fail
        rw [show Value.string (⟨#[120]⟩ ++ ⟨U.toArray⟩) = encStr (120 :: U) from (str_app [120] U)]
        obtain ⟨V, hV⟩ : ∃ V, (120 :: U) = V := ⟨_, rfl⟩
        have HP := hid (show prsC V = if 256 < V.length then 115 else 114 by
          rw [← hV]
          exact (by rw [← HU.out, pw_2, List.length_cons, List.length_cons, rep_len, show 3 * k + 1 + 1 = 2 + 3 * k by omega]))
        have hVl : V.length ≤ 500 := by rw [← hV]; simp; omega
        rw [hV]
        clear hV
        by_cases h256 : 256 < V.length
        · have HC := hid (show prsC V = 115 by rw [HP.out, if_pos h256])
          have g2 : decide ((256 : Int) < (V.length : Int)) = true := decide_eq_true (by omega)
          clear h256
          go_wp2_with fail
          refine (parse_any S ⟨V.toArray⟩ wr (HE1.out.some (by decide))).mono ?_
          rintro e w4 ⟨A4, n4, c4, ve, rfl, hev, hst, hb⟩
          rw [show (⟨V.toArray⟩ : ByteArray).data.toList = V by simp] at hev ⊢
          rw [HC.out] at hev
          have HEV := hid hev
          have HE4 := hid ((HE1.out.on hb).on ((Below.refl _ _).alloc (Nat.le_refl _) (.cells #[.slice A4 n4 c4, .bool (prsS V)] 24)))
          have HB4 := hid ((HB.out.trans (hb.mono HB.out.size)).alloc (HB.out.trans (hb.mono HB.out.size)).size (.cells #[.slice A4 n4 c4, .bool (prsS V)] 24))
          obtain ⟨bs, hbs⟩ : ∃ bs, prsS V = bs := ⟨_, rfl⟩
          rw [hbs] at HE4 HB4 ⊢
          clear hev hst hb hbs
          go_wp2_with fail
          refine (is_any S _ _ ve _ HE4.out HEV.out).mono ?_
          rw [beq_self_eq_true]
          rintro e w5 ⟨rfl, hb⟩
          have HB5 := hid (HB4.out.trans (hb.mono HB4.out.size))
          clear hb
          go_wp2
          go_ret
          exact ⟨rfl, HB5.out⟩
        · have HC := hid (show prsC V = 114 by rw [HP.out, if_neg h256])
          have g2 : decide ((256 : Int) < (V.length : Int)) = false := decide_eq_false (by omega)
          clear h256
          go_wp2_with fail
          refine (parse_any S ⟨V.toArray⟩ wr (HE1.out.some (by decide))).mono ?_
          rintro e w4 ⟨A4, n4, c4, ve, rfl, hev, hst, hb⟩
          rw [show (⟨V.toArray⟩ : ByteArray).data.toList = V by simp] at hev ⊢
          rw [HC.out] at hev
          have HEV := hid hev
          have HE4 := hid ((HE1.out.on hb).on ((Below.refl _ _).alloc (Nat.le_refl _) (.cells #[.slice A4 n4 c4, .bool (prsS V)] 24)))
          have HB4 := hid ((HB.out.trans (hb.mono HB.out.size)).alloc (HB.out.trans (hb.mono HB.out.size)).size (.cells #[.slice A4 n4 c4, .bool (prsS V)] 24))
          obtain ⟨bs, hbs⟩ : ∃ bs, prsS V = bs := ⟨_, rfl⟩
          rw [hbs] at HE4 HB4 ⊢
          clear hev hst hb hbs
          go_wp2_with fail
          refine (is_any S _ _ ve _ HE4.out HEV.out).mono ?_
          rw [beq_self_eq_true]
          rintro e w5 ⟨rfl, hb⟩
          have HB5 := hid (HB4.out.trans (hb.mono HB4.out.size))
          clear hb
          go_wp2
          go_ret
          exact ⟨rfl, HB5.out⟩
      · go_upto_region 22 with fail
        rw [show Value.string (⟨U.toArray⟩ ++ ⟨#[0]⟩) = encStr (U ++ [0]) from (str_app U [0])]
        obtain ⟨V, hV⟩ : ∃ V, (U ++ [0]) = V := ⟨_, rfl⟩
        have HP := hid (show prsC V = if 256 < V.length then 115 else 114 by
          rw [← hV]
          exact (by rw [← HU.out, pw_3, List.length_append, List.length_cons, rep_len, show 3 * k + 1 + [(0 : UInt8)].length = 2 + 3 * k by simp; omega]))
        have hVl : V.length ≤ 500 := by rw [← hV]; simp; omega
        rw [hV]
        clear hV
        by_cases h256 : 256 < V.length
        · have HC := hid (show prsC V = 115 by rw [HP.out, if_pos h256])
          have g2 : decide ((256 : Int) < (V.length : Int)) = true := decide_eq_true (by omega)
          clear h256
          go_wp2_with fail
          refine (parse_any S ⟨V.toArray⟩ wr (HE1.out.some (by decide))).mono ?_
          rintro e w4 ⟨A4, n4, c4, ve, rfl, hev, hst, hb⟩
          rw [show (⟨V.toArray⟩ : ByteArray).data.toList = V by simp] at hev ⊢
          rw [HC.out] at hev
          have HEV := hid hev
          have HE4 := hid ((HE1.out.on hb).on ((Below.refl _ _).alloc (Nat.le_refl _) (.cells #[.slice A4 n4 c4, .bool (prsS V)] 24)))
          have HB4 := hid ((HB.out.trans (hb.mono HB.out.size)).alloc (HB.out.trans (hb.mono HB.out.size)).size (.cells #[.slice A4 n4 c4, .bool (prsS V)] 24))
          obtain ⟨bs, hbs⟩ : ∃ bs, prsS V = bs := ⟨_, rfl⟩
          rw [hbs] at HE4 HB4 ⊢
          clear hev hst hb hbs
          go_wp2_with fail
          refine (is_any S _ _ ve _ HE4.out HEV.out).mono ?_
          rw [beq_self_eq_true]
          rintro e w5 ⟨rfl, hb⟩
          have HB5 := hid (HB4.out.trans (hb.mono HB4.out.size))
          clear hb
          go_wp2
          go_ret
          exact ⟨rfl, HB5.out⟩
        · have HC := hid (show prsC V = 114 by rw [HP.out, if_neg h256])
          have g2 : decide ((256 : Int) < (V.length : Int)) = false := decide_eq_false (by omega)
          clear h256
          go_wp2_with fail
          refine (parse_any S ⟨V.toArray⟩ wr (HE1.out.some (by decide))).mono ?_
          rintro e w4 ⟨A4, n4, c4, ve, rfl, hev, hst, hb⟩
          rw [show (⟨V.toArray⟩ : ByteArray).data.toList = V by simp] at hev ⊢
          rw [HC.out] at hev
          have HEV := hid hev
          have HE4 := hid ((HE1.out.on hb).on ((Below.refl _ _).alloc (Nat.le_refl _) (.cells #[.slice A4 n4 c4, .bool (prsS V)] 24)))
          have HB4 := hid ((HB.out.trans (hb.mono HB.out.size)).alloc (HB.out.trans (hb.mono HB.out.size)).size (.cells #[.slice A4 n4 c4, .bool (prsS V)] 24))
          obtain ⟨bs, hbs⟩ : ∃ bs, prsS V = bs := ⟨_, rfl⟩
          rw [hbs] at HE4 HB4 ⊢
          clear hev hst hb hbs
          go_wp2_with fail
          refine (is_any S _ _ ve _ HE4.out HEV.out).mono ?_
          rw [beq_self_eq_true]
          rintro e w5 ⟨rfl, hb⟩
          have HB5 := hid (HB4.out.trans (hb.mono HB4.out.size))
          clear hb
          go_wp2
          go_ret
          exact ⟨rfl, HB5.out⟩
      · go_upto_region 22 with fail
        rw [show Value.string (⟨U.toArray⟩ ++ ⟨#[97, 97, 97, 97, 97, 97, 97, 97, 97, 97, 97, 97, 97, 97, 97, 97, 97, 97, 97, 97, 97, 97, 97, 97, 97]⟩) = encStr (U ++ [97, 97, 97, 97, 97, 97, 97, 97, 97, 97, 97, 97, 97, 97, 97, 97, 97, 97, 97, 97, 97, 97, 97, 97, 97]) from (str_app U [97, 97, 97, 97, 97, 97, 97, 97, 97, 97, 97, 97, 97, 97, 97, 97, 97, 97, 97, 97, 97, 97, 97, 97, 97])]
        obtain ⟨V, hV⟩ : ∃ V, (U ++ [97, 97, 97, 97, 97, 97, 97, 97, 97, 97, 97, 97, 97, 97, 97, 97, 97, 97, 97, 97, 97, 97, 97, 97, 97]) = V := ⟨_, rfl⟩
        have HP := hid (show prsC V = if 256 < V.length then 115 else 115 by
          rw [← hV]
          exact (by rw [← HU.out, pw_4, List.length_append, List.length_cons, rep_len, show 3 * k + 1 + [(97 : UInt8), 97, 97, 97, 97, 97, 97, 97, 97, 97, 97, 97, 97, 97, 97, 97, 97, 97, 97, 97, 97, 97, 97, 97, 97].length = 26 + 3 * k by simp; omega]))
        have hVl : V.length ≤ 500 := by rw [← hV]; simp; omega
        rw [hV]
        clear hV
        by_cases h256 : 256 < V.length
        · have HC := hid (show prsC V = 115 by rw [HP.out, if_pos h256])
          have g2 : decide ((256 : Int) < (V.length : Int)) = true := decide_eq_true (by omega)
          clear h256
          go_wp2_with fail
          refine (parse_any S ⟨V.toArray⟩ wr (HE1.out.some (by decide))).mono ?_
          rintro e w4 ⟨A4, n4, c4, ve, rfl, hev, hst, hb⟩
          rw [show (⟨V.toArray⟩ : ByteArray).data.toList = V by simp] at hev ⊢
          rw [HC.out] at hev
          have HEV := hid hev
          have HE4 := hid ((HE1.out.on hb).on ((Below.refl _ _).alloc (Nat.le_refl _) (.cells #[.slice A4 n4 c4, .bool (prsS V)] 24)))
          have HB4 := hid ((HB.out.trans (hb.mono HB.out.size)).alloc (HB.out.trans (hb.mono HB.out.size)).size (.cells #[.slice A4 n4 c4, .bool (prsS V)] 24))
          obtain ⟨bs, hbs⟩ : ∃ bs, prsS V = bs := ⟨_, rfl⟩
          rw [hbs] at HE4 HB4 ⊢
          clear hev hst hb hbs
          go_wp2_with fail
          refine (is_any S _ _ ve _ HE4.out HEV.out).mono ?_
          rw [beq_self_eq_true]
          rintro e w5 ⟨rfl, hb⟩
          have HB5 := hid (HB4.out.trans (hb.mono HB4.out.size))
          clear hb
          go_wp2
          go_ret
          exact ⟨rfl, HB5.out⟩
        · have HC := hid (show prsC V = 115 by rw [HP.out, if_neg h256])
          have g2 : decide ((256 : Int) < (V.length : Int)) = false := decide_eq_false (by omega)
          clear h256
          go_wp2_with fail
          refine (parse_any S ⟨V.toArray⟩ wr (HE1.out.some (by decide))).mono ?_
          rintro e w4 ⟨A4, n4, c4, ve, rfl, hev, hst, hb⟩
          rw [show (⟨V.toArray⟩ : ByteArray).data.toList = V by simp] at hev ⊢
          rw [HC.out] at hev
          have HEV := hid hev
          have HE4 := hid ((HE1.out.on hb).on ((Below.refl _ _).alloc (Nat.le_refl _) (.cells #[.slice A4 n4 c4, .bool (prsS V)] 24)))
          have HB4 := hid ((HB.out.trans (hb.mono HB.out.size)).alloc (HB.out.trans (hb.mono HB.out.size)).size (.cells #[.slice A4 n4 c4, .bool (prsS V)] 24))
          obtain ⟨bs, hbs⟩ : ∃ bs, prsS V = bs := ⟨_, rfl⟩
          rw [hbs] at HE4 HB4 ⊢
          clear hev hst hb hbs
          go_wp2_with fail
          refine (is_any S _ _ ve _ HE4.out HEV.out).mono ?_
          rw [beq_self_eq_true]
          rintro e w5 ⟨rfl, hb⟩
          have HB5 := hid (HB4.out.trans (hb.mono HB4.out.size))
          clear hb
          go_wp2
          go_ret
          exact ⟨rfl, HB5.out⟩
end Go.Proofs.YtjoajjndopfbmaaDoor
