/- The walk of PairApart, for whatever keeps the calls. -/
import Derived.Test.YtomhmodgfldlpaaDoorGPairD
import Derived.Deep.QuietTactic
import Derived.BigQuiet
namespace Go.Proofs.YtomhmodgfldlpaaDoor
open Go.RowKit

/-- block k reads as l -/
def Rd (s : DSt) (k : Nat) (l : List Int) : Prop := ∃ b, s.blks[k]? = some b ∧ b.read = (0, l)
theorem Rd.new {n k : Nat} (h : k < n) : Rd (DSt.new n) k (padB []) := ⟨blank, new_at h, rfl⟩
theorem Rd.else_ {s : DSt} {i k : Nat} {l x : List Int} (h : Rd s k l) (hi : i ≠ k) : Rd (s.put i x) k l := by
  obtain ⟨b, h1, h2⟩ := h
  exact ⟨b, (put_else hi).trans h1, h2⟩
theorem Rd.put {s : DSt} {k : Nat} {l x : List Int} (h : Rd s k l) : Rd (s.put k x) k x := by
  obtain ⟨b, h1, _⟩ := h
  exact ⟨b.write x, put_at h1, rfl⟩
theorem flush_read {b : BSt} {l : List Int} (h : b.read = (0, l)) : b.flush.read = (0, l) := by
  unfold BSt.flush
  split
  · rename_i hp
    unfold BSt.read at h
    rw [if_pos hp] at h
    exact h
  · exact h
theorem Rd.fl {s : DSt} {k : Nat} {l : List Int} (h : Rd s k l) : Rd (fl s) k l := by
  obtain ⟨b, h1, h2⟩ := h
  exact ⟨b.flush, fl_at h1, flush_read h2⟩
def wantL (la lb : List Int) (i j k : Nat) : List Int := if k = j ∨ k = j + 80 then lb else if k = i ∨ k = i + 80 then la else padB []
def s3of (la lb : List Int) (i j : Nat) : DSt := fl (pWrite (pWrite (DSt.new 320) 80 i la) 80 j lb)
theorem Rd.apart (la lb : List Int) {i j k : Nat} (hi : i < 20) (hj : j < 20) (hk : k < 320) : Rd (s3of la lb i j) k (wantL la lb i j k) := by
  apply Rd.fl
  have h0 : Rd (DSt.new 320) k (padB []) := Rd.new hk
  have h1 : Rd (pWrite (DSt.new 320) 80 i la) k (if k = i ∨ k = i + 80 then la else padB []) := by
    unfold pWrite
    by_cases e1 : k = i
    · subst e1; rw [if_pos (.inl rfl)]; exact h0.put.else_ (by omega)
    · by_cases e2 : k = i + 80
      · subst e2; rw [if_pos (.inr rfl)]; exact (h0.else_ (by omega)).put
      · rw [if_neg (by omega)]; exact (h0.else_ (by omega)).else_ (by omega)
  unfold wantL
  unfold pWrite at h1 ⊢
  by_cases e1 : k = j
  · subst e1; rw [if_pos (.inl rfl)]; exact h1.put.else_ (by omega)
  · by_cases e2 : k = j + 80
    · subst e2; rw [if_pos (.inr rfl)]; exact (h1.else_ (by omega)).put
    · rw [if_neg (by omega)]; exact (h1.else_ (by omega)).else_ (by omega)
theorem wantL_len {la lb : List Int} (ha : la.length = 256) (hb : lb.length = 256) (i j k : Nat) : (wantL la lb i j k).length = 256 := by
  unfold wantL
  split
  · exact hb
  · split
    · exact ha
    · exact padB_len (by simp)
theorem apart_pending (la lb : List Int) {i j : Nat} (hi : i < 20) (hj : j < 20) (hne : i ≠ j) : (pWrite (pWrite (DSt.new 320) 80 i la) 80 j lb).pending = 4 := by
  unfold pWrite
  have a1 := put_pending (new_at (n := 320) (i := i) (by omega)) la
  have a2 := put_pending (s := (DSt.new 320).put i la) (i := i + 80) (b := blank) ((put_else (by omega)).trans (new_at (by omega))) la
  have a3 := put_pending (s := ((DSt.new 320).put i la).put (i + 80) la) (i := j) (b := blank) ((put_else (by omega)).trans ((put_else (by omega)).trans (new_at (by omega)))) lb
  have a4 := put_pending (s := (((DSt.new 320).put i la).put (i + 80) la).put j lb) (i := j + 80) (b := blank) ((put_else (by omega)).trans ((put_else (by omega)).trans ((put_else (by omega)).trans (new_at (by omega))))) lb
  rw [a4, a3, a2, a1, new_pending]
  rfl
theorem pRead_rd {s : DSt} {n q i H z : Nat} {l : List Int} (u : Up s n q) (hi : i + H < n) (h : Rd s i l) (hz : crcOf (nats l) = z) : pRead s H i z = (0, l, s, 0) := by
  obtain ⟨a, h1, h2⟩ := h
  obtain ⟨c, h3⟩ := u.at_ (i := i + H) hi
  have hr : a.right z = true := by rw [← hz]; exact right_of h2
  have := pRead_one (H := H) u (by omega) ⟨h1, h3⟩ hr
  rwa [h2] at this
theorem pRead_not {s : DSt} {n q i H z : Nat} {l : List Int} (u : Up s n q) (hi : i + H < n) (h : Rd s i l) (h' : Rd s (i + H) l) (hz : crcOf (nats l) ≠ z) : pRead s H i z = (107, [], s, 0) := by
  obtain ⟨a, h1, h2⟩ := h
  obtain ⟨c, h3, h4⟩ := h'
  have e : ∀ b : BSt, b.read = (0, l) → b.right z = false := fun b hb => by unfold BSt.right; rw [hb]; simp [hz]
  exact pRead_no u hi ⟨h1, h3⟩ (e a h2) (e c h4)
section
variable {Real : World → Nat → DSt → (Nat → Prop) → Prop} {PR : World → Nat → Nat → Nat → Nat → (Nat → Prop) → Prop}
set_option maxRecDepth 100000 in
set_option maxHeartbeats 1000000 in
theorem pairApart_long (D : DevOk Real) (P : PairOk Real PR) (S : Nat → Addr) (A B : Option Addr) (len cap len' cap' : Nat) (n m : Int) (w : World) (hS : Sent5 w S) (h : 256 < len ∨ 256 < len') (hm : len ≤ 9223372036854775807) (hm' : len' ≤ 9223372036854775807) :
    Calls Tryd.prog 6 #[.int .i64 n, .int .i64 m, .slice A len cap, .slice B len' cap'] w (Yes w) := by
  have HS := hid hS
  have HD := hid D
  have HP := hid P
  have g1 : decide ((256 : Int) < (len : Int)) = true ∨ (decide ((256 : Int) < (len : Int)) = false ∧ decide ((256 : Int) < (len' : Int)) = true) := by
    by_cases h1 : 256 < len
    · exact .inl (by simp; omega)
    · exact .inr ⟨by simp; omega, by simp; omega⟩
  clear hS D P h
  rcases g1 with g1 | ⟨g1, g2⟩
  all_goals
    go_enter Tryd.func6, Tryd.ntmps6
    go_wp2_with fail
    refine (firstP_any HD.out HP.out S _ HS.out).mono ?_
    rintro e w1 ⟨rfl, hb1⟩
    have HB1 := hid hb1
    clear hb1
    go_wp2
    go_ret
    exact ⟨rfl, HB1.out⟩
set_option maxRecDepth 100000 in
set_option maxHeartbeats 4000000 in
theorem pairApart_any (D : DevOk Real) (P : PairOk Real PR) (S : Nat → Addr) (A B : Option Addr) (len cap len' cap' : Nat) (a b : List Int) (n m : Int) (w : World) (hS : Sent5 w S) (hlen : len ≤ 256) (hlen' : len' ≤ 256) (hl : Sl w w.heap.size A len cap a) (hl' : Sl w w.heap.size B len' cap' b) (hy : Byt a) (hy' : Byt b) :
    Calls Tryd.prog 6 #[.int .i64 n, .int .i64 m, .slice A len cap, .slice B len' cap'] w (Yes w) := by
  have HS := hid hS
  have HD := hid D
  have HP := hid P
  have HA := hid hl
  have HB := hid hl'
  have HLen := hid hlen
  have HLen' := hid hlen'
  have g1 : decide ((256 : Int) < (len : Int)) = false := by simp; omega
  have g2 : decide ((256 : Int) < (len' : Int)) = false := by simp; omega
  have hba : Byt (padB a) := padB_byt hy
  have hna : (padB a).length = 256 := padB_len (by rw [hl.len]; exact hlen)
  have hbb : Byt (padB b) := padB_byt hy'
  have hnb : (padB b).length = 256 := padB_len (by rw [hl'.len]; exact hlen')
  obtain ⟨la, hla⟩ : ∃ l, padB a = l := ⟨_, rfl⟩
  obtain ⟨lb, hlb⟩ : ∃ l, padB b = l := ⟨_, rfl⟩
  have HLa := hid hla
  have HLb := hid hlb
  rw [hla] at hba hna
  rw [hlb] at hbb hnb
  have H7a := hid hba
  have N7a := hid hna
  have H7b := hid hbb
  have N7b := hid hnb
  obtain ⟨za, hza⟩ : ∃ z, crcOf (nats la) = z := ⟨_, rfl⟩
  obtain ⟨zb, hzb⟩ : ∃ z, crcOf (nats lb) = z := ⟨_, rfl⟩
  have HZa := hid hza
  have HZb := hid hzb
  have HZla := hid (show za < 4294967296 from hza ▸ crc_nats H7a.out)
  have HZlb := hid (show zb < 4294967296 from hzb ▸ crc_nats H7b.out)
  have hi0 : 0 ≤ n % 20 := Int.emod_nonneg _ (by omega)
  have hi1 : n % 20 < 20 := Int.emod_lt_of_pos _ (by omega)
  have hj0 : 0 ≤ m % 20 := Int.emod_nonneg _ (by omega)
  have hj1 : m % 20 < 20 := Int.emod_lt_of_pos _ (by omega)
  obtain ⟨i, hi⟩ : ∃ i : Nat, n % 20 = (i : Int) := ⟨(n % 20).toNat, by omega⟩
  obtain ⟨j, hj⟩ : ∃ j : Nat, m % 20 = (j : Int) := ⟨(m % 20).toNat, by omega⟩
  have HI := hid hi
  have HJ := hid hj
  have HI8 := hid (show i < 20 by omega)
  have HJ8 := hid (show j < 20 by omega)
  have hh : halN 320 = 80 := by decide
  have hbi : (i : Int) ≤ 19 := by omega
  have hbj : (j : Int) ≤ 19 := by omega
  have hij : (i = j ∧ ((i : Int) != (j : Int)) = false ∧ ((i : Int) == (j : Int)) = true) ∨ (i ≠ j ∧ ((i : Int) != (j : Int)) = true ∧ ((i : Int) == (j : Int)) = false) := by
    by_cases h : i = j
    · exact .inl ⟨h, by subst h; simp, by subst h; simp⟩
    · exact .inr ⟨h, by rw [bne_iff_ne]; omega, by rw [beq_eq_false_iff_ne]; omega⟩
  clear hS D P hl hl' hlen hlen' hy hy' hba hna hbb hnb hla hlb hza hzb hi0 hi1 hj0 hj1 hi hj
  obtain ⟨pn, hpn⟩ : ∃ x : Nat, (pWrite (pWrite (DSt.new 320) 80 i la) 80 j lb).pending = x := ⟨_, rfl⟩
  have HPn := hid hpn
  have hpe : ((pn : Int) != 4) = true ∨ ((pn : Int) != 4) = false := by cases ((pn : Int) != 4) <;> simp
  rcases hij with ⟨hij, t1, t2⟩ | ⟨hij, t1, t2⟩
  all_goals
    have HIJ := hid hij
    rcases hpe with p1 | p1
    all_goals
      first
        | (exfalso
           have := apart_pending la lb HI8.out HJ8.out hij
           rw [hpn] at this
           subst this
           simp at p1; done)
        | skip
  all_goals
    clear hij hpn
    go_enter Tryd.func6, Tryd.ntmps6
    go_wp2_with fail
    refine (firstP_any HD.out HP.out S _ HS.out).mono ?_
    rintro e w1 ⟨rfl, hb1⟩
    have HB1 := hid hb1
    have HS1 := hid (HS.out.on hb1)
    have HA1 := hid (HA.out.on hb1)
    have HBb := hid (HB.out.on hb1)
    clear hb1
    go_wp2_with fail
    refine (number_any n 20 _ (by omega) (by omega)).mono ?_
    rw [HI.out]
    rintro e w2 ⟨rfl, rfl⟩
    go_wp2_with fail
    refine (number_any m 20 _ (by omega) (by omega)).mono ?_
    rw [HJ.out]
    rintro e w2 ⟨rfl, rfl⟩
    go_wp2_with fail
    refine (pk_opened HD.out HP.out 320 _ HS1.out (by omega) (by omega)).mono ?_
    rintro e w2 ⟨p, d, rfl, hk⟩
    have HK2 := hid hk
    clear hk
    go_wp2_with fail
    refine (pk_block HD.out HP.out HK2.out (HA1.out.on HK2.out.below) HLen.out).mono ?_
    rw [HLa.out]
    rintro e w3 ⟨A3, c3, rfl, hk, _⟩
    have HK3 := hid hk
    clear hk
    go_wp2_with fail
    refine (pk_write HP.out (i := i) (by rw [hh]; have := HI8.out; omega) H7a.out (by omega) HK3.out).mono ?_
    rw [HZa.out, hh]
    rintro e w4 ⟨rfl, hk⟩
    have HK4 := hid (hk.box HD.out HP.out i za)
    clear hk
    go_wp2_with fail
    generalize hw5 : (w4.alloc (.cells #[.int .i64 (i : Int), .int .u32 (za : Int)] 32)) = w5 at HK4 ⊢
    obtain ⟨g, hg⟩ : ∃ g, w4.heap.size = g := ⟨_, rfl⟩
    rw [hg] at HK4 ⊢
    clear hg hw5
    refine (pk_block HD.out HP.out HK4.out (HBb.out.on HK4.out.below) HLen'.out).mono ?_
    rw [HLb.out]
    rintro e w6 ⟨A6, c6, rfl, hk, _⟩
    have HK6 := hid hk
    clear hk
    go_wp2_with fail
    refine (pk_write HP.out (i := j) (by rw [hh]; have := HJ8.out; omega) H7b.out (by omega) HK6.out).mono ?_
    rw [HZb.out, hh]
    rintro e w7 ⟨rfl, hk⟩
    have HK7 := hid (hk.box HD.out HP.out j zb)
    clear hk
    go_wp2_with fail
    generalize hw8 : (w7.alloc (.cells #[.int .i64 (j : Int), .int .u32 (zb : Int)] 32)) = w8 at HK7 ⊢
    obtain ⟨h, hg⟩ : ∃ g, w7.heap.size = g := ⟨_, rfl⟩
    rw [hg] at HK7 ⊢
    clear hg hw8
    refine (pk_pending HD.out HP.out HK7.out).mono ?_
    rw [HPn.out]
    rintro e w9 ⟨rfl, hk⟩
    have HK9 := hid hk
    clear hk
    go_wp2_with fail
    refine (pk_flush HD.out HP.out HK9.out (by omega)).mono ?_
    rintro e w10 ⟨rfl, hk⟩
    have HK10 := hid (show Pk Real PR S w1 w10 d p (s3of la lb i j) 320 0 (0 + 2 + 2 + 1) [Kd.ref h (j : Int) (zb : Int), Kd.ref g (i : Int) (za : Int)] from hk)
    have HRd := hid (fun k (hk : k < 320) => Rd.apart la lb HI8.out HJ8.out hk)
    obtain ⟨s3, hs3⟩ : ∃ s, s3of la lb i j = s := ⟨_, rfl⟩
    rw [hs3] at HK10 HRd
    clear hk hs3
    go_wp2
    go_loopw [16] (fun v wr => ∃ k : Nat, k ≤ 320 ∧ v = .int .i64 (k : Int) ∧ Pk Real PR S w1 wr d p s3 320 0 (0 + 2 + 2 + 1) [Kd.ref h (j : Int) (zb : Int), Kd.ref g (i : Int) (za : Int)]) (fun v _ => 320 - (intOf v).toNat)
    case atStart => exact ⟨0, by omega, rfl, HK10.out⟩
    case round =>
      obtain ⟨k, hk, rfl, hkr⟩ := hrel
      have HKr := hid hkr
      clear hkr
      by_cases hlt : k < 320
      · have hki : (k : Int) < 320 := by omega
        obtain ⟨x, hx1, hx2⟩ := HRd.out k hlt
        have HX1 := hid hx1
        have HX2 := hid hx2
        have hci : (((k : Int) == (i : Int)) = true ∧ (k = i ∨ k = i + 80)) ∨ (((k : Int) == (i : Int)) = false ∧ ((k : Int) == (i : Int) + 80) = true ∧ (k = i ∨ k = i + 80)) ∨ (((k : Int) == (i : Int)) = false ∧ ((k : Int) == (i : Int) + 80) = false ∧ ¬ (k = i ∨ k = i + 80)) := by
          by_cases h1 : k = i
          · exact .inl ⟨by rw [beq_iff_eq]; omega, .inl h1⟩
          · by_cases h2 : k = i + 80
            · exact .inr (.inl ⟨by rw [beq_eq_false_iff_ne]; omega, by rw [beq_iff_eq]; omega, .inr h2⟩)
            · exact .inr (.inr ⟨by rw [beq_eq_false_iff_ne]; omega, by rw [beq_eq_false_iff_ne]; omega, by omega⟩)
        have hcj : (((k : Int) == (j : Int)) = true ∧ (k = j ∨ k = j + 80)) ∨ (((k : Int) == (j : Int)) = false ∧ ((k : Int) == (j : Int) + 80) = true ∧ (k = j ∨ k = j + 80)) ∨ (((k : Int) == (j : Int)) = false ∧ ((k : Int) == (j : Int) + 80) = false ∧ ¬ (k = j ∨ k = j + 80)) := by
          by_cases h1 : k = j
          · exact .inl ⟨by rw [beq_iff_eq]; omega, .inl h1⟩
          · by_cases h2 : k = j + 80
            · exact .inr (.inl ⟨by rw [beq_eq_false_iff_ne]; omega, by rw [beq_iff_eq]; omega, .inr h2⟩)
            · exact .inr (.inr ⟨by rw [beq_eq_false_iff_ne]; omega, by rw [beq_eq_false_iff_ne]; omega, by omega⟩)
        clear hx1 hx2
        go_wp2_with fail
        refine (pk_devRead HD.out HP.out HKr.out hlt HX1.out HX2.out (wantL_len N7a.out N7b.out _ _ _)).mono ?_
        rintro e y1 ⟨Ax, cx, rfl, hk1⟩
        have HY1 := hid hk1
        clear hk1
        go_wp2_with fail
        refine (pk_block HD.out HP.out HY1.out (Sl.empty _ _) (by omega)).mono ?_
        rintro e y2 ⟨Az, cz, rfl, hk1, _⟩
        have HY2 := hid hk1
        clear hk1
        have HYc := HY2
        clear HY2 HY1
        rcases hci with ⟨i1, i2⟩ | ⟨i1, i3, i2⟩ | ⟨i1, i3, i2⟩
        all_goals
          have HI2 := hid i2
          clear i2
          rcases hcj with ⟨j1, j2⟩ | ⟨j1, j3, j2⟩ | ⟨j1, j3, j2⟩
          all_goals
            have HJ2 := hid j2
            clear j2
            go_wp2_with fail
            first
              | ((with_reducible refine (pk_block HD.out HP.out HYc.out (HA1.out.on HYc.out.below) HLen.out).mono ?_)
                 rw [HLa.out]
                 rintro e y3 ⟨Aa, ca, rfl, hk1, _⟩
                 clear HYc
                 have HYc := hid (hk1.less (ls := [Kd.byt Aa 256 ca la, Kd.byt Ax 256 cx (wantL la lb i j k), Kd.ref h (j : Int) (zb : Int), Kd.ref g (i : Int) (za : Int)]) (fun K hK => by simp at hK; rcases hK with rfl | rfl | rfl | rfl <;> simp))
                 clear hk1
                 go_wp2_with fail)
              | skip
            first
              | ((with_reducible refine (pk_block HD.out HP.out HYc.out (HBb.out.on HYc.out.below) HLen'.out).mono ?_)
                 rw [HLb.out]
                 rintro e y4 ⟨Ab, cb, rfl, hk1, _⟩
                 clear HYc
                 have HYc := hid (hk1.less (ls := [Kd.byt Ab 256 cb lb, Kd.byt Ax 256 cx (wantL la lb i j k), Kd.ref h (j : Int) (zb : Int), Kd.ref g (i : Int) (za : Int)]) (fun K hK => by simp at hK; rcases hK with rfl | rfl | rfl | rfl <;> simp))
                 clear hk1
                 go_wp2_with fail)
              | skip
            refine (pk_same HD.out HP.out HYc.out (List.mem_cons_of_mem _ List.mem_cons_self) List.mem_cons_self).mono ?_
            first
              | rw [show wantL la lb i j k = lb from by unfold wantL; rw [if_pos HJ2.out], same_self]
              | rw [show wantL la lb i j k = la from by unfold wantL; rw [if_neg HJ2.out, if_pos HI2.out], same_self]
              | rw [show wantL la lb i j k = padB [] from by unfold wantL; rw [if_neg HJ2.out, if_neg HI2.out], same_self]
            rintro e y5 ⟨rfl, hk1⟩
            have HY5 := hid (hk1.less (ls := [Kd.ref h (j : Int) (zb : Int), Kd.ref g (i : Int) (za : Int)]) (fun K hK => by simp at hK; rcases hK with rfl | rfl <;> simp))
            clear hk1
            go_wp2
            go_roundw
            case rel => exact ⟨k + 1, by omega, by go_num, HY5.out⟩
            case measure => simp [intOf]; omega
      · have hk320 : ¬ (k : Int) < 320 := by omega
        have HRj := hid (show Rd s3 j lb from by
          have := HRd.out j (by have := HJ8.out; omega)
          unfold wantL at this
          rwa [if_pos (.inl rfl)] at this)
        have HJn := hid (show j + 80 < 320 from by have := HJ8.out; omega)
        have HIn := hid (show i + 80 < 320 from by have := HI8.out; omega)
        have HRb := hid (pRead_rd (H := 80) HKr.out.up HJn.out HRj.out HZb.out)
        obtain ⟨k0, k1⟩ := HKr.out.cells (List.mem_cons_of_mem _ List.mem_cons_self)
        first
          | (have HRa := hid (show pRead s3 80 i za = (0, la, s3, 0) from by
               have := HRd.out i (by have := HI8.out; omega)
               unfold wantL at this
               rw [if_neg (by have := HIJ.out; have := HI8.out; omega), if_pos (.inl rfl)] at this
               exact pRead_rd (H := 80) HKr.out.up HIn.out this HZa.out)
             go_wp2_with fail
             refine (pk_read HP.out HKr.out (i := i) (by rw [hh]; have := HI8.out; omega) HZla.out (by omega) (by omega) N7a.out (by rw [hh]; exact HRa.out)).mono ?_
             rintro e y1 ⟨Ax, cx, rfl, hk1⟩
             have HY1 := hid hk1
             clear k0 k1
             obtain ⟨k0, k1⟩ := hk1.cells (List.mem_cons_of_mem _ List.mem_cons_self)
             clear hk1
             go_wp2_with fail
             refine (pk_read HP.out HY1.out (i := j) (by rw [hh]; have := HJ8.out; omega) HZlb.out (by omega) (by omega) N7b.out (by rw [hh]; exact HRb.out)).mono ?_
             rintro e y2 ⟨Ay, cy, rfl, hk1⟩
             have HY2 := hid hk1
             clear k0 k1 hk1
             go_wp2_with fail
             refine (pk_block HD.out HP.out HY2.out (HBb.out.on HY2.out.below) HLen'.out).mono ?_
             rw [HLb.out]
             rintro e y3 ⟨Ab, cb, rfl, hk1, _⟩
             have HY3 := hid hk1
             clear hk1
             go_wp2_with fail
             refine (pk_same HD.out HP.out HY3.out (List.mem_cons_of_mem _ List.mem_cons_self) List.mem_cons_self).mono ?_
             rw [same_self]
             rintro e y4 ⟨rfl, hk1⟩
             have HY4 := hid hk1
             clear hk1
             go_wp2_with fail
             refine (pk_block HD.out HP.out HY4.out (HA1.out.on HY4.out.below) HLen.out).mono ?_
             rw [HLa.out]
             rintro e y5 ⟨Aa, ca, rfl, hk1, _⟩
             have HY5 := hid hk1
             clear hk1
             go_wp2_with fail
             refine (pk_same HD.out HP.out HY5.out (List.mem_cons_of_mem _ (List.mem_cons_of_mem _ (List.mem_cons_of_mem _ List.mem_cons_self))) List.mem_cons_self).mono ?_
             rw [same_self]
             rintro e y6 ⟨rfl, hk1⟩
             have HBe := hid (HB1.out.trans (hk1.below.mono HB1.out.size))
             clear hk1
             go_wp2
             go_ret
             exact ⟨rfl, HBe.out⟩)
          | (have HRi := hid (show Rd s3 i lb from by rw [HIJ.out]; exact HRj.out)
             have HRi8 := hid (show Rd s3 (i + 80) lb from by
               have := HRd.out (i + 80) HIn.out
               unfold wantL at this
               rwa [if_pos (.inr (by rw [HIJ.out]))] at this)
             by_cases hz : za = zb
             · have HRa := hid (pRead_rd (z := za) (H := 80) HKr.out.up HIn.out HRi.out (by rw [hz]; exact HZb.out))
               have z1 : ((za : Int) == (zb : Int)) = true := by rw [beq_iff_eq]; omega
               clear hz
               go_wp2_with fail
               refine (pk_read HP.out HKr.out (i := i) (by rw [hh]; have := HI8.out; omega) HZla.out (by omega) (by omega) N7b.out (by rw [hh]; exact HRa.out)).mono ?_
               rintro e y1 ⟨Ax, cx, rfl, hk1⟩
               have HY1 := hid hk1
               clear k0 k1
               obtain ⟨k0, k1⟩ := hk1.cells (List.mem_cons_of_mem _ List.mem_cons_self)
               clear hk1
               go_wp2_with fail
               refine (pk_read HP.out HY1.out (i := j) (by rw [hh]; have := HJ8.out; omega) HZlb.out (by omega) (by omega) N7b.out (by rw [hh]; exact HRb.out)).mono ?_
               rintro e y2 ⟨Ay, cy, rfl, hk1⟩
               have HY2 := hid hk1
               clear k0 k1 hk1
               go_wp2_with fail
               refine (pk_block HD.out HP.out HY2.out (HBb.out.on HY2.out.below) HLen'.out).mono ?_
               rw [HLb.out]
               rintro e y3 ⟨Ab, cb, rfl, hk1, _⟩
               have HY3 := hid hk1
               clear hk1
               go_wp2_with fail
               refine (pk_same HD.out HP.out HY3.out (List.mem_cons_of_mem _ List.mem_cons_self) List.mem_cons_self).mono ?_
               rw [same_self]
               rintro e y4 ⟨rfl, hk1⟩
               have HBe := hid (HB1.out.trans (hk1.below.mono HB1.out.size))
               obtain ⟨k0, k1⟩ := hk1.cells (g := g) (i := (i : Int)) (z := (za : Int)) (by simp)
               obtain ⟨k2, k3⟩ := hk1.cells (g := h) (i := (j : Int)) (z := (zb : Int)) (by simp)
               clear hk1
               go_wp2_with fail
               go_quiet (fail)
               go_wp2
               go_ret
               exact ⟨rfl, below_drewN HBe.out _⟩
             · have HRa := hid (pRead_not (z := za) (H := 80) HKr.out.up HIn.out HRi.out HRi8.out (by rw [HZb.out]; exact Ne.symm hz))
               have z1 : ((za : Int) == (zb : Int)) = false := by rw [beq_eq_false_iff_ne]; omega
               clear hz
               go_wp2_with fail
               refine (pk_readNo HP.out HKr.out (i := i) (z := za) (l := []) (by rw [hh]; have := HI8.out; omega) HZla.out (by omega) (by omega) (by rw [hh]; exact HRa.out)).mono ?_
               rintro e y1 ⟨Ax, kx, cx, vx, hvx, rfl, hk1⟩
               obtain ⟨jx, rfl⟩ := hvx.is (by decide)
               have HY1 := hid hk1
               clear k0 k1
               obtain ⟨k0, k1⟩ := hk1.cells List.mem_cons_self
               clear hk1 hvx
               go_wp2_with fail
               refine (pk_read HP.out HY1.out (i := j) (by rw [hh]; have := HJ8.out; omega) HZlb.out (by omega) (by omega) N7b.out (by rw [hh]; exact HRb.out)).mono ?_
               rintro e y2 ⟨Ay, cy, rfl, hk1⟩
               have HY2 := hid hk1
               clear k0 k1 hk1
               go_wp2_with fail
               refine (pk_block HD.out HP.out HY2.out (HBb.out.on HY2.out.below) HLen'.out).mono ?_
               rw [HLb.out]
               rintro e y3 ⟨Ab, cb, rfl, hk1, _⟩
               have HY3 := hid hk1
               clear hk1
               go_wp2_with fail
               refine (pk_same HD.out HP.out HY3.out (List.mem_cons_of_mem _ List.mem_cons_self) List.mem_cons_self).mono ?_
               rw [same_self]
               rintro e y4 ⟨rfl, hk1⟩
               have HBe := hid (HB1.out.trans (hk1.below.mono HB1.out.size))
               obtain ⟨k0, k1⟩ := hk1.cells (g := g) (i := (i : Int)) (z := (za : Int)) (by simp)
               obtain ⟨k2, k3⟩ := hk1.cells (g := h) (i := (j : Int)) (z := (zb : Int)) (by simp)
               clear hk1
               go_wp2_with fail
               go_quiet (fail)
               go_wp2
               go_ret
               exact ⟨rfl, below_drewN HBe.out _⟩)
end
end Go.Proofs.YtomhmodgfldlpaaDoor
