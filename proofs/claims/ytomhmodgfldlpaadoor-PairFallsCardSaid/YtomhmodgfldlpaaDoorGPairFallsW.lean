/- The walk of PairFalls, for whatever keeps the calls. -/
import Derived.Test.YtomhmodgfldlpaaDoorGPairE
import Derived.Test.YtomhmodgfldlpaaDoorGPairApartW
namespace Go.Proofs.YtomhmodgfldlpaaDoor
open Go.RowKit

section
variable {Real : World → Nat → DSt → (Nat → Prop) → Prop} {PR : World → Nat → Nat → Nat → Nat → (Nat → Prop) → Prop}
set_option maxRecDepth 100000 in
set_option maxHeartbeats 1000000 in
theorem pairFalls_long (D : DevOk Real) (P : PairOk Real PR) (S : Nat → Addr) (A B : Option Addr) (len cap len' cap' : Nat) (n : Int) (one two : Bool) (w : World) (hS : Sent5 w S) (h : 256 < len ∨ 256 < len') (hm : len ≤ 9223372036854775807) (hm' : len' ≤ 9223372036854775807) :
    Calls Tryd.prog 7 #[.int .i64 n, .slice A len cap, .slice B len' cap', .bool one, .bool two] w (Yes w) := by
  have HS := hid hS
  have HD := hid D
  have HP := hid P
  have g1 : decide ((256 : Int) < (len : Int)) = true ∨ (decide ((256 : Int) < (len : Int)) = false ∧ decide ((256 : Int) < (len' : Int)) = true) := by
    by_cases h1 : 256 < len
    · exact .inl (by simp; omega)
    · exact .inr ⟨by simp; omega, by simp; omega⟩
  clear hS D P h
  rcases g1 with g1 | ⟨g1, g2⟩
  all_goals
    go_enter Tryd.func7, Tryd.ntmps7
    go_wp2_with fail
    refine (firstP_any HD.out HP.out S _ HS.out).mono ?_
    rintro e w1 ⟨rfl, hb1⟩
    have HB1 := hid hb1
    clear hb1
    go_wp2
    go_ret
    exact ⟨rfl, HB1.out⟩
/-- what Read answers at the device behind the fall -/
theorem falls_read {s : DSt} {i q za zb : Nat} {la lb : List Int} {e : Bool} {p0 p1 : Bool} (u : Up s 320 q) (hi : i + 80 < 320) (h : At s i (i + 80) (fb p0 la lb e) (fb p1 la lb e)) (hza : crcOf (nats la) = za) (hzb : crcOf (nats lb) = zb) (hne : za ≠ zb) :
    pRead s 80 i za = (if p0 = false then (0, la, s, 0) else if p1 = false then (0, la, s.put i la, 1) else (107, [], s, 0)) ∧
    pRead s 80 i zb = (if p0 = true then (0, lb, s, 0) else if p1 = true then (0, lb, s.put i lb, 1) else (107, [], s, 0)) := by
  have ra : ∀ b : BSt, b.read = (0, la) → b.right za = true ∧ b.right zb = false := fun b hb => ⟨by rw [← hza]; exact right_of hb, by unfold BSt.right; rw [hb, hza]; simp [hne]⟩
  have rb : ∀ b : BSt, b.read = (0, lb) → b.right zb = true ∧ b.right za = false := fun b hb => ⟨by rw [← hzb]; exact right_of hb, by unfold BSt.right; rw [hb, hzb]; simp [Ne.symm hne]⟩
  have i1 : i < 320 := by omega
  cases p0 <;> cases p1 <;> simp only [fb, if_true, if_false, Bool.false_eq_true, Bool.true_eq_false] at h ⊢
  · exact ⟨by have := pRead_one (H := 80) u i1 h (ra _ (read_od _ _ _)).1; rwa [read_od] at this, pRead_no u hi h (ra _ (read_od _ _ _)).2 (ra _ (read_od _ _ _)).2⟩
  · exact ⟨by have := pRead_one (H := 80) u i1 h (ra _ (read_od _ _ _)).1; rwa [read_od] at this, by have := pRead_two (H := 80) u hi h (ra _ (read_od _ _ _)).2 (rb _ (read_cl _ _)).1; rwa [read_cl] at this⟩
  · exact ⟨by have := pRead_two (H := 80) u hi h (rb _ (read_cl _ _)).2 (ra _ (read_od _ _ _)).1; rwa [read_od] at this, by have := pRead_one (H := 80) u i1 h (rb _ (read_cl _ _)).1; rwa [read_cl] at this⟩
  · exact ⟨pRead_no u hi h (rb _ (read_cl _ _)).2 (rb _ (read_cl _ _)).2, by have := pRead_one (H := 80) u i1 h (rb _ (read_cl _ _)).1; rwa [read_cl] at this⟩
theorem falls_same {s : DSt} {i q z : Nat} {la lb : List Int} {e : Bool} {p0 p1 : Bool} (u : Up s 320 q) (hi : i + 80 < 320) (h : At s i (i + 80) (fb p0 la lb e) (fb p1 la lb e)) (hza : crcOf (nats la) = z) (hzb : crcOf (nats lb) = z) :
    pRead s 80 i z = (0, if p0 = true then lb else la, s, 0) := by
  have i1 : i < 320 := by omega
  cases p0 <;> simp only [fb, if_true, if_false, Bool.false_eq_true] at h ⊢
  · have := pRead_one (H := 80) (z := z) u i1 h (by rw [← hza]; exact right_of (read_od _ _ _))
    rwa [read_od] at this
  · have := pRead_one (H := 80) (z := z) u i1 h (by rw [← hzb]; exact right_of (read_cl _ _))
    rwa [read_cl] at this
set_option maxRecDepth 100000 in
set_option maxHeartbeats 8000000 in
theorem pairFalls_any (D : DevOk Real) (P : PairOk Real PR) (S : Nat → Addr) (A B : Option Addr) (len cap len' cap' : Nat) (a b : List Int) (n : Int) (one two : Bool) (w : World) (hS : Sent5 w S) (hlen : len ≤ 256) (hlen' : len' ≤ 256) (hl : Sl w w.heap.size A len cap a) (hl' : Sl w w.heap.size B len' cap' b) (hy : Byt a) (hy' : Byt b) :
    Calls Tryd.prog 7 #[.int .i64 n, .slice A len cap, .slice B len' cap', .bool one, .bool two] w (Yes w) := by
  have HS := hid hS
  have HD := hid D
  have HP := hid P
  have HA := hid hl
  have HB := hid hl'
  have HLen := hid hlen
  have HLen' := hid hlen'
  have g1 : decide ((256 : Int) < (len : Int)) = false := by simp; omega
  have g2 : decide ((256 : Int) < (len' : Int)) = false := by simp; omega
  have hba : Byt (padB a) := padB_byt hy
  have hna : (padB a).length = 256 := padB_len (by rw [hl.len]; exact hlen)
  have hbb : Byt (padB b) := padB_byt hy'
  have hnb : (padB b).length = 256 := padB_len (by rw [hl'.len]; exact hlen')
  obtain ⟨la, hla⟩ : ∃ l, padB a = l := ⟨_, rfl⟩
  obtain ⟨lb, hlb⟩ : ∃ l, padB b = l := ⟨_, rfl⟩
  have HLa := hid hla
  have HLb := hid hlb
  rw [hla] at hba hna
  rw [hlb] at hbb hnb
  have H7a := hid hba
  have N7a := hid hna
  have H7b := hid hbb
  have N7b := hid hnb
  obtain ⟨za, hza⟩ : ∃ z, crcOf (nats la) = z := ⟨_, rfl⟩
  obtain ⟨zb, hzb⟩ : ∃ z, crcOf (nats lb) = z := ⟨_, rfl⟩
  have HZa := hid hza
  have HZb := hid hzb
  have HZla := hid (show za < 4294967296 from hza ▸ crc_nats H7a.out)
  have HZlb := hid (show zb < 4294967296 from hzb ▸ crc_nats H7b.out)
  have hi0 : 0 ≤ n % 80 := Int.emod_nonneg _ (by omega)
  have hi1 : n % 80 < 80 := Int.emod_lt_of_pos _ (by omega)
  obtain ⟨i, hi⟩ : ∃ i : Nat, n % 80 = (i : Int) := ⟨(n % 80).toNat, by omega⟩
  have HI := hid hi
  have HI8 := hid (show i < 80 by omega)
  have hh : halN 320 = 80 := by decide
  have hbi : (i : Int) ≤ 79 := by omega
  have hzs : (za = zb ∧ ((za : Int) == (zb : Int)) = true) ∨ (za ≠ zb ∧ ((za : Int) == (zb : Int)) = false) := by
    by_cases h : za = zb
    · exact .inl ⟨h, by subst h; simp⟩
    · exact .inr ⟨h, by rw [beq_eq_false_iff_ne]; omega⟩
  clear hS D P hl hl' hlen hlen' hy hy' hba hna hbb hnb hla hlb hza hzb hi0 hi1 hi
  rcases hzs with ⟨hz, z1⟩ | ⟨hz, z1⟩
  all_goals
    have HZz := hid hz
    clear hz
    rcases one with _ | _
    all_goals rcases two with _ | _
  all_goals as_aux_lemma =>
    go_enter Tryd.func7, Tryd.ntmps7
    go_wp2_with fail
    refine (firstP_any HD.out HP.out S _ HS.out).mono ?_
    rintro e w1 ⟨rfl, hb1⟩
    have HB1 := hid hb1
    have HS1 := hid (HS.out.on hb1)
    have HA1 := hid (HA.out.on hb1)
    have HBb := hid (HB.out.on hb1)
    clear hb1
    go_wp2_with fail
    refine (number_any n 80 _ (by omega) (by omega)).mono ?_
    rw [HI.out]
    rintro e w2 ⟨rfl, rfl⟩
    go_wp2_with fail
    refine (pk_opened HD.out HP.out 320 _ HS1.out (by omega) (by omega)).mono ?_
    rintro e w2 ⟨p, d, rfl, hk⟩
    have HK2 := hid hk
    clear hk
    go_wp2_with fail
    refine (pk_block HD.out HP.out HK2.out (HA1.out.on HK2.out.below) HLen.out).mono ?_
    rw [HLa.out]
    rintro e w3 ⟨A3, c3, rfl, hk, _⟩
    have HK3 := hid hk
    clear hk
    go_wp2_with fail
    refine (pk_write HP.out (i := i) (by rw [hh]; exact HI8.out) H7a.out (by omega) HK3.out).mono ?_
    rw [HZa.out, hh]
    rintro e w4 ⟨rfl, hk⟩
    have HK4 := hid (hk.box HD.out HP.out i za)
    clear hk
    have HI9 := hid (show i + 80 < 320 ∧ i < 320 from by have := HI8.out; omega)
    have HT1 := hid ((At.new (n := 320) HI9.out.2 HI9.out.1).write (H := 80) (by omega) la)
    go_wp2_with fail
    generalize hw5 : (w4.alloc (.cells #[.int .i64 (i : Int), .int .u32 (za : Int)] 32)) = w5 at HK4 ⊢
    obtain ⟨g, hg⟩ : ∃ g, w4.heap.size = g := ⟨_, rfl⟩
    rw [hg] at HK4 ⊢
    clear hg hw5
    refine (pk_flush HD.out HP.out HK4.out (by omega)).mono ?_
    rintro e w6 ⟨rfl, hk⟩
    have HK6 := hid hk
    have HT2 := hid HT1.out.fl
    rw [flush_write] at HT2
    have HCa := hid (calm_fl (pWrite (DSt.new 320) 80 i la))
    obtain ⟨s2, hs2⟩ : ∃ s2, fl (pWrite (DSt.new 320) 80 i la) = s2 := ⟨_, rfl⟩
    rw [hs2] at HK6 HT2 HCa
    clear hk hs2
    go_wp2_with fail
    refine (pk_block HD.out HP.out HK6.out (HBb.out.on HK6.out.below) HLen'.out).mono ?_
    rw [HLb.out]
    rintro e w7 ⟨A7, c7, rfl, hk, _⟩
    have HK7 := hid hk
    clear hk
    go_wp2_with fail
    refine (pk_write HP.out (i := i) (by rw [hh]; exact HI8.out) H7b.out (by omega) HK7.out).mono ?_
    rw [HZb.out, hh]
    rintro e w8 ⟨rfl, hk⟩
    have HK8 := hid (hk.box HD.out HP.out i zb)
    clear hk
    go_wp2_with fail
    have hsz : (w8.alloc (.cells #[.int .i64 (i : Int), .int .u32 (zb : Int)] 32)).heap.size = w8.heap.size + 1 := by simp
    first
      | (have hc := pk_crash HD.out HP.out HK8.out [0, 0] (by simp)
         rw [hsz] at hc
         refine hc.mono ?_
         have HT3 := hid (show At ((pWrite s2 80 i lb).crash [0, 0]) i (i + 80) (fb false la lb blank.ever) (fb false la lb blank.ever) from by
           have := HT2.out.crash HCa.out (by omega) lb [0, 0]
           rw [show keepP [0, 0] 0 = false by decide, show keepP [0, 0] 1 = false by decide, crash_cl] at this
           try rw [crash_cl] at this
           exact this)
         rintro e w10 ⟨rfl, hk⟩
         have HK10 := hid hk
         obtain ⟨s3, hs3⟩ : ∃ s, (pWrite s2 80 i lb).crash [0, 0] = s := ⟨_, rfl⟩
         rw [hs3] at HK10 HT3
         clear hk hs3 hc hsz)
      | (have hc := pk_crash HD.out HP.out HK8.out [0, 1] (by simp)
         rw [hsz] at hc
         refine hc.mono ?_
         have HT3 := hid (show At ((pWrite s2 80 i lb).crash [0, 1]) i (i + 80) (fb false la lb blank.ever) (fb true la lb blank.ever) from by
           have := HT2.out.crash HCa.out (by omega) lb [0, 1]
           rw [show keepP [0, 1] 0 = false by decide, show keepP [0, 1] 1 = true by decide, crash_cl] at this
           try rw [crash_cl] at this
           exact this)
         rintro e w10 ⟨rfl, hk⟩
         have HK10 := hid hk
         obtain ⟨s3, hs3⟩ : ∃ s, (pWrite s2 80 i lb).crash [0, 1] = s := ⟨_, rfl⟩
         rw [hs3] at HK10 HT3
         clear hk hs3 hc hsz)
      | (have hc := pk_crash HD.out HP.out HK8.out [1, 0] (by simp)
         rw [hsz] at hc
         refine hc.mono ?_
         have HT3 := hid (show At ((pWrite s2 80 i lb).crash [1, 0]) i (i + 80) (fb true la lb blank.ever) (fb false la lb blank.ever) from by
           have := HT2.out.crash HCa.out (by omega) lb [1, 0]
           rw [show keepP [1, 0] 0 = true by decide, show keepP [1, 0] 1 = false by decide, crash_cl] at this
           try rw [crash_cl] at this
           exact this)
         rintro e w10 ⟨rfl, hk⟩
         have HK10 := hid hk
         obtain ⟨s3, hs3⟩ : ∃ s, (pWrite s2 80 i lb).crash [1, 0] = s := ⟨_, rfl⟩
         rw [hs3] at HK10 HT3
         clear hk hs3 hc hsz)
      | (have hc := pk_crash HD.out HP.out HK8.out [1, 1] (by simp)
         rw [hsz] at hc
         refine hc.mono ?_
         have HT3 := hid (show At ((pWrite s2 80 i lb).crash [1, 1]) i (i + 80) (fb true la lb blank.ever) (fb true la lb blank.ever) from by
           have := HT2.out.crash HCa.out (by omega) lb [1, 1]
           rw [show keepP [1, 1] 0 = true by decide, show keepP [1, 1] 1 = true by decide, crash_cl] at this
           try rw [crash_cl] at this
           exact this)
         rintro e w10 ⟨rfl, hk⟩
         have HK10 := hid hk
         obtain ⟨s3, hs3⟩ : ∃ s, (pWrite s2 80 i lb).crash [1, 1] = s := ⟨_, rfl⟩
         rw [hs3] at HK10 HT3
         clear hk hs3 hc hsz)
    obtain ⟨g2, hg2⟩ : ∃ g, w8.heap.size = g := ⟨_, rfl⟩
    rw [hg2] at HK10 ⊢
    clear hg2
    go_wp2_with fail
    refine (pk_open HD.out HP.out HK10.out).mono ?_
    rintro e w11 ⟨p', rfl, hk, _⟩
    have HK11 := hid hk
    have HGl := hid (show g < w11.heap.size ∧ g2 < w11.heap.size from ⟨World.block_lt_of_cell? w11 _ (hk.cells (g := g) (i := (i : Int)) (z := (za : Int)) (by simp)).1, World.block_lt_of_cell? w11 _ (hk.cells (g := g2) (i := (i : Int)) (z := (zb : Int)) (by simp)).1⟩)
    have HW11 := hid hk.below
    clear hk
    go_wp2_with fail
    refine (pk_clone HD.out HP.out HK11.out).mono ?_
    rintro e w12 ⟨c, Fc, rfl, hk, hcr, hcb, hcf⟩
    have HK12 := hid hk
    have HCr := hid hcr
    have HCb := hid hcb
    have HCf := hid hcf
    clear hk hcr hcb hcf
    go_wp2_with fail
    refine (pk_openTwo HD.out HP.out HK12.out HCr.out HCb.out HCf.out).mono ?_
    rintro e w13 ⟨zp, Gc, rfl, hk, hap, hge⟩
    have HK13 := hid hk
    have HAp := hid hap
    have HGe := hid hge
    have HUs := hid hk.up
    have HLt := hid (show ∀ k, Fc k ∨ Gc k → k < w13.heap.size from hk.two_lt List.mem_cons_self)
    obtain ⟨k0, k1⟩ := hk.cells (g := g) (i := (i : Int)) (z := (za : Int)) (by simp)
    clear hk hap hge
    have HOff := hid (show ∀ x, x < w11.heap.size → ¬ Fc x ∧ ¬ Gc x from fun x hx => ⟨fun h => by have := HGe.out x (.inl h); omega, fun h => by have := HGe.out x (.inr h); omega⟩)
    have HLe := hid (show ∀ k, Fc k ∨ Gc k → w1.heap.size ≤ k from fun k hk => by have := HGe.out k hk; have := HW11.out.size; omega)
    go_wp2_with fail
    first
      | (have HRa := hid (falls_read HUs.out HI9.out.1 HT3.out HZa.out HZb.out HZz.out).1
         have HRb := hid (falls_read HUs.out HI9.out.1 HT3.out HZa.out HZb.out HZz.out).2)
      | (have HRa := hid (falls_same (z := za) HUs.out HI9.out.1 HT3.out HZa.out (by rw [HZz.out]; exact HZb.out))
         have HRb := hid (falls_same (z := zb) HUs.out HI9.out.1 HT3.out (by rw [← HZz.out]; exact HZa.out) HZb.out))
    first
      | (refine (pk_readNew HP.out HK13.out (i := i) (z := za) (l := la) (s' := s3) (r := 0) (by rw [hh]; exact HI8.out) HZla.out (by omega) (by omega) N7a.out (by rw [hh]; exact HRa.out)).mono ?_
         rintro e w14 ⟨Ax, cx, rfl, hk, hxn⟩
         have HK14 := hid (hk.swap (ls := [Kd.byt Ax 256 cx la, Kd.ref g2 (i : Int) (zb : Int), Kd.ref g (i : Int) (za : Int)]) (List.mem_cons_of_mem _ List.mem_cons_self) HUs.out (by omega) HAp.out HLe.out (by
           intro K hK
           simp only [List.mem_cons, List.not_mem_nil, or_false] at hK
           rcases hK with rfl | rfl | rfl
           · refine ⟨by simp, fun x hx => ?_⟩
             obtain ⟨ad, ha, _, rfl⟩ := hx
             have := hxn ad ha
             exact ⟨fun h => by have := HLt.out _ (.inl h); omega, fun h => by have := HLt.out _ (.inr h); omega⟩
           · refine ⟨by simp, fun x hx => ?_⟩
             obtain rfl : x = g2 := hx
             exact HOff.out _ HGl.out.2
           · refine ⟨by simp, fun x hx => ?_⟩
             obtain rfl : x = g := hx
             exact HOff.out _ HGl.out.1))
         clear hxn)
      | (refine (pk_readNew HP.out HK13.out (i := i) (z := za) (l := lb) (s' := s3) (r := 0) (by rw [hh]; exact HI8.out) HZla.out (by omega) (by omega) N7b.out (by rw [hh]; exact HRa.out)).mono ?_
         rintro e w14 ⟨Ax, cx, rfl, hk, hxn⟩
         have HK14 := hid (hk.swap (ls := [Kd.byt Ax 256 cx lb, Kd.ref g2 (i : Int) (zb : Int), Kd.ref g (i : Int) (za : Int)]) (List.mem_cons_of_mem _ List.mem_cons_self) HUs.out (by omega) HAp.out HLe.out (by
           intro K hK
           simp only [List.mem_cons, List.not_mem_nil, or_false] at hK
           rcases hK with rfl | rfl | rfl
           · refine ⟨by simp, fun x hx => ?_⟩
             obtain ⟨ad, ha, _, rfl⟩ := hx
             have := hxn ad ha
             exact ⟨fun h => by have := HLt.out _ (.inl h); omega, fun h => by have := HLt.out _ (.inr h); omega⟩
           · refine ⟨by simp, fun x hx => ?_⟩
             obtain rfl : x = g2 := hx
             exact HOff.out _ HGl.out.2
           · refine ⟨by simp, fun x hx => ?_⟩
             obtain rfl : x = g := hx
             exact HOff.out _ HGl.out.1))
         clear hxn)
      | (refine (pk_readNew HP.out HK13.out (i := i) (z := za) (l := la) (s' := (s3.put i la)) (r := 1) (by rw [hh]; exact HI8.out) HZla.out (by omega) (by omega) N7a.out (by rw [hh]; exact HRa.out)).mono ?_
         rintro e w14 ⟨Ax, cx, rfl, hk, hxn⟩
         have HK14 := hid (hk.swap (ls := [Kd.byt Ax 256 cx la, Kd.ref g2 (i : Int) (zb : Int), Kd.ref g (i : Int) (za : Int)]) (List.mem_cons_of_mem _ List.mem_cons_self) HUs.out (by omega) HAp.out HLe.out (by
           intro K hK
           simp only [List.mem_cons, List.not_mem_nil, or_false] at hK
           rcases hK with rfl | rfl | rfl
           · refine ⟨by simp, fun x hx => ?_⟩
             obtain ⟨ad, ha, _, rfl⟩ := hx
             have := hxn ad ha
             exact ⟨fun h => by have := HLt.out _ (.inl h); omega, fun h => by have := HLt.out _ (.inr h); omega⟩
           · refine ⟨by simp, fun x hx => ?_⟩
             obtain rfl : x = g2 := hx
             exact HOff.out _ HGl.out.2
           · refine ⟨by simp, fun x hx => ?_⟩
             obtain rfl : x = g := hx
             exact HOff.out _ HGl.out.1))
         clear hxn)
      | (refine (pk_readNo HP.out HK13.out (i := i) (z := za) (l := []) (by rw [hh]; exact HI8.out) HZla.out (by omega) (by omega) (by rw [hh]; exact HRa.out)).mono ?_
         rintro e w14 ⟨Ax, kx, cx, vx, hvx, rfl, hk⟩
         obtain ⟨jx, rfl⟩ := hvx.is (by decide)
         have HK14 := hid (hk.swap (ls := [Kd.ref g2 (i : Int) (zb : Int), Kd.ref g (i : Int) (za : Int)]) List.mem_cons_self HUs.out (by omega) HAp.out HLe.out (by
           intro K hK
           simp only [List.mem_cons, List.not_mem_nil, or_false] at hK
           rcases hK with rfl | rfl
           · refine ⟨by simp, fun x hx => ?_⟩
             obtain rfl : x = g2 := hx
             exact HOff.out _ HGl.out.2
           · refine ⟨by simp, fun x hx => ?_⟩
             obtain rfl : x = g := hx
             exact HOff.out _ HGl.out.1))
         clear hvx)
    clear hk k0 k1
    obtain ⟨k2, k3⟩ := HK14.out.cells (g := g2) (i := (i : Int)) (z := (zb : Int)) (by simp)
    go_wp2_with fail
    first
      | (refine (pk_readNew HP.out HK14.out (i := i) (z := zb) (l := la) (s' := s3) (r := 0) (by rw [hh]; exact HI8.out) HZlb.out (by omega) (by omega) N7a.out (by rw [hh]; exact HRb.out)).mono ?_
         rintro e w15 ⟨Ay, cy, rfl, hk, _⟩
         have HKc := hid hk)
      | (refine (pk_readNew HP.out HK14.out (i := i) (z := zb) (l := lb) (s' := s3) (r := 0) (by rw [hh]; exact HI8.out) HZlb.out (by omega) (by omega) N7b.out (by rw [hh]; exact HRb.out)).mono ?_
         rintro e w15 ⟨Ay, cy, rfl, hk, _⟩
         have HKc := hid hk)
      | (refine (pk_readNew HP.out HK14.out (i := i) (z := zb) (l := lb) (s' := (s3.put i lb)) (r := 1) (by rw [hh]; exact HI8.out) HZlb.out (by omega) (by omega) N7b.out (by rw [hh]; exact HRb.out)).mono ?_
         rintro e w15 ⟨Ay, cy, rfl, hk, _⟩
         have HKc := hid hk)
      | (refine (pk_readNo HP.out HK14.out (i := i) (z := zb) (l := []) (by rw [hh]; exact HI8.out) HZlb.out (by omega) (by omega) (by rw [hh]; exact HRb.out)).mono ?_
         rintro e w15 ⟨Ay, ky, cy, vy, hvy, rfl, hk⟩
         obtain ⟨jy, rfl⟩ := hvy.is (by decide)
         have HKc := hid hk
         clear hvy)
    clear k2 k3
    obtain ⟨k0, k1⟩ := hk.cells (g := g) (i := (i : Int)) (z := (za : Int)) (by simp)
    obtain ⟨k2, k3⟩ := hk.cells (g := g2) (i := (i : Int)) (z := (zb : Int)) (by simp)
    clear hk
    go_wp2_with fail
    first
      | ((with_reducible refine (pk_block HD.out HP.out HKc.out (HA1.out.on HKc.out.below) HLen.out).mono ?_)
         rw [HLa.out]
         rintro e y1 ⟨Aa, ca, rfl, hk, _⟩
         clear HKc
         have HKc := hid hk
         clear hk
         go_wp2_with fail
         refine (pk_same HD.out HP.out HKc.out (A := Ax) (l := la) (by simp) List.mem_cons_self).mono ?_
         rw [same_self]
         rintro e y2 ⟨rfl, hk⟩
         clear HKc
         have HKc := hid hk
         clear hk
         go_wp2_with fail)
      | skip
    first
      | ((with_reducible refine (pk_block HD.out HP.out HKc.out (HBb.out.on HKc.out.below) HLen'.out).mono ?_)
         rw [HLb.out]
         rintro e y3 ⟨Ab, cb, rfl, hk, _⟩
         clear HKc
         have HKc := hid hk
         clear hk
         go_wp2_with fail
         refine (pk_same HD.out HP.out HKc.out (A := Ay) (l := lb) (by simp) List.mem_cons_self).mono ?_
         rw [same_self]
         rintro e y4 ⟨rfl, hk⟩
         clear HKc
         have HKc := hid hk
         clear hk
         go_wp2_with fail)
      | skip
    have HBe := hid (HB1.out.trans (HKc.out.below.mono HB1.out.size))
    first
      | (go_ret; exact ⟨rfl, HBe.out⟩)
      | (go_wp2; go_ret; exact ⟨rfl, HBe.out⟩)
end
end Go.Proofs.YtomhmodgfldlpaaDoor
