/- The laws' own helpers on pairs, and each step of a play, over whatever keeps the calls. -/
import Derived.Test.YtomhmodgfldlpaaDoorGPairIf
import Derived.Test.YtomhmodgfldlpaaDoorGFull
namespace Go.Proofs.YtomhmodgfldlpaaDoor
open Go.RowKit

theorem block_any (A : Option Addr) (n c : Nat) (l : List Int) (w : World) (h : Sl w w.heap.size A n c l) (hn : n ≤ 256) : Calls Tryd.prog 12 #[.slice A n c] w (Anew w 256 (padB l)) := by
  have HS := hid h
  clear h
  go_enter Tryd.func12, Tryd.ntmps12
  go_wp2_with fail
  refine (full_any A n c l _ HS.out hn).mono ?_
  rintro e w1 h1
  obtain ⟨v, rfl, hx⟩ := h1
  have HX := hid hx
  clear hx
  go_wp2
  go_ret
  exact ⟨_, rfl, HX.out⟩
section
variable {Real : World → Nat → DSt → (Nat → Prop) → Prop} {PR : World → Nat → Nat → Nat → Nat → (Nat → Prop) → Prop}
set_option maxHeartbeats 1000000 in
theorem good_any (D : DevOk Real) (S : Nat → Addr) (d i n q : Nat) (s : DSt) (x : BSt) (F : Nat → Prop) (A : Option Addr) (c : Nat) (l : List Int) (w : World) (hS : Sent5 w S) (hr : Real w d s F) (hu : Up s n q) (hq : q ≤ 1000) (hi : i < n) (hx : s.blks[i]? = some x) (hl : Sl w w.heap.size A 256 c l) :
    Calls Tryd.prog 17 #[.pointer (some ⟨d, 0, none⟩), .int .i64 (i : Int), .slice A 256 c] w fun e w' => e = .returned (.bool (x.good l)) ∧ Below w.heap.size w w' := by
  have HS := hid hS
  have HR := hid hr
  have HO := hid (hu.ok (by omega))
  have HE := hid (hu.read hi hx)
  have HL := hid hl
  obtain ⟨g, hg⟩ : ∃ g, x.good l = g := ⟨_, rfl⟩
  have HG := hid hg
  rw [hg]
  clear hS hr hu hx hl hg
  go_enter Tryd.func17, Tryd.ntmps17
  go_wp2_with fail
  refine (D.read S d s F _ _ HS.out HR.out HO.out).mono ?_
  rw [HE.out]
  rintro e w1 ⟨B, k, cb, v, rfl, hv, hb, hbl, _⟩
  have HB := hid hb
  have HBl := hid hbl
  have HL1 := hid (HL.out.on hbl)
  obtain ⟨⟨code, y⟩, hxy⟩ : ∃ z, x.read = z := ⟨_, rfl⟩
  have HXY := hid hxy
  rw [hxy] at hv HB
  clear hbl hb hxy
  by_cases hc : code = 0
  · have hgd : g = sameB y l := by
      rw [← HG.out]; unfold BSt.good; rw [HXY.out, hc]; simp
    have hv2 : v = .nilIface := by rw [hc] at hv; exact hv.nil
    subst hv2
    have HGd := hid hgd
    clear hv hgd hc
    go_wp2_with fail
    refine (same_any _ _ _ _ _ _ _ _ _ _ _ HB.out HL1.out).mono ?_
    rintro e w2 ⟨rfl, k2, rfl⟩
    rw [← HGd.out]
    go_wp2
    go_ret
    exact ⟨rfl, below_drewN HBl.out k2⟩
  · have hgd : g = false := by
      rw [← HG.out]; unfold BSt.good; rw [HXY.out]; simp [hc]
    obtain ⟨j, hv2⟩ := hv.is hc
    subst hv2
    subst hgd
    clear hv hc
    go_wp2
    go_ret
    exact ⟨rfl, HBl.out⟩
set_option maxHeartbeats 1000000 in
theorem opened_any (D : DevOk Real) (P : PairOk Real PR) (S : Nat → Addr) (n : Nat) (w : World) (hS : Sent5 w S) (h0 : 300 ≤ n) (h1 : n ≤ 6000) :
    Calls Tryd.prog 9 #[.int .i64 (n : Int)] w fun e w' => ∃ p d F G, e = .returned (.tuple #[.pointer (some ⟨p, 0, none⟩), .pointer (some ⟨d, 0, none⟩)]) ∧ Pd Real PR S w w' d p (DSt.new n) n 0 0 F G := by
  have HS := hid hS
  have HD := hid D
  have HP := hid P
  have H0 := hid h0
  have H1 := hid h1
  clear hS D P h0 h1
  go_enter Tryd.func9, Tryd.ntmps9
  go_wp2_with fail
  refine (HD.out.new n _ (by have := H0.out; omega) H1.out).mono ?_
  rintro e w1 ⟨d, F, rfl, hr, hb, hf⟩
  have HR := hid hr
  have HB := hid hb
  have HF := hid hf
  clear hr hb hf
  go_wp2_with fail
  refine (HP.out.open_ S d (DSt.new n) F _ (HS.out.on HB.out) HR.out ((up_new H1.out).ok (by omega)) (by simp [DSt.new]; exact H0.out)).mono ?_
  rintro e w2 ⟨p, G, rfl, hp, hb2, hg⟩
  have HPd := hid (show Pd Real PR S w w2 d p (DSt.new n) n 0 0 F G from
    ⟨HD.out.kept HR.out (Kept.of_below hb2 (HD.out.lt HR.out)), by simpa [DSt.new] using hp, HB.out.trans (hb2.mono HB.out.size), HS.out, HF.out, fun k hk => by have := hg k hk; have := HB.out.size; omega, fun k hk hg' => by have := HD.out.lt HR.out k hk; have := hg k hg'; omega, up_new H1.out, by omega, H0.out, H1.out⟩)
  clear hp hb2 hg
  go_wp2
  go_ret2
  exact ⟨p, d, F, G, rfl, HPd.out⟩

/-! each step of a play -/
variable {S : Nat → Addr} {w0 w : World} {d p n m q : Nat} {s : DSt} {F G : Nat → Prop}
/-- what a step leaves -/
def Stepped (Real : World → Nat → DSt → (Nat → Prop) → Prop) (PR : World → Nat → Nat → Nat → Nat → (Nat → Prop) → Prop) (S : Nat → Addr) (w0 w : World) (d p : Nat) (s' : DSt) (n m' q' : Nat) (F G : Nat → Prop) (Q : (Nat → Prop) → (Nat → Prop) → Prop) (w' : World) : Prop :=
  ∃ F' G', Pd Real PR S w0 w' d p s' n m' q' F' G' ∧ Only (fun k => F k ∨ G k) w w' ∧ (∀ k, F' k → F k ∨ G k ∨ w.heap.size ≤ k) ∧ (∀ k, G' k → F k ∨ G k ∨ w.heap.size ≤ k) ∧ Q F' G'
theorem pd_flush (D : DevOk Real) (P : PairOk Real PR) (h : Pd Real PR S w0 w d p s n m q F G) (hq : q + 1 ≤ 1000) :
    Calls Tryd.prog 14 #[.pointer (some ⟨d, 0, none⟩)] w fun e w' => e = .returned .nilIface ∧ Stepped Real PR S w0 w d p (fl s) n m (q + 1) F G (fun _ _ => True) w' := by
  obtain ⟨he, hu⟩ := h.up.flush
  refine (D.flush S d s F w h.sent h.real h.ok).mono ?_
  rintro e w' ⟨⟨v, hv, rfl⟩, hupd⟩
  rw [he] at hv hupd
  obtain ⟨F', h1, h2, h3⟩ := h.dev P hupd hu hq
  exact ⟨by rw [hv.nil], F', G, h1, h2, h3, fun k hk => .inr (.inl hk), trivial⟩
theorem pd_spoil (D : DevOk Real) (P : PairOk Real PR) (h : Pd Real PR S w0 w d p s n m q F G) (i at' : Int) (bits : Nat) (hb : bits < 4294967296) :
    Calls Tryd.prog 15 #[.pointer (some ⟨d, 0, none⟩), .int .i64 i, .int .i64 at', .int .u32 (bits : Int)] w fun e w' => e = .returned (.bool (s.spoil i at' bits).1) ∧ Stepped Real PR S w0 w d p (s.spoil i at' bits).2 n m q F G (fun _ _ => True) w' := by
  refine (D.spoil d s F i at' bits w h.real h.ok hb).mono ?_
  rintro e w' ⟨rfl, hupd⟩
  obtain ⟨F', h1, h2, h3⟩ := h.dev P hupd (h.up.spoil i at' bits) h.small
  exact ⟨rfl, F', G, h1, h2, h3, fun k hk => .inr (.inl hk), trivial⟩
theorem pd_fail (D : DevOk Real) (P : PairOk Real PR) (h : Pd Real PR S w0 w d p s n m q F G) (i : Int) :
    Calls Tryd.prog 16 #[.pointer (some ⟨d, 0, none⟩), .int .i64 i] w fun e w' => e = .returned (.bool (s.fail i).1) ∧ Stepped Real PR S w0 w d p (s.fail i).2 n m q F G (fun _ _ => True) w' := by
  refine (D.fail d s F i w h.real h.ok).mono ?_
  rintro e w' ⟨rfl, hupd⟩
  obtain ⟨F', h1, h2, h3⟩ := h.dev P hupd (h.up.fail i) h.small
  exact ⟨rfl, F', G, h1, h2, h3, fun k hk => .inr (.inl hk), trivial⟩
theorem crc_nats {l : List Int} (h : Byt l) : crcOf (nats l) < 4294967296 := crc_lt (nats_bts h)
theorem pd_write (P : PairOk Real PR) (h : Pd Real PR S w0 w d p s n m q F G) {i : Nat} (hi : i < halN n) {A : Option Addr} {c : Nat} {l : List Int} (hl : Sl w w.heap.size A 256 c l) (hA : ∀ ad, A = some ad → ¬ F ad.block ∧ ¬ G ad.block) (hb : Byt l) (hq : q + 2 ≤ 1000) :
    Calls Tryd.prog 11 #[.pointer (some ⟨p, 0, none⟩), .int .i64 (i : Int), .slice A 256 c] w fun e w' => e = .returned (.tuple #[refV i (crcOf (nats l)), .nilIface]) ∧ Stepped Real PR S w0 w d p (pWrite s (halN n) i l) n m (q + 2) F G (fun _ _ => True) w' := by
  have h2 := halN_two (n := n)
  obtain ⟨_, u1⟩ := h.up.write (i := i) (by omega) hl.len hb
  obtain ⟨_, u2⟩ := u1.write (i := i + halN n) (by omega) hl.len hb
  refine (P.write S p d n m i q s F G A c l w0 w h.sent0 h.below h.fn h.real h.pr h.ap h.up h.small h.n0 h.n1 hi hl hA hb).mono ?_
  rintro e w' ⟨rfl, hupd⟩
  exact ⟨rfl, h.prs hupd u2 hq⟩
theorem pd_writeBad (P : PairOk Real PR) (h : Pd Real PR S w0 w d p s n m q F G) {i : Int} (hi : i < 0 ∨ (halN n : Int) ≤ i) {A : Option Addr} {c : Nat} {l : List Int} (hl : Sl w w.heap.size A 256 c l) :
    Calls Tryd.prog 11 #[.pointer (some ⟨p, 0, none⟩), .int .i64 i, .slice A 256 c] w fun e w' => (∃ a z v, EV S 103 v ∧ e = .returned (.tuple #[.agg #[.int .i64 a, .int .u32 z], v])) ∧ Stepped Real PR S w0 w d p s n m q F G (fun _ _ => True) w' := by
  refine (P.writeBad S p d n m q i s F G A c l w h.sent h.real h.pr h.ap h.up h.small h.n0 h.n1 hi hl).mono ?_
  rintro e w' ⟨he, hupd⟩
  exact ⟨he, h.prs hupd h.up h.small⟩
theorem up_pRead (h : Up s n q) {i z : Nat} (hi : i < halN n) : Up (pRead s (halN n) i z).2.2.1 n (q + 1) := by
  have h2 := halN_two (n := n)
  unfold pRead
  split
  · exact h.more (Nat.le_succ _)
  · split
    · rename_i hr
      obtain ⟨b, hb⟩ := h.at_ (i := i + halN n) (by omega)
      have e := h.read (by omega) hb
      have ho := h.okN.1 b (List.mem_of_getElem? hb)
      have h0 : b.read.1 = 0 := by
        rw [h.right (by omega) hb] at hr
        unfold BSt.right at hr
        simp only [Bool.and_eq_true, beq_iff_eq] at hr
        exact hr.1
      have hl : b.read.2.length = 256 ∧ Byt b.read.2 := by
        unfold BSt.read at h0 ⊢
        split
        · exact ⟨ho.2.2.2, ho.2.2.1⟩
        · split
          · rename_i h3 h4; rw [if_neg h3, if_pos h4] at h0; cases h0
          · exact ⟨ho.2.1, ho.1⟩
      rw [e]
      exact (h.write (by omega) hl.1 hl.2).2
    · exact h.more (Nat.le_succ _)
theorem pd_read (P : PairOk Real PR) (h : Pd Real PR S w0 w d p s n m q F G) {i z : Nat} (hi : i < halN n) (hz : z < 4294967296) (hq : q + 1 ≤ 1000) (hm : m ≤ 1000) :
    Calls Tryd.prog 18 #[.pointer (some ⟨p, 0, none⟩), refV i z] w fun e w' => ∃ A k c v, e = .returned (.tuple #[.slice A k c, v]) ∧ EV S (pRead s (halN n) i z).1 v ∧ ((pRead s (halN n) i z).1 = 0 → Sl w' w'.heap.size A k c (pRead s (halN n) i z).2.1) ∧
      Stepped Real PR S w0 w d p (pRead s (halN n) i z).2.2.1 n (m + (pRead s (halN n) i z).2.2.2) (q + 1) F G (fun F' G' => (pRead s (halN n) i z).1 = 0 → ∀ ad, A = some ad → w.heap.size ≤ ad.block ∧ ¬ F' ad.block ∧ ¬ G' ad.block) w' := by
  refine (P.read S p d n m i z q s F G w h.sent h.real h.pr h.ap h.up h.small hm h.n0 h.n1 hi hz).mono ?_
  rintro e w' ⟨A, k, c, v, he, hv, hl, hupd⟩
  exact ⟨A, k, c, v, he, hv, hl, h.prs hupd (up_pRead h.up hi) hq⟩
theorem pd_readBad (P : PairOk Real PR) (h : Pd Real PR S w0 w d p s n m q F G) {i : Int} {z : Nat} (hi : i < 0 ∨ (halN n : Int) ≤ i) (hz : z < 4294967296) :
    Calls Tryd.prog 18 #[.pointer (some ⟨p, 0, none⟩), .agg #[.int .i64 i, .int .u32 (z : Int)]] w fun e w' => (∃ A k c v, e = .returned (.tuple #[.slice A k c, v]) ∧ EV S 103 v) ∧ Stepped Real PR S w0 w d p s n m q F G (fun _ _ => True) w' := by
  refine (P.readBad S p d n m q i z s F G w h.sent h.real h.pr h.ap h.up h.small h.n0 h.n1 hi hz).mono ?_
  rintro e w' ⟨he, hupd⟩
  exact ⟨he, h.prs hupd h.up h.small⟩
theorem right_data {b : BSt} {z : Nat} (ho : b.ok) (hr : b.right z = true) : b.read.2.length = 256 ∧ Byt b.read.2 := by
  have h0 : b.read.1 = 0 := by
    unfold BSt.right at hr
    simp only [Bool.and_eq_true, beq_iff_eq] at hr
    exact hr.1
  unfold BSt.read at h0 ⊢
  split
  · exact ⟨ho.2.2.2, ho.2.2.1⟩
  · split
    · rename_i h3 h4; rw [if_neg h3, if_pos h4] at h0; cases h0
    · exact ⟨ho.2.1, ho.1⟩
theorem up_pMend (h : Up s n q) {i z : Nat} (hi : i < halN n) : Up (pMend s (halN n) i z).2.2 n (q + 1) := by
  have h2 := halN_two (n := n)
  obtain ⟨a, ha⟩ := h.at_ (i := i) (by omega)
  obtain ⟨b, hb⟩ := h.at_ (i := i + halN n) (by omega)
  unfold pMend
  split
  · split
    · exact h.more (Nat.le_succ _)
    · rename_i hr _
      rw [h.right (by omega) ha] at hr
      have hd := right_data (h.okN.1 a (List.mem_of_getElem? ha)) hr
      rw [h.read (by omega) ha]
      exact (h.write (by omega) hd.1 hd.2).2
  · split
    · rename_i hr
      rw [h.right (by omega) hb] at hr
      have hd := right_data (h.okN.1 b (List.mem_of_getElem? hb)) hr
      rw [h.read (by omega) hb]
      exact (h.write (by omega) hd.1 hd.2).2
    · exact h.more (Nat.le_succ _)
theorem pd_mend (P : PairOk Real PR) (h : Pd Real PR S w0 w d p s n m q F G) {i z : Nat} (hi : i < halN n) (hz : z < 4294967296) (hq : q + 1 ≤ 1000) (hm : m ≤ 1000) :
    Calls Tryd.prog 21 #[.pointer (some ⟨p, 0, none⟩), refV i z] w fun e w' => (∃ v, e = .returned (.tuple #[.int .i64 ((pMend s (halN n) i z).2.1 : Int), v]) ∧ EV S (pMend s (halN n) i z).1 v) ∧
      Stepped Real PR S w0 w d p (pMend s (halN n) i z).2.2 n (m + (pMend s (halN n) i z).2.1) (q + 1) F G (fun _ _ => True) w' := by
  refine (P.mend S p d n m i z q s F G w h.sent h.real h.pr h.ap h.up h.small hm h.n0 h.n1 hi hz).mono ?_
  rintro e w' ⟨he, hupd⟩
  exact ⟨he, h.prs hupd (up_pMend h.up hi) hq⟩
end
end Go.Proofs.YtomhmodgfldlpaaDoor
