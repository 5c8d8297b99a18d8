/- The walk of DevPlays, for whatever keeps the device's calls. -/
import Derived.Test.YtndbanfkiaockaaDoorGPlayR
import Derived.Test.YtndbanfkiaockaaDoorGDos
import Derived.Deep.DeepCutAuto
import Derived.Deep.CutBlock
import Derived.Deep.CutRange
namespace Go.Proofs.YtndbanfkiaockaaDoor
open Go.RowKit

set_option maxRecDepth 100000 in
set_option maxHeartbeats 2000000 in
theorem devPlays_bad {Real : World → Nat → DSt → (Nat → Prop) → Prop} (D : DevOk Real) (S : Nat → Addr) (N : Int) (A : Option Addr) (len cap : Nat) (w : World) (hS : Sent w S) (hN : N < 1 ∨ 6000 < N) :
    Calls Tryd.prog 3 #[.int .i64 N, .slice A len cap] w (Yes w) := by
  have HS := hid hS
  have HD := hid D
  have HN := hid hN
  have hb : (decide (N < 1) = true) ∨ (decide (N < 1) = false ∧ decide (6000 < N) = true) := by
    by_cases h : N < 1
    · exact .inl (by simpa using h)
    · exact .inr ⟨by simpa using h, by simp; omega⟩
  clear hS D hN
  go_enter Tryd.func3, Tryd.ntmps3
  go_wp2_with fail
  refine (first_any HD.out S _ HS.out.five).mono ?_
  rintro e w1 ⟨rfl, hb1⟩
  have HB1 := hid hb1
  have HS1 := hid (HS.out.on hb1)
  clear hb1
  go_wp2_with fail
  refine (HD.out.bad S N _ HS1.out.five HN.out).mono ?_
  rintro e w2 ⟨⟨v, hv, rfl⟩, hb2⟩
  have HV := hid hv
  have HB2 := hid (HB1.out.trans (hb2.mono HB1.out.size))
  have HS2 := hid (HS.out.on HB2.out)
  clear hv hb2
  rcases hb with h1 | ⟨h1, h2⟩
  all_goals
    go_wp2_with fail
    refine (is_any S 103 103 _ _ HS2.out HV.out).mono ?_
    rintro e w3 ⟨rfl, hb3⟩
    have HB3 := hid (HB2.out.trans (hb3.mono HB2.out.size))
    clear hb3
    go_wp2
    go_ret
    exact ⟨rfl, HB3.out.os, HB3.out.tape, HB3.out.output, HB3.out.size, HB3.out.block⟩

theorem add_at (a : Addr) (m : Nat) {j : Nat} (h : 0 < j) : a.add (m + j) = ⟨(a.add m).block, (a.add m).off + j, none⟩ := by
  unfold Addr.add
  by_cases hm : m = 0
  · subst hm; rw [if_neg (by omega), if_pos rfl, Nat.zero_add]
  · rw [if_neg (by omega), if_neg hm]; simp only [Nat.add_assoc]
set_option maxRecDepth 100000 in
set_option maxHeartbeats 40000000 in
theorem devPlays_any {Real : World → Nat → DSt → (Nat → Prop) → Prop} (D : DevOk Real) (S : Nat → Addr) (N : Nat) (A : Option Addr) (len cap : Nat) (T : Nat → Stp) (w : World) (hS : Sent w S) (h1 : 1 ≤ N) (h2 : N ≤ 6000) (hd : Dos w w.heap.size A len T) :
    Calls Tryd.prog 3 #[.int .i64 (N : Int), .slice A len cap] w (Yes w) := by
  have HS := hid hS
  have HD := hid D
  have HDos := hid hd
  have HN1 := hid h1
  have HN2 := hid h2
  have b1 : decide ((N : Int) < 1) = false := by simp; omega
  have b2 : decide ((6000 : Int) < (N : Int)) = false := by simp; omega
  have hb : (decide ((12 : Int) < (N : Int)) = true) ∨ (decide ((12 : Int) < (N : Int)) = false ∧ decide ((60 : Int) < (len : Int)) = true) ∨ (decide ((12 : Int) < (N : Int)) = false ∧ decide ((60 : Int) < (len : Int)) = false ∧ N ≤ 12 ∧ len ≤ 60) := by
    by_cases h : (12 : Int) < (N : Int)
    · exact .inl (by simpa using h)
    · by_cases h' : (60 : Int) < (len : Int)
      · exact .inr (.inl ⟨by simpa using h, by simpa using h'⟩)
      · exact .inr (.inr ⟨by simpa using h, by simpa using h', by omega, by omega⟩)
  clear hS D hd h1 h2
  go_enter Tryd.func3, Tryd.ntmps3
  go_wp2_with fail
  refine (first_any HD.out S _ HS.out.five).mono ?_
  rintro e w1 ⟨rfl, hb1⟩
  have HB1 := hid hb1
  have HS1 := hid (HS.out.on hb1)
  clear hb1
  go_wp2_with fail
  refine (HD.out.new N _ HN1.out HN2.out).mono ?_
  rintro e w2 ⟨p, F, rfl, hr, hb2, hF⟩
  have HR2 := hid hr
  have HB2 := hid (HB1.out.trans (hb2.mono HB1.out.size))
  have HF2 := hid (show ∀ k, F k → w.heap.size ≤ k from fun k hk => by have := hF k hk; have := HB1.out.size; omega)
  clear hr hb2 hF
  rcases hb with g1 | ⟨g1, g2⟩ | ⟨g1, g2, hN, hlen⟩
  · go_wp2
    go_ret
    exact ⟨rfl, HB2.out.os, HB2.out.tape, HB2.out.output, HB2.out.size, HB2.out.block⟩
  · go_wp2
    go_ret
    exact ⟨rfl, HB2.out.os, HB2.out.tape, HB2.out.output, HB2.out.size, HB2.out.block⟩
  have HN := hid hN
  have HL := hid hlen
  clear hN hlen
  go_wp2_with fail
  refine (refNew_any N _ HN2.out HN1.out).mono ?_
  rintro e w3 ⟨x, G, rfl, hx, hb3, hG⟩
  have HP := hid (show Pl Real S w w3 p x (DSt.new N) (DSt.new N) F G from
    ⟨HD.out.kept HR2.out (Kept.of_below hb3 (HD.out.lt HR2.out)), hx, HB2.out.trans (hb3.mono HB2.out.size), HS.out, HF2.out, fun k hk => by have := hG k hk; have := HB2.out.size; omega, fun k hk hg => by have := HD.out.lt HR2.out k hk; have := hG k hg; omega⟩)
  clear hx hb3 hG
  go_wp2
  go_loopw [9] (fun i wr => ∃ (k : Nat) (s : DSt) (F G : Nat → Prop), k ≤ len ∧ i = .int .i64 (k : Int) ∧ Pl Real S w wr p x s s F G ∧ s.okN k ∧ s.blks.length = N) (fun i _ => len - (intOf i).toNat)
  case atStart => exact ⟨0, _, F, G, by omega, rfl, HP.out, okN_new HN2.out, by unfold DSt.new; simp⟩
  case round =>
    obtain ⟨k, s, Fk, Gk, hk, rfl, hpl, hok, hsl⟩ := hrel
    have HPl := hid hpl
    have HOk := hid hok
    have HSl := hid hsl
    clear hpl hok hsl
    by_cases hlt : k < len
    · obtain ⟨ad, had⟩ : ∃ ad, A = some ad := by
        rcases hA : A with _ | ad
        · have := HDos.out.nil hA; omega
        · exact ⟨ad, rfl⟩
      subst had
      have hdk := HDos.out.below HPl.out.below
      have c0 := hdk.at_ ad rfl k hlt 0 (by omega)
      have c1 := hdk.at_ ad rfl k hlt 1 (by omega)
      have c2 := hdk.at_ ad rfl k hlt 2 (by omega)
      have c3 := hdk.at_ ad rfl k hlt 3 (by omega)
      have c4 := hdk.at_ ad rfl k hlt 4 (by omega)
      have c5 := hdk.at_ ad rfl k hlt 5 (by omega)
      have c6 := hdk.at_ ad rfl k hlt 6 (by omega)
      have HT := hid (HDos.out.ok k hlt)
      clear hdk
      rw [add_at ad (k * 7) (by omega)] at c1 c2 c3 c4 c5 c6
      simp only [Stp.cell, Nat.add_zero] at c0 c1 c2 c3 c4 c5 c6
      obtain ⟨tk, htk⟩ : ∃ t, T k = t := ⟨_, rfl⟩
      rw [htk] at c0 c1 c2 c3 c4 c5 c6 HT
      clear htk
      have hq : decide ((400 : Int) < (tk.nB : Int)) = true ∨ (decide ((400 : Int) < (tk.nB : Int)) = false ∧ decide ((20 : Int) < (tk.nP : Int)) = true) ∨ (decide ((400 : Int) < (tk.nB : Int)) = false ∧ decide ((20 : Int) < (tk.nP : Int)) = false ∧ tk.nB ≤ 400 ∧ tk.nP ≤ 20) := by
        by_cases h : (400 : Int) < (tk.nB : Int)
        · exact .inl (by simpa using h)
        · by_cases h' : (20 : Int) < (tk.nP : Int)
          · exact .inr (.inl ⟨by simpa using h, by simpa using h'⟩)
          · exact .inr (.inr ⟨by simpa using h, by simpa using h', by omega, by omega⟩)
      rcases hq with q1 | ⟨q1, q2⟩ | ⟨q1, q2, hnB, hnP⟩
      · have hb : Below w.heap.size w (wr.alloc (Obj.cells #[.int .i64 tk.k, .int .i64 tk.n, .int .i64 tk.t, .int .u8 (tk.b : Int), .int .u32 (tk.z : Int), .slice tk.B tk.nB tk.cB, .slice tk.P tk.nP tk.cP] 36)) :=
          HPl.out.below.trans (Below.mono (show Below wr.heap.size wr _ from ⟨rfl, rfl, rfl, by simp, fun i hi => Below.heap_alloc wr _ i hi⟩) HPl.out.below.size)
        have HBq := hid hb
        clear hb
        go_wp2
        go_ret
        exact ⟨rfl, HBq.out.os, HBq.out.tape, HBq.out.output, HBq.out.size, HBq.out.block⟩
      · have hb : Below w.heap.size w (wr.alloc (Obj.cells #[.int .i64 tk.k, .int .i64 tk.n, .int .i64 tk.t, .int .u8 (tk.b : Int), .int .u32 (tk.z : Int), .slice tk.B tk.nB tk.cB, .slice tk.P tk.nP tk.cP] 36)) :=
          HPl.out.below.trans (Below.mono (show Below wr.heap.size wr _ from ⟨rfl, rfl, rfl, by simp, fun i hi => Below.heap_alloc wr _ i hi⟩) HPl.out.below.size)
        have HBq := hid hb
        clear hb
        go_wp2
        go_ret
        exact ⟨rfl, HBq.out.os, HBq.out.tape, HBq.out.output, HBq.out.size, HBq.out.block⟩
      have HnB := hid hnB
      have HnP := hid hnP
      clear hnB hnP
      go_upto_region 18 with fail
      have hbk := Blk.new wr 36 #[.int .i64 tk.k, .int .i64 tk.n, .int .i64 tk.t, .int .u8 (tk.b : Int), .int .u32 (tk.z : Int), .slice tk.B tk.nB tk.cB, .slice tk.P tk.nP tk.cP]
      have hal : Below wr.heap.size wr (wr.alloc (Obj.cells #[.int .i64 tk.k, .int .i64 tk.n, .int .i64 tk.t, .int .u8 (tk.b : Int), .int .u32 (tk.z : Int), .slice tk.B tk.nB tk.cB, .slice tk.P tk.nP tk.cP] 36)) :=
        ⟨rfl, rfl, rfl, by simp, fun i hi => Below.heap_alloc wr _ i hi⟩
      generalize (wr.alloc (Obj.cells #[.int .i64 tk.k, .int .i64 tk.n, .int .i64 tk.t, .int .u8 (tk.b : Int), .int .u32 (tk.z : Int), .slice tk.B tk.nB tk.cB, .slice tk.P tk.nP tk.cP] 36)) = w4 at hbk hal ⊢
      obtain ⟨g, hg⟩ : ∃ g, wr.heap.size = g := ⟨_, rfl⟩
      have HP4 := hid (HPl.out.on HD.out hal)
      have HG := hid (show (∀ k, Fk k → k < g) ∧ (∀ k, Gk k → k < g) from ⟨fun k hk => hg ▸ HD.out.lt HPl.out.real k hk, fun k hk => hg ▸ HPl.out.ref.lt k hk⟩)
      rw [hg] at hbk ⊢
      have HBk := hid hbk
      clear hbk hal c0 c1 c2 c3 c4 c5 c6 q1 q2 hg
      go_wp2_with fail
      refine (HD.out.clone p s Fk _ HP4.out.real (HOk.out.ok (by have := HL.out; omega))).mono ?_
      rintro e w5 ⟨q, H, rfl, hq, hb5, hH⟩
      have HP5 := hid (HP4.out.on HD.out hb5)
      have HC5 := hid (show Real w5 q s H ∧ (∀ k, H k → ¬ Fk k) ∧ (∀ k, H k → ¬ Gk k) from ⟨hq, fun k hk hf => by have := HD.out.lt HP4.out.real k hf; have := hH k hk; omega, fun k hk hf => by have := HP4.out.ref.lt k hf; have := hH k hk; omega⟩)
      have hk5 := HBk.out.below hb5 HBk.out.lt
      have HBk5 := hid hk5
      have d1 : w5.cell? ⟨g, 1, none⟩ = some (.int .i64 tk.n) := hk5.cell 1
      clear hq hb5 hH hk5 HBk HP4
      go_wp2_with fail
      refine (HD.out.read S q s H tk.n _ HP5.out.sent.five HC5.out.1 (HOk.out.ok (by have := HL.out; omega))).mono ?_
      rintro e w6 ⟨A6, n6, c6, v6, rfl, hv6, hs6, hb6, hn6⟩
      have hk6 := HBk5.out.below hb6 HBk5.out.lt
      have HBk6 := hid hk6
      have HR6 := hid (Rn.start (HP5.out.on HD.out hb6))
      have HC6 := hid (show Real w6 q s H ∧ (∀ k, H k → ¬ Fk k) ∧ (∀ k, H k → ¬ Gk k) from ⟨HD.out.kept HC5.out.1 (Kept.of_below hb6 (HD.out.lt HC5.out.1)), HC5.out.2⟩)
      have HV6 := hid hv6
      have HB6 := hid (show Bt w6 Fk Gk A6 n6 c6 (s.read tk.n).2 from ⟨hs6, fun ad' ha' _ => ⟨fun hf => by have := HD.out.lt HP5.out.real _ hf; have := hn6 _ ha'; omega, fun hf => by have := HP5.out.ref.lt _ hf; have := hn6 _ ha'; omega⟩⟩)
      have e0 : w6.cell? ⟨g, 0, none⟩ = some (.int .i64 tk.k) := hk6.cell 0
      clear hv6 hs6 hb6 hn6 hk6 HP5 HC5 HBk5 d1
      have HZ := hid (show ∀ (wx : World) (s' t' : DSt) (F G : Nat → Prop), Rn Real S w w6 wx Fk Gk p x s' t' F G → Blk wx g 36 #[.int .i64 tk.k, .int .i64 tk.n, .int .i64 tk.t, .int .u8 (tk.b : Int), .int .u32 (tk.z : Int), .slice tk.B tk.nB tk.cB, .slice tk.P tk.nP tk.cP] from
        fun wx s' t' F G hr => (HBk6.out).same (hr.only.block g HBk6.out.lt (fun h => h.elim (fun hf => Nat.lt_irrefl _ (HG.out.1 _ hf)) (fun hf => Nat.lt_irrefl _ (HG.out.2 _ hf)))))
      have HRd := hid (show Rn Real S w w6 w6.drew Fk Gk p x s s Fk Gk from HR6.out.on HD.out ⟨rfl, rfl, rfl, Nat.le_refl _, fun _ _ => rfl⟩)
      have hks : ((tk.k == 1) = true) ∨ ((tk.k == 1) = false ∧ (tk.k == 2) = true) ∨ ((tk.k == 1) = false ∧ (tk.k == 2) = false ∧ (tk.k == 3) = true) ∨ ((tk.k == 1) = false ∧ (tk.k == 2) = false ∧ (tk.k == 3) = false ∧ (tk.k == 4) = true) ∨ ((tk.k == 1) = false ∧ (tk.k == 2) = false ∧ (tk.k == 3) = false ∧ (tk.k == 4) = false ∧ (tk.k == 5) = true) ∨ ((tk.k == 1) = false ∧ (tk.k == 2) = false ∧ (tk.k == 3) = false ∧ (tk.k == 4) = false ∧ (tk.k == 5) = false ∧ (tk.k == 6) = true) ∨ ((tk.k == 1) = false ∧ (tk.k == 2) = false ∧ (tk.k == 3) = false ∧ (tk.k == 4) = false ∧ (tk.k == 5) = false ∧ (tk.k == 6) = false ∧ (tk.k == 7) = true) ∨ ((tk.k == 1) = false ∧ (tk.k == 2) = false ∧ (tk.k == 3) = false ∧ (tk.k == 4) = false ∧ (tk.k == 5) = false ∧ (tk.k == 6) = false ∧ (tk.k == 7) = false) := by
        rcases (tk.k == 1) with _ | _ <;> rcases (tk.k == 2) with _ | _ <;> rcases (tk.k == 3) with _ | _ <;> rcases (tk.k == 4) with _ | _ <;> rcases (tk.k == 5) with _ | _ <;> rcases (tk.k == 6) with _ | _ <;> rcases (tk.k == 7) with _ | _ <;> simp
      have HnL := hid (show k ≤ 1000 by have := HL.out; omega)
      go_upto_block 2 with fail
      clear e0
      go_cut [] from 57 to 300 (fun wx => ∃ (t : DSt) (F G : Nat → Prop), Rn Real S w w6 wx Fk Gk p x t t F G ∧ t.okN (k + 1) ∧ t.blks.length = N)
      case first =>
        rcases hks with m1 | ⟨m1, m2⟩ | ⟨m1, m2, m3⟩ | ⟨m1, m2, m3, m4⟩ | ⟨m1, m2, m3, m4, m5⟩ | ⟨m1, m2, m3, m4, m5, m6⟩ | ⟨m1, m2, m3, m4, m5, m6, m7⟩ | ⟨m1, m2, m3, m4, m5, m6, m7⟩
        · as_aux_lemma =>
            go_upto_region 24 with fail
            have hzd : w6.drew.cell? ⟨g, 1, none⟩ = some (.int .i64 tk.n) ∧ w6.drew.cell? ⟨g, 3, none⟩ = some (.int .u8 (tk.b : Int)) := ⟨(HZ.out _ _ _ _ _ HRd.out).cell 1, (HZ.out _ _ _ _ _ HRd.out).cell 3⟩
            go_region_held3 (fun w' => w'.cell? ⟨g, 1, none⟩ = some (.int .i64 tk.n) ∧ w'.cell? ⟨g, 3, none⟩ = some (.int .u8 (tk.b : Int))) (assumption)
              ((first
              | (go_at_call 15; have h8 := HR8.out; clear h8; refine (rn_whole HD.out tk.b HR8.out).mono ?_; rintro e w9 ⟨A9, c9, rfl, hr9, hb9⟩; have HR9 := hid hr9; have HB9 := hid hb9; have hzw9 : w9.cell? ⟨g, 1, none⟩ = some (.int .i64 tk.n) ∧ w9.cell? ⟨g, 3, none⟩ = some (.int .u8 (tk.b : Int)) := ⟨(HZ.out _ _ _ _ _ hr9).cell 1, (HZ.out _ _ _ _ _ hr9).cell 3⟩; clear hr9 hb9)
              | (go_at_call 15; refine (rn_whole HD.out tk.b HRd.out).mono ?_; rintro e w7 ⟨A7, c7, rfl, hr7, hb7⟩; have HR7 := hid hr7; have HB7 := hid hb7; have hzw7 : w7.cell? ⟨g, 1, none⟩ = some (.int .i64 tk.n) ∧ w7.cell? ⟨g, 3, none⟩ = some (.int .u8 (tk.b : Int)) := ⟨(HZ.out _ _ _ _ _ hr7).cell 1, (HZ.out _ _ _ _ _ hr7).cell 3⟩; clear hr7 hb7)
              | (go_at_call 14; refine (rn_write HD.out HR7.out HOk.out HnL.out HB7.out (full_byt HT.out.b) (show 256 ≤ 1000 from (of_decide_eq_true rfl))).mono ?_; rintro e w8 ⟨v8, rfl, hv8, F8, hr8⟩; have HV8 := hid hv8; have HR8 := hid hr8; have hzw8 : w8.cell? ⟨g, 1, none⟩ = some (.int .i64 tk.n) ∧ w8.cell? ⟨g, 3, none⟩ = some (.int .u8 (tk.b : Int)) := ⟨(HZ.out _ _ _ _ _ hr8).cell 1, (HZ.out _ _ _ _ _ hr8).cell 3⟩; clear hv8 hr8)
              | (go_at_call 16; refine (rn_writeR HD.out HR9.out HOk.out HnL.out HB9.out (show 256 ≤ 1000 from (of_decide_eq_true rfl))).mono ?_; rintro e w10 ⟨rfl, G10, hr10⟩; have HR10 := hid hr10; have hzw10 : w10.cell? ⟨g, 1, none⟩ = some (.int .i64 tk.n) ∧ w10.cell? ⟨g, 3, none⟩ = some (.int .u8 (tk.b : Int)) := ⟨(HZ.out _ _ _ _ _ hr10).cell 1, (HZ.out _ _ _ _ _ hr10).cell 3⟩; clear hr10)
              | (go_at_call 10; refine (is_any S (s.write tk.n (full tk.b)).1 (s.write tk.n (full tk.b)).1 _ _ HR10.out.pl.sent HV8.out).mono ?_; rintro e w11 ⟨rfl, hb11⟩; rw [beq_self_eq_true]; have HR11 := hid (HR10.out.on HD.out hb11); have hzw11 : w11.cell? ⟨g, 1, none⟩ = some (.int .i64 tk.n) ∧ w11.cell? ⟨g, 3, none⟩ = some (.int .u8 (tk.b : Int)) := ⟨(HZ.out _ _ _ _ _ HR11.out).cell 1, (HZ.out _ _ _ _ _ HR11.out).cell 3⟩; clear hb11)))
            go_wp2_with fail
            go_meet
            exact ⟨_, _, _, HR11.out, okN_write HOk.out (full_byt HT.out.b), (write_len _ _ _).trans HSl.out⟩
        · as_aux_lemma =>
            go_wp2_with fail
            refine (rn_flush HD.out HR6.out HOk.out HnL.out).mono ?_
            rintro e w7 ⟨v7, rfl, hv7, F7, hr7⟩
            have HV7 := hid hv7
            have HR7 := hid hr7
            clear hv7 hr7
            go_wp2_with fail
            refine (rn_flushR HD.out HR7.out HOk.out HnL.out).mono ?_
            rintro e w8 ⟨rfl, G8, hr8⟩
            have HR8 := hid hr8
            clear hr8
            go_wp2_with fail
            refine (is_any S _ s.flush.1 _ _ HR8.out.pl.sent HV7.out).mono ?_
            rintro e w9 ⟨rfl, hb9⟩
            rw [beq_self_eq_true]
            have HR9 := hid (HR8.out.on HD.out hb9)
            clear hb9
            go_wp2_with fail
            go_meet
            exact ⟨_, _, _, HR9.out, okN_flush HOk.out, (flush_len _).trans HSl.out⟩
        · as_aux_lemma =>
            have z6 := (HZ.out _ _ _ _ _ HR6.out).cell 1
            simp at z6
            go_wp2_with fail
            refine (rn_arm HD.out HR6.out HOk.out HnL.out).mono ?_
            rintro e w7 ⟨rfl, F7, hr7⟩
            have HR7 := hid hr7
            have z7 : w7.cell? ⟨g, 1, none⟩ = some (.int .i64 tk.n) := (HZ.out _ _ _ _ _ hr7).cell 1
            clear hr7
            go_wp2_with fail
            refine (rn_armR HD.out HR7.out).mono ?_
            rintro e w8 ⟨rfl, G8, hr8⟩
            have HR8 := hid hr8
            clear hr8
            go_wp2_with fail
            go_meet
            exact ⟨_, _, _, HR8.out, (okN_arm HOk.out HT.out.n1).more (Nat.le_succ _), HSl.out⟩
        · as_aux_lemma =>
            have z6 : w6.cell? ⟨g, 6, none⟩ = some (.slice tk.P tk.nP tk.cP) := (HZ.out _ _ _ _ _ HR6.out).cell 6
            have hnp : tk.nP ≤ 1000 := by have := HnP.out; omega
            have HNP := hid hnp
            clear hnp
            go_wp2_with fail
            refine (rn_crash HD.out HR6.out HOk.out HnL.out HT.out.hP HNP.out).mono ?_
            rintro e w7 ⟨rfl, F7, hr7⟩
            have HR7 := hid hr7
            have z7 : w7.cell? ⟨g, 6, none⟩ = some (.slice tk.P tk.nP tk.cP) := (HZ.out _ _ _ _ _ hr7).cell 6
            clear hr7
            go_wp2_with fail
            refine (rn_crashR HD.out HR7.out HOk.out HnL.out HT.out.hP HNP.out).mono ?_
            rintro e w8 ⟨rfl, G8, hr8⟩
            have HR8 := hid hr8
            clear hr8
            go_wp2_with fail
            go_meet
            exact ⟨_, _, _, HR8.out, (okN_crash HOk.out).more (Nat.le_succ _), (crash_len _ _).trans HSl.out⟩
        · as_aux_lemma =>
            go_upto_region 36 with fail
            have hzd : w6.drew.cell? ⟨g, 1, none⟩ = some (.int .i64 tk.n) ∧ w6.drew.cell? ⟨g, 2, none⟩ = some (.int .i64 tk.t) ∧ w6.drew.cell? ⟨g, 4, none⟩ = some (.int .u32 (tk.z : Int)) := ⟨(HZ.out _ _ _ _ _ HRd.out).cell 1, (HZ.out _ _ _ _ _ HRd.out).cell 2, (HZ.out _ _ _ _ _ HRd.out).cell 4⟩
            go_region_held3 (fun w' => w'.cell? ⟨g, 1, none⟩ = some (.int .i64 tk.n) ∧ w'.cell? ⟨g, 2, none⟩ = some (.int .i64 tk.t) ∧ w'.cell? ⟨g, 4, none⟩ = some (.int .u32 (tk.z : Int))) (assumption)
              ((first
              | (go_at_call 23; refine (rn_spoil HD.out HRd.out HOk.out HnL.out HT.out.z).mono ?_; rintro e w7 ⟨rfl, F7, hr7⟩; have HR7 := hid hr7; have hzw7 : w7.cell? ⟨g, 1, none⟩ = some (.int .i64 tk.n) ∧ w7.cell? ⟨g, 2, none⟩ = some (.int .i64 tk.t) ∧ w7.cell? ⟨g, 4, none⟩ = some (.int .u32 (tk.z : Int)) := ⟨(HZ.out _ _ _ _ _ hr7).cell 1, (HZ.out _ _ _ _ _ hr7).cell 2, (HZ.out _ _ _ _ _ hr7).cell 4⟩; clear hr7)
              | (go_at_call 24; refine (rn_spoilR HD.out HR7.out HOk.out HnL.out).mono ?_; rintro e w8 ⟨rfl, G8, hr8⟩; have HR8 := hid hr8; have hzw8 : w8.cell? ⟨g, 1, none⟩ = some (.int .i64 tk.n) ∧ w8.cell? ⟨g, 2, none⟩ = some (.int .i64 tk.t) ∧ w8.cell? ⟨g, 4, none⟩ = some (.int .u32 (tk.z : Int)) := ⟨(HZ.out _ _ _ _ _ hr8).cell 1, (HZ.out _ _ _ _ _ hr8).cell 2, (HZ.out _ _ _ _ _ hr8).cell 4⟩; clear hr8)))
            go_wp2_with fail
            go_meet
            exact ⟨_, _, _, HR8.out, (okN_spoil HOk.out).more (Nat.le_succ _), (spoil_len _ _ _ _).trans HSl.out⟩
        · as_aux_lemma =>
            go_upto_region 39 with fail
            have hzd : w6.drew.cell? ⟨g, 1, none⟩ = some (.int .i64 tk.n) := (HZ.out _ _ _ _ _ HRd.out).cell 1
            go_region_held3 (fun w' => w'.cell? ⟨g, 1, none⟩ = some (.int .i64 tk.n)) (assumption)
              ((first
              | (go_at_call 25; refine (rn_fail HD.out HRd.out HOk.out HnL.out).mono ?_; rintro e w7 ⟨rfl, F7, hr7⟩; have HR7 := hid hr7; have hzw7 : w7.cell? ⟨g, 1, none⟩ = some (.int .i64 tk.n) := (HZ.out _ _ _ _ _ hr7).cell 1; clear hr7)
              | (go_at_call 26; refine (rn_failR HD.out HR7.out).mono ?_; rintro e w8 ⟨rfl, G8, hr8⟩; have HR8 := hid hr8; have hzw8 : w8.cell? ⟨g, 1, none⟩ = some (.int .i64 tk.n) := (HZ.out _ _ _ _ _ hr8).cell 1; clear hr8)))
            go_wp2_with fail
            go_meet
            exact ⟨_, _, _, HR8.out, (okN_fail HOk.out).more (Nat.le_succ _), (fail_len _ _).trans HSl.out⟩
        · as_aux_lemma =>
            go_upto_region 42 with fail
            have hzd : w6.drew.cell? ⟨g, 1, none⟩ = some (.int .i64 tk.n) ∧ w6.drew.cell? ⟨g, 3, none⟩ = some (.int .u8 (tk.b : Int)) := ⟨(HZ.out _ _ _ _ _ HRd.out).cell 1, (HZ.out _ _ _ _ _ HRd.out).cell 3⟩
            go_region_held3 (fun w' => w'.cell? ⟨g, 1, none⟩ = some (.int .i64 tk.n) ∧ w'.cell? ⟨g, 3, none⟩ = some (.int .u8 (tk.b : Int))) (assumption)
              ((first
              | (go_at_call 15; have h8 := HR8.out; clear h8; refine (rn_whole HD.out tk.b HR8.out).mono ?_; rintro e w9 ⟨A9, c9, rfl, hr9, hb9⟩; have HR9 := hid hr9; have HB9 := hid hb9; have hzw9 : w9.cell? ⟨g, 1, none⟩ = some (.int .i64 tk.n) ∧ w9.cell? ⟨g, 3, none⟩ = some (.int .u8 (tk.b : Int)) := ⟨(HZ.out _ _ _ _ _ hr9).cell 1, (HZ.out _ _ _ _ _ hr9).cell 3⟩; clear hr9 hb9)
              | (go_at_call 15; refine (rn_whole HD.out tk.b HRd.out).mono ?_; rintro e w7 ⟨A7, c7, rfl, hr7, hb7⟩; have HR7 := hid hr7; have HB7 := hid hb7; have hzw7 : w7.cell? ⟨g, 1, none⟩ = some (.int .i64 tk.n) ∧ w7.cell? ⟨g, 3, none⟩ = some (.int .u8 (tk.b : Int)) := ⟨(HZ.out _ _ _ _ _ hr7).cell 1, (HZ.out _ _ _ _ _ hr7).cell 3⟩; clear hr7 hb7)
              | (go_at_call 27; refine (rn_raw HD.out HR7.out HOk.out HnL.out HB7.out (full_byt HT.out.b) (show 256 ≤ 1000 from (of_decide_eq_true rfl))).mono ?_; rintro e w8 ⟨rfl, F8, hr8⟩; have HR8 := hid hr8; have hzw8 : w8.cell? ⟨g, 1, none⟩ = some (.int .i64 tk.n) ∧ w8.cell? ⟨g, 3, none⟩ = some (.int .u8 (tk.b : Int)) := ⟨(HZ.out _ _ _ _ _ hr8).cell 1, (HZ.out _ _ _ _ _ hr8).cell 3⟩; clear hr8)
              | (go_at_call 28; refine (rn_rawR HD.out HR9.out HB9.out (show 256 ≤ 1000 from (of_decide_eq_true rfl))).mono ?_; rintro e w10 ⟨rfl, G10, hr10⟩; have HR10 := hid hr10; have hzw10 : w10.cell? ⟨g, 1, none⟩ = some (.int .i64 tk.n) ∧ w10.cell? ⟨g, 3, none⟩ = some (.int .u8 (tk.b : Int)) := ⟨(HZ.out _ _ _ _ _ hr10).cell 1, (HZ.out _ _ _ _ _ hr10).cell 3⟩; clear hr10)))
            go_wp2_with fail
            go_meet
            exact ⟨_, _, _, HR10.out, (okN_raw HOk.out (full_byt HT.out.b)).more (Nat.le_succ _), (raw_len _ _ _).trans HSl.out⟩
        · as_aux_lemma =>
            have hnb : tk.nB ≤ 1000 := by have := HnB.out; omega
            have HNB := hid hnb
            clear hnb
            go_upto_region 21 with fail
            have hzd : w6.drew.cell? ⟨g, 1, none⟩ = some (.int .i64 tk.n) ∧ w6.drew.cell? ⟨g, 5, none⟩ = some (.slice tk.B tk.nB tk.cB) := ⟨(HZ.out _ _ _ _ _ HRd.out).cell 1, (HZ.out _ _ _ _ _ HRd.out).cell 5⟩
            go_region_held3 (fun w' => w'.cell? ⟨g, 1, none⟩ = some (.int .i64 tk.n) ∧ w'.cell? ⟨g, 5, none⟩ = some (.slice tk.B tk.nB tk.cB)) (assumption)
              ((first
              | (go_at_call 14; refine (rn_write HD.out HRd.out HOk.out HnL.out (HRd.out.pl.bytes HT.out.hB) HT.out.yB HNB.out).mono ?_; rintro e w8 ⟨v8, rfl, hv8, F8, hr8⟩; have HV8 := hid hv8; have HR8 := hid hr8; have hzw8 : w8.cell? ⟨g, 1, none⟩ = some (.int .i64 tk.n) ∧ w8.cell? ⟨g, 5, none⟩ = some (.slice tk.B tk.nB tk.cB) := ⟨(HZ.out _ _ _ _ _ hr8).cell 1, (HZ.out _ _ _ _ _ hr8).cell 5⟩; clear hv8 hr8)
              | (go_at_call 16; refine (rn_writeR HD.out HR8.out HOk.out HnL.out (HR8.out.pl.bytes HT.out.hB) HNB.out).mono ?_; rintro e w10 ⟨rfl, G10, hr10⟩; have HR10 := hid hr10; have hzw10 : w10.cell? ⟨g, 1, none⟩ = some (.int .i64 tk.n) ∧ w10.cell? ⟨g, 5, none⟩ = some (.slice tk.B tk.nB tk.cB) := ⟨(HZ.out _ _ _ _ _ hr10).cell 1, (HZ.out _ _ _ _ _ hr10).cell 5⟩; clear hr10)
              | (go_at_call 10; refine (is_any S (s.write tk.n tk.lB).1 (s.write tk.n tk.lB).1 _ _ HR10.out.pl.sent HV8.out).mono ?_; rintro e w11 ⟨rfl, hb11⟩; rw [beq_self_eq_true]; have HR11 := hid (HR10.out.on HD.out hb11); have hzw11 : w11.cell? ⟨g, 1, none⟩ = some (.int .i64 tk.n) ∧ w11.cell? ⟨g, 5, none⟩ = some (.slice tk.B tk.nB tk.cB) := ⟨(HZ.out _ _ _ _ _ HR11.out).cell 1, (HZ.out _ _ _ _ _ HR11.out).cell 5⟩; clear hb11)))
            go_wp2_with fail
            go_meet
            exact ⟨_, _, _, HR11.out, okN_write HOk.out HT.out.yB, (write_len _ _ _).trans HSl.out⟩
      case rest =>
        rename World => wx
        obtain ⟨t, F', G', hrn, hok', hl'⟩ := hcut
        have HRn := hid hrn
        have HOt := hid (hok'.ok (by have := HL.out; omega))
        have HOt1 := hid hok'
        have HLt := hid hl'
        clear hrn hok' hl' hks
        have hn12 : (N : Int) ≤ 12 := by have := HN.out; omega
        go_wp2
        go_loopw [14] (fun v wy => ∃ i : Int, -1 ≤ i ∧ i ≤ (N : Int) + 1 ∧ v = .int .i64 i ∧ Rn Real S w w6 wy Fk Gk p x t t F' G') (fun v _ => ((N : Int) + 1 - intOf v).toNat)
        case atStart => exact ⟨-1, by omega, by omega, rfl, HRn.out⟩
        case round =>
          rename World => wy
          obtain ⟨i, hi0, hi1, rfl, hrj⟩ := hrel
          have HRj := hid hrj
          clear hrj
          by_cases hle : i ≤ (N : Int)
          · have hwi : IntKind.i64.wrap (i + 1) = i + 1 := by rw [IntKind.wrap_i64]; omega
            have hld : decide (i ≤ (N : Int)) = true := by simpa using hle
            go_wp2_with fail
            refine (HD.out.read S p t F' i _ HRj.out.pl.sent.five HRj.out.pl.real HOt.out).mono ?_
            rintro e y1 ⟨A1, n1, c1, v1, rfl, hv1, hs1, hb1, _⟩
            have HR1 := hid (HRj.out.on HD.out hb1)
            have HL1 := hid hs1
            have HV1 := hid hv1
            clear hs1 hb1 hv1
            go_wp2_with fail
            refine (refRead_any x t G' i _ HR1.out.pl.ref HOt.out).mono ?_
            rintro e y2 ⟨A2, n2, c2, rfl, hs2, hb2⟩
            have HR2 := hid (HR1.out.on HD.out hb2)
            have HL1b := hid ((HL1.out.below hb2).more hb2.size)
            have HL2 := hid hs2
            clear hs2 hb2 HL1
            have hin : (∃ j : Nat, i = (j : Int) ∧ j < N) ∨ (decide (0 ≤ i) = true ∧ decide (i < (N : Int)) = false ∧ t.faulted i = false) ∨ (decide (0 ≤ i) = false ∧ t.faulted i = false) := by
              by_cases h0 : 0 ≤ i
              · by_cases h1 : i < (N : Int)
                · exact .inl ⟨i.toNat, by omega, by omega⟩
                · exact .inr (.inl ⟨by simpa using h0, by simpa using h1, not_faulted (by rw [HLt.out]; omega)⟩)
              · exact .inr (.inr ⟨by simpa using h0, not_faulted (by omega)⟩)
            obtain ⟨fb, hfb⟩ : ∃ b, t.faulted i = b := ⟨_, rfl⟩
            have HFb := hid hfb
            rw [hfb] at hin
            clear hfb
            rcases hin with ⟨j, rfl, hjN⟩ | ⟨g0, g1, rfl⟩ | ⟨g0, rfl⟩
            all_goals
              first
                | (have g0 : decide ((0 : Int) ≤ (j : Int)) = true := (by simp)
                   have g1 : decide ((j : Int) < (N : Int)) = true := (by simpa using hjN))
                | skip
              go_wp2_with fail
              refine (is_any S (t.read _).1 (t.read _).1 _ _ HR2.out.pl.sent HV1.out).mono ?_
              rintro e y3 ⟨rfl, hb3⟩
              rw [beq_self_eq_true]
              have HR3 := hid (HR2.out.on HD.out hb3)
              have HL1c := hid (HL1b.out.below hb3)
              have HL2c := hid (HL2.out.below hb3)
              clear hb3 HL1b HL2 HR2
              go_wp2_with fail
              refine (same_any _ _ _ _ _ _ (t.read _).2 (t.read _).2 _ _ _ HL1c.out HL2c.out).mono ?_
              rintro e y4 ⟨rfl, k4, hy4⟩
              rw [same_self]
              have HR4 := hid (show Rn Real S w w6 y4 Fk Gk p x t t F' G' from by subst hy4; exact HR3.out.on HD.out ⟨rfl, rfl, rfl, Nat.le_refl _, fun _ _ => rfl⟩)
              clear hy4 HR3 HL1c HL2c
              go_wp2_with fail
              refine (HD.out.faulted p t F' _ _ HR4.out.pl.real HOt.out).mono ?_
              rintro e y5 ⟨rfl, k5, hy5⟩
              rw [HFb.out]
              have HR5 := hid (show Rn Real S w w6 y5 Fk Gk p x t t F' G' from by subst hy5; exact HR4.out.on HD.out ⟨rfl, rfl, rfl, Nat.le_refl _, fun _ _ => rfl⟩)
              clear hy5 HR4
              first
                | (obtain ⟨adf, f3, fj⟩ := ref_fault HR5.out.pl.ref (j := j) (by rw [HLt.out]; exact hjN)
                   rw [HLt.out] at f3
                   rw [HFb.out] at fj
                   have hj0 : (0 : Int) ≤ (j : Int) := (by omega)
                   have hj1 : (j : Int) < (N : Int) := (by omega))
                | skip
              go_wp2
              go_roundw
              case rel => exact ⟨_, by omega, by omega, rfl, HR5.out⟩
              case measure => simp [intOf]; omega
          · have hie : i = (N : Int) + 1 := by omega
            have hld : decide (i ≤ (N : Int)) = false := by simpa using hle
            have z1 : wy.cell? ⟨g, 1, none⟩ = some (.int .i64 tk.n) := (HZ.out _ _ _ _ _ HRj.out).cell 1
            have HC := hid (show Real wy q s H from HD.out.kept HC6.out.1 (HRj.out.only.kept (HD.out.lt HC6.out.1) (fun k' hk' h => h.elim (HC6.out.2.1 k' hk') (HC6.out.2.2 k' hk'))))
            have HB := hid (HRj.out.sl HB6.out)
            clear hie
            go_wp2_with fail
            refine (HD.out.read S q s H tk.n _ HRj.out.pl.sent.five HC.out (HOk.out.ok (by have := HL.out; omega))).mono ?_
            rintro e y1 ⟨A1, n1, c1, v1, rfl, hv1, hs1, hb1, _⟩
            have HR1 := hid (HRj.out.on HD.out hb1)
            have HL1 := hid hs1
            have HL6 := hid ((HB.out.1.below hb1).more hb1.size)
            have HV1 := hid hv1
            have hrc := ref_cells HR1.out.pl.ref
            clear hs1 hb1 hv1 HB HC z1
            have hvv : (v6 = .nilIface ∧ v1 = .nilIface) ∨ (∃ j1, v6 = .iface 143 (.pointer (some (S j1)))) ∧ ∃ j2, v1 = .iface 143 (.pointer (some (S j2))) := by
              by_cases hc0 : (s.read tk.n).1 = 0
              · have e1 := HV6.out
                have e2 := HV1.out
                rw [hc0] at e1 e2
                exact .inl ⟨e1.nil, e2.nil⟩
              · exact .inr ⟨HV6.out.is hc0, HV1.out.is hc0⟩
            have HR1d := hid (show Rn Real S w w6 y1.drew Fk Gk p x t t F' G' from HR1.out.on HD.out ⟨rfl, rfl, rfl, Nat.le_refl _, fun _ _ => rfl⟩)
            have hzd : y1.drew.cell? ⟨x, 8, none⟩ = some (.bool t.down) ∧ y1.drew.cell? ⟨x, 6, none⟩ = some (.int .i64 (t.calls : Int)) := hrc
            clear hrc HV6 HV1
            have HY1 := hid (show Below y1.heap.size y1 y1.drew from ⟨rfl, rfl, rfl, Nat.le_refl _, fun _ _ => rfl⟩)
            have hk60 : (k : Int) < 60 := by have := HL.out; omega
            rcases hvv with ⟨rfl, rfl⟩ | ⟨⟨j1, rfl⟩, ⟨j2, rfl⟩⟩
            all_goals as_aux_lemma =>
              go_upto_region 53 with fail
              go_region_held3 (fun w' => w'.cell? ⟨x, 8, none⟩ = some (.bool t.down) ∧ w'.cell? ⟨x, 6, none⟩ = some (.int .i64 (t.calls : Int))) (assumption)
                ((first
                | (go_at_call 32; refine (HD.out.down p t F' _ HR1d.out.pl.real HOt.out).mono ?_; rintro e y2 ⟨rfl, k2, hy2⟩; have HR2 := hid (show Rn Real S w w6 y2 Fk Gk p x t t F' G' from by subst hy2; exact HR1d.out.on HD.out ⟨rfl, rfl, rfl, Nat.le_refl _, fun _ _ => rfl⟩); have HY2 := hid (show Below y1.heap.size y1 y2 from by subst hy2; exact below_drewN HY1.out k2); have hz2 : y2.cell? ⟨x, 8, none⟩ = some (.bool t.down) ∧ y2.cell? ⟨x, 6, none⟩ = some (.int .i64 (t.calls : Int)) := ref_cells HR2.out.pl.ref; clear hy2)
                | (go_at_call 33; refine (HD.out.pending p t F' _ HR2.out.pl.real HOt.out).mono ?_; rintro e y3 ⟨rfl, k3, hy3⟩; have HR3 := hid (show Rn Real S w w6 y3 Fk Gk p x t t F' G' from by subst hy3; exact HR2.out.on HD.out ⟨rfl, rfl, rfl, Nat.le_refl _, fun _ _ => rfl⟩); have HY3 := hid (show Below y1.heap.size y1 y3 from by subst hy3; exact below_drewN HY2.out k3); have hz3 : y3.cell? ⟨x, 8, none⟩ = some (.bool t.down) ∧ y3.cell? ⟨x, 6, none⟩ = some (.int .i64 (t.calls : Int)) := ref_cells HR3.out.pl.ref; clear hy3)
                | (go_at_call 34; refine (refPending_any x t G' _ HR3.out.pl.ref HOt.out).mono ?_; rintro e y4 ⟨rfl, hy4⟩; have HR4 := hid (show Rn Real S w w6 y4 Fk Gk p x t t F' G' from by subst hy4; exact HR3.out); have HY4 := hid (show Below y1.heap.size y1 y4 from by subst hy4; exact HY3.out); have hz4 : y4.cell? ⟨x, 8, none⟩ = some (.bool t.down) ∧ y4.cell? ⟨x, 6, none⟩ = some (.int .i64 (t.calls : Int)) := ref_cells HR4.out.pl.ref; clear hy4)
                | (go_at_call 35; refine (HD.out.calls p t F' _ HR4.out.pl.real HOt.out).mono ?_; rintro e y5 ⟨rfl, k5, hy5⟩; have HR5 := hid (show Rn Real S w w6 y5 Fk Gk p x t t F' G' from by subst hy5; exact HR4.out.on HD.out ⟨rfl, rfl, rfl, Nat.le_refl _, fun _ _ => rfl⟩); have HY5 := hid (show Below y1.heap.size y1 y5 from by subst hy5; exact below_drewN HY4.out k5); have hz5 : y5.cell? ⟨x, 8, none⟩ = some (.bool t.down) ∧ y5.cell? ⟨x, 6, none⟩ = some (.int .i64 (t.calls : Int)) := ref_cells HR5.out.pl.ref; clear hy5)
                | (go_at_call 36; refine (HD.out.blocks p t F' _ HR5.out.pl.real HOt.out).mono ?_; rw [HLt.out]; rintro e y6 ⟨rfl, k6, hy6⟩; have HR6 := hid (show Rn Real S w w6 y6 Fk Gk p x t t F' G' from by subst hy6; exact HR5.out.on HD.out ⟨rfl, rfl, rfl, Nat.le_refl _, fun _ _ => rfl⟩); have HY6 := hid (show Below y1.heap.size y1 y6 from by subst hy6; exact below_drewN HY5.out k6); have hz6 : y6.cell? ⟨x, 8, none⟩ = some (.bool t.down) ∧ y6.cell? ⟨x, 6, none⟩ = some (.int .i64 (t.calls : Int)) := ref_cells HR6.out.pl.ref; clear hy6)
                | (go_at_call 37; refine (HD.out.ever p t F' _ HR6.out.pl.real HOt.out).mono ?_; rintro e y7 ⟨rfl, hb7⟩; have HR7 := hid (HR6.out.on HD.out hb7); have HY7 := hid (HY6.out.trans (hb7.mono HY6.out.size)); have hz7 : y7.cell? ⟨x, 8, none⟩ = some (.bool t.down) ∧ y7.cell? ⟨x, 6, none⟩ = some (.int .i64 (t.calls : Int)) := ref_cells HR7.out.pl.ref; clear hb7)
                | (go_at_call 38; refine (refEver_any x t G' _ HR7.out.pl.ref HOt.out).mono ?_; rintro e y8 ⟨rfl, hy8⟩; have HR8 := hid (show Rn Real S w w6 y8 Fk Gk p x t t F' G' from by subst hy8; exact HR7.out); have HY8 := hid (show Below y1.heap.size y1 y8 from by subst hy8; exact HY7.out); have hz8 : y8.cell? ⟨x, 8, none⟩ = some (.bool t.down) ∧ y8.cell? ⟨x, 6, none⟩ = some (.int .i64 (t.calls : Int)) := ref_cells HR8.out.pl.ref; clear hy8)
                | (go_at_call 30; refine (same_any _ _ _ _ _ _ (s.read tk.n).2 (s.read tk.n).2 _ _ _ (HL6.out.below HY8.out) (HL1.out.below HY8.out)).mono ?_; rintro e y9 ⟨rfl, k9, hy9⟩; rw [same_self]; have HR9 := hid (show Rn Real S w w6 y9 Fk Gk p x t t F' G' from by subst hy9; exact HR8.out.on HD.out ⟨rfl, rfl, rfl, Nat.le_refl _, fun _ _ => rfl⟩); have hz9 : y9.cell? ⟨x, 8, none⟩ = some (.bool t.down) ∧ y9.cell? ⟨x, 6, none⟩ = some (.int .i64 (t.calls : Int)) := ref_cells HR9.out.pl.ref; clear hy9)))
              go_wp2
              go_roundw
              case rel => exact ⟨k + 1, t, F', G', by omega, by go_num, HR9.out.pl, HOt1.out, HLt.out⟩
              case measure => simp [intOf]; omega
    · have hfl : decide ((k : Int) < (len : Int)) = false := by simp; omega
      go_wp2
      go_ret
      have hb := HPl.out.below
      exact ⟨rfl, hb.os, hb.tape, hb.output, hb.size, hb.block⟩
end Go.Proofs.YtndbanfkiaockaaDoor
