/- The walk of PairReads, for whatever keeps the calls. -/
import Derived.Test.YtomhmodgfldlpaaDoorGPairReadsK
import Derived.Deep.DeepCutAuto
import Derived.Deep.CutBlock
import Derived.Deep.CutRange
import Derived.Test.YtomhmodgfldlpaaDoorGPos
namespace Go.Proofs.YtomhmodgfldlpaaDoor
open Go.RowKit

theorem and1_i64 (t : Int) : ∃ b : Nat, b ≤ 1 ∧ bits .and .i64 t 1 = (b : Int) := by
  refine ⟨(BitVec.ofInt 64 t).toNat % 2, by omega, ?_⟩
  show IntKind.i64.wrap ((BitVec.ofInt 64 t &&& BitVec.ofInt 64 1).toNat : Int) = _
  have h1 : (BitVec.ofInt 64 (1 : Int)).toNat = 1 := by decide
  rw [BitVec.toNat_and, h1, Nat.and_one_is_mod, IntKind.wrap_i64]
  omega
theorem add_atP (a : Addr) (m : Nat) {j : Nat} (h : 0 < j) : a.add (m + j) = ⟨(a.add m).block, (a.add m).off + j, none⟩ := by
  unfold Addr.add
  by_cases hm : m = 0
  · subst hm; rw [if_neg (by omega), if_pos rfl, Nat.zero_add]
  · rw [if_neg (by omega), if_neg hm]; simp only [Nat.add_assoc]
theorem Tryd.eqNil (W : World) : (binOp .eql 28 (.slice none 0 0) (.slice none 0 0)).run Tryd.prog W = .ok (.bool true) W := by kernel_rfl
theorem Tryd.eqSome (a : Addr) (n c : Nat) (W : World) : (binOp .eql 28 (.slice (some a) n c) (.slice none 0 0)).run Tryd.prog W = .ok (.bool false) W := by kernel_rfl
section
variable {Real : World → Nat → DSt → (Nat → Prop) → Prop} {PR : World → Nat → Nat → Nat → Nat → (Nat → Prop) → Prop}
set_option maxRecDepth 100000 in
set_option maxHeartbeats 1000000 in
theorem pairReads_long (D : DevOk Real) (P : PairOk Real PR) (S : Nat → Addr) (A : Option Addr) (len cap : Nat) (w : World) (hS : Sent5 w S) (h : 60 < len) (hm : len ≤ 9223372036854775807) :
    Calls Tryd.prog 3 #[.slice A len cap] w (Yes w) := by
  have HS := hid hS
  have HD := hid D
  have HP := hid P
  have g1 : decide ((60 : Int) < (len : Int)) = true := by simp; omega
  clear hS D P
  go_enter Tryd.func3, Tryd.ntmps3
  go_wp2_with fail
  refine (firstP_any HD.out HP.out S _ HS.out).mono ?_
  rintro e w1 ⟨rfl, hb1⟩
  have HB1 := hid hb1
  clear hb1
  go_wp2
  go_ret
  exact ⟨rfl, HB1.out⟩
set_option maxRecDepth 100000 in
set_option maxHeartbeats 4000000 in
theorem pairReads_any (D : DevOk Real) (P : PairOk Real PR) (S : Nat → Addr) (A : Option Addr) (len cap : Nat) (T : Nat → Ptp) (w : World) (hS : Sent w S) (hlen : len ≤ 60) (hd : Pos w w.heap.size A len T) :
    Calls Tryd.prog 3 #[.slice A len cap] w (Yes w) := by
  have HS := hid hS
  have HD := hid D
  have HP := hid P
  have HLen := hid hlen
  have HPo := hid hd
  have g1 : decide ((60 : Int) < (len : Int)) = false := by simp; omega
  clear hS D P hlen hd
  go_enter Tryd.func3, Tryd.ntmps3
  go_wp2_with fail
  refine (firstP_any HD.out HP.out S _ HS.out.five).mono ?_
  rintro e w1 ⟨rfl, hb1⟩
  have HB1 := hid hb1
  have HS1 := hid (HS.out.on hb1)
  have HPo1 := hid (HPo.out.below hb1)
  clear hb1
  go_wp2_with fail
  refine (pk_opened HD.out HP.out 300 _ HS1.out.five (by omega) (by omega)).mono ?_
  rintro e w2 ⟨p, d, rfl, hk⟩
  have HK2 := hid hk
  have HKa := hid ((hk.put HD.out HP.out 29 Tryd.zeroCells29).put HD.out HP.out 33 Tryd.zeroCells33)
  clear hk
  go_wp2
  have hsz : (w2.alloc (.cells Tryd.zeroCells29 29)).heap.size = w2.heap.size + 1 := by simp
  rw [hsz] at HKa
  generalize ((w2.alloc (.cells Tryd.zeroCells29 29)).alloc (.cells Tryd.zeroCells33 33)) = w3 at HKa ⊢
  obtain ⟨h, hh'⟩ : ∃ h, w2.heap.size = h := ⟨_, rfl⟩
  rw [hh'] at HKa ⊢
  have HH0 := hid (show w1.heap.size ≤ h from hh' ▸ HK2.out.below.size)
  obtain ⟨r, hr'⟩ : ∃ r, h + 1 = r := ⟨_, rfl⟩
  rw [hr'] at HKa ⊢
  have HRh := hid hr'
  have HK3 := hid (HKa.out.swapKd [Kd.have_ h (fun _ => none), Kd.refs r (fun _ => (0, 0))] (by
    intro L hL
    simp only [List.mem_cons, List.not_mem_nil, or_false] at hL
    rcases hL with rfl | rfl
    · refine ⟨_, List.mem_cons_of_mem _ List.mem_cons_self, fun hc => have_new hc, fun g hg => ?_⟩
      rcases hg with hg | ⟨_, _, _, _, _, _, e, _⟩
      · exact hg
      · cases e
    · exact ⟨_, List.mem_cons_self, fun hc => refs_new hc, fun g hg => hg⟩))
  clear hh' hr' hsz
  go_loopw [8] (fun v wr => ∃ (k m q : Nat) (s : DSt) (hv : Hv) (rf : Nat → Int × Int), k ≤ len ∧ v = .int .i64 (k : Int) ∧ m ≤ k ∧ q ≤ 3 * k ∧ Ply s (fun n => (hv n).map (·.2.2)) ∧ (∀ n, n < 6 → ∀ A c l, hv n = some (A, c, l) → rf n = ((n : Int), ((crcOf (nats l) : Nat) : Int))) ∧ Pk Real PR S w1 wr d p s 300 m q [Kd.have_ h hv, Kd.refs r rf]) (fun v _ => len - (intOf v).toNat)
  case atStart => exact ⟨0, 0, 0, _, _, _, Nat.zero_le _, rfl, Nat.le_refl _, Nat.le_refl _, Ply.none _, fun n _ A c l e => (by cases e), HK3.out⟩
  case round =>
    obtain ⟨k, m, q, s, hv, rf, hk, rfl, hm, hq, hp, hrf, hkr⟩ := hrel
    have HM := hid hm
    have HQ := hid hq
    have HPl := hid hp
    have HRf := hid hrf
    have HKr := hid hkr
    clear hm hq hp hrf hkr
    by_cases hlt : k < len
    · obtain ⟨ad, had⟩ : ∃ ad, A = some ad := by
        rcases hA : A with _ | ad
        · have := HPo.out.nil hA; omega
        · exact ⟨ad, rfl⟩
      subst had
      have hdk := HPo1.out.below (HKr.out.below.mono HB1.out.size)
      have c0 := hdk.at_ ad rfl k hlt 0 (by omega)
      have c1 := hdk.at_ ad rfl k hlt 1 (by omega)
      have c2 := hdk.at_ ad rfl k hlt 2 (by omega)
      have c3 := hdk.at_ ad rfl k hlt 3 (by omega)
      have c4 := hdk.at_ ad rfl k hlt 4 (by omega)
      have HT := hid (HPo1.out.ok k hlt)
      clear hdk
      rw [add_atP ad (k * 5) (by omega)] at c1 c2 c3 c4
      simp only [Ptp.cell, Nat.add_zero] at c0 c1 c2 c3 c4
      obtain ⟨tk, htk⟩ : ∃ t, T k = t := ⟨_, rfl⟩
      rw [htk] at c0 c1 c2 c3 c4 HT
      clear htk
      have hq : decide ((256 : Int) < (tk.nB : Int)) = true ∨ (decide ((256 : Int) < (tk.nB : Int)) = false ∧ tk.nB ≤ 256) := by
        by_cases h : (256 : Int) < (tk.nB : Int)
        · exact .inl (by simpa using h)
        · exact .inr ⟨by simpa using h, by omega⟩
      rcases hq with q1 | ⟨q1, hnB⟩
      · have HBq := hid (HB1.out.trans (HKr.out.below.mono HB1.out.size))
        go_wp2
        go_ret
        exact ⟨rfl, HBq.out.alloc HBq.out.size _⟩
      have HnB := hid hnB
      have hn0 : 0 ≤ tk.n % 6 := Int.emod_nonneg _ (by omega)
      have hn1 : tk.n % 6 < 6 := Int.emod_lt_of_pos _ (by omega)
      obtain ⟨n, hn⟩ : ∃ n : Nat, tk.n % 6 = (n : Int) := ⟨(tk.n % 6).toNat, by omega⟩
      have HN := hid hn
      have HN6 := hid (show n < 6 by omega)
      have hn5 : (n : Int) ≤ 5 := by omega
      clear hnB hn0 hn1 hn
      have HKb := hid (HKr.out.put HD.out HP.out 35 #[.int .i64 tk.k, .int .i64 tk.n, .int .i64 tk.t, .int .u32 (tk.z : Int), .slice tk.B tk.nB tk.cB])
      go_wp2_with fail
      generalize (wr.alloc (.cells #[.int .i64 tk.k, .int .i64 tk.n, .int .i64 tk.t, .int .u32 (tk.z : Int), .slice tk.B tk.nB tk.cB] 35)) = w4 at HKb ⊢
      obtain ⟨g, hg⟩ : ∃ g, wr.heap.size = g := ⟨_, rfl⟩
      rw [hg] at HKb ⊢
      clear hg c0 c1 c2 c3 c4
      refine (number_any tk.n 6 _ (by omega) (by omega)).mono ?_
      rw [HN.out]
      rintro e w5 ⟨rfl, rfl⟩
      obtain ⟨F4, G4, hF4, hk4⟩ := HKb.out
      have hbk : Blk w4 g 35 #[.int .i64 tk.k, .int .i64 tk.n, .int .i64 tk.t, .int .u32 (tk.z : Int), .slice tk.B tk.nB tk.cB] := (hk4 _ List.mem_cons_self).1
      have HBk := hid hbk
      have e0 : w4.cell? ⟨g, 0, none⟩ = some (.int .i64 tk.k) := hbk.cell 0
      have e2 : w4.cell? ⟨g, 2, none⟩ = some (.int .i64 tk.t) := hbk.cell 2
      have e3 : w4.cell? ⟨g, 3, none⟩ = some (.int .u32 (tk.z : Int)) := hbk.cell 3
      have e4 : w4.cell? ⟨g, 4, none⟩ = some (.slice tk.B tk.nB tk.cB) := hbk.cell 4
      clear hF4 hk4 hbk
      have hks : ((tk.k == 1) = true) ∨ ((tk.k == 1) = false ∧ (tk.k == 2) = true) ∨ ((tk.k == 1) = false ∧ (tk.k == 2) = false ∧ (tk.k == 3) = true) ∨ ((tk.k == 1) = false ∧ (tk.k == 2) = false ∧ (tk.k == 3) = false ∧ (tk.k == 4) = true) ∨ ((tk.k == 1) = false ∧ (tk.k == 2) = false ∧ (tk.k == 3) = false ∧ (tk.k == 4) = false) := by
        rcases (tk.k == 1) with _ | _ <;> rcases (tk.k == 2) with _ | _ <;> rcases (tk.k == 3) with _ | _ <;> rcases (tk.k == 4) with _ | _ <;> simp
      rcases hks with m1 | ⟨m1, m2⟩ | ⟨m1, m2, m3⟩ | ⟨m1, m2, m3, m4⟩ | ⟨m1, m2, m3, m4⟩
      · as_aux_lemma =>
          have hby : Byt (padB tk.lB) := padB_byt HT.out.yB
          have hn256 : (padB tk.lB).length = 256 := padB_len (by rw [HT.out.hB.len]; exact HnB.out)
          obtain ⟨l, hl⟩ : ∃ l, padB tk.lB = l := ⟨_, rfl⟩
          have HL := hid hl
          rw [hl] at hby hn256
          have HY := hid hby
          have N7 := hid hn256
          obtain ⟨z, hz⟩ : ∃ z, crcOf (nats l) = z := ⟨_, rfl⟩
          have HZ := hid hz
          have hh : halN 300 = 75 := by decide
          have HSl := hid (HT.out.hB.more HB1.out.size)
          clear hl hby hn256 hz
          go_wp2_with fail
          refine (pk_block HD.out HP.out HKb.out (HSl.out.on HKb.out.below) HnB.out).mono ?_
          rw [HL.out]
          rintro e w5 ⟨A5, c5, rfl, hk5, _⟩
          have HK5 := hid hk5
          clear hk5
          go_wp2_with fail
          refine (pk_write HP.out (i := n) (by rw [hh]; have := HN6.out; omega) HY.out (by have := HQ.out; have := HLen.out; omega) HK5.out).mono ?_
          rw [HZ.out, hh]
          rintro e w6 ⟨rfl, hk6⟩
          have HK7 := hid (hk6.box HD.out HP.out (n : Int) z)
          have hlt6 := hk6.lt_ (K := Kd.have_ h hv) (by simp) (.inl rfl)
          clear hk6
          go_wp2_with fail
          generalize hw7 : (w6.alloc (.cells #[.int .i64 (n : Int), .int .u32 (z : Int)] 32)) = w7 at HK7 ⊢
          obtain ⟨g2, hg2⟩ : ∃ g, w6.heap.size = g := ⟨_, rfl⟩
          rw [hg2] at HK7 hlt6 ⊢
          have HG2 := hid hlt6
          clear hlt6 hg2 hw7 e0 e2 e3 e4
          have HK7d := hid (HK7.out.on HD.out HP.out (w' := w7.drew) ⟨rfl, rfl, rfl, Nat.le_refl _, fun _ _ => rfl⟩)
          obtain ⟨Kw, hKw⟩ : ∃ Kw : World → Prop, Kw = fun w' => w'.cell? ⟨g2, 0, none⟩ = some (.int .i64 (n : Int)) ∧ w'.cell? ⟨g2, 1, none⟩ = some (.int .u32 (z : Int)) ∧ w'.cell? ⟨g, 4, none⟩ = some (.slice tk.B tk.nB tk.cB) := ⟨_, rfl⟩
          have HZw := hid (show ∀ (w' : World) (q' m' : Nat) (s' : DSt) (ls : List Kd), Pk Real PR S w1 w' d p s' 300 m' q' ls → Kd.ref g2 (n : Int) (z : Int) ∈ ls → Kd.cells g 35 #[.int .i64 tk.k, .int .i64 tk.n, .int .i64 tk.t, .int .u32 (tk.z : Int), .slice tk.B tk.nB tk.cB] ∈ ls → w'.cell? ⟨g2, 0, none⟩ = some (.int .i64 (n : Int)) ∧ w'.cell? ⟨g2, 1, none⟩ = some (.int .u32 (z : Int)) ∧ w'.cell? ⟨g, 4, none⟩ = some (.slice tk.B tk.nB tk.cB) from fun w' q' m' s' ls hp h1 h2 => by
            have hc := hp.cells h1
            have hb : Blk w' g 35 #[.int .i64 tk.k, .int .i64 tk.n, .int .i64 tk.t, .int .u32 (tk.z : Int), .slice tk.B tk.nB tk.cB] := hp.at_ h2
            exact ⟨hc.1, hc.2, hb.cell 4⟩)
          have hzd : w7.drew.cell? ⟨g2, 0, none⟩ = some (.int .i64 (n : Int)) ∧ w7.drew.cell? ⟨g2, 1, none⟩ = some (.int .u32 (z : Int)) ∧ w7.drew.cell? ⟨g, 4, none⟩ = some (.slice tk.B tk.nB tk.cB) := HZw.out _ _ _ _ _ HK7d.out (by simp) (by simp)
          clear hKw Kw
          go_region_held3 (fun w' => w'.cell? ⟨g2, 0, none⟩ = some (.int .i64 (n : Int)) ∧ w'.cell? ⟨g2, 1, none⟩ = some (.int .u32 (z : Int)) ∧ w'.cell? ⟨g, 4, none⟩ = some (.slice tk.B tk.nB tk.cB)) (assumption)
            ((first
            | (go_at_call 12; refine (pk_block HD.out HP.out HK7d.out (HSl.out.on HK7d.out.below) HnB.out).mono ?_; rw [HL.out]; rintro e w8 ⟨A8, c8, rfl, hk8, _⟩; have HK8 := hid hk8; have hz8 : w8.cell? ⟨g2, 0, none⟩ = some (.int .i64 (n : Int)) ∧ w8.cell? ⟨g2, 1, none⟩ = some (.int .u32 (z : Int)) ∧ w8.cell? ⟨g, 4, none⟩ = some (.slice tk.B tk.nB tk.cB) := HZw.out _ _ _ _ _ hk8 (by simp) (by simp); clear hk8)
            | (go_at_call 13; refine (refSum_any A8 256 c8 w8.heap.size l w8 (HK8.out.bytes List.mem_cons_self) HY.out).mono ?_; rw [HZ.out]; rintro e w9 ⟨rfl, hw9⟩; have HK9 := hid (show Pk Real PR S w1 w9 d p (pWrite s 75 n l) 300 m (q + 2) [Kd.byt A8 256 c8 l, Kd.ref g2 (n : Int) (z : Int), Kd.cells g 35 #[.int .i64 tk.k, .int .i64 tk.n, .int .i64 tk.t, .int .u32 (tk.z : Int), .slice tk.B tk.nB tk.cB], Kd.have_ h hv, Kd.refs r rf] from by subst hw9; exact HK8.out); have hz9 : w9.cell? ⟨g2, 0, none⟩ = some (.int .i64 (n : Int)) ∧ w9.cell? ⟨g2, 1, none⟩ = some (.int .u32 (z : Int)) ∧ w9.cell? ⟨g, 4, none⟩ = some (.slice tk.B tk.nB tk.cB) := HZw.out _ _ _ _ _ HK9.out (by simp) (by simp); clear hw9)))
          go_wp2_with fail
          refine (pk_blockN HD.out HP.out HK9.out (HSl.out.on HK9.out.below) HnB.out).mono ?_
          rw [HL.out]
          rintro e w10 ⟨A10, c10, rfl, hk10, hn10⟩
          have hi10 : HaveIn w10 h hv := hk10.at_ (K := Kd.have_ h hv) (by simp)
          have hc10 := hi10.cell HN6.out
          have fr10 := hi10.free
          have hr9 : r < w9.heap.size := HK9.out.lt_ (K := Kd.refs r rf) (by simp) rfl
          have HK11 := hid (hk10.setHave HD.out HP.out HN6.out HH0.out HRh.out HG2.out (A := A10) (c := c10) (l := l) (hv := hv) (rf := rf) (x := (n : Int)) (z := (z : Int)) (by simp) (by simp) (by simp) (by simp) (fun ad ha => by have := hn10 ad ha; have := HRh.out; omega))
          clear hk10 hi10 hz9 hn10 hr9
          go_upto_region 39 with fail
          generalize (w10.setCell ⟨h, n, none⟩ (.slice A10 256 c10)) = w11 at HK11 ⊢
          have hi11 : RefsIn w11 r rf := HK11.out.at_ (K := Kd.refs r rf) (by simp)
          have hc11 := hi11.cells HN6.out
          have fr11 := hi11.free
          have hg11 := HK11.out.cells (g := g2) (i := (n : Int)) (z := (z : Int)) (by simp)
          have HK12 := hid (HK11.out.setRefs HD.out HP.out HN6.out HH0.out HRh.out (hv := updH hv n (A10, c10, l)) (rf := rf) (x := (n : Int)) (z := (z : Int)) (by simp) (by simp))
          have HK13 := hid (HK12.out.less (ls := [Kd.have_ h (updH hv n (A10, c10, l)), Kd.refs r (updR rf n ((n : Int), (z : Int)))]) (fun K hK => by
            simp only [List.mem_cons, List.not_mem_nil, or_false] at hK ⊢
            rcases hK with rfl | rfl
            · exact .inr rfl
            · exact .inl rfl))
          have HP13 := hid (show Ply (pWrite s 75 n l) (fun k => (updH hv n (A10, c10, l) k).map (·.2.2)) from by
            rw [upd_map]
            exact HPl.out.write HKb.out.up HN6.out N7.out HY.out)
          have HR13 := hid (show ∀ j, j < 6 → ∀ A c l', updH hv n (A10, c10, l) j = some (A, c, l') → updR rf n ((n : Int), (z : Int)) j = ((j : Int), ((crcOf (nats l') : Nat) : Int)) from fun j hj A c l' e => by
            unfold updH at e
            unfold updR
            by_cases hjn : j = n
            · rw [if_pos hjn] at e ⊢
              cases e
              rw [HZ.out, hjn]
            · rw [if_neg hjn] at e ⊢
              exact HRf.out j hj A c l' e)
          clear hi11
          have hk60 : (k : Int) < 60 := by have := HLen.out; omega
          go_wp2
          go_roundw
          case rel => exact ⟨k + 1, m, q + 2, _, _, _, by omega, by go_num, by have := HM.out; omega, by have := HQ.out; omega, HP13.out, HR13.out, HK13.out⟩
          case measure => simp [intOf]; omega
      · as_aux_lemma =>
          go_wp2_with fail
          refine (pk_flush HD.out HP.out HKb.out (by have := HQ.out; have := HLen.out; omega)).mono ?_
          rintro e w5 ⟨rfl, hk5⟩
          have HK5 := hid (hk5.less (ls := [Kd.have_ h hv, Kd.refs r rf]) (fun K hK => List.mem_cons_of_mem _ hK))
          clear hk5
          have hk60 : (k : Int) < 60 := by have := HLen.out; omega
          go_wp2
          go_roundw
          case rel => exact ⟨k + 1, m, q + 1, fl s, hv, rf, by omega, by go_num, by have := HM.out; omega, by have := HQ.out; omega, HPl.out.flush, HRf.out, HK5.out⟩
          case measure => simp [intOf]; omega
      · as_aux_lemma =>
          obtain ⟨b, hb1, hb⟩ := and1_i64 tk.t
          have hbi : (b : Int) ≤ 1 := by omega
          have hw1 : IntKind.i64.wrap (75 * (b : Int)) = 75 * (b : Int) := by rw [IntKind.wrap_i64]; omega
          have hw2 : IntKind.i64.wrap ((n : Int) + 75 * (b : Int)) = (n : Int) + 75 * (b : Int) := by rw [IntKind.wrap_i64]; omega
          have ht := HT.out.t0
          have ht' := HT.out.t1
          have hd0 : -9223372036854775808 ≤ tk.t.tdiv 2 ∧ tk.t.tdiv 2 ≤ 9223372036854775807 := by
            rcases Int.lt_or_le tk.t 0 with h0 | h0
            · have : tk.t.tdiv 2 = -((-tk.t).tdiv 2) := by rw [Int.neg_tdiv, Int.neg_neg]
              rw [this, Int.tdiv_eq_ediv_of_nonneg (by omega)]
              omega
            · rw [Int.tdiv_eq_ediv_of_nonneg h0]
              omega
          have hw3 : IntKind.i64.wrap (tk.t.tdiv 2) = tk.t.tdiv 2 := by rw [IntKind.wrap_i64]; omega
          clear ht ht' hd0
          have HKd := hid (HKb.out.on HD.out HP.out (w' := w4.drew) ⟨rfl, rfl, rfl, Nat.le_refl _, fun _ _ => rfl⟩)
          have HZw := hid (show ∀ (w' : World) (q' m' : Nat) (s' : DSt) (ls : List Kd), Pk Real PR S w1 w' d p s' 300 m' q' ls → Kd.cells g 35 #[.int .i64 tk.k, .int .i64 tk.n, .int .i64 tk.t, .int .u32 (tk.z : Int), .slice tk.B tk.nB tk.cB] ∈ ls → w'.cell? ⟨g, 2, none⟩ = some (.int .i64 tk.t) ∧ w'.cell? ⟨g, 3, none⟩ = some (.int .u32 (tk.z : Int)) from fun w' q' m' s' ls hp h2 => by
            have hb : Blk w' g 35 #[.int .i64 tk.k, .int .i64 tk.n, .int .i64 tk.t, .int .u32 (tk.z : Int), .slice tk.B tk.nB tk.cB] := hp.at_ h2
            exact ⟨hb.cell 2, hb.cell 3⟩)
          have hzd : w4.drew.cell? ⟨g, 2, none⟩ = some (.int .i64 tk.t) ∧ w4.drew.cell? ⟨g, 3, none⟩ = some (.int .u32 (tk.z : Int)) := HZw.out _ _ _ _ _ HKd.out (by simp)
          clear e2 e3 e4
          go_wp2_with fail
          go_region_held3 (fun w' => w'.cell? ⟨g, 2, none⟩ = some (.int .i64 tk.t) ∧ w'.cell? ⟨g, 3, none⟩ = some (.int .u32 (tk.z : Int))) (assumption)
            ((first
            | (go_at_call 10; refine (number_any (tk.t.tdiv 2) 253 w4.drew (of_decide_eq_true rfl) (of_decide_eq_true rfl)).mono ?_; rintro e y5 ⟨rfl, hy5⟩; have HK5 := hid (show Pk Real PR S w1 y5 d p s 300 m q [Kd.cells g 35 #[.int .i64 tk.k, .int .i64 tk.n, .int .i64 tk.t, .int .u32 (tk.z : Int), .slice tk.B tk.nB tk.cB], Kd.have_ h hv, Kd.refs r rf] from by subst hy5; exact HKd.out); have hz5 : y5.cell? ⟨g, 2, none⟩ = some (.int .i64 tk.t) ∧ y5.cell? ⟨g, 3, none⟩ = some (.int .u32 (tk.z : Int)) := HZw.out _ _ _ _ _ HK5.out (by simp); clear hy5)
            | (go_at_call 15; refine (pk_spoil HD.out HP.out HK5.out ((n : Int) + 75 * (b : Int)) ((tk.t.tdiv 2) % 253) tk.z HT.out.z).mono ?_; rintro e y6 ⟨rfl, hk6⟩; have HK6 := hid hk6; have hz6 : y6.cell? ⟨g, 2, none⟩ = some (.int .i64 tk.t) ∧ y6.cell? ⟨g, 3, none⟩ = some (.int .u32 (tk.z : Int)) := HZw.out _ _ _ _ _ hk6 (by simp); clear hk6)))
          have HK7 := hid (HK6.out.less (ls := [Kd.have_ h hv, Kd.refs r rf]) (fun K hK => List.mem_cons_of_mem _ hK))
          have HP7 := hid (show Ply (s.spoil ((n : Int) + 75 * (b : Int)) ((tk.t.tdiv 2) % 253) tk.z).2 (fun n => (hv n).map (·.2.2)) from by
            rw [show (n : Int) + 75 * (b : Int) = ((n + 75 * b : Nat) : Int) by omega]
            exact HPl.out.spoil _ _ _ HT.out.z)
          have hk60 : (k : Int) < 60 := by have := HLen.out; omega
          clear hz6
          go_wp2
          go_roundw
          case rel => exact ⟨k + 1, m, q, _, hv, rf, by omega, by go_num, by have := HM.out; omega, by have := HQ.out; omega, HP7.out, HRf.out, HK7.out⟩
          case measure => simp [intOf]; omega
      · as_aux_lemma =>
          obtain ⟨b, hb1, hb⟩ := and1_i64 tk.t
          have hbi : (b : Int) ≤ 1 := by omega
          go_wp2_with fail
          refine (pk_fail HD.out HP.out HKb.out ((n : Int) + 75 * (b : Int))).mono ?_
          rintro e w5 ⟨rfl, hk5⟩
          have HK5 := hid (hk5.less (ls := [Kd.have_ h hv, Kd.refs r rf]) (fun K hK => List.mem_cons_of_mem _ hK))
          have HP5 := hid (show Ply (s.fail ((n : Int) + 75 * (b : Int))).2 (fun n => (hv n).map (·.2.2)) from by
            rw [show (n : Int) + 75 * (b : Int) = ((n + 75 * b : Nat) : Int) by omega]
            exact HPl.out.fail _)
          clear hk5
          have hk60 : (k : Int) < 60 := by have := HLen.out; omega
          go_wp2
          go_roundw
          case rel => exact ⟨k + 1, m, q, _, hv, rf, by omega, by go_num, by have := HM.out; omega, by have := HQ.out; omega, HP5.out, HRf.out, HK5.out⟩
          case measure => simp [intOf]; omega
      · as_aux_lemma =>
          have hi4 : HaveIn w4 h hv := HKb.out.at_ (K := Kd.have_ h hv) (by simp)
          have hc4 := hi4.cell HN6.out
          have hk60 : (k : Int) < 60 := by have := HLen.out; omega
          rcases hx : hv n with _ | ⟨A, c, l⟩
          · rw [hx] at hc4
            simp only [hval] at hc4
            have hq0 : ∀ W, (binOp .eql 28 (.slice none 0 0) (.slice none 0 0)).run Tryd.prog W = .ok (.bool true) W := Tryd.eqNil
            have HKl := hid (HKb.out.less (ls := [Kd.have_ h hv, Kd.refs r rf]) (fun K hK => List.mem_cons_of_mem _ hK))
            clear hx hi4
            go_wp2
            go_roundw
            case rel => exact ⟨k + 1, m, q, s, hv, rf, by omega, by go_num, by have := HM.out; omega, by have := HQ.out; omega, HPl.out, HRf.out, HKl.out⟩
            case measure => simp [intOf]; omega
          · have hsl : Sl w4 w4.heap.size A 256 c l := by
              obtain ⟨_, _, _, h3⟩ := hi4
              exact ((h3 n HN6.out).2 A c l hx).1
            obtain ⟨la, rfl⟩ : ∃ la, A = some la := by
              rcases hA : A with _ | la
              · have := hsl.nil hA; have := hsl.cap; omega
              · exact ⟨la, rfl⟩
            have hh : halN 300 = 75 := by decide
            obtain ⟨h256, hby, a, b, hat, -, -⟩ := HPl.out n HN6.out l (by simp [hx])
            have hrd := HPl.out.read HKb.out.up HN6.out (l := l) (by simp [hx]) hat
            have hmd := HPl.out.mend HKb.out.up HN6.out (l := l) (by simp [hx]) hat
            have hrfn := HRf.out n HN6.out (some la) c l hx
            have HZl := hid (crc_nats hby)
            obtain ⟨z, hz⟩ : ∃ z, crcOf (nats l) = z := ⟨_, rfl⟩
            rw [hz] at hrd hmd hrfn HZl
            have HRd := hid hrd
            have HMd := hid hmd
            have HAt := hid hat
            have N7 := hid h256
            have HSe := hid (show ∀ (w' : World) (q' m' : Nat) (s' : DSt) (ls : List Kd), Pk Real PR S w1 w' d p s' 300 m' q' ls → Kd.have_ h hv ∈ ls → Kd.refs r rf ∈ ls → Kd.cells g 35 #[.int .i64 tk.k, .int .i64 tk.n, .int .i64 tk.t, .int .u32 (tk.z : Int), .slice tk.B tk.nB tk.cB] ∈ ls → w'.cell? ⟨h, n, none⟩ = some (.slice (some la) 256 c) ∧ w'.cell? ⟨r, n * 2, none⟩ = some (.int .i64 (n : Int)) ∧ w'.cell? ⟨r, n * 2 + 1, none⟩ = some (.int .u32 (z : Int)) ∧ w'.cell? ⟨g, 0, none⟩ = some (.int .i64 tk.k) from fun w' q' m' s' ls hp k1 k2 k3 => hp.seen (cs := [.int .i64 tk.n, .int .i64 tk.t, .int .u32 (tk.z : Int), .slice tk.B tk.nB tk.cB]) HN6.out k1 k2 k3 hx hrfn)
            have HB4 := hid (HKb.out.bring (h := h) (A := some la) (c := c) (l := l) HN6.out (by simp) hx)
            have e75 : ((n + 75 : Nat) : Int) = (n : Int) + 75 := by omega
            rw [hx] at hc4
            simp only [hval] at hc4
            clear hx hi4 hsl h256 hby hat hrd hmd hrfn hz e0 e2 e3 e4
            have hq0 : ∀ W, (binOp .eql 28 (.slice (some la) 256 c) (.slice none 0 0)).run Tryd.prog W = .ok (.bool false) W := Tryd.eqSome la 256 c
            obtain ⟨sh4, sr4, ss4, sk4⟩ := HSe.out _ _ _ _ _ HB4.out (by simp) (by simp) (by simp)
            clear hc4
            go_wp2_with fail
            refine (pk_good HD.out HP.out HB4.out (i := n) (x := a) (l := l) (by have := HN6.out; omega) HAt.out.a (by simp)).mono ?_
            rintro e w5 ⟨rfl, hk5⟩
            have HB5 := hid hk5
            obtain ⟨sh5, sr5, ss5, sk5⟩ := HSe.out _ _ _ _ _ hk5 (by simp) (by simp) (by simp)
            clear hk5 sh4 sr4 ss4 sk4
            have hg2 := pk_good HD.out HP.out HB5.out (i := n + 75) (x := b) (by have := HN6.out; omega) HAt.out.c (A := some la) (c := c) (l := l) (by simp)
            rw [e75] at hg2
            have HG2 := hid hg2
            clear hg2
            go_wp2_with fail
            refine HG2.out.mono ?_
            rintro e w6 ⟨rfl, hk6⟩
            have HB6 := hid hk6
            obtain ⟨sh6, sr6, ss6, sk6⟩ := HSe.out _ _ _ _ _ hk6 (by simp) (by simp) (by simp)
            clear hk6 sh5 sr5 ss5 sk5 HG2
            have HE75 := hid e75
            clear e75
            rcases hα : a.good l with _ | _ <;> rcases hβ : b.good l with _ | _ <;> rcases m5 : (tk.k == 5) with _ | _
            · as_aux_lemma =>
              have HR7 := hid (HMd.out.2.2.2 hα hβ)
              have HPl7 := hid HPl.out
              go_wp2_with fail
              refine (pk_mend HP.out HB6.out (i := n) (z := z) (r := 0) (code := 107) (s' := s) (by rw [hh]; have := HN6.out; omega) HZl.out (by have := HQ.out; have := HLen.out; omega) (by have := HM.out; have := HLen.out; omega) (by rw [hh]; exact HR7.out)).mono ?_
              rintro e w7 ⟨v7, hv7, rfl, hk7⟩
              obtain ⟨j7, hj7⟩ := hv7.is (by decide)
              subst hj7
              clear hv7 sh6 sr6 ss6 sk6
              have HB7 := hid (hk7.less (ls := [Kd.have_ h hv, Kd.refs r rf]) (fun K hK => by
                simp only [List.mem_cons, List.not_mem_nil, or_false] at hK
                rcases hK with rfl | rfl <;> simp))
              clear hk7
              go_wp2
              go_roundw
              case rel => exact ⟨k + 1, m + 0, q + 1, s, hv, rf, by omega, by go_num, by have := HM.out; omega, by have := HQ.out; omega, HPl7.out, HRf.out, HB7.out⟩
              case measure => simp [intOf]; omega
            · as_aux_lemma =>
              have HR7 := hid (HRd.out.2.2 hα hβ)
              have HPl7 := hid HPl.out
              go_wp2_with fail
              refine (pk_readNo HP.out HB6.out (i := n) (z := z) (by rw [hh]; have := HN6.out; omega) HZl.out (by have := HQ.out; have := HLen.out; omega) (by have := HM.out; have := HLen.out; omega) (by rw [hh]; exact HR7.out)).mono ?_
              rintro e w7 ⟨A7, k7, c7, v7, hv7, rfl, hk7⟩
              have HB7 := hid hk7
              have HV7 := hid hv7
              obtain ⟨j7, hj7⟩ := hv7.is (by decide)
              subst hj7
              clear hk7 hv7 sh6 sr6 ss6 sk6
              go_wp2_with fail
              refine (pk_sees HD.out HP.out HB7.out HS1.out (c' := 107) HV7.out).mono ?_
              rw [show ((107 : Int) == 107) = true from rfl]
              rintro e w8 ⟨rfl, hk8⟩
              have HB8 := hid (hk8.less (ls := [Kd.have_ h hv, Kd.refs r rf]) (fun K hK => by
                simp only [List.mem_cons, List.not_mem_nil, or_false] at hK
                rcases hK with rfl | rfl <;> simp))
              clear hk8
              go_wp2
              go_roundw
              case rel => exact ⟨k + 1, m + 0, q + 1, s, hv, rf, by omega, by go_num, by have := HM.out; omega, by have := HQ.out; omega, HPl7.out, HRf.out, HB8.out⟩
              case measure => simp [intOf]; omega
            · as_aux_lemma =>
              obtain ⟨hr, ht, hp⟩ := HMd.out.2.2.1 hα hβ
              have HGa := hid (show (a.write l).good l = true from good_write a l)
              have HGb := hid (show (b).good l = true from hβ)
              obtain ⟨s7, hs7⟩ : ∃ x, s.put n l = x := ⟨_, rfl⟩
              obtain ⟨a7, ha7⟩ : ∃ x, a.write l = x := ⟨_, rfl⟩
              obtain ⟨b7, hb7⟩ : ∃ x, b = x := ⟨_, rfl⟩
              have HR7 := hid (show pMend s 75 n z = (0, 1, s7) from by rw [← hs7]; exact hr)
              have HAt7 := hid (show At s7 n (n + 75) a7 b7 from by rw [← hs7, ← ha7, ← hb7]; exact ht)
              have HPl7 := hid (show Ply s7 (fun n => (hv n).map (·.2.2)) from by rw [← hs7]; exact hp)
              rw [ha7] at HGa
              rw [hb7] at HGb
              clear hr ht hp hs7 ha7 hb7
              go_wp2_with fail
              refine (pk_mend HP.out HB6.out (i := n) (z := z) (r := 1) (code := 0) (s' := s7) (by rw [hh]; have := HN6.out; omega) HZl.out (by have := HQ.out; have := HLen.out; omega) (by have := HM.out; have := HLen.out; omega) (by rw [hh]; exact HR7.out)).mono ?_
              rintro e w7 ⟨v7, hv7, rfl, hk7⟩
              obtain rfl := hv7.nil
              have HB7 := hid hk7
              obtain ⟨sh7, sr7, ss7, sk7⟩ := HSe.out _ _ _ _ _ hk7 (by simp) (by simp) (by simp)
              clear hk7 hv7 sh6 sr6 ss6 sk6
              go_wp2_with fail
              refine (pk_good HD.out HP.out HB7.out (i := n) (x := a7) (l := l) (by have := HN6.out; omega) HAt7.out.a (by simp)).mono ?_
              rw [HGa.out]
              rintro e w8 ⟨rfl, hk8⟩
              have HB8 := hid hk8
              obtain ⟨sh8, sr8, ss8, sk8⟩ := HSe.out _ _ _ _ _ hk8 (by simp) (by simp) (by simp)
              have hg2 := pk_good HD.out HP.out HB8.out (i := n + 75) (x := b7) (by have := HN6.out; omega) HAt7.out.c (A := some la) (c := c) (l := l) (by simp)
              rw [HE75.out, HGb.out] at hg2
              have HG2 := hid hg2
              clear hg2 hk8 sh7 sr7 ss7 sk7
              go_wp2_with fail
              refine HG2.out.mono ?_
              rintro e w9 ⟨rfl, hk9⟩
              clear sh8 sr8 ss8 sk8
              have HB9 := hid (hk9.less (ls := [Kd.have_ h hv, Kd.refs r rf]) (fun K hK => by
                simp only [List.mem_cons, List.not_mem_nil, or_false] at hK
                rcases hK with rfl | rfl <;> simp))
              clear hk9
              go_wp2
              go_roundw
              case rel => exact ⟨k + 1, m + 1, q + 1, s7, hv, rf, by omega, by go_num, by have := HM.out; omega, by have := HQ.out; omega, HPl7.out, HRf.out, HB9.out⟩
              case measure => simp [intOf]; omega
            · as_aux_lemma =>
              obtain ⟨hr, ht, hp⟩ := HRd.out.2.1 hα hβ
              obtain ⟨s7, hs7⟩ : ∃ x, s.put n l = x := ⟨_, rfl⟩
              obtain ⟨a7, ha7⟩ : ∃ x, a.write l = x := ⟨_, rfl⟩
              rw [hs7] at hr ht hp
              have HGa := hid (show a7.good l = true from ha7 ▸ good_write a l)
              have HR7 := hid hr
              have HAt7 := hid (show s7.blks[n]? = some a7 from ha7 ▸ ht.a)
              have HPl7 := hid hp
              clear hr ht hp hs7 ha7
              go_wp2_with fail
              refine (pk_read HP.out HB6.out (i := n) (z := z) (r := 1) (l := l) (s' := s7) (by rw [hh]; have := HN6.out; omega) HZl.out (by have := HQ.out; have := HLen.out; omega) (by have := HM.out; have := HLen.out; omega) N7.out (by rw [hh]; exact HR7.out)).mono ?_
              rintro e w7 ⟨A7, c7, rfl, hk7⟩
              have HB7 := hid hk7
              obtain ⟨sh7, sr7, ss7, sk7⟩ := HSe.out _ _ _ _ _ hk7 (by simp) (by simp) (by simp)
              clear hk7 sh6 sr6 ss6 sk6
              go_wp2_with fail
              refine (pk_same HD.out HP.out HB7.out (A := A7) (k := 256) (c := c7) (B := some la) (k' := 256) (c' := c) (l := l) (l' := l) (by simp) (by simp)).mono ?_
              rw [same_self]
              rintro e w8 ⟨rfl, hk8⟩
              have HB8 := hid hk8
              obtain ⟨sh8, sr8, ss8, sk8⟩ := HSe.out _ _ _ _ _ hk8 (by simp) (by simp) (by simp)
              clear hk8 sh7 sr7 ss7 sk7
              go_wp2_with fail
              refine (pk_good HD.out HP.out HB8.out (i := n) (x := a7) (l := l) (by have := HN6.out; omega) HAt7.out (by simp)).mono ?_
              rw [HGa.out]
              rintro e w9 ⟨rfl, hk9⟩
              clear sh8 sr8 ss8 sk8
              have HB9 := hid (hk9.less (ls := [Kd.have_ h hv, Kd.refs r rf]) (fun K hK => by
                simp only [List.mem_cons, List.not_mem_nil, or_false] at hK
                rcases hK with rfl | rfl <;> simp))
              clear hk9
              go_wp2
              go_roundw
              case rel => exact ⟨k + 1, m + 1, q + 1, s7, hv, rf, by omega, by go_num, by have := HM.out; omega, by have := HQ.out; omega, HPl7.out, HRf.out, HB9.out⟩
              case measure => simp [intOf]; omega
            · as_aux_lemma =>
              obtain ⟨hr, ht, hp⟩ := HMd.out.2.1 hα hβ
              have HGa := hid (show (a).good l = true from hα)
              have HGb := hid (show (b.write l).good l = true from good_write b l)
              obtain ⟨s7, hs7⟩ : ∃ x, s.put (n + 75) l = x := ⟨_, rfl⟩
              obtain ⟨a7, ha7⟩ : ∃ x, a = x := ⟨_, rfl⟩
              obtain ⟨b7, hb7⟩ : ∃ x, b.write l = x := ⟨_, rfl⟩
              have HR7 := hid (show pMend s 75 n z = (0, 1, s7) from by rw [← hs7]; exact hr)
              have HAt7 := hid (show At s7 n (n + 75) a7 b7 from by rw [← hs7, ← ha7, ← hb7]; exact ht)
              have HPl7 := hid (show Ply s7 (fun n => (hv n).map (·.2.2)) from by rw [← hs7]; exact hp)
              rw [ha7] at HGa
              rw [hb7] at HGb
              clear hr ht hp hs7 ha7 hb7
              go_wp2_with fail
              refine (pk_mend HP.out HB6.out (i := n) (z := z) (r := 1) (code := 0) (s' := s7) (by rw [hh]; have := HN6.out; omega) HZl.out (by have := HQ.out; have := HLen.out; omega) (by have := HM.out; have := HLen.out; omega) (by rw [hh]; exact HR7.out)).mono ?_
              rintro e w7 ⟨v7, hv7, rfl, hk7⟩
              obtain rfl := hv7.nil
              have HB7 := hid hk7
              obtain ⟨sh7, sr7, ss7, sk7⟩ := HSe.out _ _ _ _ _ hk7 (by simp) (by simp) (by simp)
              clear hk7 hv7 sh6 sr6 ss6 sk6
              go_wp2_with fail
              refine (pk_good HD.out HP.out HB7.out (i := n) (x := a7) (l := l) (by have := HN6.out; omega) HAt7.out.a (by simp)).mono ?_
              rw [HGa.out]
              rintro e w8 ⟨rfl, hk8⟩
              have HB8 := hid hk8
              obtain ⟨sh8, sr8, ss8, sk8⟩ := HSe.out _ _ _ _ _ hk8 (by simp) (by simp) (by simp)
              have hg2 := pk_good HD.out HP.out HB8.out (i := n + 75) (x := b7) (by have := HN6.out; omega) HAt7.out.c (A := some la) (c := c) (l := l) (by simp)
              rw [HE75.out, HGb.out] at hg2
              have HG2 := hid hg2
              clear hg2 hk8 sh7 sr7 ss7 sk7
              go_wp2_with fail
              refine HG2.out.mono ?_
              rintro e w9 ⟨rfl, hk9⟩
              clear sh8 sr8 ss8 sk8
              have HB9 := hid (hk9.less (ls := [Kd.have_ h hv, Kd.refs r rf]) (fun K hK => by
                simp only [List.mem_cons, List.not_mem_nil, or_false] at hK
                rcases hK with rfl | rfl <;> simp))
              clear hk9
              go_wp2
              go_roundw
              case rel => exact ⟨k + 1, m + 1, q + 1, s7, hv, rf, by omega, by go_num, by have := HM.out; omega, by have := HQ.out; omega, HPl7.out, HRf.out, HB9.out⟩
              case measure => simp [intOf]; omega
            · as_aux_lemma =>
              obtain ⟨s7, hs7⟩ : ∃ x, s = x := ⟨_, rfl⟩
              obtain ⟨a7, ha7⟩ : ∃ x, a = x := ⟨_, rfl⟩
              have HR7 := hid (show pRead s 75 n z = (0, l, s7, 0) from by rw [← hs7]; exact HRd.out.1 hα)
              have HAt7 := hid (show s7.blks[n]? = some a7 from by rw [← hs7, ← ha7]; exact HAt.out.a)
              have HGa := hid (show a7.good l = true from by rw [← ha7]; exact hα)
              have HPl7 := hid (show Ply s7 (fun n => (hv n).map (·.2.2)) from by rw [← hs7]; exact HPl.out)
              clear ha7 hs7
              go_wp2_with fail
              refine (pk_read HP.out HB6.out (i := n) (z := z) (r := 0) (l := l) (s' := s7) (by rw [hh]; have := HN6.out; omega) HZl.out (by have := HQ.out; have := HLen.out; omega) (by have := HM.out; have := HLen.out; omega) N7.out (by rw [hh]; exact HR7.out)).mono ?_
              rintro e w7 ⟨A7, c7, rfl, hk7⟩
              have HB7 := hid hk7
              obtain ⟨sh7, sr7, ss7, sk7⟩ := HSe.out _ _ _ _ _ hk7 (by simp) (by simp) (by simp)
              clear hk7 sh6 sr6 ss6 sk6
              go_wp2_with fail
              refine (pk_same HD.out HP.out HB7.out (A := A7) (k := 256) (c := c7) (B := some la) (k' := 256) (c' := c) (l := l) (l' := l) (by simp) (by simp)).mono ?_
              rw [same_self]
              rintro e w8 ⟨rfl, hk8⟩
              have HB8 := hid hk8
              obtain ⟨sh8, sr8, ss8, sk8⟩ := HSe.out _ _ _ _ _ hk8 (by simp) (by simp) (by simp)
              clear hk8 sh7 sr7 ss7 sk7
              go_wp2_with fail
              refine (pk_good HD.out HP.out HB8.out (i := n) (x := a7) (l := l) (by have := HN6.out; omega) HAt7.out (by simp)).mono ?_
              rw [HGa.out]
              rintro e w9 ⟨rfl, hk9⟩
              clear sh8 sr8 ss8 sk8
              have HB9 := hid (hk9.less (ls := [Kd.have_ h hv, Kd.refs r rf]) (fun K hK => by
                simp only [List.mem_cons, List.not_mem_nil, or_false] at hK
                rcases hK with rfl | rfl <;> simp))
              clear hk9
              go_wp2
              go_roundw
              case rel => exact ⟨k + 1, m + 0, q + 1, s7, hv, rf, by omega, by go_num, by have := HM.out; omega, by have := HQ.out; omega, HPl7.out, HRf.out, HB9.out⟩
              case measure => simp [intOf]; omega
            · as_aux_lemma =>
              have hr := HMd.out.1 hα hβ
              have ht := HAt.out
              have hp := HPl.out
              have HGa := hid (show (a).good l = true from hα)
              have HGb := hid (show (b).good l = true from hβ)
              obtain ⟨s7, hs7⟩ : ∃ x, s = x := ⟨_, rfl⟩
              obtain ⟨a7, ha7⟩ : ∃ x, a = x := ⟨_, rfl⟩
              obtain ⟨b7, hb7⟩ : ∃ x, b = x := ⟨_, rfl⟩
              have HR7 := hid (show pMend s 75 n z = (0, 0, s7) from by rw [← hs7]; exact hr)
              have HAt7 := hid (show At s7 n (n + 75) a7 b7 from by rw [← hs7, ← ha7, ← hb7]; exact ht)
              have HPl7 := hid (show Ply s7 (fun n => (hv n).map (·.2.2)) from by rw [← hs7]; exact hp)
              rw [ha7] at HGa
              rw [hb7] at HGb
              clear hr ht hp hs7 ha7 hb7
              go_wp2_with fail
              refine (pk_mend HP.out HB6.out (i := n) (z := z) (r := 0) (code := 0) (s' := s7) (by rw [hh]; have := HN6.out; omega) HZl.out (by have := HQ.out; have := HLen.out; omega) (by have := HM.out; have := HLen.out; omega) (by rw [hh]; exact HR7.out)).mono ?_
              rintro e w7 ⟨v7, hv7, rfl, hk7⟩
              obtain rfl := hv7.nil
              have HB7 := hid hk7
              obtain ⟨sh7, sr7, ss7, sk7⟩ := HSe.out _ _ _ _ _ hk7 (by simp) (by simp) (by simp)
              clear hk7 hv7 sh6 sr6 ss6 sk6
              go_wp2_with fail
              refine (pk_good HD.out HP.out HB7.out (i := n) (x := a7) (l := l) (by have := HN6.out; omega) HAt7.out.a (by simp)).mono ?_
              rw [HGa.out]
              rintro e w8 ⟨rfl, hk8⟩
              have HB8 := hid hk8
              obtain ⟨sh8, sr8, ss8, sk8⟩ := HSe.out _ _ _ _ _ hk8 (by simp) (by simp) (by simp)
              have hg2 := pk_good HD.out HP.out HB8.out (i := n + 75) (x := b7) (by have := HN6.out; omega) HAt7.out.c (A := some la) (c := c) (l := l) (by simp)
              rw [HE75.out, HGb.out] at hg2
              have HG2 := hid hg2
              clear hg2 hk8 sh7 sr7 ss7 sk7
              go_wp2_with fail
              refine HG2.out.mono ?_
              rintro e w9 ⟨rfl, hk9⟩
              clear sh8 sr8 ss8 sk8
              have HB9 := hid (hk9.less (ls := [Kd.have_ h hv, Kd.refs r rf]) (fun K hK => by
                simp only [List.mem_cons, List.not_mem_nil, or_false] at hK
                rcases hK with rfl | rfl <;> simp))
              clear hk9
              go_wp2
              go_roundw
              case rel => exact ⟨k + 1, m + 0, q + 1, s7, hv, rf, by omega, by go_num, by have := HM.out; omega, by have := HQ.out; omega, HPl7.out, HRf.out, HB9.out⟩
              case measure => simp [intOf]; omega
            · as_aux_lemma =>
              obtain ⟨s7, hs7⟩ : ∃ x, s = x := ⟨_, rfl⟩
              obtain ⟨a7, ha7⟩ : ∃ x, a = x := ⟨_, rfl⟩
              have HR7 := hid (show pRead s 75 n z = (0, l, s7, 0) from by rw [← hs7]; exact HRd.out.1 hα)
              have HAt7 := hid (show s7.blks[n]? = some a7 from by rw [← hs7, ← ha7]; exact HAt.out.a)
              have HGa := hid (show a7.good l = true from by rw [← ha7]; exact hα)
              have HPl7 := hid (show Ply s7 (fun n => (hv n).map (·.2.2)) from by rw [← hs7]; exact HPl.out)
              clear ha7 hs7
              go_wp2_with fail
              refine (pk_read HP.out HB6.out (i := n) (z := z) (r := 0) (l := l) (s' := s7) (by rw [hh]; have := HN6.out; omega) HZl.out (by have := HQ.out; have := HLen.out; omega) (by have := HM.out; have := HLen.out; omega) N7.out (by rw [hh]; exact HR7.out)).mono ?_
              rintro e w7 ⟨A7, c7, rfl, hk7⟩
              have HB7 := hid hk7
              obtain ⟨sh7, sr7, ss7, sk7⟩ := HSe.out _ _ _ _ _ hk7 (by simp) (by simp) (by simp)
              clear hk7 sh6 sr6 ss6 sk6
              go_wp2_with fail
              refine (pk_same HD.out HP.out HB7.out (A := A7) (k := 256) (c := c7) (B := some la) (k' := 256) (c' := c) (l := l) (l' := l) (by simp) (by simp)).mono ?_
              rw [same_self]
              rintro e w8 ⟨rfl, hk8⟩
              have HB8 := hid hk8
              obtain ⟨sh8, sr8, ss8, sk8⟩ := HSe.out _ _ _ _ _ hk8 (by simp) (by simp) (by simp)
              clear hk8 sh7 sr7 ss7 sk7
              go_wp2_with fail
              refine (pk_good HD.out HP.out HB8.out (i := n) (x := a7) (l := l) (by have := HN6.out; omega) HAt7.out (by simp)).mono ?_
              rw [HGa.out]
              rintro e w9 ⟨rfl, hk9⟩
              clear sh8 sr8 ss8 sk8
              have HB9 := hid (hk9.less (ls := [Kd.have_ h hv, Kd.refs r rf]) (fun K hK => by
                simp only [List.mem_cons, List.not_mem_nil, or_false] at hK
                rcases hK with rfl | rfl <;> simp))
              clear hk9
              go_wp2
              go_roundw
              case rel => exact ⟨k + 1, m + 0, q + 1, s7, hv, rf, by omega, by go_num, by have := HM.out; omega, by have := HQ.out; omega, HPl7.out, HRf.out, HB9.out⟩
              case measure => simp [intOf]; omega
    · go_wp2
      go_ret
      exact ⟨rfl, HB1.out.trans (HKr.out.below.mono HB1.out.size)⟩
end
end Go.Proofs.YtomhmodgfldlpaaDoor
