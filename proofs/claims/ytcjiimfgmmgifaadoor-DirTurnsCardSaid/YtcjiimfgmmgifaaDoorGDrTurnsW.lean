/- DirTurns: all entries come once, in turn. -/
import Derived.Deep.RegionHeld3
import Derived.Test.YtcjiimfgmmgifaaDoorGDrT
import Derived.Test.YtcjiimfgmmgifaaDoorGDrOwnW
namespace Go.Proofs.YtcjiimfgmmgifaaDoor
open Go.RowKit Go.Shelf Go.Sort

set_option maxRecDepth 100000 in
set_option maxHeartbeats 40000000 in
theorem dirTurns_any (S : Nat → Addr) (x y z : Int) (w : World) (hS : Sent w S) :
    Calls Tryd.prog 4 #[.int .i64 x, .int .i64 y, .int .i64 z] w (Yes w) := by
  have HS := hid hS
  clear hS
  obtain ⟨n, hn, hn1⟩ : ∃ n : Nat, x % 30 = (n : Int) ∧ n < 30 := ⟨(x % 30).toNat, by omega, by omega⟩
  obtain ⟨sz, hz, hz1⟩ : ∃ n : Nat, z % 7 + 1 = (n : Int) ∧ 1 ≤ n ∧ n ≤ 7 := ⟨(z % 7 + 1).toNat, by omega, by omega⟩
  obtain ⟨zz, hzz, hzz1⟩ : ∃ n : Int, z % 7 = n ∧ IntKind.i64.wrap (n + 1) = (sz : Int) := ⟨z % 7, rfl, by rw [IntKind.wrap_i64]; omega⟩
  obtain ⟨st, hst, hst1⟩ : ∃ n : Nat, y % 4 = (n : Int) ∧ n < 4 := ⟨(y % 4).toNat, by omega, by omega⟩
  have HX := hid hn
  have HZ := hid hzz
  have HY := hid hst
  clear hn hz hzz hst
  go_enter Tryd.func4, Tryd.ntmps4
  go_wp2_with fail
  refine (first14_any dirOk S w HS.out).mono ?_
  rintro e w1 ⟨rfl, hb⟩
  have HB1 := hid hb
  clear hb
  go_wp2_with fail
  refine (number_any x 30 _ (by omega) (by omega)).mono ?_
  rw [HX.out]
  rintro e w2 ⟨rfl, rfl⟩
  go_wp2_with fail
  refine (number_any z 7 _ (by omega) (by omega)).mono ?_
  rw [HZ.out]
  rintro e w2 ⟨rfl, rfl⟩
  go_wp2_with fail
  refine (number_any y 4 _ (by omega) (by omega)).mono ?_
  rw [HY.out]
  rintro e w2 ⟨rfl, rfl⟩
  obtain ⟨t, ht, hcell⟩ : ∃ t : Nat, (t = 1 ∨ t = 7 ∨ t = 11 ∨ t = 13) ∧ (w1.alloc (.cells #[.int .i64 1, .int .i64 7, .int .i64 11, .int .i64 13] 3)).cell? ⟨w1.heap.size, st, none⟩ = some (.int .i64 (t : Int)) := by
    have hb := Blk.new w1 3 #[.int .i64 1, .int .i64 7, .int .i64 11, .int .i64 13]
    have hs : st = 0 ∨ st = 1 ∨ st = 2 ∨ st = 3 := by omega
    rcases hs with rfl | rfl | rfl | rfl
    · exact ⟨1, .inl rfl, hb.cell 0⟩
    · exact ⟨7, .inr (.inl rfl), hb.cell 1⟩
    · exact ⟨11, .inr (.inr (.inl rfl)), hb.cell 2⟩
    · exact ⟨13, .inr (.inr (.inr rfl)), hb.cell 3⟩
  obtain ⟨W2, hW2⟩ : ∃ W, w1.alloc (.cells #[.int .i64 1, .int .i64 7, .int .i64 11, .int .i64 13] 3) = W := ⟨_, rfl⟩
  have HB2 := hid (show Below w.heap.size w W2 from hW2 ▸ HB1.out.alloc HB1.out.size _)
  rw [hW2] at hcell
  rw [hW2]
  obtain ⟨vb, hvb⟩ : ∃ vb, w1.heap.size = vb := ⟨_, rfl⟩
  rw [hvb] at hcell
  have HT := hid ht
  have hst2 : (st : Int) < 4 := by omega
  have htl : t ≤ 13 := by omega
  clear hW2 ht
  have HD0 := hid (dk_zero dirOk (ks := []) HB2.out (fun K h => by cases h))
  obtain ⟨g, hg⟩ : ∃ g, W2.heap.size = g := ⟨_, rfl⟩
  rw [hg] at HD0
  go_wp2
  go_loopw [9] (fun iv wr => ∃ (i : Nat) (D : List En), i ≤ n ∧ iv = .int .i64 (i : Int) ∧ Hid (D.length = i) ∧ Hid (∀ e, e ∈ D → ∃ k, k < i ∧ e = enE (k * t % 31)) ∧ Hid (Dk DirR w wr g D [])) (fun iv _ => n - (intOf iv).toNat)
  case atStart => exact ⟨0, [], Nat.zero_le _, rfl, hid rfl, hid (fun e he => by cases he), HD0⟩
  case round =>
    obtain ⟨i, D, hi, rfl, HLn, HMem, HD⟩ := hrel
    by_cases hlt : i < n
    · have hin : (i : Int) < (n : Int) := by omega
      obtain ⟨p, hp⟩ : ∃ p, i * t = p := ⟨_, rfl⟩
      obtain ⟨j, hj⟩ : ∃ j, p % 31 = j := ⟨_, rfl⟩
      have hpb : p ≤ 400 := by rw [← hp]; exact Nat.le_trans (Nat.mul_le_mul (show i ≤ 30 by omega) htl) (by decide)
      have hw : IntKind.i64.wrap ((i : Int) * (t : Int)) = (p : Int) := by rw [← hp, IntKind.wrap_i64, ← Int.natCast_mul]; omega
      have hm1 : (p : Int) % 31 = (j : Int) := by omega
      have hm2 : (p : Int).tmod 31 = (j : Int) := by rw [Int.tmod_eq_emod_of_nonneg (by omega)]; exact hm1
      have HJ := hid (show i * t % 31 = j from by rw [hp]; exact hj)
      have hj31 : j < 31 := by omega
      have hw2 : IntKind.i64.wrap ((j : Int) + 2) = (j : Int) + 2 := by rw [IntKind.wrap_i64]; omega
      have hw3 : IntKind.i64.wrap ((i : Int) + 1) = (i : Int) + 1 := by rw [IntKind.wrap_i64]; omega
      clear hp hj
      go_wp2_with fail
      refine (num_any j _ (by omega)).mono ?_
      rintro e w3 ⟨rfl, rfl⟩
      have hcl := decN_ok j
      go_wp2_with fail
      rw [cat_nm]
      refine (dk_add dirOk S (enE j) HS.out HD.out (by have := HLn.out; omega) ⟨by have := nmE_len j hj31; show (nmE j).length ≤ _; omega, by show _ ≤ (j : Int) + 2; omega, by show (j : Int) + 2 ≤ _; omega, by show _ ≤ (1 : Int); decide, by show (1 : Int) ≤ _; decide⟩).mono ?_
      obtain ⟨a0, a1, a2⟩ := addE_new HMem.out HT.out (show i < 31 by omega) HJ.out
      rw [a0]
      rintro e w4 ⟨⟨v, rfl, hv⟩, hd⟩
      obtain rfl := hv.nil
      have R1 := hid (show (addE D (enE j)).length = i + 1 from by rw [a1, HLn.out])
      have R2 := hid a2
      have R3 := hid hd
      clear hv hd a0 a1 a2 HD
      go_wp2
      go_roundw
      case rel => exact ⟨i + 1, _, by omega, by go_num, R1, R2, R3⟩
      case measure => simp [intOf]; omega
    · obtain rfl : i = n := by omega
      have HR := hid (show RisE D from by obtain ⟨F, hd, _⟩ := HD.out; exact hd.ris)
      have HP := hid (show ∀ e, e ∈ D → ([] : Nam) < e.s from fun e he => by obtain ⟨k, _, rfl⟩ := HMem.out e he; exact nmE_pos _)
      have HJs := hid (show ∀ (q : Nat) (e : En), D[q]? = some e → ∃ j, j < 31 ∧ e = enE j from fun q e he => by obtain ⟨k, _, rfl⟩ := HMem.out e (List.mem_of_getElem? he); exact ⟨_, by omega, rfl⟩)
      have HB0 := hid (behind_none HP.out)
      clear hlt HMem hi hvb hg htl hzz1 hst1 hst2 hcell
      go_wp2
      go_loopw [11, 12, 13] (fun av sv rv wr => ∃ (a : Nam) (q r : Nat), q ≤ i ∧ r ≤ q ∧ av = encStr a ∧ sv = .int .i64 (q : Int) ∧ rv = .int .i64 (r : Int) ∧ Hid (behindE D a = D.drop q) ∧ Hid (Dk DirR w wr g D [])) (fun _ _ rv _ => 40 - (intOf rv).toNat)
      case atStart => exact ⟨[], 0, 0, Nat.zero_le _, Nat.le_refl _, rfl, rfl, rfl, hid (by rw [HB0.out]; rfl), HD⟩
      case round =>
        obtain ⟨a, q, r, hq, hrq, rfl, rfl, rfl, HBe, HD2⟩ := hrel
        have hr40 : (r : Int) < 40 := by omega
        have hrw : IntKind.i64.wrap ((r : Int) + 1) = (r : Int) + 1 := by rw [IntKind.wrap_i64]; omega
        go_wp2_with fail
        refine (dk_from dirOk a (sz : Int) HD2.out (by have := HLn.out; omega) (by omega) (by omega)).mono ?_
        have hfr : fromE D a (sz : Int) = (D.drop q).take sz := by unfold fromE; rw [HBe.out]; rfl
        have hmo : moreE D a (sz : Int) = decide (sz < i - q) := by unfold moreE; rw [HBe.out, List.length_drop, HLn.out]; rfl
        rw [hfr, hmo]
        clear hfr hmo
        rintro e w3 ⟨⟨v, rfl, ho⟩, hb, hd⟩
        obtain ⟨L, hL⟩ : ∃ L, (D.drop q).take sz = L := ⟨_, rfl⟩
        rw [hL] at ho
        obtain ⟨A, c, rfl, hsl, h9⟩ := ho.form
        clear h9
        obtain ⟨m, hm⟩ : ∃ m, L.length = m := ⟨_, rfl⟩
        rw [hm] at hsl
        rw [hm]
        have hml : m = min sz (i - q) := by rw [← hm, ← hL, List.length_take, List.length_drop, HLn.out]
        have hmq : q + m ≤ i := by omega
        have HMl := hid hml
        clear hml
        have HL := hid (show ∀ (k : Nat) (e : En), L[k]? = some e → D[q + k]? = some e from fun k e he => by
          rw [← hL, List.getElem?_take] at he
          split at he
          · rwa [List.getElem?_drop] at he
          · cases he)
        have HSl := hid hsl
        have HD3 := hid hd
        obtain ⟨mo, hmo⟩ : ∃ mo, decide (sz < i - q) = mo := ⟨_, rfl⟩
        have HMo := hid hmo
        rw [hmo]
        clear ho hb hd hL hsl hm hmo HD2
        go_wp2
        go_loopw [11, 12, 16] (fun bv sv kv wr2 => ∃ (b : Nam) (k : Nat), k ≤ m ∧ bv = encStr b ∧ sv = .int .i64 ((q + k : Nat) : Int) ∧ kv = .int .i64 (k : Int) ∧ Hid (behindE D b = D.drop (q + k)) ∧ Hid (ESl wr2 wr2.heap.size A m c L) ∧ Hid (Dk DirR w wr2 g D [])) (fun _ _ kv _ => m - (intOf kv).toNat)
        case atStart => exact ⟨a, 0, Nat.zero_le _, rfl, rfl, rfl, HBe, HSl, HD3⟩
        case round =>
          obtain ⟨b, k, hk, rfl, rfl, rfl, HBb, HSk, HDk⟩ := hrel
          by_cases hkm : k < m
          · obtain ⟨bl, o, x, rfl, hbl, hx, c0, c1, c2⟩ := HSk.out.get hkm
            have hxD := HL.out k x hx
            obtain ⟨jj, hjj, rfl⟩ := HJs.out _ _ hxD
            have HX := hid hxD
            have hbb : b < nmE jj := by
              have h5 : (enE jj) ∈ behindE D b := by rw [HBb.out]; exact List.mem_of_getElem? (i := 0) (by rw [List.getElem?_drop]; exact hxD)
              unfold behindE at h5
              have := (List.mem_filter.1 h5).2
              simpa using this
            have HBn := hid (show behindE D (nmE jj) = D.drop (q + k + 1) from behind_nth HR.out hxD)
            have t1 : Op.bytesLess (nmE jj) b = false := by rw [blt]; exact decide_eq_false (fun k => List.lt_irrefl b (List.lt_trans hbb k))
            have t2 : ¬ nmE jj = b := fun e => by rw [e] at hbb; exact List.lt_irrefl b hbb
            have t3 : (nmE jj == b) = false := by simp [t2]
            have hcl := decN_ok jj
            have hct := cat_nm jj
            have hw4 : IntKind.i64.wrap (jj : Int) = (jj : Int) := by rw [IntKind.wrap_i64]; omega
            have hki : (k : Int) < (m : Int) := by omega
            have hk0 : (0 : Int) ≤ (k : Int) := by omega
            have e0 : wr.cell? ⟨bl, o + k * 3, none⟩ = some (encStr (nmE jj)) := c0
            have e1 : wr.cell? ⟨bl, o + k * 3 + 1, none⟩ = some (.int .i64 ((jj : Int) + 2)) := c1
            have HDr := hid (HDk.out.drewN (DirR.stays _ _) 1)
            have HSr := hid (HSk.out.on (⟨rfl, rfl, rfl, Nat.le_refl _, fun _ _ => rfl⟩ : Below wr.heap.size wr wr.drew))
            clear hx hxD c0 c1 c2 hbl hbb HDk HSk
            go_wp2_with fail
            go_region_held3 (fun w' => w'.cell? ⟨bl, o + k * 3, none⟩ = some (encStr (nmE jj)) ∧ w'.cell? ⟨bl, o + k * 3 + 1, none⟩ = some (.int .i64 ((jj : Int) + 2))) (first | exact ⟨e0, e1⟩ | go_keep) (first | (go_at_call 25; refine (num_any jj _ (by omega)).mono ?_; rintro e w9 ⟨rfl, rfl⟩))
            have hw5 : IntKind.i64.wrap ((k : Int) + 1) = (k : Int) + 1 := by rw [IntKind.wrap_i64]; omega
            have hw6 : IntKind.i64.wrap ((q : Int) + (k : Int) + 1) = (q : Int) + (k : Int) + 1 := by rw [IntKind.wrap_i64]; omega
            have e0' : wr.drew.cell? ⟨bl, o + k * 3, none⟩ = some (encStr (nmE jj)) := e0
            clear e0 e1 t1 t2 t3
            go_wp2
            go_roundw
            case rel => exact ⟨nmE jj, k + 1, by omega, rfl, by go_num, by go_num, HBn, HSr, HDr⟩
            case measure => simp [intOf]; omega
          · obtain rfl : k = m := by omega
            have HD4 := hid HDk.out
            clear hkm HSk HDk HSl HD3
            cases mo
            · have hmn : ¬ sz < i - q := by have := HMo.out; simpa using this
              have hqm : q + k = i := by have := HMl.out; omega
              have hqm2 : (q : Int) + (k : Int) = (i : Int) := by omega
              go_wp2_with fail
              refine (dk_from dirOk [] 0 HD4.out (by have := HLn.out; omega) (by decide) (by decide)).mono ?_
              rintro e w5 ⟨⟨v5, rfl, ho⟩, hb, hd⟩
              obtain ⟨A5, c5, rfl, _, h9⟩ := ho.form
              clear h9
              have hmo5 : moreE D [] 0 = decide (0 < i) := by unfold moreE; rw [HB0.out, HLn.out]; rfl
              rw [hmo5]
              have HB5 := hid hd.below
              clear ho hb hd hmo5 HD4
              go_wp2
              go_ret
              exact ⟨rfl, HB5.out⟩
            · have hmn : sz < i - q := by have := HMo.out; simpa using this
              have hqm : q + k < i := by have := HMl.out; omega
              have hqm2 : (q : Int) + (k : Int) < (i : Int) := by omega
              have hkr : r + 1 ≤ q + k := by have := HMl.out; omega
              go_wp2
              go_roundw
              case rel => exact ⟨b, q + k, r + 1, by omega, hkr, rfl, by go_num, by go_num, HBb, HD4⟩
              case measure => simp [intOf]; omega
end Go.Proofs.YtcjiimfgmmgifaaDoor
