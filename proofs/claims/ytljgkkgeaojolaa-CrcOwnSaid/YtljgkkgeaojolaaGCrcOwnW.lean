/- The walk of CrcOwn. -/
import Derived.Test.YtljgkkgeaojolaaGCrcC
import Derived.Test.YtljgkkgeaojolaaGRow
namespace Go.Proofs.Ytljgkkgeaojolaa
open Go.RowKit

set_option maxHeartbeats 400000 in
theorem crcOwn_far (A : Option Addr) (n c : Nat) (at' b : Int) (w : World) (hn : 100 < n) :
    Calls Try.prog 5 #[.slice A n c, .int .i64 at', .int .u32 b] w (Yes w) := by
  have h2 : (100 : Int) < n := by omega
  go_enter Try.func5, Try.ntmps5
  go_wp2_with fail
  refine (first_any _).mono ?_
  rintro e w1 ⟨rfl, hb⟩
  have HB := hid hb
  clear hb
  go_wp2
  go_ret
  exact ⟨rfl, HB.out⟩

set_option maxRecDepth 100000 in
set_option maxHeartbeats 1000000 in
theorem crcOwn_near (A : Option Addr) (n c b : Nat) (at' : Int) (l : List Int) (w : World) (h : Sl w w.heap.size A n c l) (hy : Byt l) (hn : n ≤ 100) (ha : at' ≤ 9223372036854775807) (hb : b < 4294967296) :
    Calls Try.prog 5 #[.slice A n c, .int .i64 at', .int .u32 (b : Int)] w (Yes w) := by
  have kc := convB
  have HS := hid h
  have HY := hid hy
  have HA := hid ha
  have HU := hid hb
  clear h hy ha hb
  go_enter Try.func5, Try.ntmps5
  go_wp2_with fail
  refine (first_any _).mono ?_
  rintro e w1 ⟨rfl, hb⟩
  have HB1 := hid hb
  have HS1 := hid (HS.out.on hb)
  clear hb
  go_wp2_with fail
  refine (bytes_any A n c l _ HS1.out (by omega)).mono ?_
  rintro e w2 hm
  obtain ⟨AW, nW, cW, rfl, hs, hb⟩ := hm.get
  obtain rfl : n = nW := by rw [← HS.out.len, ← hs.len]
  have HB2 := hid (HB1.out.trans (hb.mono HB1.out.size))
  have HS2 := hid (HS1.out.on hb)
  have HW2 := hid hs
  clear hb hs hm
  go_wp2_with fail
  refine (turned_any A n c b at' l _ HS2.out HY.out (by omega) HA.out HU.out).mono ?_
  rintro e w3 hm
  obtain ⟨AX, cX, rfl, hs, hb, _, ho⟩ := hm.get
  have HB3 := hid hb
  have HO3 := hid (own_vals.1 ho)
  have HL3 := hid hs.len
  clear hb hs hm ho
  go_wp2
  go_loopw [10] (fun i wr => ∃ (k : Nat) (ys : List Int), k ≤ n ∧ i = .int .i64 (k : Int) ∧ ys.length = n ∧ OwnV 5 wr w2.heap.size (.slice AX n cX) (I ys) ∧ Below w2.heap.size w2 wr) (fun i _ => n - (intOf i).toNat)
  case atStart => exact ⟨0, _, by omega, rfl, HL3.out, HO3.out, HB3.out⟩
  case round =>
    obtain ⟨k, ys, hk, rfl, hl, ho, hb⟩ := hrel
    have HL4 := hid hl
    have HO4 := hid ho
    have HB4 := hid hb
    clear hl ho hb
    by_cases hlt : k < n
    · obtain ⟨g, rfl, hg, _, _⟩ := HO4.out.slot (by omega)
      obtain ⟨y, hy⟩ : ∃ y, ys[k]? = some y := ⟨_, List.getElem?_eq_getElem (by have := HL4.out; omega)⟩
      have hcell := HO4.out.cell (I_get hy)
      have hfr := HO4.out.free k
      have HP := hid (show ∀ z : Int, OwnV 5 (wr.setCell ⟨g, k, none⟩ (.int .u8 z)) w2.heap.size (.slice (some ⟨g, 0, none⟩) n cX) (I (ys.set k z)) from fun z => by
        have := HO4.out.put (by rw [I_len]; exact HL4.out) k (.int .u8 z)
        rwa [I_set] at this)
      have HQ := hid (show ∀ z : Int, Below w2.heap.size w2 (wr.setCell ⟨g, k, none⟩ (.int .u8 z)) from fun z => HB4.out.setCell (by simpa using hg) _)
      clear hy hg
      go_wp2
      go_roundw
      case rel => exact ⟨k + 1, ys.set k _, by omega, by go_num, by rw [List.length_set]; exact HL4.out, HP.out _, HQ.out _⟩
      case measure => simp [intOf]; omega
    · rename World => w5
      have HB5 := hid (HB2.out.trans (HB4.out.mono HB2.out.size))
      have HS5 := hid (HS2.out.on HB4.out)
      have HW5 := hid (HW2.out.on HB4.out)
      clear HL4 HO4
      go_wp2_with fail
      refine (table_any _).mono ?_
      rintro e w6 hm
      obtain ⟨T, m, cT, rfl, hs, hb, _, ho⟩ := hm.fresh
      obtain rfl : 256 = m := by have := hs.len; rw [words_len] at this; exact this
      obtain ⟨g, rfl, hg, _, _⟩ := ho.slot (by omega)
      have HB6 := hid hb
      have HO6 := hid ho
      have HG := hid hg
      clear hm hs hb ho hg
      go_wp2
      go_loopw [12] (fun i wq => ∃ (k : Nat) (xs : List Value), k ≤ 256 ∧ i = .int .i64 (k : Int) ∧ xs.length = 256 ∧ OwnV 23 wq w5.heap.size (.slice (some ⟨g, 0, none⟩) 256 cT) xs ∧ Below w5.heap.size w5 wq) (fun i _ => 256 - (intOf i).toNat)
      case atStart => exact ⟨0, words, by omega, rfl, words_len, HO6.out, HB6.out⟩
      case round =>
        obtain ⟨j, xs, hj, rfl, hl, ho, hb⟩ := hrel
        have HL7 := hid hl
        have HO7 := hid ho
        have HB7 := hid hb
        clear hl ho hb
        by_cases hjl : j < 256
        · obtain ⟨u, hu⟩ : ∃ u, xs[j]? = some u := ⟨_, List.getElem?_eq_getElem (by have := HL7.out; omega)⟩
          have hcell := HO7.out.cell hu
          have hfr := HO7.out.free j
          have R1 := hid (HO7.out.put HL7.out j (.int .u32 7))
          have R2 := hid (show Below w5.heap.size w5 (wr.setCell ⟨g, j, none⟩ (.int .u32 7)) from HB7.out.setCell (by simpa using HG.out) _)
          clear hu
          go_wp2
          go_roundw
          case rel => exact ⟨j + 1, _, by omega, by go_num, by rw [List.length_set]; exact HL7.out, R1.out, R2.out⟩
          case measure => simp [intOf]; omega
        · go_wp2_with fail
          refine (same_any _ _ _ _ _ _ _ _ _ _ _ (HS5.out.on HB7.out) (HW5.out.on HB7.out)).mono ?_
          rintro e w8 ⟨rfl, k8, rfl⟩
          rw [same_self]
          have HB8 := hid (below_drewN (HB5.out.trans (HB7.out.mono HB5.out.size)) k8)
          have HS8 := hid (show Sl (wr.drewN k8) (wr.drewN k8).heap.size A n c l from (HS5.out.on HB7.out).drewN k8)
          have HW8 := hid (show Sl (wr.drewN k8) (wr.drewN k8).heap.size AW n cW l from (HW5.out.on HB7.out).drewN k8)
          generalize wr.drewN k8 = w8 at *
          have HL := hid (Sl.mark w8 [49, 50, 51, 52, 53, 54, 55, 56, 57] (9, 10) (by decide))
          have HYL := hid (show Byt [49, 50, 51, 52, 53, 54, 55, 56, 57] from by intro x hx; simp at hx; omega)
          have hb9 : Below w8.heap.size w8 (w8.alloc (.cells (I [49, 50, 51, 52, 53, 54, 55, 56, 57]).toArray 5 (9, 10))) := (Below.refl _ _).alloc (Nat.le_refl _) _
          have HB9 := hid (HB8.out.trans (hb9.mono HB8.out.size))
          have HS9 := hid (HS8.out.on hb9)
          have HW9 := hid (HW8.out.on hb9)
          clear hb9
          go_wp2_with fail
          refine (sum_any _ _ _ _ _ _ HL.out HYL.out).mono ?_
          rintro e w' ⟨rfl, rfl⟩
          rw [nine]
          go_wp2_with fail
          refine (table_any _).mono ?_
          rintro e w10 hm
          obtain ⟨T, m, cT', rfl, hs, hb, _, ho⟩ := hm.fresh
          obtain rfl : 256 = m := by have := hs.len; rw [words_len] at this; exact this
          have HB10 := hid (HB9.out.trans (hb.mono HB9.out.size))
          have HS10 := hid (HS9.out.on hb)
          have HW10 := hid (HW9.out.on hb)
          have HT10 := hid hs
          clear hm hs hb ho
          go_wp2_with fail
          refine (with_any _ _ _ _ _ _ _ _ _ HT10.out HW10.out HY.out).mono ?_
          rintro e w' ⟨rfl, rfl⟩
          go_wp2_with fail
          refine (sum_any _ _ _ _ _ _ HS10.out HY.out).mono ?_
          rintro e w' ⟨rfl, rfl⟩
          go_wp2
          go_ret
          exact ⟨rfl, HB10.out⟩
theorem crcOwn_all (A : Option Addr) (n c : Nat) (zs : List Int) (at' b : Int) (w : World) (hr : IsRow .u8 w A n c zs) (ha : (Lit.int .i64 at').wf = true) (hb : (Lit.int .u32 b).wf = true) :
    Calls Try.prog 5 #[.slice A n c, .int .i64 at', .int .u32 b] w (Yes w) := by
  have hS := sl_of_row hr
  have hY := byt_of_row hr
  have h1 := bounds_i64 ha
  have h2 := bounds_u32 hb
  rcases Nat.lt_or_ge 100 n with h | h
  · exact crcOwn_far A n c at' b w h
  · obtain ⟨u, rfl⟩ : ∃ u : Nat, b = (u : Int) := ⟨b.toNat, by omega⟩
    exact crcOwn_near A n c u at' _ w hS hY h (by omega) (by omega)
end Go.Proofs.Ytljgkkgeaojolaa
