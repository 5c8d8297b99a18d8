/- Put together out of 5 texts. Package page: firstRef, takeIndex, pageBlock, pageOf. -/
import Derived.Test.YtkhdgacjgccnnaaGreatDoorGXap
import Derived.Deep.DeepCutAuto
import Derived.Lib.AppendZeros
namespace Go.Proofs.YtkhdgacjgccnnaaGreatDoor
open Go.RowKit

theorem or_upU (u c k : Nat) (hu : u < 256 ^ k) (hc : u + c * 256 ^ k < 18446744073709551616) : bits .or .u64 (u : Int) ((c * 256 ^ k : Nat) : Int) = ((u + c * 256 ^ k : Nat) : Int) := by
  have e : (256 : Nat) ^ k = 2 ^ (8 * k) := by rw [Nat.pow_mul]
  rw [e] at hu hc ⊢
  exact or_upW u c (8 * k) hu hc
set_option maxRecDepth 100000 in
set_option maxHeartbeats 2000000 in
theorem firstRef_any (A : Option Addr) (n c : Nat) (l : List Int) (w : World) (h : Sl w w.heap.size A n c l) (hy : Byt l) (hn : 6 ≤ n) :
    Calls Tryz.prog 135 #[.slice A n c] w fun e w' => ∃ A', e = .returned (.tuple #[rfV (tellRef l 0), .slice A' (n - 6) (c - 6)]) ∧ Sl w' w'.heap.size A' (n - 6) (c - 6) (l.drop 6) ∧ (∀ ad, A' = some ad → ∃ a0, A = some a0 ∧ a0.block = ad.block) ∧ Below w.heap.size w w' := by
  have HS := hid h
  have HY := hid hy
  have hcap := h.cap
  have hmx := h.max
  have hlen := h.len
  have HC := hid (h.cut (k := 6) hn)
  have HT := hid (numOf_ref l (by omega) hy)
  have HTs := hid (numOf_split l (by omega) hy)
  have HT2 := hid (numOf_two l hy)
  have HT4 := hid (numOf_four (l.drop 2) (hy.drop 2))
  have HB0 := hid (show Below w.heap.size w (w.alloc (.cells #[.int .i64 0, .int .u32 0] 91)) from (Below.refl _ _).alloc (Nat.le_refl _) _)
  have HK0 := hid (Blk.new w 91 #[.int .i64 0, .int .u32 0])
  clear h hy
  unfold maxLen at hmx
  go_enter Tryz.func135, Tryz.ntmps135
  go_wp2
  go_loopw [4, 10] (fun v i wr => ∃ k : Nat, k ≤ 6 ∧ i = .int .i64 (k : Int) ∧ v = .int .u64 ((numOf (l.take k) : Nat) : Int) ∧ wr = w.alloc (.cells #[.int .i64 0, .int .u32 0] 91)) (fun _ i _ => 6 - (intOf i).toNat)
  case atStart => exact ⟨0, Nat.zero_le _, rfl, rfl, rfl⟩
  case round =>
    obtain ⟨k, hk, rfl, rfl, rfl⟩ := hrel
    by_cases hlt : k < 6
    · obtain ⟨ad, x, rfl, hbl, hx, hcx⟩ := HS.out.get (k := k) (by omega)
      have hcx2 := (World.cell?_alloc_lt w (.cells #[.int .i64 0, .int .u32 0] 91) (ad.add k) (by rw [add_block]; omega)).trans hcx
      have hv := HY.out.at_ hx
      obtain ⟨xn, rfl⟩ : ∃ xn : Nat, x = (xn : Int) := ⟨x.toNat, by omega⟩
      have HNx := hid (numOf_next hx)
      have hN := numOf_lt (HY.out.take k)
      rw [List.length_take, Nat.min_eq_left (by omega)] at hN
      obtain ⟨u, hu⟩ : ∃ u, numOf (l.take k) = u := ⟨_, rfl⟩
      rw [hu] at HNx hN ⊢
      have hp := pow_le6 (k := k) (by omega)
      have hprod : xn * 256 ^ k ≤ 255 * 1099511627776 := Nat.mul_le_mul (by omega) hp
      have HOr := hid (or_upU u xn k hN (by omega))
      have hxi : (xn : Int) ≤ 255 := by omega
      have hk5 : (k : Int) ≤ 5 := by omega
      have HR := hid (show bits .or .u64 (u : Int) (IntKind.u64.wrap ((xn : Int) * 2 ^ (8 * k))) = ((numOf (l.take (k + 1)) : Nat) : Int) by
        have e : ((xn : Int) * 2 ^ (8 * k)) = ((xn * 256 ^ k : Nat) : Int) := by
          rw [show (256 : Nat) ^ k = 2 ^ (8 * k) by rw [Nat.pow_mul]]
          simp
        have e2 : IntKind.u64.wrap ((xn * 256 ^ k : Nat) : Int) = ((xn * 256 ^ k : Nat) : Int) := by rw [IntKind.wrap_u64]; omega
        rw [e, e2, HOr.out, HNx.out])
      clear hN hp hprod hx hv hbl HC HOr hcx
      go_wp2
      exact ⟨⟨k + 1, by omega, by go_num, by rw [HR.out], trivial⟩, by simp [intOf]; omega⟩
    · obtain rfl : k = 6 := by omega
      have hnlt : decide ((6 : Nat) < 6) = false := by simp
      have h6c : (6 : Int) ≤ n := by omega
      have hnc : (n : Int) ≤ c := by omega
      have hc63 : (c : Int) ≤ 9223372036854775807 := by omega
      obtain ⟨N, hN⟩ : ∃ N, numOf (l.take 6) = N := ⟨_, rfl⟩
      have HN := hid hN
      rw [hN]
      clear hN
      have E1 := hid (show (N : Int) % 65536 = (tellRef l 0).1 from by rw [← HT.out, HN.out]; simp)
      have E2 := hid (show (N : Int) / 65536 % 4294967296 = (((tellRef l 0).2 : Nat) : Int) from by
        rw [← HT.out, HN.out]
        have h1 := HTs.out
        have h2 := HT2.out
        have h4 := HT4.out
        rw [HN.out] at h1
        show (N : Int) / 65536 % 4294967296 = ((N / 65536 : Nat) : Int)
        omega)
      obtain ⟨⟨r1, r2⟩, hr⟩ : ∃ r, tellRef l 0 = r := ⟨_, rfl⟩
      have HRr := hid hr
      rw [hr] at E1 E2
      clear hr
      go_wp2_with fail
      go_region
      rw [E1.out, E2.out]
      obtain ⟨A', hA'⟩ : ∃ A' : Option Addr, (if c = 6 then A else A.map (·.add 6)) = A' := ⟨_, rfl⟩
      have hA2 : (if c = 6 then A else Option.map (fun x => ({ block := x.block, off := x.off + 6 } : Addr)) A) = A' := hA'
      rw [hA2]
      have HC2 := HC.out
      rw [hA'] at HC2
      have HBb := hid (show Below w.heap.size w (w.alloc (.cells #[.int .i64 r1, .int .u32 (r2 : Int)] 91)).drew from ((Below.refl _ _).alloc (Nat.le_refl _) _).drew)
      have HSb := hid (show Sl (w.alloc (.cells #[.int .i64 r1, .int .u32 (r2 : Int)] 91)).drew (w.alloc (.cells #[.int .i64 r1, .int .u32 (r2 : Int)] 91)).drew.heap.size A' (n - 6) (c - 6) (l.drop 6) from Sl.on HC2 HBb.out)
      have HAp := hid (show ∀ ad, A' = some ad → ∃ a0, A = some a0 ∧ a0.block = ad.block from fun ad had => by
        rw [had] at hA'
        split at hA'
        · exact ⟨ad, hA', rfl⟩
        · rcases A with _ | a0
          · cases hA'
          · injection hA' with hA'
            exact ⟨a0, rfl, by rw [← hA', add_block]⟩)
      clear hA' hA2 HC2
      go_wp2
      refine bodyPost_ret (v := .tuple #[rfV (r1, r2), .slice A' (n - 6) (c - 6)]) (by simp [results, Tryz.results135, go_sem]) rfl ⟨A', by rw [HRr.out], HSb.out, HAp.out, HBb.out⟩
/-- the first i Refs of index k taken from a block -/
def tellTo (ps : List (Int × Nat)) (b : List Int) (k : Nat) : Nat → List (Int × Nat)
  | 0 => ps
  | i + 1 => (tellTo ps b k i).set (42 * k + i) (tellRef b i)
theorem tellTo_len (ps : List (Int × Nat)) (b : List Int) (k i : Nat) : (tellTo ps b k i).length = ps.length := by
  induction i with
  | zero => rfl
  | succ i ih => rw [tellTo, List.length_set, ih]
theorem tellRef_drop (b : List Int) (i : Nat) : tellRef (b.drop (6 * i)) 0 = tellRef b i := by
  unfold tellRef
  simp only [Nat.mul_zero, Nat.zero_add, List.drop_drop, Nat.add_zero]
set_option maxRecDepth 100000 in
set_option maxHeartbeats 2000000 in
theorem takeIndex_any (P : PS) (g k : Nat) (Ab : Option Addr) (c : Nat) (b : List Int) (w : World) (h : HoldsP w g 95 [] P []) (hL : P.Len) (hk : k < 7) (hb : Sl w w.heap.size Ab 256 c b) (hy : Byt b) (hap : ∀ ad, Ab = some ad → ad.block ≠ g) :
    Calls Tryz.prog 102 #[.pointer (some ⟨g, 0, none⟩), .int .i64 (k : Int), .slice Ab 256 c] w fun e w' => e = .returned (.tuple #[]) ∧ HoldsP w' g 95 [] ⟨P.epoch, P.idx, tellTo P.pgs b k (endK k - 42 * k)⟩ [] ∧ w.grownBy w' (some g) := by
  have HH := hid h
  have HLn := hid hL
  have HB := hid hb
  have HY := hid hy
  have HAp := hid hap
  obtain ⟨E, hE⟩ : ∃ E, endK k = E := ⟨_, rfl⟩
  have HEo := hid (fun (W : World) => (endOf_any k W (by omega)))
  rw [hE] at HEo
  have HK := hid (show 42 * k ≤ E ∧ E ≤ 256 ∧ E - 42 * k ≤ 42 from by rw [← hE]; unfold endK; omega)
  have hcap := hb.cap
  have hcm := hb.max
  unfold maxLen at hcm
  have he1 : (E : Int) ≤ 256 := by have := HK.out; omega
  have hk7 : (k : Int) < 7 := by omega
  rw [hE]
  clear h hL hb hy hap hE
  go_enter Tryz.func102, Tryz.ntmps102
  go_wp2
  go_loopw [6, 2] (fun v bs wr => ∃ (i : Nat) (A : Option Addr), 42 * k + i ≤ E ∧ v = .int .i64 (42 * (k : Int) + (i : Int)) ∧ bs = .slice A (256 - 6 * i) (c - 6 * i) ∧ (Sl wr wr.heap.size A (256 - 6 * i) (c - 6 * i) (b.drop (6 * i)) ∧ ∀ ad, A = some ad → ad.block ≠ g) ∧ HoldsP wr g 95 [] ⟨P.epoch, P.idx, tellTo P.pgs b k i⟩ [] ∧ w.grownBy wr (some g)) (fun v _ _ => E - (intOf v).toNat)
  case atStart => exact ⟨0, Ab, by have := HK.out; omega, by first | rfl | (congr 1; omega), rfl, ⟨by simpa using HB.out, HAp.out⟩, HH.out, only_refl _ _⟩
  case round =>
    obtain ⟨i, A, hi, rfl, rfl, ⟨hsl, hap⟩, hh, hg⟩ := hrel
    have HSl := hid hsl
    have HAp2 := hid hap
    have HHi := hid hh
    have HG := hid hg
    have HQn := hid hi
    clear hsl hap hh hg
    go_wp2_with fail
    refine (HEo.out _).mono ?_
    rintro e w1 ⟨rfl, rfl⟩
    by_cases hlt : 42 * k + i < E
    · obtain ⟨q, hq⟩ : ∃ q : Nat, q = 42 * k + i := ⟨_, rfl⟩
      have HQ := hid (show 42 * (k : Int) + (i : Int) = (q : Int) from by omega)
      have HQ2 := hid hq
      have hqE : (q : Int) < E := by omega
      have hq256 : (q : Int) < 256 := by omega
      have hi42 : i < 42 := by have := HK.out; omega
      have hL2 : PS.Len ⟨P.epoch, P.idx, tellTo P.pgs b k i⟩ := ⟨HLn.out.i, by show (tellTo _ _ _ _).length = 256; rw [tellTo_len]; exact HLn.out.p⟩
      have HL2 := hid hL2
      obtain ⟨x, hx⟩ := hL2.page (p := q) (by have := HK.out; omega)
      have HX := hid hx
      have HF := hid (firstRef_any A (256 - 6 * i) (c - 6 * i) (b.drop (6 * i)) wr.drew HSl.out.drew (HY.out.drop _) (by omega))
      have HKp := hid (fun (w2 : World) (hb : Below wr.heap.size wr.drew w2) => (show HoldsP w2 g 95 [] ⟨P.epoch, P.idx, tellTo P.pgs b k i⟩ [] ∧ w.grownBy w2 (some g) from
        ⟨HHi.out.drew.below hb HHi.out.lt, only_trans (only_drew HG.out) (only_below hb _)⟩))
      have HCl := hid (fun (w2 : World) (hh : HoldsP w2 g 95 [] ⟨P.epoch, P.idx, tellTo P.pgs b k i⟩ []) => (show w2.cell? ⟨g, 15 + q * 2, none⟩ = some (.int .i64 x.1) ∧ w2.cell? ⟨g, 15 + q * 2 + 1, none⟩ = some (.int .u32 (x.2 : Int)) ∧ w2.frozen? ⟨g, 15 + q * 2, none⟩ = false ∧ w2.frozen? ⟨g, 15 + q * 2 + 1, none⟩ = false from by
        obtain ⟨h1, h2⟩ := hh.page HL2.out HX.out
        simp only [List.length_nil, Nat.zero_add] at h1 h2
        exact ⟨h1, h2, Blk.free hh _, Blk.free hh _⟩))
      obtain ⟨s0, s1, s2, s3⟩ := HCl.out wr HHi.out
      rw [HQ.out]
      clear hx hq hL2 hlt hi
      go_wp2_with fail
      go_region_with ((go_at_call 135; refine HF.out.mono ?_; rintro e w2 ⟨A', rfl, hsl2, hap2, hb2⟩; obtain ⟨hh2, hg2⟩ := HKp.out w2 hb2; obtain ⟨t0, t1, t2, t3⟩ := HCl.out w2 hh2; have HSl2 := hid hsl2; have HAp3 := hid hap2; have HH2 := hid hh2; have HG2 := hid hg2; clear hsl2 hap2 hb2 hh2 hg2))
      have hn6 : 256 - 6 * i - 6 = 256 - 6 * (i + 1) := by omega
      have hc6 : c - 6 * i - 6 = c - 6 * (i + 1) := by omega
      rw [hn6, hc6] at HSl2
      rw [tellRef_drop, hn6, hc6]
      obtain ⟨y, hy⟩ : ∃ y, tellRef b i = y := ⟨_, rfl⟩
      have HYy := hid hy
      rw [hy]
      have HH3 := hid (show HoldsP ((w2.setCell ⟨g, 15 + q * 2, none⟩ (.int .i64 y.1)).setCell ⟨g, 15 + q * 2 + 1, none⟩ (.int .u32 (y.2 : Int))) g 95 [] ⟨P.epoch, P.idx, tellTo P.pgs b k (i + 1)⟩ [] from by
        have := HH2.out.putPage HL2.out HX.out y (o1 := 15 + q * 2) (o2 := 15 + q * 2 + 1) (by simp) (by simp)
        rw [tellTo, HYy.out, ← HQ2.out]
        exact this)
      have HG3 := hid (only_put (only_put HG2.out (15 + q * 2) (.int .i64 y.1)) (15 + q * 2 + 1) (.int .u32 (y.2 : Int)))
      have HAp4 := hid (show ∀ ad, A' = some ad → ad.block ≠ g from fun ad had => by
        obtain ⟨a0, h1, h2⟩ := HAp3.out ad had
        rw [← h2]
        exact HAp2.out a0 h1)
      have HSl3 := hid (show Sl ((w2.setCell ⟨g, 15 + q * 2, none⟩ (.int .i64 y.1)).setCell ⟨g, 15 + q * 2 + 1, none⟩ (.int .u32 (y.2 : Int))) ((w2.setCell ⟨g, 15 + q * 2, none⟩ (.int .i64 y.1)).setCell ⟨g, 15 + q * 2 + 1, none⟩ (.int .u32 (y.2 : Int))).heap.size A' (256 - 6 * (i + 1)) (c - 6 * (i + 1)) (b.drop (6 * (i + 1))) from by
        have h1 := HSl2.out
        rw [List.drop_drop, show 6 * i + 6 = 6 * (i + 1) by omega] at h1
        exact sl_same h1 (by simp [World.setCell]) (fun a ha => (Below.heap_setCell _ ⟨g, 15 + q * 2 + 1, none⟩ _ a.block (HAp4.out a ha)).trans (Below.heap_setCell _ ⟨g, 15 + q * 2, none⟩ _ a.block (HAp4.out a ha))))
      have HQ5 := hid (show 42 * k + (i + 1) ≤ E from by have := HQ2.out; omega)
      have hmz := HQ2.out
      have HMz := hid hmz
      clear hy hmz hn6 hc6 s0 s1 s2 s3 t0 t1 t2 t3
      go_wp2
      go_roundw
      case rel => exact ⟨i + 1, A', HQ5.out, by have := HMz.out; first | (congr 1; omega) | go_num, rfl, ⟨HSl3.out, HAp4.out⟩, HH3.out, HG3.out⟩
      case measure => have := HMz.out; simp [intOf]; omega
    · have hEi : 42 * k + i = E := by omega
      have hg : decide (42 * (k : Int) + (i : Int) < (E : Int)) = false := by simp; omega
      have HF := hid (show HoldsP wr g 95 [] ⟨P.epoch, P.idx, tellTo P.pgs b k (E - 42 * k)⟩ [] from by
        rw [show E - 42 * k = i by omega]; exact HHi.out)
      clear hlt hEi hi
      go_wp2
      go_end0
      exact ⟨rfl, HF.out, HG.out⟩
end Go.Proofs.YtkhdgacjgccnnaaGreatDoor
namespace Go.Proofs.YtkhdgacjgccnnaaGreatDoor
open Go.RowKit

set_option maxRecDepth 100000 in
set_option maxHeartbeats 2000000 in
theorem pageBlock_any (A : Option Addr) (n c : Nat) (l : List Int) (w : World) (h : Sl w w.heap.size A n c l) (h1 : 1 ≤ n) (h2 : n ≤ 248) :
    Calls Tryz.prog 91 #[.slice A n c] w fun e w' => ∃ g, w.heap.size ≤ g ∧ e = .returned (.slice (some ⟨g, 0, none⟩) 256 256) ∧ Blk w' g 5 (I (pageB l)).toArray ∧ Below w.heap.size w w' := by
  obtain ⟨i0, hi, hz0, hz1, hz2⟩ := info_parts Tryz.info5
  have HS := hid h
  have HN := hid (show 1 ≤ n ∧ n ≤ 248 from ⟨h1, h2⟩)
  obtain ⟨ad, rfl⟩ : ∃ ad, A = some ad := by
    rcases A with _ | ad
    · have := h.nil rfl; have := h.cap; omega
    · exact ⟨ad, rfl⟩
  have hn1 : (n : Int) ≤ 248 := by omega
  have hu : IntKind.u8.wrap (n : Int) = (n : Int) := by rw [IntKind.wrap_u8]; omega
  have hu2 : (n : Int) % 256 = (n : Int) := by omega
  clear h h1 h2
  go_enter Tryz.func91, Tryz.ntmps91
  go_wp2_with (at_make; refine wpList_make_full _ rfl _ _ 29 rfl w.heap.size 5 i0 (.int .u8 0) 1 Tryz.underlying29 hi hz0 hz1 _ _ _ _ 256 rfl rfl rfl rfl ?b2 ?b3 ?b4 ?_)
  case b2 => rw [hz2]; omega
  case b3 => unfold maxLen; omega
  case b4 => exact Nat.le_refl _
  intro w2 hown hgrow
  have hbm : Below w.heap.size w w2 := (Below.refl _ _).grown hgrow (Nat.le_refl _) (fun _ h => by cases h)
  have hblk : Blk w2 w.heap.size 5 (I (zerosL 256)).toArray := by
    rcases hown.2 with ⟨hv, _⟩ | ⟨g', cap', cur, hv, _, hg1, _, _, hcs, ht⟩
    · cases hv
    · cases hv
      rw [zeros, List.take_of_length_le (by rw [Array.length_toList]; omega)] at ht
      have e : cur = (I (zerosL 256)).toArray := by apply Array.ext'; rw [ht]; rfl
      rw [← e]
      exact hg1
  have HB2 := hid hbm
  have HK2 := hid hblk
  have c0 := hblk.cell 0
  have f0 := hblk.free 0
  have c0' : w2.cell? ⟨w.heap.size, 0, none⟩ = some (.int .u8 0) := by rw [c0]; simp [I, zerosL]
  clear c0 hown hgrow hbm hblk
  go_upto_region 3 with fail
  have hk3 : Blk (w2.setCell ⟨w.heap.size, 0, none⟩ (.int .u8 (n : Int))) w.heap.size 5 (I ((n : Int) :: zerosL 255)).toArray := by
    have h1 := HK2.out.put 0 (.int .u8 (n : Int))
    have e : (I (zerosL 256)).toArray.setIfInBounds 0 (.int .u8 (n : Int)) = (I ((n : Int) :: zerosL 255)).toArray := by
      rw [zeros_cut (n := 256) (by omega)]
      simp [I]
    rwa [e] at h1
  have HK3 := hid hk3
  have HB3 := hid (show Below w.heap.size w (w2.setCell ⟨w.heap.size, 0, none⟩ (.int .u8 (n : Int))) from HB2.out.setCell (Nat.le_refl _) _)
  have HS3 := hid (HS.out.on HB3.out)
  generalize w2.setCell ⟨w.heap.size, 0, none⟩ (.int .u8 (n : Int)) = w3 at HK3 HB3 HS3 ⊢
  clear hk3 c0' f0
  obtain ⟨L, hL⟩ : ∃ L, I l = L := ⟨_, rfl⟩
  have HLL := hid (show L.length = n from by rw [← hL, I_len, HS3.out.len])
  have HSrc := hid (show ∀ j v, L[j]? = some v → w3.cell? (ad.add j) = some v from fun j v hj => by
    rw [← hL] at hj
    obtain ⟨x, hx, rfl⟩ := I_get' hj
    exact (HS3.out.at_ ad rfl (by have := HN.out; omega)).2 j x hx)
  have HL1 := hid (show ∀ u ∈ L, u.oneCell' = true from by rw [← hL]; exact I_one)
  have HFin := hid (show (I ((n : Int) :: zerosL 255)).take 1 ++ (L ++ (I ((n : Int) :: zerosL 255)).drop (1 + L.length)) = I (pageB l) from by
    have hlen : l.length = n := HS3.out.len
    rw [← hL, pageB, hlen, I_len, hlen]
    simp only [I, zerosL, List.map_cons, List.take_succ_cons, List.take_zero, List.map_append, List.map_replicate]
    rw [Nat.add_comm 1 n, List.drop_succ_cons, List.drop_replicate]
    rfl)
  clear hL
  go_wp2_with (refine wpList_copyR rfl _ _ rfl w.heap.size 1 255 255 ad n c rfl rfl (I ((n : Int) :: zerosL 255)) 5 HK3.out L ?e1 HSrc.out ?e2 HL1.out ?_)
  case e1 => have := HLL.out; have := HN.out; simp only [Nat.min_def]; split <;> omega
  case e2 => have := HLL.out; have := HN.out; simp [I, zerosL]; omega
  intro w4 hg4 hb4
  have HB4 := hid (show Below w.heap.size w w4 from HB3.out.grown hb4 HB3.out.size (fun k hk => by injection hk with hk; omega))
  have HK4 := hid (show Blk w4 w.heap.size 5 (I (pageB l)).toArray from by rw [← HFin.out]; exact hg4)
  clear hg4 hb4
  go_wp2
  go_ret
  exact ⟨w.heap.size, Nat.le_refl _, rfl, HK4.out, HB4.out⟩
/-- a page out of a block that has one -/
def PageOut (w : World) (l : List Int) (e : Ending) (w' : World) : Prop := ∃ A n c, e = .returned (.tuple #[.slice A n c, .nilIface]) ∧ Sl w' w'.heap.size A n c l ∧ Below w.heap.size w w' ∧ ∀ ad, A = some ad → w.heap.size ≤ ad.block
set_option maxRecDepth 100000 in
set_option maxHeartbeats 2000000 in
theorem pageOf_any (A : Option Addr) (c : Nat) (l : List Int) (w : World) (h : Sl w w.heap.size A 256 c (pageB l)) (h1 : 1 ≤ l.length) (h2 : l.length ≤ 248) :
    Calls Tryz.prog 107 #[.slice A 256 c] w (PageOut w l) := by
  obtain ⟨n, hn⟩ : ∃ n, l.length = n := ⟨_, rfl⟩
  obtain ⟨ad, rfl⟩ : ∃ ad, A = some ad := by
    rcases A with _ | ad
    · have := h.nil rfl; have := h.cap; omega
    · exact ⟨ad, rfl⟩
  have c0 := (h.at_ ad rfl (by omega)).2 0 _ (pageB_head l)
  rw [show ad.add 0 = ad from by unfold Addr.add; rw [if_pos rfl], hn] at c0
  have hcap := h.cap
  have hmx := h.max
  unfold maxLen at hmx
  have hsl : Sl w w.heap.size (some (ad.add 1)) n (c - 1) l := by
    have hc := (h.cut (k := 1) (by omega))
    rw [if_neg (by omega)] at hc
    have hh := hc.head (k := n) (by omega)
    rw [← hn, pageB_back] at hh
    rw [← hn]
    exact hh
  have HSl := hid hsl
  have hadd : ad.add 1 = ⟨ad.block, ad.off + 1, none⟩ := by unfold Addr.add; rw [if_neg (by omega)]
  rw [hadd] at HSl
  have HN := hid hn
  have hn1 : 1 ≤ (n : Int) := by omega
  have hn2 : (n : Int) ≤ 248 := by omega
  have hn3 : n ≤ c - 1 := by omega
  have hc1 : ¬ c = 1 := by omega
  clear hsl h h1 h2 hn hadd
  go_enter Tryz.func107, Tryz.ntmps107
  go_wp2_with fail
  refine (cloned_any (some ⟨ad.block, ad.off + 1, none⟩) n (c - 1) l w HSl.out (by omega)).mono ?_
  rintro e w' ⟨v, rfl, hown, hb, hlen⟩
  obtain ⟨A', c', rfl, hs', hlo⟩ := Own.form hown
  have HS2 := hid (show Sl w' w'.heap.size A' n c' l from by rw [HN.out] at hs'; exact hs')
  have HB2 := hid hb
  have HLo := hid hlo
  rw [HN.out]
  clear hown hb hlen hs' hlo
  go_wp2
  go_ret2
  exact ⟨A', n, c', rfl, HS2.out, HB2.out, HLo.out⟩
end Go.Proofs.YtkhdgacjgccnnaaGreatDoor
namespace Go.Proofs.YtkhdgacjgccnnaaGreatDoor
open Go.RowKit

/-- new Refs -/
def AnewR (w : World) (l : List (Int × Nat)) (e : Ending) (w' : World) : Prop := ∃ v, e = .returned v ∧ OwnR w' w.heap.size v l ∧ Below w.heap.size w w'
set_option maxRecDepth 100000 in
set_option maxHeartbeats 1000000 in
theorem cloneR_any (A : Option Addr) (n c : Nat) (l : List (Int × Nat)) (w : World) (h : Rf w w.heap.size A n c l) (hn : n ≤ 1000) :
    Calls Tryz.prog 95 #[.slice A n c] w (AnewR w l) := by
  obtain ⟨i0, hi, hz0, hz1, hz2⟩ := info_parts Tryz.infoRef
  have HS := hid h
  clear h
  rcases A with _ | ad
  · obtain rfl : c = 0 := HS.out.nil rfl
    obtain rfl : n = 0 := by have := HS.out.cap; omega
    obtain rfl : l = [] := List.eq_nil_of_length_eq_zero HS.out.len
    have HF := hid (show AnewR w [] (.returned (.slice none 0 0)) w from ⟨_, rfl, OwnR.nil _ _, Below.refl _ _⟩)
    have hq : ∀ W, (binOp .eql 83 (.slice none 0 0) (.slice none 0 0)).run Tryz.prog W = .ok (.bool true) W := fun W => Lib.run_eql_slice_nil (P := Tryz.prog) W 83 91 none 0 0 0 0 Tryz.underlying83
    go_enter Tryz.func95, Tryz.ntmps95
    go_wp2
    go_ret
    exact HF.out
  · have hq : ∀ W, (binOp .eql 83 (.slice (some ad) n c) (.slice none 0 0)).run Tryz.prog W = .ok (.bool false) W := fun W => Lib.run_eql_slice_nil (P := Tryz.prog) W 83 91 (some ad) n c 0 0 Tryz.underlying83
    have HM := hid (show (w.alloc (.cells #[] 91)).ownsRow w.heap.size 91 2 (.slice (some ⟨w.heap.size, 0, none⟩) 0 0) 0 [] from World.ownsRow_made w #[] 0 (Nat.le_refl _) (by decide) rfl)
    go_enter Tryz.func95, Tryz.ntmps95
    go_wp2_with (at_builtin; refine wpList_append_own _ rfl _ _ 83 rfl w.heap.size 91 i0 (.agg #[.int .i64 0, .int .u32 0]) 2 16 Tryz.underlying83 hi hz0 hz1 hz2 rfl (by decide) _ _ _ rfl HM.out ad n c (cellsR l) rfl ?c0 ?c1 ?c2 ?c3 ?c4 ?c5 ?_)
    case c0 => rw [cellsR_len, HS.out.len]
    case c1 =>
      intro j u hu
      have hj : j < (cellsR l).length := (List.getElem?_eq_some_iff.1 hu).1
      rw [cellsR_len] at hj
      obtain ⟨x, hx⟩ : ∃ x, l[j / 2]? = some x := ⟨_, List.getElem?_eq_getElem (by omega)⟩
      obtain ⟨h1, h2⟩ := ((HS.out.on (show Below w.heap.size w (w.alloc (.cells #[] 91)) from (Below.refl _ _).alloc (Nat.le_refl _) _)).at_ ad rfl (by have := HS.out.len; omega)).2 (j / 2) x hx
      rcases Nat.mod_two_eq_zero_or_one j with h0 | h0
      · have e : j = j / 2 * 2 + 0 := by omega
        rw [e, cellsR_get hx (by omega), cells2_0] at hu
        injection hu with hu
        rw [← hu, show j = j / 2 * 2 by omega]
        exact h1
      · have e : j = j / 2 * 2 + 1 := by omega
        rw [e, cellsR_get hx (by omega), cells2_1] at hu
        injection hu with hu
        rw [← hu, e]
        have e3 : (j / 2 * 2 + 1) / 2 * 2 + 1 = j / 2 * 2 + 1 := by omega
        exact h2
    case c2 => exact cellsR_one l
    case c3 => unfold maxLen; omega
    case c4 => omega
    case c5 => simp
    intro v' w2 hown' hgrow _
    have HF := hid (show AnewR w l (.returned v') w2 from ⟨_, rfl, by
      unfold OwnR
      rw [HS.out.len]
      simpa using hown', ((Below.refl _ _).alloc (Nat.le_refl _) _).grown hgrow (by simp) (fun k hk => (World.ownsRow.lt HM.out k hk).1)⟩)
    clear hown' hgrow
    go_wp2
    go_ret
    exact HF.out
set_option maxRecDepth 100000 in
set_option maxHeartbeats 1000000 in
theorem growR_any (n : Nat) (w : World) (h0 : 0 < n) (hn : n ≤ 1000) :
    Calls Tryz.prog 174 #[.slice none 0 0, .int .i64 (n : Int)] w (AnewR w []) := by
  obtain ⟨i0, hi, hz0, hz1, hz2⟩ := info_parts Tryz.infoRef
  have hn1 : (n : Int) ≤ 1000 := by omega
  have hn0 : 0 < (n : Int) := by omega
  have hge := grownCap_ge w n 0 91
  have hcm : grownCap w n 0 91 ≤ maxLen := grownCap_le_maxLen w n 0 91 (by unfold maxLen; omega)
  have hrun := fun ty => Lib.run_append_nil_zeros (P := Tryz.prog) w 83 3 ty 91 i0 (.agg #[.int .i64 0, .int .u32 0]) .i64 .i64 Tryz.underlying83 Tryz.underlying3 hi hz0 n h0 (by rw [hz1]; omega) (by omega) (by rw [hz2]; omega)
  obtain ⟨cp, hcp⟩ : ∃ cp, grownCap w n 0 91 = cp := ⟨_, rfl⟩
  rw [hcp] at hrun hge hcm
  obtain ⟨cs, hcs⟩ : ∃ cs, Builtin.zeroCells (Value.agg #[.int .i64 0, .int .u32 0]).cells n ++ Builtin.zeroCells (Value.agg #[.int .i64 0, .int .u32 0]).cells (cp - n) = cs := ⟨_, rfl⟩
  have hsz : cs.size = cp * 2 := by
    rw [← hcs, Array.size_append, size_zeroCells, size_zeroCells]
    show n * 2 + (cp - n) * 2 = cp * 2
    omega
  rw [hcs] at hrun
  have HF := hid (show AnewR w [] (.returned (.slice (some ⟨w.heap.size, 0, none⟩) 0 cp)) (w.drew.alloc (.cells cs 91)) from
    ⟨_, rfl, ⟨rfl, .inr ⟨w.heap.size, cp, cs, rfl, Nat.le_refl _, heap_alloc_new w.drew _, Nat.zero_le _, hcm, hsz, by simp [cellsR]⟩⟩, ((Below.refl w.heap.size w).drew).alloc (Nat.le_refl _) _⟩)
  have hR := hid hrun
  have hcp1 : (cp : Int) ≤ 9223372036854775807 := by unfold maxLen at hcm; omega
  clear hcp hcs hsz hrun hcm hge hi hz0 hz1 hz2
  go_enter Tryz.func174, Tryz.ntmps174
  go_wp2_with (at_builtin; refine Lib.wpList_append_run _ rfl _ _ 83 3 rfl _ _ rfl rfl _ _ (hR.out _) ?_)
  go_wp2
  go_ret
  exact HF.out
end Go.Proofs.YtkhdgacjgccnnaaGreatDoor
namespace Go.Proofs.YtkhdgacjgccnnaaGreatDoor
open Go.RowKit

theorem rf_cells {w : World} {B n c : Nat} {ad : Addr} {l : List (Int × Nat)} (h : Rf w B (some ad) n c l) : ∀ j u, (cellsR l)[j]? = some u → w.cell? (ad.add j) = some u := by
  intro j u hu
  have hj : j < (cellsR l).length := (List.getElem?_eq_some_iff.1 hu).1
  rw [cellsR_len] at hj
  obtain ⟨x, hx⟩ : ∃ x, l[j / 2]? = some x := ⟨_, List.getElem?_eq_getElem (by omega)⟩
  obtain ⟨h1, h2⟩ := (h.at_ ad rfl (by have := h.len; omega)).2 (j / 2) x hx
  rcases Nat.mod_two_eq_zero_or_one j with h0 | h0
  · have e : j = j / 2 * 2 + 0 := by omega
    rw [e, cellsR_get hx (by omega), cells2_0] at hu
    injection hu with hu
    rw [← hu, show j = j / 2 * 2 by omega]
    exact h1
  · have e : j = j / 2 * 2 + 1 := by omega
    rw [e, cellsR_get hx (by omega), cells2_1] at hu
    injection hu with hu
    rw [← hu, e]
    exact h2
set_option maxRecDepth 100000 in
set_option maxHeartbeats 2000000 in
theorem concat_any (b : Nat) (ad ad' : Addr) (n c n' c' : Nat) (l l' : List (Int × Nat)) (w : World) (hb : Blk w b 83 #[.slice (some ad) n c, .slice (some ad') n' c']) (h : Rf w w.heap.size (some ad) n c l) (h' : Rf w w.heap.size (some ad') n' c' l') (h0 : 0 < n + n') (hn : n + n' ≤ 900) :
    Calls Tryz.prog 153 #[.slice (some ⟨b, 0, none⟩) 2 2] w (AnewR w (l ++ l')) := by
  obtain ⟨i0, hi, hz0, hz1, hz2⟩ := info_parts Tryz.infoRef
  have HK := hid hb
  have HS := hid h
  have HS' := hid h'
  obtain ⟨N, hN⟩ : ∃ N, N = n + n' := ⟨_, rfl⟩
  have HN := hid (show N = n + n' ∧ 0 < N ∧ N ≤ 900 from by omega)
  have k0 := hb.cell 0
  have k1 := hb.cell 1
  simp at k0 k1
  have hn1 : (n : Int) ≤ 900 := by omega
  have hn2 : (n' : Int) ≤ 900 := by omega
  clear hb h h' h0 hn hN
  go_enter Tryz.func153, Tryz.ntmps153
  go_wp2
  go_loopw [11, 3] (fun i s wr => ∃ (k z : Nat), i = .int .i64 (k : Int) ∧ s = .int .i64 (z : Int) ∧ ((k = 0 ∧ z = 0) ∨ (k = 1 ∧ z = n) ∨ (k = 2 ∧ z = N)) ∧ wr = w) (fun i _ _ => 2 - (intOf i).toNat)
  case atStart => exact ⟨0, 0, rfl, rfl, .inl ⟨rfl, rfl⟩, rfl⟩
  case round =>
    obtain ⟨k, z, rfl, rfl, hkz, rfl⟩ := hrel
    rcases hkz with ⟨rfl, rfl⟩ | ⟨rfl, rfl⟩ | ⟨rfl, rfl⟩
    · go_wp2
      go_roundw
      case rel => exact ⟨1, n, rfl, rfl, .inr (.inl ⟨rfl, rfl⟩), trivial⟩
      case measure => simp [intOf]
    · have hz0' : ((z : Int) + (n' : Int)) = (N : Int) := by have := HN.out; omega
      have hNN : 0 ≤ (z : Int) + (n' : Int) := by omega
      go_wp2
      go_roundw
      case rel => exact ⟨2, N, rfl, rfl, .inr (.inr ⟨rfl, rfl⟩), trivial⟩
      case measure => simp [intOf]
    · have hz9 : (z : Int) ≤ 900 := by have := HN.out; omega
      go_wp2_with fail
      refine (growR_any z _ (by have := HN.out; omega) (by omega)).mono ?_
      rintro e w1 ⟨v, rfl, hown, hb1⟩
      have HO := hid hown
      have HB1 := hid hb1
      have HNN := hid (show z = n + n' from HN.out.1)
      clear hown hb1 hz9 k0 k1
      go_wp2
      go_loopw [27, 6] (fun i v wx => ∃ (k : Nat) (q : List (Int × Nat)), i = .int .i64 (k : Int) ∧ OwnR wx wr.heap.size v q ∧ ((k = 0 ∧ q = []) ∨ (k = 1 ∧ q = l) ∨ (k = 2 ∧ q = l ++ l')) ∧ Below wr.heap.size wr wx) (fun i _ _ => 2 - (intOf i).toNat)
      case atStart => exact ⟨0, [], rfl, HO.out, .inl ⟨rfl, rfl⟩, HB1.out⟩
      case round =>
        rename World => wx
        obtain ⟨k, q, rfl, hown, hkq, hb⟩ := hrel
        have HOw := hid hown
        have HBx := hid hb
        have HKx := hid (HK.out.below hb HK.out.lt)
        have HSx := hid (HS.out.on hb)
        have HSx' := hid (HS'.out.on hb)
        have k0 := HKx.out.cell 0
        have k1 := HKx.out.cell 1
        simp at k0 k1
        clear hown hb
        rcases hkq with ⟨rfl, rfl⟩ | ⟨rfl, rfl⟩ | ⟨rfl, rfl⟩
        · go_wp2_with (at_builtin; refine wpList_append_own _ rfl _ _ 83 rfl wr.heap.size 91 i0 (.agg #[.int .i64 0, .int .u32 0]) 2 16 Tryz.underlying83 hi hz0 hz1 hz2 rfl (by decide) _ 0 [] rfl HOw.out ad n c (cellsR l) rfl ?c0 (rf_cells HSx.out) (cellsR_one l) ?c3 ?c4 ?c5 ?_)
          case c0 => rw [cellsR_len, HSx.out.len]
          case c3 => have := HNN.out; have := HN.out; unfold maxLen; omega
          case c4 => have := HNN.out; have := HN.out; omega
          case c5 => exact HBx.out.size
          intro v' w2 hown' hgrow _
          have HO2 := hid (show OwnR w2 wr.heap.size v' l from by
            unfold OwnR; rw [HSx.out.len]; simpa using hown')
          have HB2 := hid (show Below wr.heap.size wr w2 from HBx.out.grown hgrow HBx.out.size (fun j hj => (World.ownsRow.lt HOw.out j hj).1))
          clear hown' hgrow
          go_wp2
          go_roundw
          case rel => exact ⟨1, l, rfl, HO2.out, .inr (.inl ⟨rfl, rfl⟩), HB2.out⟩
          case measure => simp [intOf]
        · have HOq := hid (show wx.ownsRow wr.heap.size 91 2 u6 n (cellsR q) from by have := HOw.out; unfold OwnR at this; rwa [HSx.out.len] at this)
          go_wp2_with (at_builtin; refine wpList_append_own _ rfl _ _ 83 rfl wr.heap.size 91 i0 (.agg #[.int .i64 0, .int .u32 0]) 2 16 Tryz.underlying83 hi hz0 hz1 hz2 rfl (by decide) _ n (cellsR q) rfl HOq.out ad' n' c' (cellsR l') rfl ?c0 (rf_cells HSx'.out) (cellsR_one l') ?c3 ?c4 ?c5 ?_)
          case c0 => rw [cellsR_len, HSx'.out.len]
          case c3 => have := HNN.out; have := HN.out; unfold maxLen; omega
          case c4 => have := HNN.out; have := HN.out; omega
          case c5 => exact HBx.out.size
          intro v' w2 hown' hgrow _
          have HO2 := hid (show OwnR w2 wr.heap.size v' (q ++ l') from by
            unfold OwnR; rw [List.length_append, HSx.out.len, HSx'.out.len, cellsR_append]; exact hown')
          have HB2 := hid (show Below wr.heap.size wr w2 from HBx.out.grown hgrow HBx.out.size (fun j hj => (World.ownsRow.lt HOw.out j hj).1))
          clear hown' hgrow
          go_wp2
          go_roundw
          case rel => exact ⟨2, q ++ l', rfl, HO2.out, .inr (.inr ⟨rfl, rfl⟩), HB2.out⟩
          case measure => simp [intOf]
        · have HF := hid (show AnewR wr (l ++ l') (.returned u6) wx from ⟨_, rfl, HOw.out, HBx.out⟩)
          go_wp2
          go_ret
          exact HF.out
end Go.Proofs.YtkhdgacjgccnnaaGreatDoor
namespace Go.Proofs.YtkhdgacjgccnnaaGreatDoor
open Go.RowKit

theorem notPoints_any (x : Int × Nat) (w : World) : Calls Tryz.prog 154 #[rfV x] w fun e w' => e = .returned (.bool (!points x)) ∧ Below w.heap.size w w' := by
  obtain ⟨b, hb⟩ : ∃ b, points x = b := ⟨_, rfl⟩
  have HB0 := hid hb
  have hal : Below w.heap.size w (w.alloc (.cells #[.int .i64 x.1, .int .u32 (x.2 : Int)] 91)) := (Below.refl _ _).alloc (Nat.le_refl _) _
  have HB := hid hal
  clear hb hal
  go_enter Tryz.func154, Tryz.ntmps154
  go_wp2_with fail
  refine (points_any x _).mono ?_
  rw [HB0.out]
  rintro e w1 ⟨rfl, hb1⟩
  have HB1 := hid (HB.out.trans (hb1.mono HB.out.size))
  clear hb1
  go_wp2
  go_ret
  exact ⟨by rw [HB0.out]; rfl, HB1.out⟩
/-- the first one that points to nothing -/
def IdxNot (l : List (Int × Nat)) (r : Int) : Prop := (r = -1 ∧ ∀ x, x ∈ l → points x = true) ∨ ∃ (k : Nat) (x : Int × Nat), r = (k : Int) ∧ l[k]? = some x ∧ points x = false ∧ ∀ y, y ∈ l.take k → points y = true
set_option maxRecDepth 100000 in
set_option maxHeartbeats 2000000 in
theorem indexNot_any (A : Option Addr) (n c : Nat) (l : List (Int × Nat)) (w : World) (h : Rf w w.heap.size A n c l) :
    Calls Tryz.prog 173 #[.slice A n c, .func (.func 154) #[] #[]] w fun e w' => ∃ r, e = .returned (.int .i64 r) ∧ IdxNot l r ∧ Below w.heap.size w w' := by
  have HS := hid h
  have hmx := h.max'
  clear h
  go_enter Tryz.func173, Tryz.ntmps173
  go_wp2
  go_loopw [8] (fun i wr => ∃ k : Nat, k ≤ n ∧ i = .int .i64 (k : Int) ∧ (∀ y, y ∈ l.take k → points y = true) ∧ Below w.heap.size w wr) (fun i _ => n - (intOf i).toNat)
  case atStart => exact ⟨0, Nat.zero_le _, rfl, fun y hy => by simp at hy, Below.refl _ _⟩
  case round =>
    obtain ⟨k, hk, rfl, hall, hb⟩ := hrel
    have HA := hid hall
    have HB := hid hb
    clear hall
    by_cases hlt : k < n
    · obtain ⟨ad, x, rfl, hbl, hx, c0, c1⟩ := (HS.out.below hb).get hlt
      have HX := hid hx
      have hkn : (k : Int) < n := by omega
      obtain ⟨b, hpb⟩ : ∃ b, points x = b := ⟨_, rfl⟩
      have HPb := hid hpb
      clear hx hb hbl hpb
      go_wp2_with fail
      refine (notPoints_any x _).mono ?_
      rw [HPb.out]
      rintro e w1 ⟨rfl, hb1⟩
      have HB1 := hid (HB.out.trans (hb1.mono HB.out.size))
      clear hb1
      cases b
      · go_wp2
        go_ret
        exact ⟨_, rfl, .inr ⟨k, x, rfl, HX.out, HPb.out, HA.out⟩, HB1.out⟩
      · have HN := hid (show ∀ y, y ∈ l.take (k + 1) → points y = true from fun y hy => by
          rw [takeR_next HX.out, List.mem_append, List.mem_singleton] at hy
          rcases hy with hy | rfl
          · exact HA.out y hy
          · exact HPb.out)
        go_wp2
        go_roundw
        case rel => exact ⟨k + 1, by omega, by go_num, HN.out, HB1.out⟩
        case measure => simp [intOf]; omega
    · have HE := hid (show ∀ x, x ∈ l → points x = true from fun x hx => HA.out x (by rw [List.take_of_length_le (by rw [HS.out.len]; omega)]; exact hx))
      have hnlt : decide (k < n) = false := by simpa using hlt
      clear hb
      go_wp2
      go_ret
      exact ⟨-1, rfl, .inl ⟨rfl, HE.out⟩, HB.out⟩
/-! a block of Refs, some of them struck -/
theorem refRow_put {w : World} {g : Nat} {M : List (Int × Nat)} {T : List Value} (h : Blk w g 91 (cellsR M ++ T).toArray) {i : Nat} {x : Int × Nat} (hx : M[i]? = some x) (y : Int × Nat) :
    Blk ((w.setCell ⟨g, i * 2, none⟩ (.int .i64 y.1)).setCell ⟨g, i * 2 + 1, none⟩ (.int .u32 (y.2 : Int))) g 91 (cellsR (M.set i y) ++ T).toArray := by
  have hb := (Blk.put h (i * 2) (.int .i64 y.1)).put (i * 2 + 1) (.int .u32 (y.2 : Int))
  have hi := (List.getElem?_eq_some_iff.1 hx).1
  have hl := cellsR_len M
  simp only [List.setIfInBounds_toArray] at hb
  rw [List.set_append_left _ _ (by omega), List.set_append_left _ _ (by rw [List.length_set]; omega), set_cells _ hx] at hb
  exact hb
theorem refRow_rf {w : World} {g cap n : Nat} {M : List (Int × Nat)} {T : List Value} (h : Blk w g 91 (cellsR M ++ T).toArray) (hl : M.length = n) (hc : n ≤ cap) (hm : cap ≤ maxLen) : Rf w w.heap.size (some ⟨g, 0, none⟩) n cap M := by
  refine ⟨hl, hc, hm, (fun h => by cases h), fun ad ha _ => ?_⟩
  cases ha
  refine ⟨h.lt, fun j x hx => ?_⟩
  have hj := (List.getElem?_eq_some_iff.1 hx).1
  have e1 : ∀ i, (⟨g, 0, none⟩ : Addr).add i = ⟨g, i, none⟩ := fun i => by unfold Addr.add; split <;> simp_all
  have hl2 := cellsR_len M
  rw [e1, e1, Blk.cell h, Blk.cell h]
  simp only [List.getElem?_toArray]
  rw [List.getElem?_append_left (by omega), List.getElem?_append_left (by omega)]
  have h0 := cellsR_get hx (j := 0) (by omega)
  have h1 := cellsR_get hx (j := 1) (by omega)
  rw [Nat.add_zero, cells2_0] at h0
  rw [cells2_1] at h1
  exact ⟨h0, h1⟩
theorem refRow_own {w : World} {B n cap g : Nat} {l : List (Int × Nat)} (h : OwnR w B (.slice (some ⟨g, 0, none⟩) n cap) l) : ∃ T, Blk w g 91 (cellsR l ++ T).toArray ∧ n = l.length ∧ n ≤ cap ∧ cap ≤ maxLen ∧ B ≤ g := by
  rcases h.2 with ⟨h', _⟩ | ⟨g', cap', cur, h', hb, hg, h1, h2, h3, h4⟩
  · cases h'
  · cases h'
    refine ⟨cur.toList.drop (l.length * 2), ?_, rfl, h1, h2, hb⟩
    have e : cur = (cellsR l ++ cur.toList.drop (l.length * 2)).toArray := by
      apply Array.ext'
      rw [← h4]
      simp
    rw [← e]
    exact hg
/-- what of l is kept, laid ahead of the rest -/
def filt (l : List (Int × Nat)) : List (Int × Nat) := l.filter points
structure Cut (l M : List (Int × Nat)) (i j : Nat) : Prop where
  len : M.length = l.length
  le : i < j
  jn : j ≤ l.length
  head : M.take i = filt (l.take j)
  tail : M.drop j = l.drop j
theorem Cut.get {l M : List (Int × Nat)} {i j : Nat} (h : Cut l M i j) {x : Int × Nat} (hx : M[j]? = some x) : l[j]? = some x := by
  have := congrArg (fun q => q[0]?) h.tail
  simp only [List.getElem?_drop, Nat.add_zero] at this
  rw [← this]; exact hx
theorem Cut.start {l : List (Int × Nat)} {k : Nat} {x : Int × Nat} (hx : l[k]? = some x) (hp : points x = false) (ha : ∀ y, y ∈ l.take k → points y = true) : Cut l l k (k + 1) := by
  have hk := (List.getElem?_eq_some_iff.1 hx).1
  refine ⟨rfl, by omega, by omega, ?_, rfl⟩
  rw [takeR_next hx]
  unfold filt
  rw [List.filter_append, List.filter_eq_self.2 ha]
  simp [hp]
theorem Cut.keep {l M : List (Int × Nat)} {i j : Nat} (h : Cut l M i j) {x : Int × Nat} (hx : l[j]? = some x) (hp : points x = true) : Cut l (M.set i x) (i + 1) (j + 1) := by
  have hj := (List.getElem?_eq_some_iff.1 hx).1
  have hle := h.le
  have hlen := h.len
  refine ⟨by rw [List.length_set, h.len], by omega, by omega, ?_, ?_⟩
  · rw [takeR_next hx, takeR_next (l := M.set i x) (k := i) (x := x) (by rw [List.getElem?_set_self (by omega)])]
    unfold filt
    rw [List.filter_append, List.take_set_of_le (Nat.le_refl _), h.head]
    simp [filt, hp]
  · rw [List.drop_set_of_lt (by omega)]
    have := congrArg (List.drop 1) h.tail
    rw [List.drop_drop, List.drop_drop] at this
    exact this
theorem Cut.skip {l M : List (Int × Nat)} {i j : Nat} (h : Cut l M i j) {x : Int × Nat} (hx : l[j]? = some x) (hp : points x = false) : Cut l M i (j + 1) := by
  have hj := (List.getElem?_eq_some_iff.1 hx).1
  have hle := h.le
  refine ⟨h.len, by omega, by omega, ?_, ?_⟩
  · rw [takeR_next hx]
    unfold filt
    rw [List.filter_append, h.head]
    simp [filt, hp]
  · have := congrArg (List.drop 1) h.tail
    rw [List.drop_drop, List.drop_drop] at this
    exact this
theorem zeroCells_refs (n : Nat) : (Builtin.zeroCells (Value.agg #[.int .i64 0, .int .u32 0]).cells n).toList = cellsR (List.replicate n (0, 0)) := by
  have hc : (Value.agg #[.int .i64 0, .int .u32 0]).cells = #[.int .i64 0, .int .u32 0] := rfl
  rw [hc]
  apply List.ext_getElem?
  intro k
  by_cases hk : k < n * 2
  · have h1 := cellsR_get (l := List.replicate n ((0 : Int), 0)) (k := k / 2) (x := (0, 0)) (by rw [List.getElem?_replicate, if_pos (by omega)]) (j := k % 2) (by omega)
    rw [show k / 2 * 2 + k % 2 = k by omega] at h1
    rw [h1]
    rcases (show k % 2 = 0 ∨ k % 2 = 1 by omega) with h | h
    · simp [Builtin.zeroCells, hk, h, cells2]
    · simp [Builtin.zeroCells, hk, h, cells2]
  · rw [List.getElem?_eq_none (by simp [Builtin.zeroCells]; omega), List.getElem?_eq_none (by rw [cellsR_len, List.length_replicate]; omega)]
/-- clear of the Refs from the i-th on -/
theorem clearR_run {w : World} {g i n c : Nat} {M : List (Int × Nat)} {T : List Value} (h : Blk w g 91 (cellsR M ++ T).toArray) (hl : M.length = n) (hi : i < n) (ty : TypeId) :
    (Builtin.clear_ #[83] ty #[.slice (some ⟨g, i * 2, none⟩) (n - i) c]).run Tryz.prog w = .ok (.tuple #[]) (w.setCells g (i * 2) (cellsR (List.replicate (n - i) (0, 0)))) ∧
    Blk (w.setCells g (i * 2) (cellsR (List.replicate (n - i) (0, 0)))) g 91 (cellsR (M.take i ++ List.replicate (n - i) (0, 0)) ++ T).toArray := by
  have hlM := cellsR_len M
  have hlz := cellsR_len (List.replicate (n - i) ((0 : Int), 0))
  rw [List.length_replicate] at hlz
  have hsp : cellsR M = cellsR (M.take i) ++ cellsR (M.drop i) := by rw [← cellsR_append, List.take_append_drop]
  have hlt := cellsR_len (M.take i)
  rw [List.length_take, Nat.min_eq_left (by omega)] at hlt
  have hld := cellsR_len (M.drop i)
  rw [List.length_drop, hl] at hld
  constructor
  · have hst := run_storeCells_cells (P := Tryz.prog) g (i * 2) (cellsR (List.replicate (n - i) (0, 0))) 0 w (fun j hj => by
      rw [Nat.add_zero, Blk.cell h]
      simp only [List.getElem?_toArray]
      rw [List.getElem?_eq_getElem (by rw [List.length_append]; omega)]
      rfl) (fun j _ => Blk.free h _) (cellsR_one _)
    simp only [Nat.add_zero] at hst
    obtain ⟨m, hm⟩ : ∃ m, n - i = m + 1 := ⟨n - i - 1, by omega⟩
    rw [hm] at hst ⊢
    simp [Builtin.clear_, run_underlying Tryz.underlying83, zeroCells_refs, hst]
  · have h2 : Blk w g 91 (cellsR (M.take i) ++ (cellsR (M.drop i) ++ T)).toArray := by
      rw [hsp] at h; rw [← List.append_assoc]; exact h
    have h3 := blk_setCells (cellsR (List.replicate (n - i) (0, 0))) (cellsR (M.drop i)) (cellsR (M.take i)) w (by omega) h2
    rw [hlt] at h3
    rw [cellsR_append, List.append_assoc]
    exact h3
end Go.Proofs.YtkhdgacjgccnnaaGreatDoor
