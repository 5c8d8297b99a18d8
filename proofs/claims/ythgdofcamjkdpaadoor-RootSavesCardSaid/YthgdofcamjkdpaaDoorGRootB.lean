/- Package root's bytes: appendNum, laid. -/
import Derived.Test.YthgdofcamjkdpaaDoorGRootA
namespace Go.Proofs.YthgdofcamjkdpaaDoor
open Go.RowKit

/-- what an append onto a slice of the call's own leaves: only its block, and what is new, has turned -/
def AppR (w : World) (B : Nat) (v : Value) (l : List Int) (e : Ending) (w' : World) : Prop := ∃ v', e = .returned v' ∧ Own w' B v' l ∧ Only (fun g => v.ownBlock = some g) w w' ∧ ∀ g, v'.ownBlock = some g → v.ownBlock = some g ∨ w.heap.size ≤ g
theorem div_byte (n i : Nat) : ((n : Int) / 2 ^ (8 * i)) % 256 = ((n / 256 ^ i % 256 : Nat) : Int) := by
  have e : (256 : Nat) ^ i = 2 ^ (8 * i) := by rw [Nat.pow_mul]
  rw [e]
  have : ((2 : Int) ^ (8 * i)) = ((2 ^ (8 * i) : Nat) : Int) := by simp
  rw [this]
  omega
theorem only_grown {w w' : World} {v : Value} (h : w.grownBy w' v.ownBlock) : Only (fun g => v.ownBlock = some g) w w' := ⟨h.os, h.tape, h.output, h.size, fun k hk hn => h.block k hk (fun e => hn e.symm)⟩
set_option maxRecDepth 100000 in
set_option maxHeartbeats 2000000 in
theorem appendNumR_any (B : Nat) (v : Value) (l : List Int) (n size : Nat) (w : World) (h : Own w B v l) (hB : B ≤ w.heap.size) (_ : n ≤ 9223372036854775807) (hs : size ≤ 7) (hl : l.length ≤ 1000) :
    Calls Tryd.prog 37 #[v, .int .i64 (n : Int), .int .i64 (size : Int)] w (AppR w B v (l ++ numB size n)) := by
  obtain ⟨i0, hi, hz0, hz1, hz2⟩ := info_parts Tryd.info5
  have HO := hid h
  have HL := hid hl
  clear h hl
  go_enter Tryd.func37, Tryd.ntmps37
  go_wp2
  go_loopw [0, 9] (fun v' i wr => ∃ k : Nat, k ≤ size ∧ i = .int .i64 (k : Int) ∧ Own wr B v' (l ++ numB k n) ∧ Only (fun g => v.ownBlock = some g) w wr ∧ ∀ g, v'.ownBlock = some g → v.ownBlock = some g ∨ w.heap.size ≤ g) (fun _ i _ => size - (intOf i).toNat)
  case atStart => exact ⟨0, Nat.zero_le _, rfl, by simpa [numB] using HO.out, Only.refl _ _, fun g hg => .inl hg⟩
  case round =>
    obtain ⟨k, hk, rfl, hown, ho, hg⟩ := hrel
    have HO1 := hid hown
    have HOn := hid ho
    have HG := hid hg
    have hsz : B ≤ wr.heap.size := Nat.le_trans hB ho.size
    have HLn := hid (show (l ++ numB k n).length ≤ 1010 by rw [List.length_append, numB_len]; have := HL.out; omega)
    clear hown ho hg
    by_cases hlt : k < size
    · have hk7 : (k : Int) ≤ 6 := by omega
      have hks : (k : Int) < size := by omega
      have hs7 : (size : Int) ≤ 7 := by omega
      have HW := hid (div_byte n k)
      obtain ⟨N, hN⟩ : ∃ N, (l ++ numB k n).length = N := ⟨_, rfl⟩
      have HN := hid hN
      have HOa := hid (fun o => (show (wr.alloc o).ownsRow B 5 1 u0 N (I (l ++ numB k n)) from hN ▸ World.ownsRow.alloc HO1.out o))
      clear hN
      go_wp2_with (at_builtin; refine wpList_append_lies _ rfl _ _ 24 rfl B 5 i0 (.int .u8 0) 1 1 Tryd.underlying24 hi hz0 hz1 hz2 rfl (by decide) _ _ _ rfl (HOa.out _) ⟨wr.heap.size, 0, none⟩ 1 1 [.int .u8 ((n : Int) / 2 ^ (8 * k) % 256)] rfl rfl ?d1 ?d2 (by decide) ?d3 ?d4 ?d5 (wr.heap.size + 1) ?d6 ?_)
      case d1 => exact cell_one_new _ _ _
      case d2 => intro u hu; simp at hu; subst hu; rfl
      case d3 => have := HLn.out; have := HN.out; unfold maxLen; omega
      case d4 => have := HLn.out; have := HN.out; omega
      case d5 => simp; omega
      case d6 => simp
      intro g cap w1 hown' hgrow hgv _
      have hbw : Only (fun g => v.ownBlock = some g) w w1 := (HOn.out.then_below ((Below.refl _ _).alloc (Nat.le_refl _) _)).trans (only_grown hgrow) (fun i hi => (HG.out i hi).imp id (fun h => h))
      have R := hid (show Own w1 B (.slice (some ⟨g, 0, none⟩) (N + 1) cap) (l ++ numB (k + 1) n) from by
        rw [numB_succ, ← List.append_assoc]
        unfold Own
        rw [I_append, List.length_append (bs := [((n / 256 ^ k % 256 : Nat) : Int)]), HN.out]
        rw [HW.out] at hown'
        simpa [I] using hown')
      have R2 := hid hbw
      have R3 := hid (show ∀ i, (Value.slice (some ⟨g, 0, none⟩) (N + 1) cap).ownBlock = some i → v.ownBlock = some i ∨ w.heap.size ≤ i from fun i hi => by
        have : g = i := by simpa [Value.ownBlock] using hi
        subst this
        rcases hgv with h | h
        · exact HG.out _ h
        · have := HOn.out.size; omega)
      clear hown' hgrow hbw hgv
      go_wp2
      go_roundw
      case rel => exact ⟨k + 1, by omega, by go_num, R.out, R2.out, R3.out⟩
      case measure => simp [intOf]; omega
    · obtain rfl : k = size := by omega
      have HF := hid (show AppR w B v (l ++ numB k n) (.returned u0) wr from ⟨_, rfl, HO1.out, HOn.out, HG.out⟩)
      have hnlt : decide (k < k) = false := by simp
      go_wp2
      go_ret
      exact HF.out
theorem appendNumR' (B : Nat) (v : Value) (l : List Int) (n size : Nat) (x z : Int) (w : World) (hx : x = (n : Int)) (hz : z = (size : Int)) (h : Own w B v l) (hB : B ≤ w.heap.size) (h1 : n ≤ 9223372036854775807) (hs : size ≤ 7) (hl : l.length ≤ 1000) :
    Calls Tryd.prog 37 #[v, .int .i64 x, .int .i64 z] w (AppR w B v (l ++ numB size n)) := by
  subst hx hz
  exact appendNumR_any B v l n size w h hB h1 hs hl
theorem refsB_take {l : List (Int × Nat)} {k : Nat} {x : Int × Nat} (h : l[k]? = some x) : refsB (l.take (k + 1)) = refsB (l.take k) ++ (numB 2 x.1.toNat ++ numB 4 x.2) := by
  rw [List.take_add_one, h]
  exact refsB_snoc _ _
set_option maxRecDepth 100000 in
set_option maxHeartbeats 2000000 in
theorem laid_any (r : RSt) (A : Option Addr) (n c : Nat) (w : World) (hr : Rf w w.heap.size A n c r.refs) (hc : r.code = 0) (hs : Sums r.refs) :
    Calls Tryd.prog 21 #[rtV r.epoch A n c] w (Made w (laidB r)) := by
  obtain ⟨f0, f1, f2, f3⟩ := r.fine hc
  have hlen := hr.len
  have HR := hid hr
  have HA := hid f2
  have HS := hid hs
  obtain ⟨ep, refs⟩ := r
  simp only at *
  obtain ⟨m, rfl⟩ : ∃ m : Nat, ep = (m : Int) := ⟨ep.toNat, by omega⟩
  have HM := hid (show m ≤ 1099511627776 by omega)
  have HN := hid (show n ≤ 16 by omega)
  have HLn := hid hlen
  have HE := hid (show laidB ⟨(m : Int), refs⟩ = numB 6 m ++ (numB 1 n ++ refsB refs) by unfold laidB; simp only [Int.toNat_natCast, hlen])
  rw [HE.out]
  have HB1 := hid (show Below w.heap.size w (w.alloc (.cells #[.int .i64 (m : Int), .slice A n c] 31)) from (Below.refl _ _).alloc (Nat.le_refl _) _)
  have HK1 := hid (Blk.new w 31 #[.int .i64 (m : Int), .slice A n c])
  have c0 := HK1.out.cell 0
  have c1 := HK1.out.cell 1
  simp at c0 c1
  clear hr hc hs f0 f1 f2 f3 hlen HE
  go_enter Tryd.func21, Tryd.ntmps21
  go_wp2_with fail
  refine (appendNumR' w.heap.size _ [] m 6 _ _ _ rfl rfl (Own.nil _ _) (by simp) (by have := HM.out; omega) (by omega) (by simp)).mono ?_
  rintro e w1 ⟨v1, rfl, ho, hon, hg⟩
  rw [List.nil_append] at ho
  have hb2 : Below w.heap.size w w1 := HB1.out.trans (hon.below (by simp) (fun i hi => by cases hi))
  have HO1 := hid ho
  have HB2 := hid hb2
  have HK2 := hid (HK1.out.same (hon.block _ (by simp) (fun h => by cases h)))
  have HG1 := hid (show ∀ g, v1.ownBlock = some g → w.heap.size < g from fun g h => by
    rcases hg g h with h | h
    · cases h
    · simp at h; omega)
  clear ho hon hg hb2
  have d0 := HK2.out.cell 0
  have d1 := HK2.out.cell 1
  simp at d0 d1
  go_wp2_with fail
  refine (appendNumR' w.heap.size v1 (numB 6 m) n 1 _ _ _ rfl rfl HO1.out HB2.out.size (by have := HN.out; omega) (by omega) (by rw [numB_len]; omega)).mono ?_
  rintro e w2 ⟨v2, rfl, ho, hon, hg⟩
  have hlt1 := HO1.out.lt
  have HO2 := hid ho
  have HB3 := hid (show Below w.heap.size w w2 from HB2.out.trans (hon.below HB2.out.size (fun i hi => (hlt1 i hi).1)))
  have HK3 := hid (HK2.out.same (hon.block _ HK2.out.lt (fun h => by have := HG1.out _ h; omega)))
  clear ho hon hg hlt1 d0 d1
  have d0 := HK3.out.cell 0
  have d1 := HK3.out.cell 1
  simp at d0 d1
  go_wp2
  go_loopw [3, 17] (fun v i wr => ∃ k : Nat, k ≤ n ∧ i = .int .i64 (k : Int) ∧ Own wr w.heap.size v (numB 6 m ++ numB 1 n ++ refsB (refs.take k)) ∧ Below w.heap.size w wr) (fun _ i _ => n - (intOf i).toNat)
  case atStart => exact ⟨0, Nat.zero_le _, rfl, by simpa [refsB] using HO2.out, HB3.out⟩
  case round =>
    obtain ⟨k, hk, rfl, hown, hb⟩ := hrel
    have HOr := hid hown
    have HBr := hid hb
    clear hown hb c0 c1 d0 d1
    by_cases hlt : k < n
    · obtain ⟨ad, x, rfl, hbl, hx, q0, q1⟩ := (HR.out.on HBr.out).get hlt
      have hv := HA.out x (List.mem_of_getElem? hx)
      have hz := HS.out.at_ hx
      have HX := hid (refsB_take hx)
      obtain ⟨xa, xz⟩ := x
      simp only at *
      obtain ⟨a, rfl⟩ : ∃ a : Nat, xa = (a : Int) := ⟨xa.toNat, by omega⟩
      rw [Int.toNat_natCast] at HX
      have HAl := hid (show a ≤ 6000 by omega)
      have HZl := hid hz
      have hkn : (k : Int) < n := by omega
      have hn63 : (n : Int) ≤ 16 := by have := HN.out; omega
      have hzi : (xz : Int) ≤ 4294967295 := by omega
      have hlt0 := HOr.out.lt
      have hbA : Below w.heap.size w (wr.alloc (.cells #[.int .i64 (a : Int), .int .u32 (xz : Int)] 56)) := HBr.out.alloc HBr.out.size _
      have HBA := hid hbA
      have HKA := hid (Blk.new wr 56 #[.int .i64 (a : Int), .int .u32 (xz : Int)])
      have HOA := hid (show Own (wr.alloc (.cells #[.int .i64 (a : Int), .int .u32 (xz : Int)] 56)) w.heap.size u3 (numB 6 m ++ numB 1 n ++ refsB (refs.take k)) from World.ownsRow.alloc HOr.out _)
      have HLr := hid (show (numB 6 m ++ numB 1 n ++ refsB (refs.take k)).length ≤ 200 by
        simp only [List.length_append, numB_len, refsB_len, List.length_take]; have := HN.out; omega)
      have HGr := hid (show ∀ g, u3.ownBlock = some g → g < wr.heap.size from fun g h => (hlt0 g h).2)
      clear hx hz hv hbA hlt0 hbl
      go_wp2_with fail
      refine (appendNumR' w.heap.size u3 _ a 2 _ _ _ rfl rfl HOA.out (by have := HBr.out.size; simp; omega) (by have := HAl.out; omega) (by omega) (by have := HLr.out; omega)).mono ?_
      rintro e w3 ⟨v3, rfl, ho, hon, hg⟩
      have hltA := HOA.out.lt
      have HO3 := hid ho
      have HB4 := hid (show Below w.heap.size w w3 from HBA.out.trans (hon.below HBA.out.size (fun i hi => (hltA i hi).1)))
      have HK4 := hid (HKA.out.same (hon.block _ HKA.out.lt (fun h => by have := HGr.out _ h; omega)))
      clear ho hon hg hltA q0 q1
      have e0 := HK4.out.cell 0
      have e1 := HK4.out.cell 1
      simp at e0 e1
      go_wp2_with fail
      refine (appendNumR' w.heap.size v3 _ xz 4 _ _ _ rfl rfl HO3.out HB4.out.size (by have := HZl.out; omega) (by omega) (by rw [List.length_append, numB_len]; have := HLr.out; omega)).mono ?_
      rintro e w4 ⟨v4, rfl, ho, hon, hg⟩
      have hltA := HO3.out.lt
      have HO4 := hid (show Own w4 w.heap.size v4 (numB 6 m ++ numB 1 n ++ refsB (refs.take (k + 1))) from by
        have e : numB 6 m ++ numB 1 n ++ refsB (refs.take k) ++ numB 2 a ++ numB 4 xz = numB 6 m ++ numB 1 n ++ (refsB (refs.take k) ++ (numB 2 a ++ numB 4 xz)) := by simp only [List.append_assoc]
        rw [HX.out, ← e]
        exact ho)
      have HB5 := hid (show Below w.heap.size w w4 from HB4.out.trans (hon.below HB4.out.size (fun i hi => (hltA i hi).1)))
      clear ho hon hg hltA e0 e1
      go_wp2
      go_roundw
      case rel => exact ⟨k + 1, by omega, by go_num, HO4.out, HB5.out⟩
      case measure => simp [intOf]; omega
    · have HF := hid (show Made w (numB 6 m ++ (numB 1 n ++ refsB refs)) (.returned u3) wr from ⟨_, rfl, by
        have := HOr.out
        rwa [List.take_of_length_le (by have := HLn.out; omega), List.append_assoc] at this, HBr.out⟩)
      have hnlt : decide (k < n) = false := by simpa using hlt
      go_wp2
      go_ret
      exact HF.out
end Go.Proofs.YthgdofcamjkdpaaDoor
