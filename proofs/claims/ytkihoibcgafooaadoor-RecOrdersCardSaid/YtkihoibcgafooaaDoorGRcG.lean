/- The document's ReadKey. -/
import Derived.Test.YtkihoibcgafooaaDoorGRcE
namespace Go.Proofs.YtkihoibcgafooaaDoor
open Go.RowKit

def RReadR (w : World) (l : List Int) (e : Ending) (w' : World) : Prop :=
  e = .returned (.tuple #[.int .i64 (readK l), .int .i64 (readN l), .int .i64 (readI l), .string (readS l), .int .i64 (readC l)]) ∧ Below w.heap.size w w'
theorem rread_no {w : World} {l : List Int} {C : Int} (h : readC l = C) (hn : C ≠ 0) : RReadR w l (.returned (.tuple #[.int .i64 0, .int .i64 0, .int .i64 0, .string ⟨#[]⟩, .int .i64 C])) w := by
  refine ⟨?_, Below.refl _ _⟩
  unfold readK readN readI readS; simp [h, hn]
theorem rread_yes {w : World} {l : List Int} {x : Int} (q : Nat) (h : readC l = 0) (hx : l.getD 0 0 = x) : RReadR w l (.returned (.tuple #[.int .i64 x, .int .i64 (numAt l 1), .int .i64 (if x = 4 then numAt l 4 else 0), .string (if x = 3 then strOfNums (l.drop 4) else ⟨#[]⟩), .int .i64 0])) (w.drewN q) := by
  refine ⟨?_, below_drewN (Below.refl _ _) q⟩
  unfold readK readN readI readS
  rw [hx, h]
  simp
theorem kin_ways' {n : Int} (h : kinB n = false) : n < 1 ∨ (1 ≤ n ∧ 4 < n) := by
  have : ¬ (1 ≤ n ∧ n ≤ 4) := by simpa [kinB] using h
  omega
/-- the facts of one byte -/
theorem byte_at {w : World} {B n c k : Nat} {ad : Addr} {l : List Int} (h : Sl w B (some ad) n c l) (hb : Byt l) (hk : k < n) : ∃ x, l.getD k 0 = x ∧ w.cell? (ad.add k) = some (.int .u8 x) ∧ 0 ≤ x ∧ x ≤ 255 := by
  obtain ⟨_, x, ha, _, hx, hc⟩ := h.get hk
  cases ha
  exact ⟨x, getD_of hx, hc, (hb.at_ hx).1, (hb.at_ hx).2⟩
theorem wr {x : Int} (h0 : 0 ≤ x) (h1 : x ≤ 255) : IntKind.i64.wrap x = x ∧ IntKind.i64.wrap (x * 65536) = x * 65536 ∧ IntKind.i64.wrap (x * 256) = x * 256 := by
  refine ⟨?_, ?_, ?_⟩ <;> rw [IntKind.wrap_i64] <;> omega
set_option maxRecDepth 100000 in
set_option maxHeartbeats 4000000 in
theorem readKey_any (A : Option Addr) (n c : Nat) (l : List Int) (B : Nat) (w : World) (h : Sl w B A n c l) (hb : Byt l) :
    Calls Tryd.prog 10 #[.slice A n c] w (RReadR w l) := by
  have HL := hid h
  have HW := hid (read_ways l)
  have hlen := h.len
  have hmx : n ≤ 9223372036854775807 := by have := h.cap; have := h.max; unfold maxLen at this; omega
  by_cases h4 : n < 4
  · have HC : readC l = 101 := by
      rcases HW.out with ⟨_, c⟩ | ⟨h, _⟩ | ⟨h, _⟩ | ⟨h, _⟩ | ⟨h, _⟩ | ⟨h, _⟩ | ⟨h, _⟩ | ⟨h, _⟩ | ⟨h, _⟩
      · exact c
      all_goals omega
    have HF := hid (rread_no (w := w) HC (by decide))
    clear HW HL h hb HC
    go_enter Tryd.func10, Tryd.ntmps10
    go_wp2
    exact bodyPost_ret (v := .tuple #[.int .i64 0, .int .i64 0, .int .i64 0, .string ⟨#[]⟩, .int .i64 101]) (by simp [results, Tryd.results10, go_sem]) rfl HF.out
  · obtain ⟨ad, x0, hA, _, hx0, hc0⟩ := h.get (show 0 < n by omega)
    subst hA
    obtain ⟨x, HXe, hcx, bx0, bx1⟩ := byte_at h hb (show 0 < n by omega)
    obtain ⟨y1, HY1e, hc1, by0, by1⟩ := byte_at h hb (show 1 < n by omega)
    obtain ⟨y2, HY2e, hc2, bz0, bz1⟩ := byte_at h hb (show 2 < n by omega)
    obtain ⟨y3, HY3e, hc3, bt0, bt1⟩ := byte_at h hb (show 3 < n by omega)
    have hd0 : w.cell? ad = some (.int .u8 x) := by rw [Addr.add_zero'] at hcx; exact hcx
    have hd1 : w.cell? ⟨ad.block, ad.off + 1, none⟩ = some (.int .u8 y1) := hc1
    have hd2 : w.cell? ⟨ad.block, ad.off + 2, none⟩ = some (.int .u8 y2) := hc2
    have hd3 : w.cell? ⟨ad.block, ad.off + 3, none⟩ = some (.int .u8 y3) := hc3
    have HX := hid HXe
    have HN := hid (show numAt l 1 = y1 * 65536 + y2 * 256 + y3 from by unfold numAt; rw [HY1e, HY2e, HY3e])
    obtain ⟨o1, o2⟩ := or3 ⟨by0, by1⟩ ⟨bz0, bz1⟩ ⟨bt0, bt1⟩
    obtain ⟨v1, _, _⟩ := wr bx0 bx1
    obtain ⟨v2, v3, _⟩ := wr by0 by1
    obtain ⟨v4, _, v5⟩ := wr bz0 bz1
    obtain ⟨v6, _, _⟩ := wr bt0 bt1
    have n0 : 0 < n := by omega
    have n1 : (1 : Int) < (n : Int) := by omega
    have n2 : (2 : Int) < (n : Int) := by omega
    have n3 : (3 : Int) < (n : Int) := by omega
    have hcn : n ≤ c := h.cap
    clear hcx hc0 hc1 hc2 hc3 hx0 HXe HY1e HY2e HY3e h
    rcases HW.out with ⟨h, _⟩ | ⟨_, hk, c'⟩ | ⟨_, hk, hx, hl, c'⟩ | ⟨_, hk, hx, hl, c'⟩ | ⟨_, hk, hx, hl, c'⟩ | ⟨_, hk, hx, hl, c'⟩ | ⟨_, hk, hx, hl, c'⟩ | ⟨_, hk, hx, hx', hl, c'⟩ | ⟨_, hk, hx, hx', hl, c'⟩
    · omega
    · rw [HX.out] at hk
      have HF := hid (rread_no (w := w) c' (by decide))
      clear HW HL hb c' HN
      rcases kin_ways' hk with h | ⟨h, h'⟩
      all_goals
        clear hk
        go_enter Tryd.func10, Tryd.ntmps10
        go_wp2
        exact bodyPost_ret (v := .tuple #[.int .i64 0, .int .i64 0, .int .i64 0, .string ⟨#[]⟩, .int .i64 103]) (by simp [results, Tryd.results10, go_sem]) rfl HF.out
    · rw [HX.out] at hk hx
      obtain ⟨k1, k2⟩ : 1 ≤ x ∧ x ≤ 4 := by simpa [kinB] using hk
      have HF := hid (rread_no (w := w) c' (by decide))
      clear HW HL hb c' HN hk
      subst hx
      go_enter Tryd.func10, Tryd.ntmps10
      go_wp2
      exact bodyPost_ret (v := .tuple #[.int .i64 0, .int .i64 0, .int .i64 0, .string ⟨#[]⟩, .int .i64 101]) (by simp [results, Tryd.results10, go_sem]) rfl HF.out
    · rw [HX.out] at hk hx
      obtain ⟨k1, k2⟩ : 1 ≤ x ∧ x ≤ 4 := by simpa [kinB] using hk
      have HF := hid (rread_no (w := w) c' (by decide))
      clear HW HL hb c' HN hk
      subst hx
      go_enter Tryd.func10, Tryd.ntmps10
      go_wp2
      exact bodyPost_ret (v := .tuple #[.int .i64 0, .int .i64 0, .int .i64 0, .string ⟨#[]⟩, .int .i64 102]) (by simp [results, Tryd.results10, go_sem]) rfl HF.out
    · rw [HX.out] at hk hx
      have HF := hid (fun q => rread_yes (w := w) q c' HX.out)
      obtain ⟨y4, HY4e, hc4, cx0, cx1⟩ := byte_at HL.out hb (show 4 < n by omega)
      obtain ⟨y5, HY5e, hc5, cy0, cy1⟩ := byte_at HL.out hb (show 5 < n by omega)
      obtain ⟨y6, HY6e, hc6, cz0, cz1⟩ := byte_at HL.out hb (show 6 < n by omega)
      have hd4 : w.cell? ⟨ad.block, ad.off + 4, none⟩ = some (.int .u8 y4) := hc4
      have hd5 : w.cell? ⟨ad.block, ad.off + 5, none⟩ = some (.int .u8 y5) := hc5
      have hd6 : w.cell? ⟨ad.block, ad.off + 6, none⟩ = some (.int .u8 y6) := hc6
      have HI := hid (show numAt l 4 = y4 * 65536 + y5 * 256 + y6 from by unfold numAt; rw [HY4e, HY5e, HY6e])
      obtain ⟨o3, o4⟩ := or3 ⟨cx0, cx1⟩ ⟨cy0, cy1⟩ ⟨cz0, cz1⟩
      obtain ⟨v11, v12, _⟩ := wr cx0 cx1
      obtain ⟨v13, _, v14⟩ := wr cy0 cy1
      obtain ⟨v15, _, _⟩ := wr cz0 cz1
      have n4 : (4 : Int) < (n : Int) := by omega
      have n5 : (5 : Int) < (n : Int) := by omega
      have n6 : (6 : Int) < (n : Int) := by omega
      clear HW HL hb c' hk hc4 hc5 hc6 HY4e HY5e HY6e
      subst hx
      go_enter Tryd.func10, Tryd.ntmps10
      go_wp2_with fail
      go_quiet (fail)
      go_wp2_with fail
      go_quiet (fail)
      go_wp2
      exact bodyPost_ret (v := .tuple #[.int .i64 4, .int .i64 (y1 * 65536 + y2 * 256 + y3), .int .i64 (y4 * 65536 + y5 * 256 + y6), .string ⟨#[]⟩, .int .i64 0]) (by simp [results, Tryd.results10, go_sem]) rfl (by simpa [HN.out, HI.out] using HF.out _)
    · rw [HX.out] at hk hx
      obtain ⟨k1, k2⟩ : 1 ≤ x ∧ x ≤ 4 := by simpa [kinB] using hk
      have HF := hid (rread_no (w := w) c' (by decide))
      clear HW HL hb c' HN hk
      subst hx
      go_enter Tryd.func10, Tryd.ntmps10
      go_wp2
      exact bodyPost_ret (v := .tuple #[.int .i64 0, .int .i64 0, .int .i64 0, .string ⟨#[]⟩, .int .i64 102]) (by simp [results, Tryd.results10, go_sem]) rfl HF.out
    · rw [HX.out] at hk hx
      have HF := hid (fun q => rread_yes (w := w) q c' HX.out)
      by_cases hc : c = 4
      · obtain rfl : n = 4 := by omega
        subst hc
        have hq := hid (show ∀ q, (convert 24 9 (.slice (some ad) 0 0)).run Tryd.prog (w.drewN q) = .ok (.string (strOfNums (l.drop 4))) (w.drewN q) from fun q => by
          have h5 := (HL.out.cut (show 4 ≤ 4 by omega)).drewN q
          rw [if_pos rfl] at h5
          exact conv_any h5)
        clear HW HL hb c' hk
        subst hx
        go_enter Tryd.func10, Tryd.ntmps10
        go_wp2_with fail
        go_quiet (fail)
        have hq' := hq.out nq
        go_wp2
        exact bodyPost_ret (v := .tuple #[.int .i64 3, .int .i64 (y1 * 65536 + y2 * 256 + y3), .int .i64 0, .string (strOfNums (l.drop 4)), .int .i64 0]) (by simp [results, Tryd.results10, go_sem]) rfl (by simpa [HN.out] using HF.out _)
      · have hq := hid (show ∀ q, (convert 24 9 (.slice (some ⟨ad.block, ad.off + 4, none⟩) (n - 4) (c - 4))).run Tryd.prog (w.drewN q) = .ok (.string (strOfNums (l.drop 4))) (w.drewN q) from fun q => by
          have h5 := (HL.out.cut (show 4 ≤ n by omega)).drewN q
          rw [if_neg hc] at h5
          exact conv_any h5)
        clear HW HL hb c' hk
        subst hx
        go_enter Tryd.func10, Tryd.ntmps10
        go_wp2_with fail
        go_quiet (fail)
        have hq' := hq.out nq
        go_wp2
        exact bodyPost_ret (v := .tuple #[.int .i64 3, .int .i64 (y1 * 65536 + y2 * 256 + y3), .int .i64 0, .string (strOfNums (l.drop 4)), .int .i64 0]) (by simp [results, Tryd.results10, go_sem]) rfl (by simpa [HN.out] using HF.out _)
    · rw [HX.out] at hk hx hx'
      obtain ⟨k1, k2⟩ : 1 ≤ x ∧ x ≤ 4 := by simpa [kinB] using hk
      have HF := hid (rread_no (w := w) c' (by decide))
      clear HW HL hb c' HN hk
      have e4 : (x == 4) = false := by simp [hx]
      have e3 : (x == 3) = false := by simp [hx']
      go_enter Tryd.func10, Tryd.ntmps10
      go_wp2
      exact bodyPost_ret (v := .tuple #[.int .i64 0, .int .i64 0, .int .i64 0, .string ⟨#[]⟩, .int .i64 102]) (by simp [results, Tryd.results10, go_sem]) rfl HF.out
    · rw [HX.out] at hk hx hx'
      obtain ⟨k1, k2⟩ : 1 ≤ x ∧ x ≤ 4 := by simpa [kinB] using hk
      have HF := hid (fun q => rread_yes (w := w) q c' HX.out)
      have e4 : (x == 4) = false := by simp [hx]
      have e3 : (x == 3) = false := by simp [hx']
      clear HW HL hb c' hk
      go_enter Tryd.func10, Tryd.ntmps10
      go_wp2_with fail
      go_quiet (fail)
      go_wp2
      exact bodyPost_ret (v := .tuple #[.int .i64 x, .int .i64 (y1 * 65536 + y2 * 256 + y3), .int .i64 0, .string ⟨#[]⟩, .int .i64 0]) (by simp [results, Tryd.results10, go_sem]) rfl (by have hf := HF.out; rw [HN.out, if_neg hx, if_neg hx'] at hf; exact hf _)
end Go.Proofs.YtkihoibcgafooaaDoor
