/- Put together out of 2 texts. KeepOrder's example; its rounds. -/
import Derived.Lib.SlBytesConst
import Derived.Test.YtkhdgacjgccnnaaGreatDoorGXbe
import Derived.Test.YtkhdgacjgccnnaaGreatDoorGXaa
namespace Go.Proofs.YtkhdgacjgccnnaaGreatDoor
open Go.RowKit

theorem byt1 {x : Int} (h0 : 0 ≤ x) (h1 : x < 256) : Byt [x] := fun y hy => by
  have : y = x := by simpa using hy
  omega
theorem sl_nil (w : World) : Sl w w.heap.size none 0 0 [] := ⟨rfl, Nat.le_refl _, by unfold maxLen; omega, fun _ => rfl, fun ad h => by cases h⟩
theorem kc_at (w : World) (g : Nat) (hg : w.heap.size = g) (x : Int) : (convert 29 29 (.slice (some ⟨g, 0, none⟩) 1 1)).run Tryz.prog (w.alloc (.cells #[.int .u8 x] 5)) = .ok (.slice (some ⟨g, 0, none⟩) 1 1) (w.alloc (.cells #[.int .u8 x] 5 (1, 2))) := by
  subst hg
  exact Lib.run_convert_bytes_const (P := Tryz.prog) w 29 5 #[.int .u8 x] 1 1 Tryz.underlying29 Tryz.underlying5
theorem lit_at (w : World) (g : Nat) (hg : w.heap.size = g) (x : Int) : ∃ W, w.alloc (.cells #[.int .u8 x] 5 (1, 2)) = W ∧ Sl W W.heap.size (some ⟨g, 0, none⟩) 1 1 [x] ∧ Below w.heap.size w W ∧ W.heap.size = g + 1 := by
  subst hg
  have hh : (w.alloc (.cells #[.int .u8 x] 5 (1, 2))).heap[w.heap.size]? = some (.cells #[.int .u8 x] 5 (1, 2)) := heap_alloc_new w _
  refine ⟨_, rfl, ⟨rfl, Nat.le_refl _, by unfold maxLen; omega, (fun h => by cases h), fun ad ha _ => ?_⟩, (Below.refl _ _).alloc (Nat.le_refl _) _, by show (w.heap.push _).size = _; simp⟩
  cases ha
  refine ⟨(Array.getElem?_eq_some_iff.1 hh).1, fun j y hy => ?_⟩
  rw [add0]
  simp only [World.cell?, hh]
  rcases j with _ | j
  · simp at hy; subst hy; rfl
  · simp at hy
theorem low0 {l : List Rec} {k : ByteArray} (h : ∀ r, r ∈ l → 0 ≤ kc r.1 k) : Low l k 0 := ⟨Nat.zero_le _, fun _ _ hj _ => absurd hj (Nat.not_lt_zero _), fun _ r _ he => h r (List.mem_of_getElem? he)⟩
section
variable {Real : World → Nat → DSt → (Nat → Prop) → Prop} {PR : World → Nat → Nat → Nat → Nat → (Nat → Prop) → Prop} {S : Nat → Addr}
set_option maxRecDepth 100000 in
set_option maxHeartbeats 8000000 in
theorem first8_any (D : DevOk Real) (O : PairOk Real PR) (w : World) (hS : Sent7 w S) : Calls Tryz.prog 4 #[] w (Yes w) := by
  have HOp := hid (opened8_any D O 1500 w hS (by omega) (by omega))
  clear D O hS
  go_enter Tryz.func4, Tryz.ntmps4
  go_wp2_with fail
  refine HOp.out.mono ?_
  rintro e w1 ⟨kb, g, d, T, rfl, hkp, hsh, hn⟩
  have HKp1 := hid hkp
  have HB1 := hid hsh.below
  clear hkp hsh hn
  obtain ⟨W2, hW2, hs2, hb2, hz2⟩ := lit_at w1 _ rfl 98
  have q1 := kc_at w1 _ rfl 98
  obtain ⟨W3, hW3, hs3, hb3, hz3⟩ := lit_at W2 _ hz2 49
  have q2 := kc_at W2 _ hz2 49
  rw [hW2] at q1
  rw [hW3] at q2
  have HKp3 := hid ((HKp1.out.on hb2).on hb3)
  have HB3 := hid ((HB1.out.trans (hb2.mono HB1.out.size)).trans (hb3.mono (Nat.le_trans HB1.out.size hb2.size)))
  have HPut1 := hid (put_any w.heap.size kb (fun k => k = kb) [] _ _ 1 1 1 1 [98] [49] W3 HKp3.out (hs2.on hb3) hs3 (byt1 (by omega) (by omega)) (byt1 (by omega) (by omega)) (by omega) (by omega) (by omega) (by simp))
  clear hs2 hs3 hb2 hb3
  go_wp2_with fail
  refine HPut1.out.mono ?_
  rintro e w4 ⟨i, hl, rfl, F4, hkp, ho⟩
  have hi0 : i = 0 := by have := hl.le; simpa using this
  subst hi0
  have HKp4 := hid (show Kp w4 w.heap.size kb F4 [(strOfNums [98], strOfNums [49])] from hkp)
  have HB4 := hid (HB3.out.trans (ho.below HB3.out.size (fun q hq => HKp3.out.lo q hq)))
  clear hl hkp ho q1 q2
  obtain ⟨W5, hW5, hs5, hb5, hz5⟩ := lit_at w4 _ rfl 97
  have q1 := kc_at w4 _ rfl 97
  obtain ⟨W6, hW6, hs6, hb6, hz6⟩ := lit_at W5 _ hz5 50
  have q2 := kc_at W5 _ hz5 50
  rw [hW5] at q1
  rw [hW6] at q2
  have HKp6 := hid ((HKp4.out.on hb5).on hb6)
  have HB6 := hid ((HB4.out.trans (hb5.mono HB4.out.size)).trans (hb6.mono (Nat.le_trans HB4.out.size hb5.size)))
  have HPut2 := hid (put_any w.heap.size kb F4 _ _ _ 1 1 1 1 [97] [50] W6 HKp6.out (hs5.on hb6) hs6 (byt1 (by omega) (by omega)) (byt1 (by omega) (by omega)) (by omega) (by omega) (by omega) (by simp))
  clear hs5 hs6 hb5 hb6
  go_wp2_with fail
  refine HPut2.out.mono ?_
  rintro e w7 ⟨i, hl, rfl, F7, hkp, ho⟩
  have hi0 : i = 0 := hl.eq (low0 fun r hr => by
    have : r = (strOfNums [98], strOfNums [49]) := by simpa using hr
    subst this
    show 0 ≤ kc (strOfNums [98]) (strOfNums [97])
    decide)
  subst hi0
  have HKp7 := hid (show Kp w7 w.heap.size kb F7 [(strOfNums [97], strOfNums [50]), (strOfNums [98], strOfNums [49])] from hkp)
  have HB7 := hid (HB6.out.trans (ho.below HB6.out.size (fun q hq => HKp6.out.lo q hq)))
  clear hl hkp ho q1 q2
  have HSc := hid (scan_any w.heap.size kb F7 _ none none 0 0 0 0 0 2 [] [] w7 HKp7.out (sl_nil w7) (sl_nil w7) (low_nil fun r hr => by
    rcases List.mem_cons.1 hr with rfl | hr
    · decide
    · have : r = (strOfNums [98], strOfNums [49]) := by simpa using hr
      subst this
      decide) (Or.inl ⟨rfl, rfl⟩) (by omega))
  go_wp2_with fail
  refine HSc.out.mono ?_
  rintro e w8 ⟨v, rfl, hp, hb⟩
  obtain ⟨A, n, c, rfl, hln, hnc, hcm, hat⟩ := hp.form
  have hn2 : n = 2 := by rw [← hln]; rfl
  subst hn2
  obtain ⟨g8, a1, k1, a2, k2, rfl, hg8, e0, e1, s1, s2⟩ := hat 0 (strOfNums [97], strOfNums [50]) rfl
  obtain ⟨g9, a3, k3, a4, k4, hge, _, e2, e3, s3, s4⟩ := hat 1 (strOfNums [98], strOfNums [49]) rfl
  obtain rfl : g8 = g9 := by injection hge with hge; injection hge
  have HB8 := hid (HB7.out.trans (hb.mono HB7.out.size))
  have r1 : (convert 29 9 (.slice (some ⟨a1, 0, none⟩) 1 k1)).run Tryz.prog w8 = .ok (.string ⟨#[97]⟩) w8 := by
    have h := conv_any s1.sl
    rw [str_of] at h
    exact h
  have r2 : (convert 29 9 (.slice (some ⟨a4, 0, none⟩) 1 k4)).run Tryz.prog w8 = .ok (.string ⟨#[49]⟩) w8 := by
    have h := conv_any s4.sl
    rw [str_of] at h
    exact h
  have e0' : w8.cell? ⟨g8, 0, none⟩ = some (.slice (some ⟨a1, 0, none⟩) 1 k1) := e0
  have e3' : w8.cell? ⟨g8, 3, none⟩ = some (.slice (some ⟨a4, 0, none⟩) 1 k4) := e3
  clear hp hb hat hge s1 s2 s3 s4 e0 e1 e2 e3 hln
  have hc2 : (2 : Int) ≤ (c : Int) := by omega
  go_wp2
  go_ret
  exact ⟨rfl, HB8.out⟩
end
end Go.Proofs.YtkhdgacjgccnnaaGreatDoor
namespace Go.Proofs.YtkhdgacjgccnnaaGreatDoor
open Go.RowKit

/-- the number that is laid: 2n, or -2n - 1 of one below 0 -/
def zz (n : Int) : Nat := if n < 0 then (-2 * n - 1).toNat else (2 * n).toNat
def unzz (u : Nat) : Int := if u % 2 = 1 then -1 - ((u / 2 : Nat) : Int) else ((u / 2 : Nat) : Int)
theorem unzz_zz (n : Int) : unzz (zz n) = n := by unfold unzz zz; split <;> split <;> omega
theorem zz_neg {n : Int} (h : n < 0) : zz n = (-2 * n - 1).toNat := if_pos h
theorem zz_pos {n : Int} (h : 0 ≤ n) : zz n = (2 * n).toNat := if_neg (by omega)
theorem zz_lt {n : Int} (h0 : -9223372036854775808 ≤ n) (h1 : n ≤ 9223372036854775807) : zz n < 18446744073709551616 := by unfold zz; split <;> omega
/-- seven bits a byte, the lowest first; the fuel is how many bytes more there may be -/
def encF : Nat → Nat → List Int
  | 0, u => [(u : Int)]
  | f + 1, u => if u < 128 then [(u : Int)] else ((u % 128 + 128 : Nat) : Int) :: encF f (u / 128)
def enc (n : Int) : List Int := encF 9 (zz n)
theorem encF_lt {f u : Nat} (h : u < 128) : encF f u = [(u : Int)] := by cases f <;> simp [encF, h]
theorem encF_ge {f u : Nat} (h : 128 ≤ u) : encF (f + 1) u = ((u % 128 + 128 : Nat) : Int) :: encF f (u / 128) := by simp [encF, Nat.not_lt.2 h]
theorem encF_len (f u : Nat) : 1 ≤ (encF f u).length ∧ (encF f u).length ≤ f + 1 := by
  induction f generalizing u with
  | zero => simp [encF]
  | succ f ih =>
    unfold encF
    split
    · simp
    · have := ih (u / 128); simp; omega
theorem enc_len (n : Int) : 1 ≤ (enc n).length ∧ (enc n).length ≤ 10 := encF_len 9 _
theorem encF_byt (f u : Nat) (h : u < 128 ^ f * 128) : Byt (encF f u) := by
  induction f generalizing u with
  | zero => intro x hx; simp [encF] at hx; omega
  | succ f ih =>
    unfold encF
    split
    · intro x hx; simp at hx; omega
    · intro x hx
      rcases List.mem_cons.1 hx with rfl | hx
      · omega
      · exact ih _ (by rw [Nat.pow_succ] at h; omega) x hx
theorem zz_fit {n : Int} (h0 : -9223372036854775808 ≤ n) (h1 : n ≤ 9223372036854775807) : zz n < 128 ^ 9 * 128 := by have := zz_lt h0 h1; omega
theorem enc_byt {n : Int} (h0 : -9223372036854775808 ≤ n) (h1 : n ≤ 9223372036854775807) : Byt (enc n) := encF_byt 9 _ (zz_fit h0 h1)
/-- a number read: 0 and the number, how many bytes; 1: no such form; 2: it ends too early -/
def scan : List Int → Nat → Nat → Nat × Nat × Nat
  | [], _, _ => (2, 0, 0)
  | c :: r, k, u => if (k = 9 ∧ 1 < c) ∨ (0 < k ∧ c = 0) then (1, 0, 0) else if c < 128 then (0, u + c.toNat % 128 * 128 ^ k, k + 1) else scan r (k + 1) (u + c.toNat % 128 * 128 ^ k)
theorem scan_enc (rest : List Int) (f k u v : Nat) (hk : k + f = 9) (hv : v * 128 ^ k < 18446744073709551616) (h0 : 0 < k → 0 < v) :
    scan (encF f v ++ rest) k u = (0, u + v * 128 ^ k, k + (encF f v).length) := by
  induction f generalizing k u v with
  | zero =>
    have e : k = 9 := by omega
    subst e
    have hv2 : v < 2 := by omega
    simp only [encF, List.singleton_append, scan]
    rw [if_neg (by have := h0 (by omega); omega), if_pos (by omega)]
    simp; omega
  | succ f ih =>
    by_cases h : v < 128
    · rw [encF_lt h]
      simp only [List.singleton_append, scan]
      rw [if_neg (by rintro (⟨h1, h2⟩ | ⟨h1, h2⟩); · omega
                     · have := h0 h1; omega), if_pos (by omega)]
      have : ((v : Int).toNat % 128) = v := by omega
      rw [this]; simp
    · rw [encF_ge (by omega)]
      simp only [List.cons_append, scan]
      rw [if_neg (by omega), if_neg (by omega)]
      have e : (((v % 128 + 128 : Nat) : Int).toNat % 128) = v % 128 := by omega
      rw [e, ih (k + 1) _ (v / 128) (by omega) (by
        rw [Nat.pow_succ]
        refine Nat.lt_of_le_of_lt ?_ hv
        have := Nat.div_mul_le_self v 128
        calc v / 128 * (128 ^ k * 128) = v / 128 * 128 * 128 ^ k := by rw [Nat.mul_comm (128 ^ k), Nat.mul_assoc]
          _ ≤ v * 128 ^ k := Nat.mul_le_mul_right _ this) (by intro _; omega)]
      refine Prod.ext rfl (Prod.ext ?_ ?_)
      · show u + v % 128 * 128 ^ k + v / 128 * 128 ^ (k + 1) = u + v * 128 ^ k
        rw [Nat.pow_succ, Nat.mul_comm (128 ^ k) 128, ← Nat.mul_assoc, Nat.add_assoc, ← Nat.add_mul]
        have : v % 128 + v / 128 * 128 = v := by omega
        rw [this]
      · show k + 1 + (encF f (v / 128)).length = k + (((v % 128 + 128 : Nat) : Int) :: encF f (v / 128)).length
        simp; omega
theorem scan_num {n : Int} (h0 : -9223372036854775808 ≤ n) (h1 : n ≤ 9223372036854775807) (rest : List Int) :
    scan (enc n ++ rest) 0 0 = (0, zz n, (enc n).length) := by
  unfold enc
  rw [scan_enc rest 9 0 0 (zz n) rfl (by have := zz_lt h0 h1; omega) (by omega)]
  simp
end Go.Proofs.YtkhdgacjgccnnaaGreatDoor
