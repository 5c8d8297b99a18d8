/- The walk of CrcXors. -/
import Derived.Test.YtljgkkgeaojolaaGCrcC
import Derived.Test.YtljgkkgeaojolaaGRow
namespace Go.Proofs.Ytljgkkgeaojolaa
open Go.RowKit

set_option maxRecDepth 100000 in
set_option maxHeartbeats 1000000 in
theorem fullNil_any (w : World) : Calls Try.prog 20 #[.slice none 0 0] w fun e w' => (∃ A c, e = .returned (.slice A 256 c)) ∧ Below w.heap.size w w' := by
  obtain ⟨i0, hi, hz0, hz1, hz2⟩ := info_parts Try.info5
  go_enter Try.func20, Try.ntmps20
  go_wp2_with (at_make; refine wpList_make_full _ rfl _ _ 22 rfl w.heap.size 5 i0 (.int .u8 0) 1 Try.underlying22 hi hz0 hz1 _ _ _ _ 256 rfl rfl rfl rfl ?b2 ?b3 ?b4 ?_)
  case b2 => rw [hz2]; omega
  case b3 => unfold maxLen; omega
  case b4 => exact Nat.le_refl _
  intro w1 hown hgrow
  have HF := hid (show Below w.heap.size w w1 from (Below.refl _ _).grown hgrow (Nat.le_refl _) (fun _ h => by cases h))
  clear hown hgrow
  go_wp2
  go_loop [4] (fun i => i = .int .i64 0) (fun _ => 0)
  case atStart => rfl
  case round =>
    subst hrel
    go_wp2
    go_ret
    exact ⟨⟨_, _, rfl⟩, HF.out⟩

set_option maxHeartbeats 400000 in
theorem crcXors_far (A : Option Addr) (n c : Nat) (at' b : Int) (w : World) (hn : 100 < n) :
    Calls Try.prog 8 #[.slice A n c, .int .i64 at', .int .u32 b] w (Yes w) := by
  have h2 : (100 : Int) < n := by omega
  go_enter Try.func8, Try.ntmps8
  go_wp2_with fail
  refine (first_any _).mono ?_
  rintro e w1 ⟨rfl, hb⟩
  have HB := hid hb
  clear hb
  go_wp2
  go_ret
  exact ⟨rfl, HB.out⟩

theorem own_zeros {w : World} {B n : Nat} {v : Value} (h : w.ownsRow B 5 1 v n (madeCells #[Value.int .u8 0] n).toList) : Own w B v (List.replicate n 0) := by
  unfold Own
  rw [List.length_replicate, ← zeros]
  exact h
theorem zero_byt (n : Nat) : Byt (List.replicate n 0) := fun x hx => by rw [List.eq_of_mem_replicate hx]; omega
set_option maxRecDepth 100000 in
set_option maxHeartbeats 1000000 in
theorem crcXors_near (A : Option Addr) (n c b : Nat) (at' : Int) (l : List Int) (w : World) (h : Sl w w.heap.size A n c l) (hy : Byt l) (hn : n ≤ 100) (ha : at' ≤ 9223372036854775807) (hb : b < 4294967296) :
    Calls Try.prog 8 #[.slice A n c, .int .i64 at', .int .u32 (b : Int)] w (Yes w) := by
  obtain ⟨i0, hi, hz0, hz1, hz2⟩ := info_parts Try.info5
  have HS := hid h
  have HY := hid hy
  have HA := hid ha
  have HU := hid hb
  clear h hy ha hb
  go_enter Try.func8, Try.ntmps8
  go_wp2_with fail
  refine (first_any _).mono ?_
  rintro e w1 ⟨rfl, hb⟩
  have HB1 := hid hb
  have HS1 := hid (HS.out.on hb)
  clear hb
  go_wp2_with fail
  refine (turned_any A n c b at' l _ HS1.out HY.out (by omega) HA.out HU.out).mono ?_
  rintro e w2 hm
  obtain ⟨A2, c2, rfl, hs, hb, _, _⟩ := hm.get
  have HB2 := hid (HB1.out.trans (hb.mono HB1.out.size))
  have HS2 := hid (HS1.out.on hb)
  have HT2 := hid hs
  clear hb hs hm
  go_wp2_with (at_make; refine wpList_make_full _ rfl _ _ 22 rfl w2.heap.size 5 i0 (.int .u8 0) 1 Try.underlying22 hi hz0 hz1 _ _ _ _ n rfl rfl rfl rfl ?b2 ?b3 ?b4 ?_)
  case b2 => rw [hz2]; omega
  case b3 => unfold maxLen; omega
  case b4 => exact Nat.le_refl _
  intro w3 hown hgrow
  have hs3 := (own_sl (own_zeros hown)).1
  have hb3 : Below w2.heap.size w2 w3 := (Below.refl _ _).grown hgrow (Nat.le_refl _) (fun _ h => by cases h)
  have HB3 := hid (HB2.out.trans (hb3.mono HB2.out.size))
  have HS3 := hid (HS2.out.on hb3)
  have HT3 := hid (HT2.out.on hb3)
  have HZ3 := hid hs3
  clear hown hgrow hs3 hb3
  go_wp2_with fail
  refine (turned_any _ n n b at' _ _ HZ3.out (zero_byt n) (by omega) HA.out HU.out).mono ?_
  rintro e w4 hm
  obtain ⟨A4, c4, rfl, hs, hb, _, _⟩ := hm.get
  have HB4 := hid (HB3.out.trans (hb.mono HB3.out.size))
  have HS4 := hid (HS3.out.on hb)
  have HT4 := hid (HT3.out.on hb)
  have HX4 := hid hs
  clear hb hs hm
  go_wp2_with (at_make; refine wpList_make_full _ rfl _ _ 22 rfl w4.heap.size 5 i0 (.int .u8 0) 1 Try.underlying22 hi hz0 hz1 _ _ _ _ n rfl rfl rfl rfl ?d2 ?d3 ?d4 ?_)
  case d2 => rw [hz2]; omega
  case d3 => unfold maxLen; omega
  case d4 => exact Nat.le_refl _
  intro w5 hown hgrow
  have hs5 := (own_sl (own_zeros hown)).1
  have hb5 : Below w4.heap.size w4 w5 := (Below.refl _ _).grown hgrow (Nat.le_refl _) (fun _ h => by cases h)
  have HB5 := hid (HB4.out.trans (hb5.mono HB4.out.size))
  have HS5 := hid (HS4.out.on hb5)
  have HT5 := hid (HT4.out.on hb5)
  have HX5 := hid (HX4.out.on hb5)
  have HZ5 := hid hs5
  clear hown hgrow hs5 hb5
  go_wp2_with fail
  refine (sum_any _ _ _ _ _ _ HS5.out HY.out).mono ?_
  rintro e w' ⟨rfl, rfl⟩
  go_wp2_with fail
  refine (sum_any _ _ _ _ _ _ HT5.out (turned_byt HY.out _ _)).mono ?_
  rintro e w' ⟨rfl, rfl⟩
  go_wp2_with fail
  refine (sum_any _ _ _ _ _ _ HX5.out (turned_byt (zero_byt n) _ _)).mono ?_
  rintro e w' ⟨rfl, rfl⟩
  go_wp2_with fail
  refine (sum_any _ _ _ _ _ _ HZ5.out (zero_byt n)).mono ?_
  rintro e w' ⟨rfl, rfl⟩
  have hlen : l.length = n := HS.out.len
  obtain ⟨s1, e1⟩ : ∃ s, crcOf (nats l) = s := ⟨_, rfl⟩
  obtain ⟨s2, e2⟩ : ∃ s, crcOf (nats (turned l at' b)) = s := ⟨_, rfl⟩
  obtain ⟨s3, e3⟩ : ∃ s, crcOf (nats (turned (List.replicate n 0) at' b)) = s := ⟨_, rfl⟩
  obtain ⟨s4, e4⟩ : ∃ s, crcOf (nats (List.replicate n 0)) = s := ⟨_, rfl⟩
  have h4 : s1 ^^^ s2 ^^^ s3 ^^^ s4 = 0 := by
    have hx := turned_xors HY.out at' b
    rw [hlen] at hx
    have := crc_four (by rw [nats_len, nats_len, turned_len]) (by rw [nats_len, nats_len, turned_len]) hx
    rwa [e1, e2, e3, e4] at this
  have l1 := crc_lt (nats_bts HY.out)
  have l2 := crc_lt (nats_bts (turned_byt HY.out at' b))
  have l3 := crc_lt (nats_bts (turned_byt (zero_byt n) at' b))
  have l4 := crc_lt (nats_bts (zero_byt n))
  rw [e1] at l1
  rw [e2] at l2
  rw [e3] at l3
  rw [e4] at l4
  have hT : (bits .xor .u32 (bits .xor .u32 (bits .xor .u32 (s1 : Int) (s2 : Int)) (s3 : Int)) (s4 : Int) == 0) = true := by
    rw [xor_u32 s1 s2 l1 l2, xor_u32 _ s3 (Nat.xor_lt_two_pow (n := 32) l1 l2) l3, xor_u32 _ s4 (Nat.xor_lt_two_pow (n := 32) (Nat.xor_lt_two_pow (n := 32) l1 l2) l3) l4, h4]
    rfl
  rw [e1, e2, e3, e4]
  clear l1 l2 l3 l4 h4 e1 e2 e3 e4 hlen
  go_wp2_with fail
  refine (fullNil_any _).mono ?_
  rintro e w6 ⟨⟨A6, c6, rfl⟩, hb⟩
  have HB6 := hid (HB5.out.trans (hb.mono HB5.out.size))
  clear hb
  go_wp2
  go_ret
  exact ⟨rfl, HB6.out⟩
theorem crcXors_all (A : Option Addr) (n c : Nat) (zs : List Int) (at' b : Int) (w : World) (hr : IsRow .u8 w A n c zs) (ha : (Lit.int .i64 at').wf = true) (hb : (Lit.int .u32 b).wf = true) :
    Calls Try.prog 8 #[.slice A n c, .int .i64 at', .int .u32 b] w (Yes w) := by
  have hS := sl_of_row hr
  have hY := byt_of_row hr
  have h1 := bounds_i64 ha
  have h2 := bounds_u32 hb
  rcases Nat.lt_or_ge 100 n with h | h
  · exact crcXors_far A n c at' b w h
  · obtain ⟨u, rfl⟩ : ∃ u : Nat, b = (u : Int) := ⟨b.toNat, by omega⟩
    exact crcXors_near A n c u at' _ w hS hY h (by omega) (by omega)
end Go.Proofs.Ytljgkkgeaojolaa
