/- The walk of RootTells. -/
import Derived.Test.YtdllmodgefolbaaDoorGRootGreaterW
import Derived.Test.YtdllmodgefolbaaDoorGTurned
namespace Go.Proofs.YtdllmodgefolbaaDoor
open Go.RowKit

section
variable {Real : World → Nat → DSt → (Nat → Prop) → Prop}
set_option maxRecDepth 100000 in
set_option maxHeartbeats 8000000 in
theorem rootTells_any (D : DevOk Real) (S : Nat → Addr) (a : Int) (A : Option Addr) (la ca : Nat) (l : List Int) (at' : Int) (bits : Nat) (w : World) (hS : Sent6 w S) (hl : Sn w w.heap.size A la ca l) (hla : la ≤ 2000000) (a0 : -9223372036854775808 ≤ a) (a1 : a ≤ 9223372036854775807) (hbits : bits < 4294967296) :
    Calls Tryd.prog 4 #[.int .i64 a, .slice A la ca, .int .i64 at', .int .u32 (bits : Int)] w (Yes w) := by
  have HS := hid hS
  have HD := hid D
  have HL := hid hl
  have HLa := hid hla
  have HAb := hid (show -9223372036854775808 ≤ a ∧ a ≤ 9223372036854775807 from ⟨a0, a1⟩)
  obtain ⟨r, hr⟩ : ∃ r, mkRoot a l = r := ⟨_, rfl⟩
  have HR := hid (show r.epoch = a ∧ Sums r.refs from by rw [← hr]; exact ⟨rfl, mkR_sums _⟩)
  have HR' := hid hr
  have hi0 : 0 ≤ at' % 256 := Int.emod_nonneg _ (by omega)
  have hi1 : at' % 256 < 256 := Int.emod_lt_of_pos _ (by omega)
  obtain ⟨p, hp⟩ : ∃ p : Nat, at' % 256 = (p : Int) := ⟨(at' % 256).toNat, by omega⟩
  have HP := hid hp
  have HP2 := hid (show (p : Int) ≤ 255 by omega)
  have HBt := hid hbits
  clear hS D hl hla a0 a1 hr hi0 hi1 hp hbits
  go_enter Tryd.func4, Tryd.ntmps4
  go_wp2_with fail
  refine (first6_any HD.out S _ HS.out).mono ?_
  rintro e w1 ⟨rfl, hb1⟩
  have HB1 := hid hb1
  have HL1 := hid (hl_on HL.out hb1)
  clear hb1
  go_wp2_with fail
  refine (made_any a A la ca l _ HL1.out HLa.out).mono ?_
  rw [HR'.out]
  rintro e w2 ⟨o, rfl, ho, hb, _⟩
  have HO := hid ho
  have HB2 := hid (HB1.out.trans (hb.mono HB1.out.size))
  have HL2 := hid (hl_on HL1.out hb)
  clear ho hb
  go_wp2_with fail
  refine (bytesO_any S _ (HS.out.on HB2.out) HO.out HR.out.2 (by rw [HR.out.1]; exact HAb.out.1) (by rw [HR.out.1]; exact HAb.out.2)).mono ?_
  rintro e w3 ⟨hx, hb⟩
  have HB3 := hid (HB2.out.trans (hb.mono HB2.out.size))
  have HL3 := hid (hl_on HL2.out hb)
  clear hb
  rcases hx with ⟨hc, A3, c3, rfl, hsl, _⟩ | ⟨hc, v, rfl, hv⟩
  rotate_left
  · obtain ⟨j, rfl⟩ := hv.is hc
    clear hc hv
    go_wp2
    go_ret
    exact ⟨rfl, HB3.out⟩
  have HC := hid hc
  have HSl := hid hsl
  clear hc hsl
  go_wp2_with fail
  refine (number_any at' 256 _ (by omega) (by omega)).mono ?_
  rw [HP.out]
  rintro e w4 ⟨rfl, rfl⟩
  go_wp2_with fail
  refine (refTurned_any A3 256 c3 bits (p : Int) (bytesOf r) _ HSl.out (bytesOf_byt r) (by omega) (by have := HP2.out; omega)).mono ?_
  rintro e w4 hm
  obtain ⟨A4, c4, rfl, hs4, hb, _, _⟩ := hm.get
  have HB4 := hid (HB3.out.trans (hb.mono HB3.out.size))
  have HL4 := hid (hl_on HL3.out hb)
  have HSl4 := hid (HSl.out.on hb)
  have HT4 := hid hs4
  have HTy := hid (turned_byt (bytesOf_byt r) (p : Int) bits)
  have HTd := hid (readR_told HC.out HR.out.2 (p : Int) bits)
  obtain ⟨t, ht⟩ : ∃ t, turned (bytesOf r) (p : Int) bits = t := ⟨_, rfl⟩
  rw [ht] at HT4 HTy HTd
  clear hm hs4 hb ht
  go_wp2_with fail
  refine (read_any S A4 256 c4 t _ (HS.out.on HB4.out) HT4.out HTy.out).mono ?_
  rintro e w5 ⟨A5, n5, c5, rfl, hrf, hb, _⟩
  have hal : Below w5.heap.size w5 (w5.alloc (.cells #[.int .i64 (rootOr t).epoch, .slice A5 n5 c5] 31)) := (Below.refl _ _).alloc (Nat.le_refl _) _
  have HKb := hid (Blk.new w5 31 #[.int .i64 (rootOr t).epoch, .slice A5 n5 c5])
  have hb5 := hb.trans (hal.mono hb.size)
  have HB5 := hid (HB4.out.trans (hb5.mono HB4.out.size))
  have HL5 := hid (hl_on HL4.out hb5)
  have HSl5 := hid (HSl4.out.on hb5)
  have HT5 := hid (HT4.out.on hb5)
  have HX5 := hid (show (RV.mk (rootOr t).epoch A5 n5 c5).Is (rootOr t) (w5.alloc (.cells #[.int .i64 (rootOr t).epoch, .slice A5 n5 c5] 31)) from RV.Is.on ⟨rfl, hrf⟩ hal)
  obtain ⟨ep, hep⟩ : ∃ ep, (rootOr t).epoch = ep := ⟨_, rfl⟩
  rw [hep] at HKb HX5 HB5 HL5 HSl5 HT5
  clear hrf hb hal hb5
  go_wp2_with fail
  clear hep
  refine (same_any _ _ _ _ _ _ _ _ _ _ _ HT5.out HSl5.out).mono ?_
  rintro e w6 ⟨rfl, q, rfl⟩
  have HB6 := hid (below_drewN HB5.out q)
  have HKb6 := hid (HKb.out.drewN q)
  have HX6 := hid (RV.Is.on HX5.out (below_drewN (Below.refl _ _) q))
  have HL6 := hid (hl_on HL5.out (below_drewN (Below.refl _ _) q))
  by_cases hte : t = bytesOf r
  · have hsm : sameB t (bytesOf r) = true := by simp [sameB, hte]
    have hrd : readR t = some r := by rw [HTd.out, if_pos hte]
    have HXr := hid (show (RV.mk ep A5 n5 c5).Is r _ from by have := HX6.out; unfold rootOr at this; rw [hrd] at this; exact this)
    rw [hsm, show (readR t).isSome = true from by rw [hrd]; rfl]
    clear hte hsm hrd
    generalize ((w5.alloc (.cells #[.int .i64 ep, .slice A5 n5 c5] 31)).drewN q) = w6 at *
    have k0 := HKb6.out.cell 0
    have k1 := HKb6.out.cell 1
    simp at k0 k1
    have HMd := hid (made_any a A la ca l w6.drew (hl_on HL6.out (below_drewN (Below.refl _ _) 1)) HLa.out)
    rw [HR'.out] at HMd
    have HKp := hid (fun w7 (hb : Below w6.drew.heap.size w6.drew w7) => (show (w7.cell? ⟨w5.heap.size, 0, none⟩ = some (.int .i64 ep) ∧ w7.cell? ⟨w5.heap.size, 1, none⟩ = some (.slice A5 n5 c5)) ∧ (RV.mk ep A5 n5 c5).Is r w7 ∧ Below w.heap.size w w7 from by
      have hk := HKb6.out.drew.below hb HKb6.out.lt
      exact ⟨⟨hk.cell 0, hk.cell 1⟩, RV.Is.on HXr.out (show Below w6.heap.size w6 w7 from ⟨hb.os, hb.tape, hb.output, hb.size, hb.block⟩), HB6.out.drew.trans (hb.mono HB6.out.size)⟩))
    go_wp2_with fail
    go_region_held3 (fun w' => w'.cell? ⟨w5.heap.size, 0, none⟩ = some (.int .i64 ep) ∧ w'.cell? ⟨w5.heap.size, 1, none⟩ = some (.slice A5 n5 c5)) (first | exact ⟨k0, k1⟩ | exact hk7 | exact hk8 | go_keep)
      ((first | (go_at_call 11; refine HMd.out.mono ?_; rintro e w7 ⟨o7, rfl, ho7, hb7, _⟩; obtain ⟨hk7, hx7, hbw7⟩ := HKp.out w7 hb7; have HX7 := hid hx7; have HO7 := hid ho7; have HB7 := hid hbw7; have HK7 := hid (fun w8 (hb : Below w7.heap.size w7 w8) => HKp.out w8 (hb7.trans (hb.mono hb7.size))); clear ho7 hb7 hx7 hbw7) | (go_at_call 16; refine (sameRoot_any (RV.mk ep A5 n5 c5) o7 r r _ HX7.out HO7.out).mono ?_; rintro e w8 ⟨rfl, hb8⟩; obtain ⟨hk8, _, hbw8⟩ := HK7.out w8 hb8; have HB8 := hid hbw8; clear hb8 hbw8)))
    go_wp2
    go_ret
    exact ⟨by simp, HB8.out⟩
  · have hsm : sameB t (bytesOf r) = false := by simp [sameB, hte]
    have hrd : readR t = none := by rw [HTd.out, if_neg hte]
    rw [hsm, show (readR t).isSome = false from by rw [hrd]; rfl]
    clear hte hsm hrd
    go_wp2
    go_ret
    exact ⟨rfl, HB6.out⟩
end
end Go.Proofs.YtdllmodgefolbaaDoor
