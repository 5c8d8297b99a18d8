/- Package blob's laws: small steps over what is carried; the chapter's example. -/
import Derived.Test.YtfdabbpfphnbhaaDoorGBlA
namespace Go.Proofs.YtfdabbpfphnbhaaDoor
open Go.RowKit

section
variable {Real : World → Nat → DSt → (Nat → Prop) → Prop} {AR : World → Nat → Nat → Nat → ASt → (Nat → Prop) → Prop} {S : Nat → Addr} {w0 w w' : World} {d g n q q' : Nat} {s s' : DSt} {a a' : ASt} {F G : Nat → Prop} {ks : List Lie}
/-- bytes of a literal -/
theorem Bk.lit (D : DevOk Real) (O : AreaOk Real AR) (h : Bk Real AR S w0 w d g s n a q ks) (l : List Int) (hl : l.length ≤ 1000) : Bk Real AR S w0 (w.alloc (.cells (I l).toArray 5)) d g s n a q (Lie.byt (some ⟨w.heap.size, 0, none⟩) l.length l.length l :: ks) :=
  h.new D O ((Below.refl _ _).alloc (Nat.le_refl _) _) _ (by have h1 := Sl.lit w l hl; show Sl _ (w.alloc _).heap.size _ _ _ _; simpa using h1) (fun k hk => by
    obtain ⟨ad, ha, _, rfl⟩ := hk
    cases ha
    exact ⟨Nat.le_refl _, by simp⟩)
/-- bytes that are new -/
theorem Bk.fresh (D : DevOk Real) (O : AreaOk Real AR) {A : Option Addr} {k c : Nat} {l : List Int} (h : Bk Real AR S w0 w d g s n a q ks) (hb : Below w.heap.size w w') (hl : Sl w' w'.heap.size A k c l) (hn : ∀ ad, A = some ad → w.heap.size ≤ ad.block) : Bk Real AR S w0 w' d g s n a q (Lie.byt A k c l :: ks) :=
  h.new D O hb _ (by exact hl) (fun k hk => by
    obtain ⟨ad, ha, h0, rfl⟩ := hk
    exact ⟨hn ad ha, (hl.at_ ad ha h0).1⟩)
theorem Bk.drewN (D : DevOk Real) (O : AreaOk Real AR) (h : Bk Real AR S w0 w d g s n a q ks) (k : Nat) : Bk Real AR S w0 (w.drewN k) d g s n a q ks := h.on D O (below_drewN (Below.refl _ _) k)
theorem bk_full (D : DevOk Real) (O : AreaOk Real AR) {A : Option Addr} {k c : Nat} {l : List Int} (h : Bk Real AR S w0 w d g s n a q ks) (hl : Sl w w.heap.size A k c l) (hk : k ≤ 256) :
    Calls Tryd.prog 14 #[.slice A k c] w fun e w' => ∃ A' c', e = .returned (.slice A' 256 c') ∧ Bk Real AR S w0 w' d g s n a q (Lie.byt A' 256 c' (padB l) :: ks) ∧ Below w.heap.size w w' := by
  refine (full_any A k c l w hl hk).mono ?_
  rintro e w' h1
  obtain ⟨A', c', he, hs, hb, hn, _⟩ := h1.get
  exact ⟨A', c', he, h.fresh D O hb hs hn, hb⟩
theorem bk_same (D : DevOk Real) (O : AreaOk Real AR) {A B : Option Addr} {k c k' c' : Nat} {l l' : List Int} (h : Bk Real AR S w0 w d g s n a q ks) (hl : Sl w w.heap.size A k c l) (hl' : Sl w w.heap.size B k' c' l') :
    Calls Tryd.prog 22 #[.slice A k c, .slice B k' c'] w fun e w' => e = .returned (.bool (sameB l l')) ∧ Bk Real AR S w0 w' d g s n a q ks ∧ Below w.heap.size w w' := by
  refine (same_any A B k c k' c' l l' _ _ w hl hl').mono ?_
  rintro e w' ⟨rfl, j, rfl⟩
  exact ⟨rfl, h.drewN D O j, below_drewN (Below.refl _ _) j⟩
theorem bk_is (D : DevOk Real) (O : AreaOk Real AR) (h : Bk Real AR S w0 w d g s n a q ks) {c : Int} {v : Value} (c' : Int) (hv : EV S c v) :
    Calls Tryd.prog 12 #[v, .int .i64 c'] w fun e w' => e = .returned (.bool (c == c')) ∧ Bk Real AR S w0 w' d g s n a q ks ∧ Below w.heap.size w w' :=
  (is_any S c c' v w h.sent hv).mono fun _ _ ⟨he, hb⟩ => ⟨he, h.on D O hb, hb⟩
/-- no bytes -/
theorem Bk.nob (h : Bk Real AR S w0 w d g s n a q ks) : Bk Real AR S w0 w d g s n a q (Lie.byt none 0 0 [] :: ks) := by
  obtain ⟨F, G, h, hk⟩ := h
  refine ⟨F, G, h, fun K hK => ?_⟩
  rcases List.mem_cons.1 hK with rfl | hK
  · exact ⟨Sl.empty _ _, fun k hk => by obtain ⟨ad, ha, _⟩ := hk; cases ha⟩
  · exact hk K hK
set_option maxRecDepth 100000 in
set_option maxHeartbeats 2000000 in
theorem first9_any (D : DevOk Real) (O : AreaOk Real AR) (w : World) (hS : Sent w S) :
    Calls Tryd.prog 8 #[] w (Yes w) := by
  have HS := hid hS
  have HD := hid D
  have HO := hid O
  have hy : Byt [5] := fun x hx => by simp at hx; omega
  have HY := hid hy
  obtain ⟨l, hl⟩ : ∃ l, padB [5] = l := ⟨_, rfl⟩
  have HL := hid hl
  have hn5 : l.length = 256 := hl ▸ padB_len (by simp)
  have H5 := hid hn5
  have HYl := hid (show Byt l from hl ▸ padB_byt hy)
  obtain ⟨z, hz⟩ : ∃ z, crcOf (nats l) = z := ⟨_, rfl⟩
  have HZ := hid hz
  have HZl := hid (show z < 4294967296 from hz ▸ crc_lt (nats_bts HYl.out))
  clear hS D O hy hl hn5 hz
  go_enter Tryd.func8, Tryd.ntmps8
  go_wp2_with fail
  refine (opened9_any HD.out HO.out 300 _ HS.out (by omega) (by omega)).mono ?_
  rintro e w1 ⟨g, d, rfl, hk⟩
  have HK1 := hid hk
  have HK1l := hid (hk.lit HD.out HO.out [5] (by simp))
  clear hk
  go_wp2_with fail
  refine (bk_put HO.out (m := 1) (c := 1) (l := [5]) HK1l.out (by omega) (by omega) HY.out).mono ?_
  rw [HL.out, HZ.out]
  rintro e w2 (⟨k, hn, rfl, hk⟩ | ⟨hn, _⟩)
  · obtain rfl := hn.eq open_next
    have HG := hid (get_of (z := z) (by omega) (by omega) (put_read (k := 150) HK1.out.up (by omega) H5.out HYl.out) HZ.out)
    have HK2 := hid (hk.box HD.out HO.out 36 #[.int .i64 150, .int .u32 (z : Int)])
    clear hk hn
    go_upto_region 5 with fail
    generalize hw3 : (w2.alloc (.cells #[.int .i64 150, .int .u32 (z : Int)] 36)) = w3 at HK2 ⊢
    obtain ⟨rb, hrb⟩ : ∃ rb, w2.heap.size = rb := ⟨_, rfl⟩
    rw [hrb] at HK2 ⊢
    clear hrb hw3
    have k0 := (HK2.out.blk List.mem_cons_self).cell 0
    have k1 := (HK2.out.blk List.mem_cons_self).cell 1
    simp at k0 k1
    go_wp2_with fail
    refine (bk_get HD.out HO.out (k := 150) (z := z) HK2.out (by omega) HZl.out).mono ?_
    rw [HG.out]
    rintro e w4 ⟨hk, hb, A4, m4, c4, v4, rfl, hv, hl4⟩
    obtain rfl := hv.nil
    have HK4 := hid hk
    have HL4 := hid (hl4 rfl)
    have HB4 := hid hb
    clear k0 k1 hk hl4 hb hv
    go_wp2_with fail
    have HK5 := hid (HK4.out.lit HD.out HO.out [5] (by simp))
    refine (bk_full HD.out HO.out (k := 1) (c := 1) (l := [5]) HK5.out (by simpa using Sl.lit w4 [5] (by simp)) (by omega)).mono ?_
    rw [HL.out]
    rintro e w6 ⟨A6, c6, rfl, hk, hb⟩
    have HK6 := hid hk
    have HL6 := hid (((HL4.out.on ((Below.refl _ _).alloc (Nat.le_refl _) _)).on hb))
    clear hk hb
    go_wp2_with fail
    refine (bk_same HD.out HO.out HK6.out HL6.out (HK6.out.bytes List.mem_cons_self)).mono ?_
    rw [same_self]
    rintro e w7 ⟨rfl, hk, hb⟩
    have k0 := (hk.blk (g1 := rb) (t := 36) (cs := #[.int .i64 150, .int .u32 (z : Int)]) (by simp)).cell 0
    simp at k0
    have HB := hid hk.below
    clear hk hb
    go_wp2
    go_ret
    exact ⟨rfl, HB.out⟩
  · exact (room_no hn (k := 150) rfl (by rw [datN_300]; omega) (by omega)).elim
end
end Go.Proofs.YtfdabbpfphnbhaaDoor
