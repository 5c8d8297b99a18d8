/- Package blob's own area: Open's walk. -/
import Derived.Test.YtfdabbpfphnbhaaDoorGBmJ
namespace Go.Proofs.YtfdabbpfphnbhaaDoor
open Go.RowKit

section
variable {Real : World → Nat → DSt → (Nat → Prop) → Prop}
theorem RefSl.getM {w : World} {B n c k : Nat} {A : Option Addr} {l : List RefS} (h : RefSl w B A n c l) (hk : k < n) : ∃ ad x, A = some ad ∧ ad.block < B ∧ l[k]? = some x ∧ w.cell? (ad.add (k * 2)) = some (.int .i64 x.1) ∧ w.cell? ⟨(ad.add (k * 2)).block, (ad.add (k * 2)).off + 1, none⟩ = some (.int .u32 (x.2 : Int)) := by
  rcases A with _ | ad
  · have := h.nil rfl; have := h.cap; omega
  · have hl := h.len
    obtain ⟨hb, hc⟩ := h.at_ ad rfl (by omega)
    have hx : l[k]? = some (l[k]'(by omega)) := List.getElem?_eq_getElem (by omega)
    obtain ⟨h1, h2⟩ := hc k _ hx
    refine ⟨ad, _, rfl, hb, hx, h1, ?_⟩
    rw [← h2]
    congr 1
    obtain ⟨bl, of, sx⟩ := ad
    unfold Addr.add
    split <;> split <;> simp_all <;> omega
theorem RefSl.onM {w w' : World} {n c : Nat} {A : Option Addr} {l : List RefS} (h : RefSl w w.heap.size A n c l) (hb : Below w.heap.size w w') : RefSl w' w'.heap.size A n c l :=
  ⟨h.len, h.cap, h.max, h.nil, fun ad ha h0 => ⟨Nat.lt_of_lt_of_le (h.at_ ad ha h0).1 hb.size, fun j x hx => by
    have h1 := (h.at_ ad ha h0).1
    obtain ⟨a1, a2⟩ := (h.at_ ad ha h0).2 j x hx
    exact ⟨(hb.cell (by rw [add_block]; exact h1)).trans a1, (hb.cell (by rw [add_block]; exact h1)).trans a2⟩⟩⟩
set_option maxRecDepth 100000 in
set_option maxHeartbeats 4000000 in
theorem bopen_any (D : DevOk Real) (S : Nat → Addr) (d n q : Nat) (s : DSt) (F : Nat → Prop) (A : Option Addr) (kk c : Nat) (l : List RefS) (w : World) (hS : Sent w S) (hr : Real w d s F) (hu : Up s n q) (hq : q ≤ 900000) (h0 : 300 ≤ n) (hn : n ≤ 6000) (hl : RefSl w w.heap.size A kk c l) (hkk : kk ≤ 6000) (hi : ∀ r, r ∈ l → -9223372036854775808 ≤ r.1 ∧ r.1 ≤ 9223372036854775807) :
    Calls Tryd.prog 28 #[.pointer (some ⟨d, 0, none⟩), .slice A kk c] w fun e w' => Below w.heap.size w w' ∧ ((opensA n l = true ∧ ∃ g u, e = .returned (.tuple #[.pointer (some ⟨g, 0, none⟩), .nilIface]) ∧ ARat w' g u d n (openA' n l) 0 ∧ w.heap.size ≤ g ∧ w.heap.size ≤ u) ∨ (opensA n l = false ∧ ∃ v, EV S 103 v ∧ e = .returned (.tuple #[.pointer none, v]))) := by
  obtain ⟨i0, hi0, hz0, hz1, hz2⟩ := info_parts Tryd.infoUse
  have HBl := hid (D.blocks d s F w hr (hu.ok (by omega)))
  have HLen := hid hu.len
  have HS := hid hS
  have HR := hid hl
  have HN := hid (show 300 ≤ n ∧ n ≤ 6000 ∧ kk ≤ 6000 from ⟨h0, hn, hkk⟩)
  have HI := hid hi
  have HH := hid (show hal (n : Int) = ((halN n : Nat) : Int) from by unfold hal halN; omega)
  clear hS hr hu hq h0 hl hkk hi
  go_enter Tryd.func28, Tryd.ntmps28
  go_wp2_with fail
  refine HBl.out.mono ?_
  rintro e w1 ⟨rfl, q1, rfl⟩
  rw [HLen.out]
  go_wp2_with fail
  refine (of_ok (n : Int) _ (by have := HN.out; omega) (by have := HN.out; omega)).mono ?_
  rw [HH.out]
  rintro e w2 ⟨rfl, hb2⟩
  have HB2 := hid (show Below w.heap.size w w2 from (below_drewN (Below.refl _ _) q1).trans hb2)
  have HGm := hid (show Gm (n : Int) (halN n : Int) from ⟨by omega, by have := halN_two (n := n); omega, by have := HN.out; omega⟩)
  clear hb2
  go_wp2_with (at_make; refine wpList_make_full _ rfl _ _ 69 rfl (w2.heap.size + 1) 79 i0 (.int .i8 0) 1 Tryd.underlying69 hi0 hz0 hz1 _ _ _ _ n rfl rfl rfl rfl ?b2 ?b3 ?b4 ?_)
  case b2 => rw [hz2]; have := HN.out; omega
  case b3 => have := HN.out; unfold maxLen; omega
  case b4 => simp
  intro w3 hown hgrow
  have hsz : w2.heap.size + 1 < w3.heap.size := (World.ownsRow.lt hown (w2.heap.size + 1) (by simp [Value.ownBlock])).2
  have HSz := hid hsz
  have HG3 := hid (show Blk w3 w2.heap.size 91 #[.int .i64 (n : Int), .int .i64 (halN n : Int)] from (Blk.new w2 91 #[.int .i64 (n : Int), .int .i64 (halN n : Int)]).grown hgrow (by simp))
  have HO3 := hid (show OwnV 79 w3 0 (.slice (some ⟨w2.heap.size + 1, 0, none⟩) n n) (U8 (freeL n 0)) from by
    rw [zerosU, ← freeL_zero] at hown
    have h2 : OwnV 79 w3 (w2.heap.size + 1) (.slice (some ⟨w2.heap.size + 1, 0, none⟩) n n) (U8 (freeL n 0)) := by
      unfold OwnV
      rw [U8_len, freeL_len]
      simpa using hown
    exact h2.zero)
  have HB3 := hid (show Below w.heap.size w w3 from (HB2.out.alloc HB2.out.size _).grown hgrow (by have := HB2.out.size; simp; omega) (fun _ h => by cases h))
  have hb3' := (Below.refl w3.heap.size w3).alloc (Nat.le_refl _) (.cells #[.pointer (some ⟨d, 0, none⟩), .slice (some ⟨w2.heap.size + 1, 0, none⟩) n n, .int .i64 0] 71)
  have HAr := hid (Blk.new w3 71 #[.pointer (some ⟨d, 0, none⟩), .slice (some ⟨w2.heap.size + 1, 0, none⟩) n n, .int .i64 0])
  have HG4 := hid (HG3.out.below hb3' HG3.out.lt)
  have HO4 := hid (HO3.out.on hb3')
  have HB4 := hid (HB3.out.trans (hb3'.mono HB3.out.size))
  have HSz2 := hid HB2.out.size
  clear hown hgrow hsz hb3'
  have hn6 : (n : Int) ≤ 6000 := by have := HN.out; omega
  have c1 := HAr.out.cell 1
  simp at c1
  go_wp2
  generalize hw4 : w3.alloc (.cells #[.pointer (some ⟨d, 0, none⟩), .slice (some ⟨w2.heap.size + 1, 0, none⟩) n n, .int .i64 0] 71) = w4 at HAr HG4 HO4 HB4 ⊢
  clear hw4 c1
  obtain ⟨gb, hgb⟩ : ∃ gb, w2.heap.size = gb := ⟨_, rfl⟩
  obtain ⟨ab, hab⟩ : ∃ ab, w3.heap.size = ab := ⟨_, rfl⟩
  rw [hgb, hab] at HAr
  rw [hgb] at HG4 HO4 HSz HSz2
  rw [hab] at HSz
  rw [hgb, hab]
  clear hgb hab HG3 HO3 HB3 HB2
  go_loopw [32] (fun i wr => ∃ k : Nat, k ≤ n ∧ i = .int .i64 (k : Int) ∧ Blk wr gb 91 #[.int .i64 (n : Int), .int .i64 (halN n : Int)] ∧ Blk wr ab 71 #[.pointer (some ⟨d, 0, none⟩), .slice (some ⟨gb + 1, 0, none⟩) n n, .int .i64 0] ∧ OwnV 79 wr 0 (.slice (some ⟨gb + 1, 0, none⟩) n n) (U8 (freeL n k)) ∧ Below w.heap.size w wr) (fun i _ => n - (intOf i).toNat)
  case atStart => exact ⟨0, Nat.zero_le _, rfl, HG4.out, HAr.out, HO4.out, HB4.out⟩
  case round =>
    clear HG4 HAr HO4 HB4
    obtain ⟨k, hk, rfl, hg, ha, ho, hb⟩ := hrel
    have HG := hid hg
    have HA := hid ha
    have HO := hid ho
    have HB := hid hb
    have b0 := hg.cell 0
    have b1 := hg.cell 1
    simp at b0 b1
    clear hg ha ho hb
    by_cases hlt : k < n
    · have hki : (k : Int) < n := by omega
      go_wp2_with fail
      refine (data_any (n : Int) (halN n : Int) (k : Int) _ HGm.out).mono ?_
      rintro e w5 ⟨rfl, hb5⟩
      have HG5 := hid (HG.out.below hb5 HG.out.lt)
      have ha5 := HA.out.below hb5 HA.out.lt
      have HA5 := hid ha5
      have HO5 := hid (HO.out.on hb5)
      have HB5 := hid (HB.out.trans (hb5.mono HB.out.size))
      clear hb5 b0 b1
      have c1 := ha5.cell 1
      simp at c1
      clear ha5
      by_cases hd : datN n ≤ k
      · have hdb : datB (n : Int) (halN n : Int) (k : Int) = true := by unfold datB; unfold datN at hd; simp; omega
        rw [hdb]
        have c3 := HO5.out.cell (k := k) (U8_get (freeL_get k hlt))
        rw [if_neg (by omega)] at c3
        have fr := HO5.out.free k
        have HO6 := hid (show OwnV 79 (w5.setCell ⟨gb + 1, k, none⟩ (.int .i8 1)) 0 (.slice (some ⟨gb + 1, 0, none⟩) n n) (U8 (freeL n (k + 1))) from by
          have := HO5.out.put (by rw [U8_len, freeL_len]) k (.int .i8 1)
          rwa [U8_set, freeL_yes hd] at this)
        have HG6 := hid (HG5.out.far (p := ⟨gb + 1, k, none⟩) (by simp) (.int .i8 1))
        have HA6 := hid (HA5.out.far (p := ⟨gb + 1, k, none⟩) (by have := HSz.out; simp; omega) (.int .i8 1))
        have HB6 := hid (show Below w.heap.size w (w5.setCell ⟨gb + 1, k, none⟩ (.int .i8 1)) from HB5.out.setCell (by have := HSz2.out; show w.heap.size ≤ gb + 1; omega) _)
        clear hdb hd
        go_wp2
        go_roundw
        case rel => exact ⟨k + 1, by omega, by go_num, HG6.out, HA6.out, HO6.out, HB6.out⟩
        case measure => simp [intOf]; omega
      · have hdb : datB (n : Int) (halN n : Int) (k : Int) = false := by unfold datB; unfold datN at hd; simp; omega
        rw [hdb]
        have HNo := hid (freeL_no hd)
        clear hdb hd
        go_wp2
        go_roundw
        case rel => exact ⟨k + 1, by omega, by go_num, HG5.out, HA5.out, by rw [HNo.out]; exact HO5.out, HB5.out⟩
        case measure => simp [intOf]; omega
    · have hkn : k = n := by omega
      have HA1 := hid (show ARat wr ab (gb + 1) d n (openA' n (l.take 0)) 0 from ⟨HA.out, by have := HO.out; rwa [hkn, freeL_all] at this, by have := HSz.out; omega, .inr ⟨rfl, by show n - 1 + 1 = n; have := HN.out; omega⟩⟩)
      have hnlt : decide (k < n) = false := by simpa using hlt
      clear b0 b1 hkn hlt
      clear HG HA HO
      have HB1 := hid HB.out
      clear HB
      go_wp2
      go_loopw [47] (fun i wx => ∃ j : Nat, j ≤ kk ∧ i = .int .i64 (j : Int) ∧ ARat wx ab (gb + 1) d n (openA' n (l.take j)) 0 ∧ opensA n (l.take j) = true ∧ Below w.heap.size w wx) (fun i _ => kk - (intOf i).toNat)
      case atStart => exact ⟨0, Nat.zero_le _, rfl, HA1.out, rfl, HB1.out⟩
      case round =>
        clear HA1 HB1
        obtain ⟨j, hj, rfl, ha, ho, hb⟩ := hrel
        have HA := hid ha
        have HO := hid ho
        have HB := hid hb
        clear ha ho hb
        by_cases hlt : j < kk
        · obtain ⟨ad, x, rfl, hbl, hx, k0, k1⟩ := (HR.out.onM HB.out).getM hlt
          have hjk : (j : Int) < kk := by omega
          have hk6 : (kk : Int) ≤ 6000 := by have := HN.out; omega
          have HX := hid hx
          have hxb := HI.out x (List.mem_of_getElem? hx)
          have HXb := hid hxb
          have hnx := openM_next hx HO.out
          have hb0 : Below wr.heap.size wr (wr.alloc (.cells #[.int .i64 x.1, .int .u32 (x.2 : Int)] 36)) := (Below.refl _ _).alloc (Nat.le_refl _) _
          have HA2 := hid (HA.out.on hb0)
          have HB2 := hid (HB.out.trans (hb0.mono HB.out.size))
          clear hx hxb hbl hb0
          go_wp2_with fail
          refine (useOf_any ab (gb + 1) d n 0 _ x.1 _ HA2.out HXb.out.1 HXb.out.2).mono ?_
          rintro e w6 ⟨rfl, rfl⟩
          rcases hnx with ⟨k, hk, hk0, hk1, hv, hop, hoth, htwo⟩ | ⟨v, hv, hv1, hop⟩
          · rw [hv]
            rw [hk] at k0 ⊢
            have HK := hid hk
            have c1 := HA2.out.cells.2.1
            have c3 := HA2.out.use hk1
            have fr := HA2.out.row.free k
            have hki : (k : Int) < n := by omega
            have HAn := hid (show ARat ((wr.alloc (.cells #[.int .i64 x.1, .int .u32 (x.2 : Int)] 36)).setCell ⟨gb + 1, k, none⟩ (.int .i8 2)) ab (gb + 1) d n (openA' n (l.take (j + 1))) 0 from
              ⟨HA2.out.blk.far (fun e => HA2.out.ne e.symm) _, by
                have := HA2.out.row.put (by rw [U8_len, useL_len]) k (.int .i8 2)
                rwa [U8_set, useL_turn htwo hoth] at this, HA2.out.ne, HA2.out.nx⟩)
            rw [hk] at c1 c3 fr HAn
            have HOp := hid hop
            have HBn := hid (show Below w.heap.size w ((wr.alloc (.cells #[.int .i64 (k : Int), .int .u32 (x.2 : Int)] 36)).setCell ⟨gb + 1, k, none⟩ (.int .i8 2)) from by
              have := HB2.out
              rw [hk] at this
              exact this.setCell (by have := HSz2.out; show w.heap.size ≤ gb + 1; omega) _)
            clear hv hop hoth htwo hk hk0
            go_wp2_with fail
            go_region
            go_wp2
            go_roundw
            case rel => exact ⟨j + 1, by omega, by go_num, HAn.out.on (Below.refl _ _).drew, HOp.out, HBn.out.drew⟩
            case measure => simp [intOf]; omega
          · rw [hv]
            have HOp := hid hop
            have hg := (HS.out.on HB2.out).at_ 2 (by decide)
            have hg1 : (wr.alloc (.cells #[.int .i64 x.1, .int .u32 (x.2 : Int)] 36)).cell? ⟨0, 0, none⟩ = some (.iface 118 (.pointer (some (S 2)))) := hg
            clear hv hop hg k0 k1
            go_wp2_with fail
            go_quiet (fail)
            go_wp2
            go_ret2
            exact ⟨below_drewN HB2.out _, .inr ⟨HOp.out, _, .err 2 (by decide), rfl⟩⟩
        · have hjk : j = kk := by omega
          have HAe := hid (show ARat wr ab (gb + 1) d n (openA' n l) 0 ∧ opensA n l = true from by
            have h1 := HA.out
            have h2 := HO.out
            rw [List.take_of_length_le (by rw [HR.out.len]; omega)] at h1 h2
            exact ⟨h1, h2⟩)
          have hnlt : decide (j < kk) = false := by simpa using hlt
          clear hjk hlt
          go_wp2
          go_ret2
          exact ⟨HB.out, .inl ⟨HAe.out.2, ab, gb + 1, rfl, HAe.out.1, by have := HSz.out; have := HSz2.out; omega, by have := HSz2.out; omega⟩⟩
end
end Go.Proofs.YtfdabbpfphnbhaaDoor
