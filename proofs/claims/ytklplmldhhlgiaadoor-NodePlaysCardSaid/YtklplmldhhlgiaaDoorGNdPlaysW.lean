/- NodePlays, walked, over whatever keeps what package node has to keep. -/
import Derived.Test.YtklplmldhhlgiaaDoorGNdC
import Derived.Test.YtklplmldhhlgiaaDoorGNdD
import Derived.Test.YtklplmldhhlgiaaDoorGDoe
import Derived.Deep.CutBlock
namespace Go.Proofs.YtklplmldhhlgiaaDoor
open Go.RowKit Go.Sort

theorem Tk.lower {TR : World → Nat → Tab → (Nat → Prop) → Prop} {w0 w : World} {g B B' : Nat} {T : Tab} {L : List Nd} {v : Value} {ks : List Ly} (h : Tk TR w0 w g T (Ly.nds B v L :: ks)) (hB : B' ≤ B) : Tk TR w0 w g T (Ly.nds B' v L :: ks) := by
  obtain ⟨F, h1, h2, h3, hk⟩ := h
  refine ⟨F, h1, h2, h3, fun K hK => ?_⟩
  rcases List.mem_cons.1 hK with rfl | hK
  · have h := hk _ (.head _)
    exact ⟨NDOwn.lower h.1 hB, h.2⟩
  · exact hk K (.tail _ hK)
/-- nodes that were made since w, carried instead of those before -/
theorem Tk.remade {TR : World → Nat → Tab → (Nat → Prop) → Prop} (O : TabOk TR) {w0 w w' : World} {g : Nat} {T : Tab} {L : List Nd} {v : Value} {ks ls : List Ly} (h : Tk TR w0 w g T ks) (hl : ∀ K, K ∈ ls → K ∈ ks) (ho : NDOwn w' w.heap.size v L) (hb : Below w.heap.size w w') : Tk TR w0 w' g T (Ly.nds w0.heap.size v L :: ls) :=
  Tk.lower (Cr.made (O.stays g T) (h.less hl) hb w.heap.size 30 6 v L.length (NDC L) ho (Nat.le_refl _)) h.below.size
theorem newT_put {U : Tab} {k : Int} (hk : okK k = true) (hl : U.L.length < 512) (hm : U.last < 16777215) : newE U k = 0 ∧ newT U k = ⟨putL U.L (newN (U.last + 1) k), U.last + 1⟩ := by
  have h0 : newE U k = 0 := by
    unfold newE
    rw [if_pos hk, if_neg (by omega)]
  refine ⟨h0, ?_⟩
  unfold newT
  rw [if_pos h0]
theorem newT_late {U : Tab} {k : Int} (hk : okK k = true) (hm : 16777215 ≤ U.last) : newE U k = 104 ∧ newT U k = U := by
  have h0 : newE U k = 104 := by
    unfold newE
    rw [if_pos hk, if_pos (.inr hm)]
  refine ⟨h0, ?_⟩
  unfold newT
  rw [if_neg (by rw [h0]; decide)]
theorem putT_yes {U : Tab} {e : Nd} (hf : fitsN e = true) (hl : U.L.length < 512) : putE U e = 0 ∧ putT U e = ⟨putL U.L e, max U.last e.id⟩ := by
  have h0 : putE U e = 0 := by
    unfold putE
    rw [if_pos hf, if_neg (by rintro ⟨_, h⟩; omega)]
  refine ⟨h0, ?_⟩
  unfold putT
  rw [if_pos h0]
theorem putT_not {U : Tab} {e : Nd} (hf : fitsN e = false) : putE U e = 103 ∧ putT U e = U := by
  have h0 : putE U e = 103 := by
    unfold putE
    rw [if_neg (by rw [hf]; decide)]
  refine ⟨h0, ?_⟩
  unfold putT
  rw [if_neg (by rw [h0]; decide)]
theorem dbox {w : World} {g : Nat} {t : TypeId} {a b c d e f x y : Value} (h : Blk w g t #[a, b, c, d, e, f, x, y]) : w.cell? ⟨g, 0, none⟩ = some a ∧ w.cell? ⟨g, 1, none⟩ = some b ∧ w.cell? ⟨g, 2, none⟩ = some c ∧ w.cell? ⟨g, 3, none⟩ = some d ∧ w.cell? ⟨g, 4, none⟩ = some e ∧ w.cell? ⟨g, 5, none⟩ = some f ∧ w.cell? ⟨g, 6, none⟩ = some x ∧ w.cell? ⟨g, 7, none⟩ = some y := ⟨h.cell 0, h.cell 1, h.cell 2, h.cell 3, h.cell 4, h.cell 5, h.cell 6, h.cell 7⟩
set_option linter.unusedSimpArgs false in
set_option maxRecDepth 100000 in
set_option maxHeartbeats 400000000 in
theorem nodePlays_any {TR : World → Nat → Tab → (Nat → Prop) → Prop} (O : TabOk TR) (S : Nat → Addr) (A : Option Addr) (len cap : Nat) (T : Nat → Ste) (a : Int) (w : World) (hS : Sent w S) (hT : Doe w w.heap.size A len T) (ha : I64 a) :
    Calls Tryd.prog 3 #[.slice A len cap, .int .i64 a] w (Yes w) := by
  have HS := hid hS
  have HT := hid hT
  have HA := hid ha
  have hmx : len ≤ 9223372036854775807 := by have := hT.max; unfold maxLen at this; omega
  clear hS hT ha
  go_enter Tryd.func3, Tryd.ntmps3
  go_wp2_with fail
  refine (first15_any O S w HS.out).mono ?_
  rintro e w1 ⟨rfl, hb⟩
  have HB1 := hid hb
  clear hb
  by_cases h50 : 50 < len
  · go_wp2
    go_ret
    exact ⟨rfl, HB1.out⟩
  have hl50 : len ≤ 50 := by omega
  clear h50 hmx
  have HD0 := hid (tk_zero O (ks := [Ly.nds w.heap.size (.slice none 0 0) []]) HB1.out (fun K h => by
    rcases List.mem_cons.1 h with rfl | h
    · exact ⟨World.ownsRow_nil _ _ _ _, fun k hk => by cases hk⟩
    · cases h))
  obtain ⟨g, hg⟩ : ∃ g, w1.heap.size = g := ⟨_, rfl⟩
  rw [hg] at HD0
  go_wp2
  try rw [hg]
  clear hg
  go_loopw [7, 8, 9] (fun hv lv iv wr => ∃ (i : Nat) (U : Tab), i ≤ len ∧ iv = .int .i64 (i : Int) ∧ lv = .int .i64 U.last ∧ Hid (U.L.length ≤ i) ∧ Hid (Tk TR w wr g U [Ly.nds w.heap.size hv U.L])) (fun _ _ iv _ => len - (intOf iv).toNat)
  case atStart => exact ⟨0, ⟨[], 0⟩, Nat.zero_le _, rfl, rfl, Nat.le_refl _, HD0⟩
  case round =>
    obtain ⟨i, U, hi, rfl, rfl, HUl, HD⟩ := hrel
    clear HD0
    by_cases hlt : i < len
    · obtain ⟨ad, hA⟩ : ∃ ad, A = some ad := by
        rcases A with _ | ad
        · have := HT.out.nil rfl; omega
        · exact ⟨ad, rfl⟩
      subst hA
      obtain ⟨⟨_, hz⟩, hc8⟩ := (HT.out.below HD.out.below).at_ ad rfl i hlt
      have hok := HT.out.ok i hlt
      obtain ⟨b, o, sp⟩ := ad
      simp only [Addr.mk.injEq, true_and] at hz
      subst hz
      obtain ⟨st, hst⟩ : ∃ st, T i = st := ⟨_, rfl⟩
      rw [hst] at hc8 hok
      obtain ⟨kd, nn, id, ek, el, es, et, ep⟩ := st
      have Hok := hid hok
      have k0 : wr.cell? ⟨b, o + i * 8, none⟩ = some (.int .i64 kd) := hc8 0 (by decide)
      have k1 : wr.cell? ⟨b, o + i * 8 + 1, none⟩ = some (.int .i64 nn) := hc8 1 (by decide)
      have k2 : wr.cell? ⟨b, o + i * 8 + 2, none⟩ = some (.int .i64 id) := hc8 2 (by decide)
      have k3 : wr.cell? ⟨b, o + i * 8 + 3, none⟩ = some (.int .i64 ek) := hc8 3 (by decide)
      have k4 : wr.cell? ⟨b, o + i * 8 + 4, none⟩ = some (.int .i64 el) := hc8 4 (by decide)
      have k5 : wr.cell? ⟨b, o + i * 8 + 5, none⟩ = some (.int .i64 es) := hc8 5 (by decide)
      have k6 : wr.cell? ⟨b, o + i * 8 + 6, none⟩ = some (encStr et) := hc8 6 (by decide)
      have k7 : wr.cell? ⟨b, o + i * 8 + 7, none⟩ = some (.int .i64 ep) := hc8 7 (by decide)
      have hin : (i : Int) < (len : Int) := by omega
      have hi0 : (0 : Int) ≤ (i : Int) := by omega
      have hsz : (⟨et.toArray⟩ : ByteArray).size = et.length := by show et.toArray.size = _; simp
      have htm : et.length ≤ 9223372036854775807 := by have := hok.t; unfold maxLen at this; exact this
      have HD1 := hid (HD.out.box (O.stays _ _) 32 #[.int .i64 kd, .int .i64 nn, .int .i64 id, .int .i64 ek, .int .i64 el, .int .i64 es, encStr et, .int .i64 ep])
      obtain ⟨db, hdb⟩ : ∃ db, wr.heap.size = db := ⟨_, rfl⟩
      have HDb := hid hdb
      clear hc8 hok hst
      by_cases h300 : 300 < et.length
      · have HB := hid HD1.out.below
        clear HD1
        go_wp2
        go_ret
        exact ⟨rfl, by first | exact HB.out | (rw [hdb] at HB; exact HB.out)⟩
      have ht300 : et.length ≤ 300 := by omega
      clear h300 htm
      go_wp2_with fail
      refine (tk_clone O HD1.out).mono ?_
      rw [hdb] at HD1
      rintro e w3 ⟨q, F2, rfl, hd, hb, hF2⟩
      rw [hdb] at hd
      have HD2 := hid hd
      clear hd hb hF2 HD1 k0 k1 k2 k3 k4 k5 k6 k7 hdb
      go_wp2_with fail
      refine (tk_lenOther O HD2.out (.head _)).mono ?_
      rintro e w4 ⟨rfl, hd, _⟩
      have HD3 := hid hd
      obtain ⟨c0, c1, c2, c3, c4, c5, c6, c7⟩ := dbox (show Blk w4 db 32 #[.int .i64 kd, .int .i64 nn, .int .i64 id, .int .i64 ek, .int .i64 el, .int .i64 es, encStr et, .int .i64 ep] from hd.get (K := Ly.blk db 32 #[.int .i64 kd, .int .i64 nn, .int .i64 id, .int .i64 ek, .int .i64 el, .int .i64 es, encStr et, .int .i64 ep]) (.tail _ (.head _)))
      clear hd HD2 HD
      go_upto_block 2 with fail
      go_cut [7, 8] from 36 to 214 (fun hvv lv wz => ∃ U2 : Tab, lv = .int .i64 U2.last ∧ Hid (U2.L.length ≤ i + 1) ∧ Hid (Tk TR w wz g U2 [Ly.nds w.heap.size hvv U2.L, Ly.tab O q U F2]))
      case first =>
        obtain ⟨A2, m2, cp2, hv9, hsl, hm2⟩ : ∃ A2 m2 cp2, u7 = .slice A2 m2 cp2 ∧ NDSl w4 w4.heap.size A2 m2 cp2 U.L ∧ U.L.length = m2 := by
          obtain ⟨A2, cp2, h1, h2, _⟩ := NDOwn.form (show NDOwn w4 w.heap.size u7 U.L from HD3.out.get (K := Ly.nds w.heap.size u7 U.L) (.tail _ (.tail _ (.head _))))
          exact ⟨A2, _, cp2, h1, h2, rfl⟩
        subst hv9
        have HSl := hid hsl
        have HM := hid hm2
        have hmb : m2 ≤ 50 := by have := HUl.out; omega
        have hc2 := hsl.cap
        have hc2m := hsl.max
        unfold maxLen at hc2m
        have HTi := hid (HD3.out.is O)
        have hl0 := HTi.out.last.1
        have hl1 := HTi.out.last.2
        have hUl5 : U.L.length < 512 := by omega
        clear hsl hm2
        by_cases hk1 : kd = 1
        · as_aux_lemma =>
            subst hk1
            rcases hkk : okK nn with _ | _
            · obtain ⟨a0, a1⟩ := newT_no (T := U) hkk
              have hkw : nn < 1 ∨ (¬ nn < 1 ∧ 3 < nn) := by unfold okK at hkk; simp at hkk; omega
              clear hkk
              go_wp2_with fail
              refine (tk_new O S nn HS.out HD3.out).mono ?_
              rw [a0, a1, if_neg (by decide)]
              rintro e w5 ⟨⟨v, rfl, hv⟩, hd⟩
              have HV := hid hv
              obtain ⟨je, hje, hje2, rfl⟩ := hv.one (by decide)
              have HD5 := hid hd
              clear c0 c1 c2 c3 c4 c5 c6 c7
              obtain ⟨c0, c1, c2, c3, c4, c5, c6, c7⟩ := dbox (show Blk w5 db 32 #[.int .i64 1, .int .i64 nn, .int .i64 id, .int .i64 ek, .int .i64 el, .int .i64 es, encStr et, .int .i64 ep] from hd.get (K := Ly.blk db 32 #[.int .i64 1, .int .i64 nn, .int .i64 id, .int .i64 ek, .int .i64 el, .int .i64 es, encStr et, .int .i64 ep]) (.tail _ (.head _)))
              clear hv hd a0 a1 HD3 hje hje2
              rcases hkw with h1 | ⟨h1, h2⟩
              · go_wp2_with fail
                refine (is_any S _ _ _ _ (HS.out.on HD5.out.below) HV.out).mono ?_
                rintro e w6 ⟨rfl, hb⟩
                have HD6 := hid (HD5.out.on (O.stays _ _) hb)
                clear hb HD5 c0 c1 c2 c3 c4 c5 c6 c7
                have HDz := hid (HD6.out.less (ls := [Ly.nds w.heap.size (.slice A2 m2 cp2) U.L]) (fun K hK => by rcases List.mem_cons.1 hK with rfl | hK; exact (.tail _ (.tail _ (.head _))); cases hK))
                have hiw : IntKind.i64.wrap ((i : Int) + 1) = (i : Int) + 1 := by rw [IntKind.wrap_i64]; omega
                go_wp2
                go_roundw
                case rel => exact ⟨i + 1, U, by omega, by go_num, rfl, hid (Nat.le_succ_of_le HUl.out), HDz⟩
                case measure => simp [intOf]; omega
              · go_wp2_with fail
                refine (is_any S _ _ _ _ (HS.out.on HD5.out.below) HV.out).mono ?_
                rintro e w6 ⟨rfl, hb⟩
                have HD6 := hid (HD5.out.on (O.stays _ _) hb)
                clear hb HD5 c0 c1 c2 c3 c4 c5 c6 c7
                have HDz := hid (HD6.out.less (ls := [Ly.nds w.heap.size (.slice A2 m2 cp2) U.L]) (fun K hK => by rcases List.mem_cons.1 hK with rfl | hK; exact (.tail _ (.tail _ (.head _))); cases hK))
                have hiw : IntKind.i64.wrap ((i : Int) + 1) = (i : Int) + 1 := by rw [IntKind.wrap_i64]; omega
                go_wp2
                go_roundw
                case rel => exact ⟨i + 1, U, by omega, by go_num, rfl, hid (Nat.le_succ_of_le HUl.out), HDz⟩
                case measure => simp [intOf]; omega
            · have hkw : nn = 1 ∨ nn = 2 ∨ nn = 3 := by unfold okK at hkk; simp at hkk; omega
              have hnn1 : ¬ nn < 1 := by omega
              have hnn3 : ¬ 3 < nn := by omega
              by_cases hla : 16777215 ≤ U.last
              · obtain ⟨a0, a1⟩ := newT_late (U := U) hkk hla
                clear hkk
                go_wp2_with fail
                refine (tk_new O S nn HS.out HD3.out).mono ?_
                rw [a0, a1, if_neg (by decide)]
                rintro e w5 ⟨⟨v, rfl, hv⟩, hd⟩
                have HV := hid hv
                obtain ⟨je, hje, hje2, rfl⟩ := hv.one (by decide)
                have HD5 := hid hd
                clear c0 c1 c2 c3 c4 c5 c6 c7
                obtain ⟨c0, c1, c2, c3, c4, c5, c6, c7⟩ := dbox (show Blk w5 db 32 #[.int .i64 1, .int .i64 nn, .int .i64 id, .int .i64 ek, .int .i64 el, .int .i64 es, encStr et, .int .i64 ep] from hd.get (K := Ly.blk db 32 #[.int .i64 1, .int .i64 nn, .int .i64 id, .int .i64 ek, .int .i64 el, .int .i64 es, encStr et, .int .i64 ep]) (.tail _ (.head _)))
                clear hv hd a0 a1 HD3 hje hje2
                go_wp2_with fail
                refine (is_any S _ _ _ _ (HS.out.on HD5.out.below) HV.out).mono ?_
                rintro e w6 ⟨rfl, hb⟩
                have HD6 := hid (HD5.out.on (O.stays _ _) hb)
                clear hb HD5 c0 c1 c2 c3 c4 c5 c6 c7
                have HDz := hid (HD6.out.less (ls := [Ly.nds w.heap.size (.slice A2 m2 cp2) U.L]) (fun K hK => by rcases List.mem_cons.1 hK with rfl | hK; exact (.tail _ (.tail _ (.head _))); cases hK))
                have hiw : IntKind.i64.wrap ((i : Int) + 1) = (i : Int) + 1 := by rw [IntKind.wrap_i64]; omega
                go_wp2
                go_roundw
                case rel => exact ⟨i + 1, U, by omega, by go_num, rfl, hid (Nat.le_succ_of_le HUl.out), HDz⟩
                case measure => simp [intOf]; omega
              · obtain ⟨a0, a1⟩ := newT_put (U := U) hkk hUl5 (by omega)
                clear hkk
                have hlw : IntKind.i64.wrap (U.last + 1) = U.last + 1 := by rw [IntKind.wrap_i64]; omega
                go_wp2_with fail
                refine (tk_new O S nn HS.out HD3.out).mono ?_
                rw [a0, a1, if_pos rfl]
                rintro e w5 ⟨⟨v, rfl, hv⟩, hd⟩
                obtain rfl := hv.nil
                have HD5 := hid hd
                have HSl5 := hid (show NDSl w5 w5.heap.size A2 m2 cp2 U.L from by
                  obtain ⟨A', c', h1, h2, _⟩ := NDOwn.form (show NDOwn w5 w.heap.size (.slice A2 m2 cp2) U.L from hd.get (K := Ly.nds w.heap.size (.slice A2 m2 cp2) U.L) (.tail _ (.tail _ (.head _))))
                  rw [HM.out] at h1 h2
                  cases h1
                  exact h2)
                clear c0 c1 c2 c3 c4 c5 c6 c7
                obtain ⟨c0, c1, c2, c3, c4, c5, c6, c7⟩ := dbox (show Blk w5 db 32 #[.int .i64 1, .int .i64 nn, .int .i64 id, .int .i64 ek, .int .i64 el, .int .i64 es, encStr et, .int .i64 ep] from hd.get (K := Ly.blk db 32 #[.int .i64 1, .int .i64 nn, .int .i64 id, .int .i64 ek, .int .i64 el, .int .i64 es, encStr et, .int .i64 ep]) (.tail _ (.head _)))
                clear hv hd a0 a1 HD3
                rcases hkw with rfl | rfl | rfl
                · rw [show newN (U.last + 1) 1 = ⟨U.last + 1, 1, 0, 0, [], 0⟩ from rfl] at HD5
                  have HD6 := hid (HD5.out.on (O.stays _ _) ((Below.refl _ _).alloc (Nat.le_refl _) (.cells #[.int .i64 (U.last + 1), .int .i64 1, .int .i64 0, .int .i64 0, encStr [], .int .i64 0] 30)))
                  have HS6 := hid (HSl5.out.on ((Below.refl _ _).alloc (Nat.le_refl _) (.cells #[.int .i64 (U.last + 1), .int .i64 1, .int .i64 0, .int .i64 0, encStr [], .int .i64 0] 30)))
                  have e1 : ∀ cs : Array Value, (w5.alloc (.cells cs 30)).cell? ⟨db, 1, none⟩ = some (.int .i64 1) := fun cs => ((Below.cell ((Below.refl w5.heap.size w5).alloc (Nat.le_refl _) (.cells cs 30)) (World.block_lt_of_cell? w5 _ c1))).trans c1
                  go_wp2_with fail
                  refine (put15_any A2 m2 cp2 U.L ⟨U.last + 1, 1, 0, 0, [], 0⟩ _ HS6.out (by omega)).mono ?_
                  rintro e w7 ⟨v, rfl, ho, hb⟩
                  have HDz := hid (Tk.remade O HD6.out (ls := [Ly.tab O q U F2]) (fun K hK => by rcases List.mem_cons.1 hK with rfl | hK; exact (.head _); cases hK) ho hb)
                  have HLz := hid (show (putL U.L ⟨U.last + 1, 1, 0, 0, [], 0⟩).length ≤ i + 1 from by have := putL_len U.L ⟨U.last + 1, 1, 0, 0, [], 0⟩; have := HUl.out; omega)
                  clear ho hb HD5 HD6 HS6 e1 c0 c1 c2 c3 c4 c5 c6 c7
                  go_wp2
                  go_meet
                  case rel => exact ⟨⟨putL U.L ⟨U.last + 1, 1, 0, 0, [], 0⟩, U.last + 1⟩, rfl, HLz, HDz⟩
                · rw [show newN (U.last + 1) 2 = ⟨U.last + 1, 2, 0, 0, [], 1⟩ from rfl] at HD5
                  have HD6 := hid (HD5.out.on (O.stays _ _) ((Below.refl _ _).alloc (Nat.le_refl _) (.cells #[.int .i64 (U.last + 1), .int .i64 2, .int .i64 0, .int .i64 0, encStr [], .int .i64 1] 30)))
                  have HS6 := hid (HSl5.out.on ((Below.refl _ _).alloc (Nat.le_refl _) (.cells #[.int .i64 (U.last + 1), .int .i64 2, .int .i64 0, .int .i64 0, encStr [], .int .i64 1] 30)))
                  have e1 : ∀ cs : Array Value, (w5.alloc (.cells cs 30)).cell? ⟨db, 1, none⟩ = some (.int .i64 2) := fun cs => ((Below.cell ((Below.refl w5.heap.size w5).alloc (Nat.le_refl _) (.cells cs 30)) (World.block_lt_of_cell? w5 _ c1))).trans c1
                  go_wp2_with fail
                  refine (put15_any A2 m2 cp2 U.L ⟨U.last + 1, 2, 0, 0, [], 1⟩ _ HS6.out (by omega)).mono ?_
                  rintro e w7 ⟨v, rfl, ho, hb⟩
                  have HDz := hid (Tk.remade O HD6.out (ls := [Ly.tab O q U F2]) (fun K hK => by rcases List.mem_cons.1 hK with rfl | hK; exact (.head _); cases hK) ho hb)
                  have HLz := hid (show (putL U.L ⟨U.last + 1, 2, 0, 0, [], 1⟩).length ≤ i + 1 from by have := putL_len U.L ⟨U.last + 1, 2, 0, 0, [], 1⟩; have := HUl.out; omega)
                  clear ho hb HD5 HD6 HS6 e1 c0 c1 c2 c3 c4 c5 c6 c7
                  go_wp2
                  go_meet
                  case rel => exact ⟨⟨putL U.L ⟨U.last + 1, 2, 0, 0, [], 1⟩, U.last + 1⟩, rfl, HLz, HDz⟩
                · rw [show newN (U.last + 1) 3 = ⟨U.last + 1, 3, 0, 0, [47], 0⟩ from rfl] at HD5
                  have HD6 := hid (HD5.out.on (O.stays _ _) ((Below.refl _ _).alloc (Nat.le_refl _) (.cells #[.int .i64 (U.last + 1), .int .i64 3, .int .i64 0, .int .i64 0, encStr [47], .int .i64 0] 30)))
                  have HS6 := hid (HSl5.out.on ((Below.refl _ _).alloc (Nat.le_refl _) (.cells #[.int .i64 (U.last + 1), .int .i64 3, .int .i64 0, .int .i64 0, encStr [47], .int .i64 0] 30)))
                  have e1 : ∀ cs : Array Value, (w5.alloc (.cells cs 30)).cell? ⟨db, 1, none⟩ = some (.int .i64 3) := fun cs => ((Below.cell ((Below.refl w5.heap.size w5).alloc (Nat.le_refl _) (.cells cs 30)) (World.block_lt_of_cell? w5 _ c1))).trans c1
                  go_wp2_with fail
                  refine (put15_any A2 m2 cp2 U.L ⟨U.last + 1, 3, 0, 0, [47], 0⟩ _ HS6.out (by omega)).mono ?_
                  rintro e w7 ⟨v, rfl, ho, hb⟩
                  have HDz := hid (Tk.remade O HD6.out (ls := [Ly.tab O q U F2]) (fun K hK => by rcases List.mem_cons.1 hK with rfl | hK; exact (.head _); cases hK) ho hb)
                  have HLz := hid (show (putL U.L ⟨U.last + 1, 3, 0, 0, [47], 0⟩).length ≤ i + 1 from by have := putL_len U.L ⟨U.last + 1, 3, 0, 0, [47], 0⟩; have := HUl.out; omega)
                  clear ho hb HD5 HD6 HS6 e1 c0 c1 c2 c3 c4 c5 c6 c7
                  go_wp2
                  go_meet
                  case rel => exact ⟨⟨putL U.L ⟨U.last + 1, 3, 0, 0, [47], 0⟩, U.last + 1⟩, rfl, HLz, HDz⟩
        · have hk1' : (kd == 1) = false := beq_eq_false_iff_ne.2 hk1
          by_cases hk2 : kd = 2
          · as_aux_lemma =>
              subst hk2
              have hdok : NdOk ⟨id, ek, el, es, et, ep⟩ := ⟨Hok.out.a0, Hok.out.a1, Hok.out.b0, Hok.out.b1, Hok.out.c0, Hok.out.c1, Hok.out.d0, Hok.out.d1, by show et.length ≤ _; omega, Hok.out.p0, Hok.out.p1⟩
              go_wp2_with fail
              refine (tk_put O S ⟨id, ek, el, es, et, ep⟩ HS.out HD3.out hdok).mono ?_
              rcases hfit : fitsN ⟨id, ek, el, es, et, ep⟩ with _ | _
              · obtain ⟨a0, a1⟩ := putT_not (U := U) hfit
                rw [a0, a1]
                rintro e w5 ⟨⟨v, rfl, hv⟩, hd⟩
                obtain ⟨je, hje, hje2, rfl⟩ := hv.one (by decide)
                have HD5 := hid hd
                have HWd := hid (show Below w5.heap.size w5 w5.drew from ⟨rfl, rfl, rfl, Nat.le_refl _, fun _ _ => rfl⟩)
                have hb8 := dbox (show Blk w5.drew db 32 #[.int .i64 2, .int .i64 nn, .int .i64 id, .int .i64 ek, .int .i64 el, .int .i64 es, encStr et, .int .i64 ep] from (hd.on (O.stays _ _) HWd.out).get (K := Ly.blk db 32 #[.int .i64 2, .int .i64 nn, .int .i64 id, .int .i64 ek, .int .i64 el, .int .i64 es, encStr et, .int .i64 ep]) (.tail _ (.head _)))
                clear hv hd a0 a1 HD3 hje hje2 c0 c1 c2 c3 c4 c5 c6 c7
                go_wp2_with fail
                refine wp_region_held_drew (S := fun w' => w'.cell? ⟨db, 0, none⟩ = some (.int .i64 2) ∧ w'.cell? ⟨db, 1, none⟩ = some (.int .i64 nn) ∧ w'.cell? ⟨db, 2, none⟩ = some (.int .i64 id) ∧ w'.cell? ⟨db, 3, none⟩ = some (.int .i64 ek) ∧ w'.cell? ⟨db, 4, none⟩ = some (.int .i64 el) ∧ w'.cell? ⟨db, 5, none⟩ = some (.int .i64 es) ∧ w'.cell? ⟨db, 6, none⟩ = some (encStr et) ∧ w'.cell? ⟨db, 7, none⟩ = some (.int .i64 ep)) (by kernel_rfl) hb8 (fun hH => ?_)
                refine wpAnyH_take (i := 0) (oi := _) (v := ?_) (by simp only [List.getElem?_toArray, List.getElem?_cons_zero]; rfl) (by kernel_rfl) (by kernel_rfl) (by kernel_rfl) (by exact fun _ _ _ h => h) (Or.inl ⟨by rfl, ?_⟩) hH ?_
                rotate_left
                · intro w hSw; (try dsimp only at hSw); go_simp; try with_reducible rfl
                try simp only [Act.put, List.setIfInBounds_toArray, List.set_cons_zero, List.set_cons_succ, List.getElem_toArray, List.getElem_cons_succ, List.getElem_cons_zero]
                refine wpAnyH_take (i := 1) (oi := _) (v := ?_) (by simp only [List.getElem?_toArray, List.getElem?_cons_succ, List.getElem?_cons_zero]; rfl) (by kernel_rfl) (by kernel_rfl) (by kernel_rfl) (by exact fun _ _ _ h => h) (Or.inl ⟨by rfl, ?_⟩) hH ?_
                rotate_left
                · intro w hSw; (try dsimp only at hSw); go_simp; try with_reducible rfl
                try simp only [Act.put, List.setIfInBounds_toArray, List.set_cons_zero, List.set_cons_succ, List.getElem_toArray, List.getElem_cons_succ, List.getElem_cons_zero]
                refine wpAnyH_take (i := 2) (oi := _) (v := ?_) (by simp only [List.getElem?_toArray, List.getElem?_cons_succ, List.getElem?_cons_zero]; rfl) (by kernel_rfl) (by kernel_rfl) (by kernel_rfl) (by exact fun _ _ _ h => h) (Or.inl ⟨by rfl, ?_⟩) hH ?_
                rotate_left
                · intro w hSw; (try dsimp only at hSw); go_simp; try with_reducible rfl
                try simp only [Act.put, List.setIfInBounds_toArray, List.set_cons_zero, List.set_cons_succ, List.getElem_toArray, List.getElem_cons_succ, List.getElem_cons_zero]
                refine wpAnyH_take (i := 3) (oi := _) (v := ?_) (by simp only [List.getElem?_toArray, List.getElem?_cons_succ, List.getElem?_cons_zero]; rfl) (by kernel_rfl) (by kernel_rfl) (by kernel_rfl) (by exact fun _ _ _ h => h) (Or.inl ⟨by rfl, ?_⟩) hH ?_
                rotate_left
                · intro w hSw; (try dsimp only at hSw); obtain ⟨s0, s1, s2, s3, s4, s5, s6, s7⟩ := hSw; go_simp; try with_reducible rfl
                try simp only [Act.put, List.setIfInBounds_toArray, List.set_cons_zero, List.set_cons_succ, List.getElem_toArray, List.getElem_cons_succ, List.getElem_cons_zero]
                refine wpAnyH_ready (rs := [4]) (by kernel_rfl) (by simp) (AllReadyH.cons rfl (fun K hK => ?_) AllReadyH.nil)
                go_simp
                go_at_call 13
                refine (fits15_any ⟨id, ek, el, es, et, ep⟩ _ (by show et.length ≤ _; omega)).mono ?_
                rw [hfit]
                rintro e w6 ⟨rfl, hb⟩
                have HD6 := hid ((HD5.out.on (O.stays _ _) HWd.out).on (O.stays _ _) hb)
                have hb9 := dbox (show Blk w6 db 32 #[.int .i64 2, .int .i64 nn, .int .i64 id, .int .i64 ek, .int .i64 el, .int .i64 es, encStr et, .int .i64 ep] from HD6.out.get (K := Ly.blk db 32 #[.int .i64 2, .int .i64 nn, .int .i64 id, .int .i64 ek, .int .i64 el, .int .i64 es, encStr et, .int .i64 ep]) (.tail _ (.head _)))
                clear hb
                refine hK.out _ _ hb9 (fun hH => ?_)
                clear hK K
                try simp only [Act.put, List.setIfInBounds_toArray, List.set_cons_zero, List.set_cons_succ, List.getElem_toArray, List.getElem_cons_succ, List.getElem_cons_zero]
                refine wpAnyH_take (i := 5) (oi := _) (v := ?_) (by simp only [List.getElem?_toArray, List.getElem?_cons_succ, List.getElem?_cons_zero]; rfl) (by kernel_rfl) (by kernel_rfl) (by kernel_rfl) (by exact fun _ _ _ h => h) (Or.inl ⟨by rfl, ?_⟩) hH ?_
                rotate_left
                · intro w hSw; (try dsimp only at hSw); go_simp; try with_reducible rfl
                try simp only [Act.put, List.setIfInBounds_toArray, List.set_cons_zero, List.set_cons_succ, List.getElem_toArray, List.getElem_cons_succ, List.getElem_cons_zero]
                refine wpAnyH_done (by kernel_rfl) ?_ _
                clear hb8 hb9 HD5 hfit
                have HDz := hid (show Tk TR w w6 g U [Ly.nds w.heap.size (.slice A2 m2 cp2) U.L, Ly.tab O q U F2] from HD6.out.less (fun K hK => by
                  rcases List.mem_cons.1 hK with rfl | hK
                  · exact (.tail _ (.tail _ (.head _)))
                  · rcases List.mem_cons.1 hK with rfl | hK
                    · exact (.head _)
                    · cases hK))
                go_wp2
                go_meet
                case rel => exact ⟨U, rfl, hid (Nat.le_succ_of_le HUl.out), HDz⟩
              · obtain ⟨a0, a1⟩ := putT_yes (U := U) hfit hUl5
                rw [a0, a1]
                rintro e w5 ⟨⟨v, rfl, hv⟩, hd⟩
                obtain rfl := hv.nil
                have HD5 := hid hd
                have HWd := hid (show Below w5.heap.size w5 w5.drew from ⟨rfl, rfl, rfl, Nat.le_refl _, fun _ _ => rfl⟩)
                have hb8 := dbox (show Blk w5.drew db 32 #[.int .i64 2, .int .i64 nn, .int .i64 id, .int .i64 ek, .int .i64 el, .int .i64 es, encStr et, .int .i64 ep] from (hd.on (O.stays _ _) HWd.out).get (K := Ly.blk db 32 #[.int .i64 2, .int .i64 nn, .int .i64 id, .int .i64 ek, .int .i64 el, .int .i64 es, encStr et, .int .i64 ep]) (.tail _ (.head _)))
                clear hv hd a0 a1 HD3 c0 c1 c2 c3 c4 c5 c6 c7
                go_wp2_with fail
                refine wp_region_held_drew (S := fun w' => w'.cell? ⟨db, 0, none⟩ = some (.int .i64 2) ∧ w'.cell? ⟨db, 1, none⟩ = some (.int .i64 nn) ∧ w'.cell? ⟨db, 2, none⟩ = some (.int .i64 id) ∧ w'.cell? ⟨db, 3, none⟩ = some (.int .i64 ek) ∧ w'.cell? ⟨db, 4, none⟩ = some (.int .i64 el) ∧ w'.cell? ⟨db, 5, none⟩ = some (.int .i64 es) ∧ w'.cell? ⟨db, 6, none⟩ = some (encStr et) ∧ w'.cell? ⟨db, 7, none⟩ = some (.int .i64 ep)) (by kernel_rfl) hb8 (fun hH => ?_)
                refine wpAnyH_take (i := 0) (oi := _) (v := ?_) (by simp only [List.getElem?_toArray, List.getElem?_cons_zero]; rfl) (by kernel_rfl) (by kernel_rfl) (by kernel_rfl) (by exact fun _ _ _ h => h) (Or.inl ⟨by rfl, ?_⟩) hH ?_
                rotate_left
                · intro w hSw; (try dsimp only at hSw); go_simp; try with_reducible rfl
                try simp only [Act.put, List.setIfInBounds_toArray, List.set_cons_zero, List.set_cons_succ, List.getElem_toArray, List.getElem_cons_succ, List.getElem_cons_zero]
                refine wpAnyH_take (i := 1) (oi := _) (v := ?_) (by simp only [List.getElem?_toArray, List.getElem?_cons_succ, List.getElem?_cons_zero]; rfl) (by kernel_rfl) (by kernel_rfl) (by kernel_rfl) (by exact fun _ _ _ h => h) (Or.inl ⟨by rfl, ?_⟩) hH ?_
                rotate_left
                · intro w hSw; (try dsimp only at hSw); go_simp; try with_reducible rfl
                try simp only [Act.put, List.setIfInBounds_toArray, List.set_cons_zero, List.set_cons_succ, List.getElem_toArray, List.getElem_cons_succ, List.getElem_cons_zero]
                refine wpAnyH_take (i := 2) (oi := _) (v := ?_) (by simp only [List.getElem?_toArray, List.getElem?_cons_succ, List.getElem?_cons_zero]; rfl) (by kernel_rfl) (by kernel_rfl) (by kernel_rfl) (by exact fun _ _ _ h => h) (Or.inl ⟨by rfl, ?_⟩) hH ?_
                rotate_left
                · intro w hSw; (try dsimp only at hSw); go_simp; try with_reducible rfl
                try simp only [Act.put, List.setIfInBounds_toArray, List.set_cons_zero, List.set_cons_succ, List.getElem_toArray, List.getElem_cons_succ, List.getElem_cons_zero]
                refine wpAnyH_take (i := 3) (oi := _) (v := ?_) (by simp only [List.getElem?_toArray, List.getElem?_cons_succ, List.getElem?_cons_zero]; rfl) (by kernel_rfl) (by kernel_rfl) (by kernel_rfl) (by exact fun _ _ _ h => h) (Or.inl ⟨by rfl, ?_⟩) hH ?_
                rotate_left
                · intro w hSw; (try dsimp only at hSw); obtain ⟨s0, s1, s2, s3, s4, s5, s6, s7⟩ := hSw; go_simp; try with_reducible rfl
                try simp only [Act.put, List.setIfInBounds_toArray, List.set_cons_zero, List.set_cons_succ, List.getElem_toArray, List.getElem_cons_succ, List.getElem_cons_zero]
                refine wpAnyH_ready (rs := [4]) (by kernel_rfl) (by simp) (AllReadyH.cons rfl (fun K hK => ?_) AllReadyH.nil)
                go_simp
                go_at_call 13
                refine (fits15_any ⟨id, ek, el, es, et, ep⟩ _ (by show et.length ≤ _; omega)).mono ?_
                rw [hfit]
                rintro e w6 ⟨rfl, hb⟩
                have HD6 := hid ((HD5.out.on (O.stays _ _) HWd.out).on (O.stays _ _) hb)
                have hb9 := dbox (show Blk w6 db 32 #[.int .i64 2, .int .i64 nn, .int .i64 id, .int .i64 ek, .int .i64 el, .int .i64 es, encStr et, .int .i64 ep] from HD6.out.get (K := Ly.blk db 32 #[.int .i64 2, .int .i64 nn, .int .i64 id, .int .i64 ek, .int .i64 el, .int .i64 es, encStr et, .int .i64 ep]) (.tail _ (.head _)))
                clear hb
                refine hK.out _ _ hb9 (fun hH => ?_)
                clear hK K
                try simp only [Act.put, List.setIfInBounds_toArray, List.set_cons_zero, List.set_cons_succ, List.getElem_toArray, List.getElem_cons_succ, List.getElem_cons_zero]
                refine wpAnyH_take (i := 5) (oi := _) (v := ?_) (by simp only [List.getElem?_toArray, List.getElem?_cons_succ, List.getElem?_cons_zero]; rfl) (by kernel_rfl) (by kernel_rfl) (by kernel_rfl) (by exact fun _ _ _ h => h) (Or.inl ⟨by rfl, ?_⟩) hH ?_
                rotate_left
                · intro w hSw; (try dsimp only at hSw); go_simp; try with_reducible rfl
                try simp only [Act.put, List.setIfInBounds_toArray, List.set_cons_zero, List.set_cons_succ, List.getElem_toArray, List.getElem_cons_succ, List.getElem_cons_zero]
                refine wpAnyH_done (by kernel_rfl) ?_ _
                have HSl6 := hid (show NDSl w6 w6.heap.size A2 m2 cp2 U.L from by
                  obtain ⟨A', c', h1, h2, _⟩ := NDOwn.form (show NDOwn w6 w.heap.size (.slice A2 m2 cp2) U.L from HD6.out.get (K := Ly.nds w.heap.size (.slice A2 m2 cp2) U.L) (.tail _ (.tail _ (.head _))))
                  rw [HM.out] at h1 h2
                  cases h1
                  exact h2)
                obtain ⟨c0, c1, c2, c3, c4, c5, c6, c7⟩ := hb9
                clear hb8 HD5 hfit
                go_wp2_with fail
                refine (put15_any A2 m2 cp2 U.L ⟨id, ek, el, es, et, ep⟩ _ HSl6.out (by omega)).mono ?_
                rintro e w7 ⟨v, rfl, ho, hb⟩
                have HDz := hid (Tk.remade O HD6.out (ls := [Ly.tab O q U F2]) (fun K hK => by rcases List.mem_cons.1 hK with rfl | hK; exact (.head _); cases hK) ho hb)
                have HLz := hid (show (putL U.L ⟨id, ek, el, es, et, ep⟩).length ≤ i + 1 from by have := putL_len U.L ⟨id, ek, el, es, et, ep⟩; have := HUl.out; omega)
                obtain ⟨c0', c1', c2', c3', c4', c5', c6', c7'⟩ := dbox (show Blk w7 db 32 #[.int .i64 2, .int .i64 nn, .int .i64 id, .int .i64 ek, .int .i64 el, .int .i64 es, encStr et, .int .i64 ep] from (HD6.out.on (O.stays _ _) hb).get (K := Ly.blk db 32 #[.int .i64 2, .int .i64 nn, .int .i64 id, .int .i64 ek, .int .i64 el, .int .i64 es, encStr et, .int .i64 ep]) (.tail _ (.head _)))
                clear ho hb HD6 HSl6 c0 c1 c2 c3 c4 c5 c6 c7
                go_wp2
                all_goals
                  go_meet
                  case rel => exact ⟨⟨putL U.L ⟨id, ek, el, es, et, ep⟩, max U.last id⟩, by (show Value.int .i64 _ = Value.int .i64 (max U.last id); congr 1; omega), HLz, HDz⟩
          · have hk2' : (kd == 2) = false := beq_eq_false_iff_ne.2 hk2
            as_aux_lemma =>
              go_wp2_with fail
              refine (at15_any A2 m2 cp2 _ U.L nn w4 HSl.out (by omega)).mono ?_
              rintro e w5 ⟨rfl, rfl⟩
              obtain ⟨f, hf⟩ : ∃ f, fndN U.L nn = f := ⟨_, rfl⟩
              have HF := hid hf
              have hways : (f < m2 ∧ fndNV U.L nn = (f : Int) ∧ isInN U.L nn = true ∧ delT U nn = ⟨U.L.take f ++ U.L.drop (f + 1), U.last⟩) ∨ (¬ f < m2 ∧ fndNV U.L nn = -1 ∧ isInN U.L nn = false ∧ delT U nn = U) := by
                rw [← hf]
                unfold fndNV isInN delT delL
                rw [HM.out]
                by_cases h : fndN U.L nn < m2
                · exact .inl ⟨h, by rw [if_pos h], decide_eq_true h, by rw [if_pos h]⟩
                · exact .inr ⟨h, by rw [if_neg h], decide_eq_false h, by rw [if_neg h]⟩
              clear hf
              rcases hways with ⟨hin, hfv, hii, hdl⟩ | ⟨hin, hfv, hii, hdl⟩
              · rw [hfv]
                go_wp2_with fail
                refine (tk_del O nn HD3.out ⟨Hok.out.n0, Hok.out.n1⟩).mono ?_
                rw [hii, hdl]
                rintro e w6 ⟨rfl, hd⟩
                have HD5 := hid hd
                have HSl6 := hid (show NDSl w6 w6.heap.size A2 m2 cp2 U.L from by
                  obtain ⟨A', c', h1, h2, _⟩ := NDOwn.form (show NDOwn w6 w.heap.size (.slice A2 m2 cp2) U.L from hd.get (K := Ly.nds w.heap.size (.slice A2 m2 cp2) U.L) (.tail _ (.tail _ (.head _))))
                  rw [HM.out] at h1 h2
                  cases h1
                  exact h2)
                obtain ⟨bh, oh, e', rfl, _, _, h0, h1, h2, h3, h4, h5⟩ := HSl6.out.get hin
                have hf0 : (0 : Int) ≤ (f : Int) := by omega
                have hf1 : (f : Int) ≤ (m2 : Int) := by omega
                have hfw : IntKind.i64.wrap ((f : Int) + 1) = (f : Int) + 1 := by rw [IntKind.wrap_i64]; omega
                have hf2 : (0 : Int) ≤ (f : Int) + 1 := by omega
                have hf3 : (f : Int) + 1 ≤ (m2 : Int) := by omega
                have hf4 : ((f : Int) + 1).toNat = f + 1 := by omega
                have hf5 : (f : Int) ≤ (cp2 : Int) := by omega
                have HWd := hid (show Below w6.heap.size w6 w6.drew from ⟨rfl, rfl, rfl, Nat.le_refl _, fun _ _ => rfl⟩)
                clear hd h0 h1 h2 h3 h4 h5 HD3 HSl hfv hii hdl c0 c1 c2 c3 c4 c5 c6 c7
                by_cases hck : cp2 = f + 1
                · have hnk : m2 = f + 1 := by omega
                  have HSc := hid (show ∀ wx, Below w6.heap.size w6 wx → NDSl wx wx.heap.size (some ⟨bh, oh, none⟩) 0 0 (U.L.drop (f + 1)) from fun wx hb => by
                    have h := ((HSl6.out.below hb).more hb.size).cut (k := f + 1) (by omega)
                    rw [if_pos hck, show m2 - (f + 1) = 0 by omega, show cp2 - (f + 1) = 0 by omega] at h
                    exact h)
                  subst hck
                  subst hnk
                  have hf6 : (f : Int) ≤ (f : Int) + 1 := by omega
                  go_wp2_with fail
                  refine wp_region_held_drew (S := fun _ => True) (by kernel_rfl) trivial (fun hH => ?_)
                  refine wpAnyH_take (i := 1) (oi := _) (v := ?_) (by simp only [List.getElem?_toArray, List.getElem?_cons_succ, List.getElem?_cons_zero]; rfl) (by kernel_rfl) (by kernel_rfl) (by kernel_rfl) (by exact fun _ _ _ h => h) (Or.inl ⟨by rfl, ?_⟩) hH ?_
                  rotate_left
                  · intro w hSw; (try dsimp only at hSw); go_simp; try with_reducible rfl
                  try simp only [Act.put, List.setIfInBounds_toArray, List.set_cons_zero, List.set_cons_succ, List.getElem_toArray, List.getElem_cons_succ, List.getElem_cons_zero]
                  refine wpAnyH_take (i := 2) (oi := _) (v := ?_) (by simp only [List.getElem?_toArray, List.getElem?_cons_succ, List.getElem?_cons_zero]; rfl) (by kernel_rfl) (by kernel_rfl) (by kernel_rfl) (by exact fun _ _ _ h => h) (Or.inl ⟨by rfl, ?_⟩) hH ?_
                  rotate_left
                  · intro w hSw; (try dsimp only at hSw); go_simp; try with_reducible rfl
                  try simp only [Act.put, List.setIfInBounds_toArray, List.set_cons_zero, List.set_cons_succ, List.getElem_toArray, List.getElem_cons_succ, List.getElem_cons_zero]
                  refine wpAnyH_take (i := 3) (oi := _) (v := ?_) (by simp only [List.getElem?_toArray, List.getElem?_cons_succ, List.getElem?_cons_zero]; rfl) (by kernel_rfl) (by kernel_rfl) (by kernel_rfl) (by exact fun _ _ _ h => h) (Or.inl ⟨by rfl, ?_⟩) hH ?_
                  rotate_left
                  · intro w hSw; (try dsimp only at hSw); go_simp; try with_reducible rfl
                  try simp only [Act.put, List.setIfInBounds_toArray, List.set_cons_zero, List.set_cons_succ, List.getElem_toArray, List.getElem_cons_succ, List.getElem_cons_zero]
                  refine wpAnyH_take (i := 5) (oi := _) (v := ?_) (by simp only [List.getElem?_toArray, List.getElem?_cons_succ, List.getElem?_cons_zero]; rfl) (by kernel_rfl) (by kernel_rfl) (by kernel_rfl) (by exact fun _ _ _ h => h) (Or.inl ⟨by rfl, ?_⟩) hH ?_
                  rotate_left
                  · intro w hSw; (try dsimp only at hSw); go_simp; try with_reducible rfl
                  try simp only [Act.put, List.setIfInBounds_toArray, List.set_cons_zero, List.set_cons_succ, List.getElem_toArray, List.getElem_cons_succ, List.getElem_cons_zero]
                  refine wpAnyH_take (i := 6) (oi := _) (v := ?_) (by simp only [List.getElem?_toArray, List.getElem?_cons_succ, List.getElem?_cons_zero]; rfl) (by kernel_rfl) (by kernel_rfl) (by kernel_rfl) (by exact fun _ _ _ h => h) (Or.inl ⟨by rfl, ?_⟩) hH ?_
                  rotate_left
                  · intro w hSw; (try dsimp only at hSw); go_simp; try with_reducible rfl
                  try simp only [Act.put, List.setIfInBounds_toArray, List.set_cons_zero, List.set_cons_succ, List.getElem_toArray, List.getElem_cons_succ, List.getElem_cons_zero]
                  refine wpAnyH_take (i := 7) (oi := _) (v := ?_) (by simp only [List.getElem?_toArray, List.getElem?_cons_succ, List.getElem?_cons_zero]; rfl) (by kernel_rfl) (by kernel_rfl) (by kernel_rfl) (by exact fun _ _ _ h => h) (Or.inl ⟨by rfl, ?_⟩) hH ?_
                  rotate_left
                  · intro w hSw; (try dsimp only at hSw); go_simp; try with_reducible rfl
                  try simp only [Act.put, List.setIfInBounds_toArray, List.set_cons_zero, List.set_cons_succ, List.getElem_toArray, List.getElem_cons_succ, List.getElem_cons_zero]
                  refine wpAnyH_take (i := 8) (oi := _) (v := ?_) (by simp only [List.getElem?_toArray, List.getElem?_cons_succ, List.getElem?_cons_zero]; rfl) (by kernel_rfl) (by kernel_rfl) (by kernel_rfl) (by exact fun _ _ _ h => h) (Or.inl ⟨by rfl, ?_⟩) hH ?_
                  rotate_left
                  · intro w hSw; (try dsimp only at hSw); go_simp; try with_reducible rfl
                  try simp only [Act.put, List.setIfInBounds_toArray, List.set_cons_zero, List.set_cons_succ, List.getElem_toArray, List.getElem_cons_succ, List.getElem_cons_zero]
                  refine wpAnyH_ready (rs := [0]) (by kernel_rfl) (by simp) (AllReadyH.cons rfl (fun K hK => ?_) AllReadyH.nil)
                  go_simp
                  have HE1 := hid (show Below w6.heap.size w6 (w6.drew.alloc (.cells #[] 30)) from HWd.out.alloc HWd.out.size _)
                  have HO1 := hid (show NDOwn (w6.drew.alloc (.cells #[] 30)) w6.heap.size (.slice (some ⟨w6.drew.heap.size, 0, none⟩) 0 0) [] from NDOwn.lower (World.ownsRow_made (w6.drew) #[] 0 (Nat.le_refl _) (by decide) rfl) HWd.out.size)
                  refine hK.out _ _ trivial (fun hH => ?_)
                  clear hK K
                  try simp only [Act.put, List.setIfInBounds_toArray, List.set_cons_zero, List.set_cons_succ, List.getElem_toArray, List.getElem_cons_succ, List.getElem_cons_zero]
                  refine wpAnyH_ready (rs := [4]) (by kernel_rfl) (by simp) (AllReadyH.cons rfl (fun K hK => ?_) AllReadyH.nil)
                  refine step_append_nd rfl (.tmp 70) (.tmp 73) rfl w6.heap.size _ (.slice (some ⟨w6.drew.heap.size, 0, none⟩) 0 0) [] (U.L.take f) (by simp [Act.eval]) HO1.out (some ⟨bh, oh, none⟩) f (f + 1) (by simp [Act.eval]) (((HSl6.out.below HE1.out).more HE1.out.size).head (by omega)) (by simp; omega) HE1.out.size ?_
                  rintro v7 w7 ho hb hg
                  have HO2 := hid (show NDOwn w7 w6.heap.size v7 ([] ++ U.L.take f) from ho)
                  have HE2 := hid (HE1.out.trans hb)
                  clear ho hb hg
                  refine hK.out _ _ trivial (fun hH => ?_)
                  clear hK K
                  try simp only [Act.put, List.setIfInBounds_toArray, List.set_cons_zero, List.set_cons_succ, List.getElem_toArray, List.getElem_cons_succ, List.getElem_cons_zero]
                  refine wpAnyH_ready (rs := [9]) (by kernel_rfl) (by simp) (AllReadyH.cons rfl (fun K hK => ?_) AllReadyH.nil)
                  refine step_append_nd rfl (.tmp 74) (.tmp 78) rfl w6.heap.size _ v7 ([] ++ U.L.take f) (U.L.drop (f + 1)) (by simp [Act.eval]) HO2.out (some ⟨bh, oh, none⟩) 0 0 (by simp [Act.eval]) (HSc.out _ HE2.out) (by simp; omega) HE2.out.size ?_
                  rintro v8 w8 ho hb hg
                  have HO3 := hid (show NDOwn w8 w6.heap.size v8 ([] ++ U.L.take f ++ U.L.drop (f + 1)) from ho)
                  have HE3 := hid (HE2.out.trans hb)
                  clear ho hb hg
                  refine hK.out _ _ trivial (fun hH => ?_)
                  clear hK K
                  try simp only [Act.put, List.setIfInBounds_toArray, List.set_cons_zero, List.set_cons_succ, List.getElem_toArray, List.getElem_cons_succ, List.getElem_cons_zero]
                  refine wpAnyH_take (i := 10) (oi := _) (v := ?_) (by simp only [List.getElem?_toArray, List.getElem?_cons_succ, List.getElem?_cons_zero]; rfl) (by kernel_rfl) (by kernel_rfl) (by kernel_rfl) (by exact fun _ _ _ h => h) (Or.inl ⟨by rfl, ?_⟩) hH ?_
                  rotate_left
                  · intro w hSw; (try dsimp only at hSw); go_simp; try with_reducible rfl
                  try simp only [Act.put, List.setIfInBounds_toArray, List.set_cons_zero, List.set_cons_succ, List.getElem_toArray, List.getElem_cons_succ, List.getElem_cons_zero]
                  refine wpAnyH_done (by kernel_rfl) ?_ _
                  have HDz := hid (Tk.remade O HD5.out (L := U.L.take f ++ U.L.drop (f + 1)) (ls := [Ly.tab O q U F2]) (fun K hK => by rcases List.mem_cons.1 hK with rfl | hK; exact (.head _); cases hK) (by simpa using HO3.out) HE3.out)
                  have HLz := hid (show (U.L.take f ++ U.L.drop (f + 1)).length ≤ i + 1 from by rw [List.length_append, List.length_take, List.length_drop]; have := HUl.out; omega)
                  clear HO1 HO2 HO3 HE1 HE2 HE3
                  go_wp2
                  go_meet
                  case rel => exact ⟨⟨U.L.take f ++ U.L.drop (f + 1), U.last⟩, rfl, HLz, HDz⟩
                · have HSc := hid (show ∀ wx, Below w6.heap.size w6 wx → NDSl wx wx.heap.size (some ⟨bh, oh + (f + 1) * 6, none⟩) (m2 - (f + 1)) (cp2 - (f + 1)) (U.L.drop (f + 1)) from fun wx hb => by
                    have h := ((HSl6.out.below hb).more hb.size).cut (k := f + 1) (by omega)
                    rw [if_neg hck] at h
                    simp only [Option.map_some, Addr.add_lit] at h
                    exact h)
                  go_wp2_with fail
                  refine wp_region_held_drew (S := fun _ => True) (by kernel_rfl) trivial (fun hH => ?_)
                  refine wpAnyH_take (i := 1) (oi := _) (v := ?_) (by simp only [List.getElem?_toArray, List.getElem?_cons_succ, List.getElem?_cons_zero]; rfl) (by kernel_rfl) (by kernel_rfl) (by kernel_rfl) (by exact fun _ _ _ h => h) (Or.inl ⟨by rfl, ?_⟩) hH ?_
                  rotate_left
                  · intro w hSw; (try dsimp only at hSw); go_simp; try with_reducible rfl
                  try simp only [Act.put, List.setIfInBounds_toArray, List.set_cons_zero, List.set_cons_succ, List.getElem_toArray, List.getElem_cons_succ, List.getElem_cons_zero]
                  refine wpAnyH_take (i := 2) (oi := _) (v := ?_) (by simp only [List.getElem?_toArray, List.getElem?_cons_succ, List.getElem?_cons_zero]; rfl) (by kernel_rfl) (by kernel_rfl) (by kernel_rfl) (by exact fun _ _ _ h => h) (Or.inl ⟨by rfl, ?_⟩) hH ?_
                  rotate_left
                  · intro w hSw; (try dsimp only at hSw); go_simp; try with_reducible rfl
                  try simp only [Act.put, List.setIfInBounds_toArray, List.set_cons_zero, List.set_cons_succ, List.getElem_toArray, List.getElem_cons_succ, List.getElem_cons_zero]
                  refine wpAnyH_take (i := 3) (oi := _) (v := ?_) (by simp only [List.getElem?_toArray, List.getElem?_cons_succ, List.getElem?_cons_zero]; rfl) (by kernel_rfl) (by kernel_rfl) (by kernel_rfl) (by exact fun _ _ _ h => h) (Or.inl ⟨by rfl, ?_⟩) hH ?_
                  rotate_left
                  · intro w hSw; (try dsimp only at hSw); go_simp; try with_reducible rfl
                  try simp only [Act.put, List.setIfInBounds_toArray, List.set_cons_zero, List.set_cons_succ, List.getElem_toArray, List.getElem_cons_succ, List.getElem_cons_zero]
                  refine wpAnyH_take (i := 5) (oi := _) (v := ?_) (by simp only [List.getElem?_toArray, List.getElem?_cons_succ, List.getElem?_cons_zero]; rfl) (by kernel_rfl) (by kernel_rfl) (by kernel_rfl) (by exact fun _ _ _ h => h) (Or.inl ⟨by rfl, ?_⟩) hH ?_
                  rotate_left
                  · intro w hSw; (try dsimp only at hSw); go_simp; try with_reducible rfl
                  try simp only [Act.put, List.setIfInBounds_toArray, List.set_cons_zero, List.set_cons_succ, List.getElem_toArray, List.getElem_cons_succ, List.getElem_cons_zero]
                  refine wpAnyH_take (i := 6) (oi := _) (v := ?_) (by simp only [List.getElem?_toArray, List.getElem?_cons_succ, List.getElem?_cons_zero]; rfl) (by kernel_rfl) (by kernel_rfl) (by kernel_rfl) (by exact fun _ _ _ h => h) (Or.inl ⟨by rfl, ?_⟩) hH ?_
                  rotate_left
                  · intro w hSw; (try dsimp only at hSw); go_simp; try with_reducible rfl
                  try simp only [Act.put, List.setIfInBounds_toArray, List.set_cons_zero, List.set_cons_succ, List.getElem_toArray, List.getElem_cons_succ, List.getElem_cons_zero]
                  refine wpAnyH_take (i := 7) (oi := _) (v := ?_) (by simp only [List.getElem?_toArray, List.getElem?_cons_succ, List.getElem?_cons_zero]; rfl) (by kernel_rfl) (by kernel_rfl) (by kernel_rfl) (by exact fun _ _ _ h => h) (Or.inl ⟨by rfl, ?_⟩) hH ?_
                  rotate_left
                  · intro w hSw; (try dsimp only at hSw); go_simp; try with_reducible rfl
                  try simp only [Act.put, List.setIfInBounds_toArray, List.set_cons_zero, List.set_cons_succ, List.getElem_toArray, List.getElem_cons_succ, List.getElem_cons_zero]
                  refine wpAnyH_take (i := 8) (oi := _) (v := ?_) (by simp only [List.getElem?_toArray, List.getElem?_cons_succ, List.getElem?_cons_zero]; rfl) (by kernel_rfl) (by kernel_rfl) (by kernel_rfl) (by exact fun _ _ _ h => h) (Or.inl ⟨by rfl, ?_⟩) hH ?_
                  rotate_left
                  · intro w hSw; (try dsimp only at hSw); go_simp; try with_reducible rfl
                  try simp only [Act.put, List.setIfInBounds_toArray, List.set_cons_zero, List.set_cons_succ, List.getElem_toArray, List.getElem_cons_succ, List.getElem_cons_zero]
                  refine wpAnyH_ready (rs := [0]) (by kernel_rfl) (by simp) (AllReadyH.cons rfl (fun K hK => ?_) AllReadyH.nil)
                  go_simp
                  have HE1 := hid (show Below w6.heap.size w6 (w6.drew.alloc (.cells #[] 30)) from HWd.out.alloc HWd.out.size _)
                  have HO1 := hid (show NDOwn (w6.drew.alloc (.cells #[] 30)) w6.heap.size (.slice (some ⟨w6.drew.heap.size, 0, none⟩) 0 0) [] from NDOwn.lower (World.ownsRow_made (w6.drew) #[] 0 (Nat.le_refl _) (by decide) rfl) HWd.out.size)
                  refine hK.out _ _ trivial (fun hH => ?_)
                  clear hK K
                  try simp only [Act.put, List.setIfInBounds_toArray, List.set_cons_zero, List.set_cons_succ, List.getElem_toArray, List.getElem_cons_succ, List.getElem_cons_zero]
                  refine wpAnyH_ready (rs := [4]) (by kernel_rfl) (by simp) (AllReadyH.cons rfl (fun K hK => ?_) AllReadyH.nil)
                  refine step_append_nd rfl (.tmp 70) (.tmp 73) rfl w6.heap.size _ (.slice (some ⟨w6.drew.heap.size, 0, none⟩) 0 0) [] (U.L.take f) (by simp [Act.eval]) HO1.out (some ⟨bh, oh, none⟩) f cp2 (by simp [Act.eval]) (((HSl6.out.below HE1.out).more HE1.out.size).head (by omega)) (by simp; omega) HE1.out.size ?_
                  rintro v7 w7 ho hb hg
                  have HO2 := hid (show NDOwn w7 w6.heap.size v7 ([] ++ U.L.take f) from ho)
                  have HE2 := hid (HE1.out.trans hb)
                  clear ho hb hg
                  refine hK.out _ _ trivial (fun hH => ?_)
                  clear hK K
                  try simp only [Act.put, List.setIfInBounds_toArray, List.set_cons_zero, List.set_cons_succ, List.getElem_toArray, List.getElem_cons_succ, List.getElem_cons_zero]
                  refine wpAnyH_ready (rs := [9]) (by kernel_rfl) (by simp) (AllReadyH.cons rfl (fun K hK => ?_) AllReadyH.nil)
                  refine step_append_nd rfl (.tmp 74) (.tmp 78) rfl w6.heap.size _ v7 ([] ++ U.L.take f) (U.L.drop (f + 1)) (by simp [Act.eval]) HO2.out (some ⟨bh, oh + (f + 1) * 6, none⟩) (m2 - (f + 1)) (cp2 - (f + 1)) (by simp [Act.eval]) (HSc.out _ HE2.out) (by simp; omega) HE2.out.size ?_
                  rintro v8 w8 ho hb hg
                  have HO3 := hid (show NDOwn w8 w6.heap.size v8 ([] ++ U.L.take f ++ U.L.drop (f + 1)) from ho)
                  have HE3 := hid (HE2.out.trans hb)
                  clear ho hb hg
                  refine hK.out _ _ trivial (fun hH => ?_)
                  clear hK K
                  try simp only [Act.put, List.setIfInBounds_toArray, List.set_cons_zero, List.set_cons_succ, List.getElem_toArray, List.getElem_cons_succ, List.getElem_cons_zero]
                  refine wpAnyH_take (i := 10) (oi := _) (v := ?_) (by simp only [List.getElem?_toArray, List.getElem?_cons_succ, List.getElem?_cons_zero]; rfl) (by kernel_rfl) (by kernel_rfl) (by kernel_rfl) (by exact fun _ _ _ h => h) (Or.inl ⟨by rfl, ?_⟩) hH ?_
                  rotate_left
                  · intro w hSw; (try dsimp only at hSw); go_simp; try with_reducible rfl
                  try simp only [Act.put, List.setIfInBounds_toArray, List.set_cons_zero, List.set_cons_succ, List.getElem_toArray, List.getElem_cons_succ, List.getElem_cons_zero]
                  refine wpAnyH_done (by kernel_rfl) ?_ _
                  have HDz := hid (Tk.remade O HD5.out (L := U.L.take f ++ U.L.drop (f + 1)) (ls := [Ly.tab O q U F2]) (fun K hK => by rcases List.mem_cons.1 hK with rfl | hK; exact (.head _); cases hK) (by simpa using HO3.out) HE3.out)
                  have HLz := hid (show (U.L.take f ++ U.L.drop (f + 1)).length ≤ i + 1 from by rw [List.length_append, List.length_take, List.length_drop]; have := HUl.out; omega)
                  clear HO1 HO2 HO3 HE1 HE2 HE3
                  go_wp2
                  go_meet
                  case rel => exact ⟨⟨U.L.take f ++ U.L.drop (f + 1), U.last⟩, rfl, HLz, HDz⟩
              · rw [hfv]
                go_wp2_with fail
                refine (tk_del O nn HD3.out ⟨Hok.out.n0, Hok.out.n1⟩).mono ?_
                rw [hii, hdl]
                rintro e w6 ⟨rfl, hd⟩
                have HD5 := hid hd
                clear hd HD3 HSl hfv hii hdl c0 c1 c2 c3 c4 c5 c6 c7
                have HDz := hid (show Tk TR w w6 g U [Ly.nds w.heap.size (.slice A2 m2 cp2) U.L, Ly.tab O q U F2] from HD5.out.less (fun K hK => by
                  rcases List.mem_cons.1 hK with rfl | hK
                  · exact (.tail _ (.tail _ (.head _)))
                  · rcases List.mem_cons.1 hK with rfl | hK
                    · exact (.head _)
                    · cases hK))
                go_wp2
                go_meet
                case rel => exact ⟨U, rfl, hid (Nat.le_succ_of_le HUl.out), HDz⟩
      case rest =>
        obtain ⟨U2, rfl, HUl2, HD4⟩ := hcut
        obtain ⟨A2, m2, cp2, hv9, hsl, hat, hm2⟩ : ∃ A2 m2 cp2, u7 = .slice A2 m2 cp2 ∧ NDSl wc wc.heap.size A2 m2 cp2 U2.L ∧ True ∧ U2.L.length = m2 := by
          obtain ⟨A2, cp2, h1, h2, _⟩ := NDOwn.form (show NDOwn wc w.heap.size u7 U2.L from HD4.out.get (K := Ly.nds w.heap.size u7 U2.L) (.head _))
          exact ⟨A2, _, cp2, h1, h2, trivial, rfl⟩
        subst hv9
        have HSl := hid hsl
        have HM := hid hm2
        have hmb : m2 ≤ 51 := by have := HUl2.out; omega
        have hc2 := hsl.cap
        have hc2m := hsl.max
        unfold maxLen at hc2m
        clear hsl hat hm2 HD3 c0 c1 c2 c3 c4 c5 c6 c7
        go_wp2_with fail
        refine (at15_any A2 m2 cp2 _ U2.L a wc HSl.out (by omega)).mono ?_
        rintro e w5 ⟨rfl, rfl⟩
        obtain ⟨f, hf⟩ : ∃ f, fndN U2.L a = f := ⟨_, rfl⟩
        have HF := hid hf
        have hways : (f < m2 ∧ fndNV U2.L a = (f : Int) ∧ isInN U2.L a = true) ∨ (¬ f < m2 ∧ fndNV U2.L a = -1 ∧ isInN U2.L a = false) := by
          rw [← hf]
          unfold fndNV isInN
          rw [HM.out]
          by_cases h : fndN U2.L a < m2
          · exact .inl ⟨h, by rw [if_pos h], decide_eq_true h⟩
          · exact .inr ⟨h, by rw [if_neg h], decide_eq_false h⟩
        clear hf
        go_wp2_with fail
        refine (tk_get O a HD4.out HA.out).mono ?_
        rintro e w6 ⟨⟨y, rfl, hy⟩, hb, hd⟩
        obtain ⟨x0, x1, x2, x3, x4, x5⟩ := y
        have HD5 := hid (hd.box (O.stays _ _) 30 #[.int .i64 x0, .int .i64 x1, .int .i64 x2, .int .i64 x3, encStr x4, .int .i64 x5])
        have HSl6 := hid (HSl.out.on hb)
        have HY := hid (show f < m2 → ∃ z, U2.L[f]? = some z ∧ (⟨x0, x1, x2, x3, x4, x5⟩ : Nd) = z from fun h => by
          have h2 : f < U2.L.length := by rw [HM.out]; exact h
          exact ⟨U2.L[f], List.getElem?_eq_getElem h2, hy _ (by rw [HF.out]; exact List.getElem?_eq_getElem h2)⟩)
        have HSl7 := hid (HSl6.out.on ((Below.refl _ _).alloc (Nat.le_refl _) (.cells #[.int .i64 x0, .int .i64 x1, .int .i64 x2, .int .i64 x3, encStr x4, .int .i64 x5] 30)))
        obtain ⟨nb, hnb⟩ : ∃ nb, w6.heap.size = nb := ⟨_, rfl⟩
        have HNb := hid hnb
        clear hd hb hy HD4 HSl
        go_wp2_with fail
        refine (tk_all O HD5.out).mono ?_
        rintro e w7 ⟨⟨v, rfl, ho⟩, hb, hd⟩
        obtain ⟨A7, cp7, hv7, hsn⟩ := ho.form
        subst hv7
        have HSl8 := hid (HSl7.out.on hb)
        have HD6 := hid hd
        have hml : (U2.L.map (·.id)).length = m2 := by rw [List.length_map]; exact HM.out
        rw [hml] at hsn
        rw [hml]
        have HSn := hid hsn
        have hbx := hd.get (K := Ly.blk w6.heap.size 30 #[.int .i64 x0, .int .i64 x1, .int .i64 x2, .int .i64 x3, encStr x4, .int .i64 x5]) (.head _)
        have hbk : Blk w7 w6.heap.size 30 #[.int .i64 x0, .int .i64 x1, .int .i64 x2, .int .i64 x3, encStr x4, .int .i64 x5] := hbx
        rw [hnb] at hbk
        have HBk := hid hbk
        clear ho hsn hb hd hbx hbk HD5 HSl6 HSl7 hml
        rcases hways with ⟨hin, hfv, hii⟩ | ⟨hin, hfv, hii⟩
        · rw [hfv, hii]
          as_aux_lemma =>
            obtain ⟨z, hz, hyz⟩ := HY.out hin
            obtain ⟨bh, oh, e', rfl, hbl, hxe, h0, h1, h2, h3, h4, h5⟩ := HSl8.out.get hin
            obtain rfl : e' = z := Option.some.inj (hxe.symm.trans hz)
            subst hyz
            have hnl : nb < w7.heap.size := HBk.out.lt
            have HSx := hid (show ∀ w', Below w7.heap.size w7 w' → (fun w' => w'.cell? ⟨nb, 0, none⟩ = some (.int .i64 x0) ∧ w'.cell? ⟨nb, 1, none⟩ = some (.int .i64 x1) ∧ w'.cell? ⟨nb, 2, none⟩ = some (.int .i64 x2) ∧ w'.cell? ⟨nb, 3, none⟩ = some (.int .i64 x3) ∧ w'.cell? ⟨nb, 4, none⟩ = some (encStr x4) ∧ w'.cell? ⟨nb, 5, none⟩ = some (.int .i64 x5) ∧ w'.cell? ⟨bh, oh + f * 6, none⟩ = some (.int .i64 x0) ∧ w'.cell? ⟨bh, oh + f * 6 + 1, none⟩ = some (.int .i64 x1) ∧ w'.cell? ⟨bh, oh + f * 6 + 2, none⟩ = some (.int .i64 x2) ∧ w'.cell? ⟨bh, oh + f * 6 + 3, none⟩ = some (.int .i64 x3) ∧ w'.cell? ⟨bh, oh + f * 6 + 4, none⟩ = some (encStr x4) ∧ w'.cell? ⟨bh, oh + f * 6 + 5, none⟩ = some (.int .i64 x5)) w' from fun w' hb => by
              obtain ⟨d0, d1, d2, d3, d4, d5⟩ := nbox HBk.out
              have q1 : ∀ k, w'.cell? ⟨nb, k, none⟩ = w7.cell? ⟨nb, k, none⟩ := fun k => hb.cell (show (⟨nb, k, none⟩ : Addr).block < _ from hnl)
              have q2 : ∀ k, w'.cell? ⟨bh, k, none⟩ = w7.cell? ⟨bh, k, none⟩ := fun k => hb.cell (show (⟨bh, k, none⟩ : Addr).block < _ from hbl)
              exact ⟨(q1 _).trans d0, (q1 _).trans d1, (q1 _).trans d2, (q1 _).trans d3, (q1 _).trans d4, (q1 _).trans d5, (q2 _).trans h0, (q2 _).trans h1, (q2 _).trans h2, (q2 _).trans h3, (q2 _).trans h4, (q2 _).trans h5⟩)
            have hf0 : (0 : Int) ≤ (f : Int) := by omega
            have hf1 : (f : Int) < (m2 : Int) := by omega
            have HBd := hid (show Below w7.heap.size w7 w7.drew from ⟨rfl, rfl, rfl, Nat.le_refl _, fun _ _ => rfl⟩)
            have HD6d := hid (HD6.out.on (O.stays _ _) HBd.out)
            clear h0 h1 h2 h3 h4 h5 hxe hz hnl hbl
            go_wp2_with fail
            refine wp_region_held_drew (S := fun w' => w'.cell? ⟨nb, 0, none⟩ = some (.int .i64 x0) ∧ w'.cell? ⟨nb, 1, none⟩ = some (.int .i64 x1) ∧ w'.cell? ⟨nb, 2, none⟩ = some (.int .i64 x2) ∧ w'.cell? ⟨nb, 3, none⟩ = some (.int .i64 x3) ∧ w'.cell? ⟨nb, 4, none⟩ = some (encStr x4) ∧ w'.cell? ⟨nb, 5, none⟩ = some (.int .i64 x5) ∧ w'.cell? ⟨bh, oh + f * 6, none⟩ = some (.int .i64 x0) ∧ w'.cell? ⟨bh, oh + f * 6 + 1, none⟩ = some (.int .i64 x1) ∧ w'.cell? ⟨bh, oh + f * 6 + 2, none⟩ = some (.int .i64 x2) ∧ w'.cell? ⟨bh, oh + f * 6 + 3, none⟩ = some (.int .i64 x3) ∧ w'.cell? ⟨bh, oh + f * 6 + 4, none⟩ = some (encStr x4) ∧ w'.cell? ⟨bh, oh + f * 6 + 5, none⟩ = some (.int .i64 x5)) (by kernel_rfl) (HSx.out _ HBd.out) (fun hH => ?_)
            refine wpAnyH_take (i := 0) (oi := _) (v := ?_) (by simp only [List.getElem?_toArray, List.getElem?_cons_zero]; rfl) (by kernel_rfl) (by kernel_rfl) (by kernel_rfl) (by exact fun _ _ _ h => h) (Or.inl ⟨by rfl, ?_⟩) hH ?_
            rotate_left
            · intro w hSw; (try dsimp only at hSw); go_simp; try with_reducible rfl
            try simp only [Act.put, List.setIfInBounds_toArray, List.set_cons_zero, List.set_cons_succ, List.getElem_toArray, List.getElem_cons_succ, List.getElem_cons_zero]
            refine wpAnyH_take (i := 1) (oi := _) (v := ?_) (by simp only [List.getElem?_toArray, List.getElem?_cons_succ, List.getElem?_cons_zero]; rfl) (by kernel_rfl) (by kernel_rfl) (by kernel_rfl) (by exact fun _ _ _ h => h) (Or.inl ⟨by rfl, ?_⟩) hH ?_
            rotate_left
            · intro w hSw; (try dsimp only at hSw); go_simp; try with_reducible rfl
            try simp only [Act.put, List.setIfInBounds_toArray, List.set_cons_zero, List.set_cons_succ, List.getElem_toArray, List.getElem_cons_succ, List.getElem_cons_zero]
            refine wpAnyH_take (i := 2) (oi := _) (v := ?_) (by simp only [List.getElem?_toArray, List.getElem?_cons_succ, List.getElem?_cons_zero]; rfl) (by kernel_rfl) (by kernel_rfl) (by kernel_rfl) (by exact fun _ _ _ h => h) (Or.inl ⟨by rfl, ?_⟩) hH ?_
            rotate_left
            · intro w hSw; (try dsimp only at hSw); go_simp; try with_reducible rfl
            try simp only [Act.put, List.setIfInBounds_toArray, List.set_cons_zero, List.set_cons_succ, List.getElem_toArray, List.getElem_cons_succ, List.getElem_cons_zero]
            refine wpAnyH_take (i := 3) (oi := _) (v := ?_) (by simp only [List.getElem?_toArray, List.getElem?_cons_succ, List.getElem?_cons_zero]; rfl) (by kernel_rfl) (by kernel_rfl) (by kernel_rfl) (by exact fun _ _ _ h => h) (Or.inl ⟨by rfl, ?_⟩) hH ?_
            rotate_left
            · intro w hSw; (try dsimp only at hSw); go_simp; try with_reducible rfl
            try simp only [Act.put, List.setIfInBounds_toArray, List.set_cons_zero, List.set_cons_succ, List.getElem_toArray, List.getElem_cons_succ, List.getElem_cons_zero]
            refine wpAnyH_take (i := 4) (oi := _) (v := ?_) (by simp only [List.getElem?_toArray, List.getElem?_cons_succ, List.getElem?_cons_zero]; rfl) (by kernel_rfl) (by kernel_rfl) (by kernel_rfl) (by exact fun _ _ _ h => h) (Or.inl ⟨by rfl, ?_⟩) hH ?_
            rotate_left
            · intro w hSw; (try dsimp only at hSw); go_simp; try with_reducible rfl
            try simp only [Act.put, List.setIfInBounds_toArray, List.set_cons_zero, List.set_cons_succ, List.getElem_toArray, List.getElem_cons_succ, List.getElem_cons_zero]
            refine wpAnyH_take (i := 5) (oi := _) (v := ?_) (by simp only [List.getElem?_toArray, List.getElem?_cons_succ, List.getElem?_cons_zero]; rfl) (by kernel_rfl) (by kernel_rfl) (by kernel_rfl) (by exact fun _ _ _ h => h) (Or.inl ⟨by rfl, ?_⟩) hH ?_
            rotate_left
            · intro w hSw; (try dsimp only at hSw); go_simp; try with_reducible rfl
            try simp only [Act.put, List.setIfInBounds_toArray, List.set_cons_zero, List.set_cons_succ, List.getElem_toArray, List.getElem_cons_succ, List.getElem_cons_zero]
            refine wpAnyH_take (i := 6) (oi := _) (v := ?_) (by simp only [List.getElem?_toArray, List.getElem?_cons_succ, List.getElem?_cons_zero]; rfl) (by kernel_rfl) (by kernel_rfl) (by kernel_rfl) (by exact fun _ _ _ h => h) (Or.inl ⟨by rfl, ?_⟩) hH ?_
            rotate_left
            · intro w hSw; (try dsimp only at hSw); go_simp; try with_reducible rfl
            try simp only [Act.put, List.setIfInBounds_toArray, List.set_cons_zero, List.set_cons_succ, List.getElem_toArray, List.getElem_cons_succ, List.getElem_cons_zero]
            refine wpAnyH_take (i := 7) (oi := _) (v := ?_) (by simp only [List.getElem?_toArray, List.getElem?_cons_succ, List.getElem?_cons_zero]; rfl) (by kernel_rfl) (by kernel_rfl) (by kernel_rfl) (by exact fun _ _ _ h => h) (Or.inl ⟨by rfl, ?_⟩) hH ?_
            rotate_left
            · intro w hSw; (try dsimp only at hSw); obtain ⟨s0, s1, s2, s3, s4, s5, s6, s7, s8, s9, s10, s11⟩ := hSw; go_simp; try with_reducible rfl
            try simp only [Act.put, List.setIfInBounds_toArray, List.set_cons_zero, List.set_cons_succ, List.getElem_toArray, List.getElem_cons_succ, List.getElem_cons_zero]
            refine wpAnyH_take (i := 8) (oi := _) (v := ?_) (by simp only [List.getElem?_toArray, List.getElem?_cons_succ, List.getElem?_cons_zero]; rfl) (by kernel_rfl) (by kernel_rfl) (by kernel_rfl) (by exact fun _ _ _ h => h) (Or.inl ⟨by rfl, ?_⟩) hH ?_
            rotate_left
            · intro w hSw; (try dsimp only at hSw); go_simp; try with_reducible rfl
            try simp only [Act.put, List.setIfInBounds_toArray, List.set_cons_zero, List.set_cons_succ, List.getElem_toArray, List.getElem_cons_succ, List.getElem_cons_zero]
            refine wpAnyH_take (i := 9) (oi := _) (v := ?_) (by simp only [List.getElem?_toArray, List.getElem?_cons_succ, List.getElem?_cons_zero]; rfl) (by kernel_rfl) (by kernel_rfl) (by kernel_rfl) (by exact fun _ _ _ h => h) (Or.inl ⟨by rfl, ?_⟩) hH ?_
            rotate_left
            · intro w hSw; (try dsimp only at hSw); go_simp; try with_reducible rfl
            try simp only [Act.put, List.setIfInBounds_toArray, List.set_cons_zero, List.set_cons_succ, List.getElem_toArray, List.getElem_cons_succ, List.getElem_cons_zero]
            refine wpAnyH_take (i := 10) (oi := _) (v := ?_) (by simp only [List.getElem?_toArray, List.getElem?_cons_succ, List.getElem?_cons_zero]; rfl) (by kernel_rfl) (by kernel_rfl) (by kernel_rfl) (by exact fun _ _ _ h => h) (Or.inl ⟨by rfl, ?_⟩) hH ?_
            rotate_left
            · intro w hSw; (try dsimp only at hSw); go_simp; try with_reducible rfl
            try simp only [Act.put, List.setIfInBounds_toArray, List.set_cons_zero, List.set_cons_succ, List.getElem_toArray, List.getElem_cons_succ, List.getElem_cons_zero]
            refine wpAnyH_take (i := 11) (oi := _) (v := ?_) (by simp only [List.getElem?_toArray, List.getElem?_cons_succ, List.getElem?_cons_zero]; rfl) (by kernel_rfl) (by kernel_rfl) (by kernel_rfl) (by exact fun _ _ _ h => h) (Or.inl ⟨by rfl, ?_⟩) hH ?_
            rotate_left
            · intro w hSw; (try dsimp only at hSw); obtain ⟨s0, s1, s2, s3, s4, s5, s6, s7, s8, s9, s10, s11⟩ := hSw; go_simp; try with_reducible rfl
            try simp only [Act.put, List.setIfInBounds_toArray, List.set_cons_zero, List.set_cons_succ, List.getElem_toArray, List.getElem_cons_succ, List.getElem_cons_zero]
            refine wpAnyH_ready (rs := [12]) (by kernel_rfl) (by simp) (AllReadyH.cons rfl (fun K hK => ?_) AllReadyH.nil)
            go_simp
            go_at_call 18
            refine (same15_any ⟨x0, x1, x2, x3, x4, x5⟩ ⟨x0, x1, x2, x3, x4, x5⟩ _).mono ?_
            rw [decide_eq_true (rfl : (⟨x0, x1, x2, x3, x4, x5⟩ : Nd) = ⟨x0, x1, x2, x3, x4, x5⟩)]
            rintro e w8 ⟨rfl, hb⟩
            have HB8 := hid (HBd.out.trans (hb.mono HBd.out.size))
            have HD7 := hid (HD6d.out.on (O.stays _ _) hb)
            clear hb HD6d
            refine hK.out _ _ (HSx.out _ HB8.out) (fun hH => ?_)
            clear hK K
            try simp only [Act.put, List.setIfInBounds_toArray, List.set_cons_zero, List.set_cons_succ, List.getElem_toArray, List.getElem_cons_succ, List.getElem_cons_zero]
            refine wpAnyH_take (i := 13) (oi := _) (v := ?_) (by simp only [List.getElem?_toArray, List.getElem?_cons_succ, List.getElem?_cons_zero]; rfl) (by kernel_rfl) (by kernel_rfl) (by kernel_rfl) (by exact fun _ _ _ h => h) (Or.inl ⟨by rfl, ?_⟩) hH ?_
            rotate_left
            · intro w hSw; (try dsimp only at hSw); go_simp; try with_reducible rfl
            try simp only [Act.put, List.setIfInBounds_toArray, List.set_cons_zero, List.set_cons_succ, List.getElem_toArray, List.getElem_cons_succ, List.getElem_cons_zero]
            refine wpAnyH_take (i := 14) (oi := _) (v := ?_) (by simp only [List.getElem?_toArray, List.getElem?_cons_succ, List.getElem?_cons_zero]; rfl) (by kernel_rfl) (by kernel_rfl) (by kernel_rfl) (by exact fun _ _ _ h => h) (Or.inl ⟨by rfl, ?_⟩) hH ?_
            rotate_left
            · intro w hSw; (try dsimp only at hSw); go_simp; try with_reducible rfl
            try simp only [Act.put, List.setIfInBounds_toArray, List.set_cons_zero, List.set_cons_succ, List.getElem_toArray, List.getElem_cons_succ, List.getElem_cons_zero]
            refine wpAnyH_take (i := 15) (oi := _) (v := ?_) (by simp only [List.getElem?_toArray, List.getElem?_cons_succ, List.getElem?_cons_zero]; rfl) (by kernel_rfl) (by kernel_rfl) (by kernel_rfl) (by exact fun _ _ _ h => h) (Or.inl ⟨by rfl, ?_⟩) hH ?_
            rotate_left
            · intro w hSw; (try dsimp only at hSw); go_simp; try with_reducible rfl
            try simp only [Act.put, List.setIfInBounds_toArray, List.set_cons_zero, List.set_cons_succ, List.getElem_toArray, List.getElem_cons_succ, List.getElem_cons_zero]
            refine wpAnyH_take (i := 16) (oi := _) (v := ?_) (by simp only [List.getElem?_toArray, List.getElem?_cons_succ, List.getElem?_cons_zero]; rfl) (by kernel_rfl) (by kernel_rfl) (by kernel_rfl) (by exact fun _ _ _ h => h) (Or.inl ⟨by rfl, ?_⟩) hH ?_
            rotate_left
            · intro w hSw; (try dsimp only at hSw); go_simp; try with_reducible rfl
            try simp only [Act.put, List.setIfInBounds_toArray, List.set_cons_zero, List.set_cons_succ, List.getElem_toArray, List.getElem_cons_succ, List.getElem_cons_zero]
            refine wpAnyH_take (i := 17) (oi := _) (v := ?_) (by simp only [List.getElem?_toArray, List.getElem?_cons_succ, List.getElem?_cons_zero]; rfl) (by kernel_rfl) (by kernel_rfl) (by kernel_rfl) (by exact fun _ _ _ h => h) (Or.inl ⟨by rfl, ?_⟩) hH ?_
            rotate_left
            · intro w hSw; (try dsimp only at hSw); go_simp; try with_reducible rfl
            try simp only [Act.put, List.setIfInBounds_toArray, List.set_cons_zero, List.set_cons_succ, List.getElem_toArray, List.getElem_cons_succ, List.getElem_cons_zero]
            refine wpAnyH_take (i := 18) (oi := _) (v := ?_) (by simp only [List.getElem?_toArray, List.getElem?_cons_succ, List.getElem?_cons_zero]; rfl) (by kernel_rfl) (by kernel_rfl) (by kernel_rfl) (by exact fun _ _ _ h => h) (Or.inl ⟨by rfl, ?_⟩) hH ?_
            rotate_left
            · intro w hSw; (try dsimp only at hSw); go_simp; try with_reducible rfl
            try simp only [Act.put, List.setIfInBounds_toArray, List.set_cons_zero, List.set_cons_succ, List.getElem_toArray, List.getElem_cons_succ, List.getElem_cons_zero]
            refine wpAnyH_take (i := 19) (oi := _) (v := ?_) (by simp only [List.getElem?_toArray, List.getElem?_cons_succ, List.getElem?_cons_zero]; rfl) (by kernel_rfl) (by kernel_rfl) (by kernel_rfl) (by exact fun _ _ _ h => h) (Or.inl ⟨by rfl, ?_⟩) hH ?_
            rotate_left
            · intro w hSw; (try dsimp only at hSw); go_simp; try with_reducible rfl
            try simp only [Act.put, List.setIfInBounds_toArray, List.set_cons_zero, List.set_cons_succ, List.getElem_toArray, List.getElem_cons_succ, List.getElem_cons_zero]
            refine wpAnyH_take (i := 20) (oi := _) (v := ?_) (by simp only [List.getElem?_toArray, List.getElem?_cons_succ, List.getElem?_cons_zero]; rfl) (by kernel_rfl) (by kernel_rfl) (by kernel_rfl) (by exact fun _ _ _ h => h) (Or.inl ⟨by rfl, ?_⟩) hH ?_
            rotate_left
            · intro w hSw; (try dsimp only at hSw); go_simp; try with_reducible rfl
            try simp only [Act.put, List.setIfInBounds_toArray, List.set_cons_zero, List.set_cons_succ, List.getElem_toArray, List.getElem_cons_succ, List.getElem_cons_zero]
            refine wpAnyH_take (i := 21) (oi := _) (v := ?_) (by simp only [List.getElem?_toArray, List.getElem?_cons_succ, List.getElem?_cons_zero]; rfl) (by kernel_rfl) (by kernel_rfl) (by kernel_rfl) (by exact fun _ _ _ h => h) (Or.inl ⟨by rfl, ?_⟩) hH ?_
            rotate_left
            · intro w hSw; (try dsimp only at hSw); go_simp; try with_reducible rfl
            try simp only [Act.put, List.setIfInBounds_toArray, List.set_cons_zero, List.set_cons_succ, List.getElem_toArray, List.getElem_cons_succ, List.getElem_cons_zero]
            refine wpAnyH_take (i := 22) (oi := _) (v := ?_) (by simp only [List.getElem?_toArray, List.getElem?_cons_succ, List.getElem?_cons_zero]; rfl) (by kernel_rfl) (by kernel_rfl) (by kernel_rfl) (by exact fun _ _ _ h => h) (Or.inl ⟨by rfl, ?_⟩) hH ?_
            rotate_left
            · intro w hSw; (try dsimp only at hSw); go_simp; try with_reducible rfl
            try simp only [Act.put, List.setIfInBounds_toArray, List.set_cons_zero, List.set_cons_succ, List.getElem_toArray, List.getElem_cons_succ, List.getElem_cons_zero]
            refine wpAnyH_take (i := 23) (oi := _) (v := ?_) (by simp only [List.getElem?_toArray, List.getElem?_cons_succ, List.getElem?_cons_zero]; rfl) (by kernel_rfl) (by kernel_rfl) (by kernel_rfl) (by exact fun _ _ _ h => h) (Or.inl ⟨by rfl, ?_⟩) hH ?_
            rotate_left
            · intro w hSw; (try dsimp only at hSw); go_simp; try with_reducible rfl
            try simp only [Act.put, List.setIfInBounds_toArray, List.set_cons_zero, List.set_cons_succ, List.getElem_toArray, List.getElem_cons_succ, List.getElem_cons_zero]
            refine wpAnyH_take (i := 24) (oi := _) (v := ?_) (by simp only [List.getElem?_toArray, List.getElem?_cons_succ, List.getElem?_cons_zero]; rfl) (by kernel_rfl) (by kernel_rfl) (by kernel_rfl) (by exact fun _ _ _ h => h) (Or.inl ⟨by rfl, ?_⟩) hH ?_
            rotate_left
            · intro w hSw; (try dsimp only at hSw); go_simp; try with_reducible rfl
            try simp only [Act.put, List.setIfInBounds_toArray, List.set_cons_zero, List.set_cons_succ, List.getElem_toArray, List.getElem_cons_succ, List.getElem_cons_zero]
            refine wpAnyH_take (i := 26) (oi := _) (v := ?_) (by simp only [List.getElem?_toArray, List.getElem?_cons_succ, List.getElem?_cons_zero]; rfl) (by kernel_rfl) (by kernel_rfl) (by kernel_rfl) (by exact fun _ _ _ h => h) (Or.inl ⟨by rfl, ?_⟩) hH ?_
            rotate_left
            · intro w hSw; (try dsimp only at hSw); go_simp; try with_reducible rfl
            try simp only [Act.put, List.setIfInBounds_toArray, List.set_cons_zero, List.set_cons_succ, List.getElem_toArray, List.getElem_cons_succ, List.getElem_cons_zero]
            refine wpAnyH_take (i := 27) (oi := _) (v := ?_) (by simp only [List.getElem?_toArray, List.getElem?_cons_succ, List.getElem?_cons_zero]; rfl) (by kernel_rfl) (by kernel_rfl) (by kernel_rfl) (by exact fun _ _ _ h => h) (Or.inl ⟨by rfl, ?_⟩) hH ?_
            rotate_left
            · intro w hSw; (try dsimp only at hSw); go_simp; try with_reducible rfl
            try simp only [Act.put, List.setIfInBounds_toArray, List.set_cons_zero, List.set_cons_succ, List.getElem_toArray, List.getElem_cons_succ, List.getElem_cons_zero]
            refine wpAnyH_ready (rs := [25]) (by kernel_rfl) (by simp) (AllReadyH.cons rfl (fun K hK => ?_) AllReadyH.nil)
            go_simp
            go_at_call 8
            refine (tk_len O HD7.out).mono ?_
            rw [HM.out]
            rintro e w9 ⟨rfl, hd, hb⟩
            have HD8 := hid hd
            have HB9 := hid (HB8.out.trans (hb.mono HB8.out.size))
            clear hd hb
            refine hK.out _ _ (HSx.out _ HB9.out) (fun hH => ?_)
            clear hK K
            try simp only [Act.put, List.setIfInBounds_toArray, List.set_cons_zero, List.set_cons_succ, List.getElem_toArray, List.getElem_cons_succ, List.getElem_cons_zero]
            refine wpAnyH_take (i := 28) (oi := _) (v := ?_) (by simp only [List.getElem?_toArray, List.getElem?_cons_succ, List.getElem?_cons_zero]; rfl) (by kernel_rfl) (by kernel_rfl) (by kernel_rfl) (by exact fun _ _ _ h => h) (Or.inl ⟨by rfl, ?_⟩) hH ?_
            rotate_left
            · intro w hSw; (try dsimp only at hSw); go_simp; try with_reducible rfl
            try simp only [Act.put, List.setIfInBounds_toArray, List.set_cons_zero, List.set_cons_succ, List.getElem_toArray, List.getElem_cons_succ, List.getElem_cons_zero]
            refine wpAnyH_take (i := 29) (oi := _) (v := ?_) (by simp only [List.getElem?_toArray, List.getElem?_cons_succ, List.getElem?_cons_zero]; rfl) (by kernel_rfl) (by kernel_rfl) (by kernel_rfl) (by exact fun _ _ _ h => h) (Or.inl ⟨by rfl, ?_⟩) hH ?_
            rotate_left
            · intro w hSw; (try dsimp only at hSw); go_simp; try with_reducible rfl
            try simp only [Act.put, List.setIfInBounds_toArray, List.set_cons_zero, List.set_cons_succ, List.getElem_toArray, List.getElem_cons_succ, List.getElem_cons_zero]
            refine wpAnyH_take (i := 30) (oi := _) (v := ?_) (by simp only [List.getElem?_toArray, List.getElem?_cons_succ, List.getElem?_cons_zero]; rfl) (by kernel_rfl) (by kernel_rfl) (by kernel_rfl) (by exact fun _ _ _ h => h) (Or.inl ⟨by rfl, ?_⟩) hH ?_
            rotate_left
            · intro w hSw; (try dsimp only at hSw); go_simp; try with_reducible rfl
            try simp only [Act.put, List.setIfInBounds_toArray, List.set_cons_zero, List.set_cons_succ, List.getElem_toArray, List.getElem_cons_succ, List.getElem_cons_zero]
            refine wpAnyH_take (i := 31) (oi := _) (v := ?_) (by simp only [List.getElem?_toArray, List.getElem?_cons_succ, List.getElem?_cons_zero]; rfl) (by kernel_rfl) (by kernel_rfl) (by kernel_rfl) (by exact fun _ _ _ h => h) (Or.inl ⟨by rfl, ?_⟩) hH ?_
            rotate_left
            · intro w hSw; (try dsimp only at hSw); go_simp; try with_reducible rfl
            try simp only [Act.put, List.setIfInBounds_toArray, List.set_cons_zero, List.set_cons_succ, List.getElem_toArray, List.getElem_cons_succ, List.getElem_cons_zero]
            refine wpAnyH_take (i := 33) (oi := _) (v := ?_) (by simp only [List.getElem?_toArray, List.getElem?_cons_succ, List.getElem?_cons_zero]; rfl) (by kernel_rfl) (by kernel_rfl) (by kernel_rfl) (by exact fun _ _ _ h => h) (Or.inl ⟨by rfl, ?_⟩) hH ?_
            rotate_left
            · intro w hSw; (try dsimp only at hSw); go_simp; try with_reducible rfl
            try simp only [Act.put, List.setIfInBounds_toArray, List.set_cons_zero, List.set_cons_succ, List.getElem_toArray, List.getElem_cons_succ, List.getElem_cons_zero]
            refine wpAnyH_ready (rs := [32]) (by kernel_rfl) (by simp) (AllReadyH.cons rfl (fun K hK => ?_) AllReadyH.nil)
            go_simp
            go_at_call 8
            refine (tk_lenOther O HD8.out (.tail _ (.tail _ (.head _)))).mono ?_
            rintro e w10 ⟨rfl, hd, hb⟩
            have HB10 := hid (HB9.out.trans (hb.mono HB9.out.size))
            clear hd hb HD8
            refine hK.out _ _ (HSx.out _ HB10.out) (fun hH => ?_)
            clear hK K
            try simp only [Act.put, List.setIfInBounds_toArray, List.set_cons_zero, List.set_cons_succ, List.getElem_toArray, List.getElem_cons_succ, List.getElem_cons_zero]
            refine wpAnyH_take (i := 34) (oi := _) (v := ?_) (by simp only [List.getElem?_toArray, List.getElem?_cons_succ, List.getElem?_cons_zero]; rfl) (by kernel_rfl) (by kernel_rfl) (by kernel_rfl) (by exact fun _ _ _ h => h) (Or.inl ⟨by rfl, ?_⟩) hH ?_
            rotate_left
            · intro w hSw; (try dsimp only at hSw); go_simp; try with_reducible rfl
            try simp only [Act.put, List.setIfInBounds_toArray, List.set_cons_zero, List.set_cons_succ, List.getElem_toArray, List.getElem_cons_succ, List.getElem_cons_zero]
            refine wpAnyH_take (i := 35) (oi := _) (v := ?_) (by simp only [List.getElem?_toArray, List.getElem?_cons_succ, List.getElem?_cons_zero]; rfl) (by kernel_rfl) (by kernel_rfl) (by kernel_rfl) (by exact fun _ _ _ h => h) (Or.inl ⟨by rfl, ?_⟩) hH ?_
            rotate_left
            · intro w hSw; (try dsimp only at hSw); go_simp; try with_reducible rfl
            try simp only [Act.put, List.setIfInBounds_toArray, List.set_cons_zero, List.set_cons_succ, List.getElem_toArray, List.getElem_cons_succ, List.getElem_cons_zero]
            refine wpAnyH_done (by kernel_rfl) ?_ _
            clear HSx
            go_wp2
            go_loopw [22] (fun jv wz => ∃ j : Nat, j ≤ m2 ∧ jv = .int .i64 (j : Int) ∧ Hid (Below w7.heap.size w7 wz)) (fun jv _ => m2 - (intOf jv).toNat)
            case atStart => exact ⟨0, Nat.zero_le _, rfl, HB10⟩
            case round =>
              obtain ⟨j, hj, rfl, HBz⟩ := hrel
              by_cases hjm : j < m2
              · obtain ⟨ad7, xx, rfl, _, hx7, s0⟩ := (HSn.out.below HBz.out).get hjm
                obtain ⟨bh, oh, e', hAj, _, hej, h0, h1, h2, h3, h4, h5⟩ := (HSl8.out.below HBz.out).get hjm
                simp only [Option.some.injEq, Addr.mk.injEq, and_true] at hAj
                obtain ⟨rfl, rfl⟩ := hAj
                rw [List.getElem?_map, hej] at hx7
                obtain rfl : e'.id = xx := Option.some.inj hx7
                have hj0 : (0 : Int) ≤ (j : Int) := by omega
                have hj1 : (j : Int) < (m2 : Int) := by omega
                have hjw : IntKind.i64.wrap ((j : Int) + 1) = (j : Int) + 1 := by rw [IntKind.wrap_i64]; omega
                have HBz2 := hid HBz.out.drew
                have s0' : wr.drew.cell? (ad7.add j) = some (.int .i64 e'.id) := s0
                have h0' : wr.drew.cell? ⟨bh, oh + j * 6, none⟩ = some (.int .i64 e'.id) := h0
                clear hx7 hej h1 h2 h3 h4 h5 s0 h0
                go_wp2_with fail
                go_region_held3 (fun w' => w'.cell? (ad7.add j) = some (.int .i64 e'.id) ∧ w'.cell? ⟨bh, oh + j * 6, none⟩ = some (.int .i64 e'.id)) (first | exact ⟨s0', h0'⟩ | go_keep) (fail)
                clear s0' h0'
                go_wp2
                go_roundw
                case rel => exact ⟨j + 1, by omega, by go_num, HBz2⟩
                case measure => simp [intOf]; omega
              · have HDz := hid ((HD6.out.on (O.stays _ _) HBz.out).less (ls := [Ly.nds w.heap.size (.slice (some ⟨bh, oh, none⟩) m2 cp2) U2.L]) (fun K hK => by rcases List.mem_cons.1 hK with rfl | hK; exact (.tail _ (.head _)); cases hK))
                have hiw : IntKind.i64.wrap ((i : Int) + 1) = (i : Int) + 1 := by rw [IntKind.wrap_i64]; omega
                have hjn : ¬ (j : Int) < (m2 : Int) := by omega
                clear HBz hjm hj
                go_wp2
                go_roundw
                case rel => exact ⟨i + 1, U2, by omega, by go_num, rfl, HUl2, HDz⟩
                case measure => simp [intOf]; omega
        · rw [hfv, hii]
          as_aux_lemma =>
            have HBd := hid (show Below w7.heap.size w7 w7.drew from ⟨rfl, rfl, rfl, Nat.le_refl _, fun _ _ => rfl⟩)
            have HB8 := hid HBd.out
            have HD7 := hid (HD6.out.on (O.stays _ _) HBd.out)
            go_wp2_with fail
            refine wp_region_held_drew (S := fun _ => True) (by kernel_rfl) trivial (fun hH => ?_)
            refine wpAnyH_take (i := 0) (oi := _) (v := ?_) (by simp only [List.getElem?_toArray, List.getElem?_cons_zero]; rfl) (by kernel_rfl) (by kernel_rfl) (by kernel_rfl) (by exact fun _ _ _ h => h) (Or.inl ⟨by rfl, ?_⟩) hH ?_
            rotate_left
            · intro w hSw; (try dsimp only at hSw); go_simp; try with_reducible rfl
            try simp only [Act.put, List.setIfInBounds_toArray, List.set_cons_zero, List.set_cons_succ, List.getElem_toArray, List.getElem_cons_succ, List.getElem_cons_zero]
            refine wpAnyH_take (i := 1) (oi := _) (v := ?_) (by simp only [List.getElem?_toArray, List.getElem?_cons_succ, List.getElem?_cons_zero]; rfl) (by kernel_rfl) (by kernel_rfl) (by kernel_rfl) (by exact fun _ _ _ h => h) (Or.inl ⟨by rfl, ?_⟩) hH ?_
            rotate_left
            · intro w hSw; (try dsimp only at hSw); go_simp; try with_reducible rfl
            try simp only [Act.put, List.setIfInBounds_toArray, List.set_cons_zero, List.set_cons_succ, List.getElem_toArray, List.getElem_cons_succ, List.getElem_cons_zero]
            refine wpAnyH_take (i := 2) (oi := _) (v := ?_) (by simp only [List.getElem?_toArray, List.getElem?_cons_succ, List.getElem?_cons_zero]; rfl) (by kernel_rfl) (by kernel_rfl) (by kernel_rfl) (by exact fun _ _ _ h => h) (Or.inl ⟨by rfl, ?_⟩) hH ?_
            rotate_left
            · intro w hSw; (try dsimp only at hSw); go_simp; try with_reducible rfl
            try simp only [Act.put, List.setIfInBounds_toArray, List.set_cons_zero, List.set_cons_succ, List.getElem_toArray, List.getElem_cons_succ, List.getElem_cons_zero]
            refine wpAnyH_take (i := 3) (oi := _) (v := ?_) (by simp only [List.getElem?_toArray, List.getElem?_cons_succ, List.getElem?_cons_zero]; rfl) (by kernel_rfl) (by kernel_rfl) (by kernel_rfl) (by exact fun _ _ _ h => h) (Or.inl ⟨by rfl, ?_⟩) hH ?_
            rotate_left
            · intro w hSw; (try dsimp only at hSw); go_simp; try with_reducible rfl
            try simp only [Act.put, List.setIfInBounds_toArray, List.set_cons_zero, List.set_cons_succ, List.getElem_toArray, List.getElem_cons_succ, List.getElem_cons_zero]
            refine wpAnyH_take (i := 4) (oi := _) (v := ?_) (by simp only [List.getElem?_toArray, List.getElem?_cons_succ, List.getElem?_cons_zero]; rfl) (by kernel_rfl) (by kernel_rfl) (by kernel_rfl) (by exact fun _ _ _ h => h) (Or.inl ⟨by rfl, ?_⟩) hH ?_
            rotate_left
            · intro w hSw; (try dsimp only at hSw); go_simp; try with_reducible rfl
            try simp only [Act.put, List.setIfInBounds_toArray, List.set_cons_zero, List.set_cons_succ, List.getElem_toArray, List.getElem_cons_succ, List.getElem_cons_zero]
            refine wpAnyH_take (i := 5) (oi := _) (v := ?_) (by simp only [List.getElem?_toArray, List.getElem?_cons_succ, List.getElem?_cons_zero]; rfl) (by kernel_rfl) (by kernel_rfl) (by kernel_rfl) (by exact fun _ _ _ h => h) (Or.inl ⟨by rfl, ?_⟩) hH ?_
            rotate_left
            · intro w hSw; (try dsimp only at hSw); go_simp; try with_reducible rfl
            try simp only [Act.put, List.setIfInBounds_toArray, List.set_cons_zero, List.set_cons_succ, List.getElem_toArray, List.getElem_cons_succ, List.getElem_cons_zero]
            refine wpAnyH_take (i := 6) (oi := _) (v := ?_) (by simp only [List.getElem?_toArray, List.getElem?_cons_succ, List.getElem?_cons_zero]; rfl) (by kernel_rfl) (by kernel_rfl) (by kernel_rfl) (by exact fun _ _ _ h => h) (Or.inl ⟨by rfl, ?_⟩) hH ?_
            rotate_left
            · intro w hSw; (try dsimp only at hSw); go_simp; try with_reducible rfl
            try simp only [Act.put, List.setIfInBounds_toArray, List.set_cons_zero, List.set_cons_succ, List.getElem_toArray, List.getElem_cons_succ, List.getElem_cons_zero]
            refine wpAnyH_take (i := 7) (oi := _) (v := undef) (by simp only [List.getElem?_toArray, List.getElem?_cons_succ, List.getElem?_cons_zero]; rfl) (by kernel_rfl) (by kernel_rfl) (by kernel_rfl) (by exact fun _ _ _ h => h) (Or.inr ⟨by rfl, rfl⟩) hH ?_
            try simp only [Act.put, List.setIfInBounds_toArray, List.set_cons_zero, List.set_cons_succ, List.getElem_toArray, List.getElem_cons_succ, List.getElem_cons_zero]
            refine wpAnyH_take (i := 8) (oi := _) (v := undef) (by simp only [List.getElem?_toArray, List.getElem?_cons_succ, List.getElem?_cons_zero]; rfl) (by kernel_rfl) (by kernel_rfl) (by kernel_rfl) (by exact fun _ _ _ h => h) (Or.inr ⟨by rfl, rfl⟩) hH ?_
            try simp only [Act.put, List.setIfInBounds_toArray, List.set_cons_zero, List.set_cons_succ, List.getElem_toArray, List.getElem_cons_succ, List.getElem_cons_zero]
            refine wpAnyH_take (i := 9) (oi := _) (v := undef) (by simp only [List.getElem?_toArray, List.getElem?_cons_succ, List.getElem?_cons_zero]; rfl) (by kernel_rfl) (by kernel_rfl) (by kernel_rfl) (by exact fun _ _ _ h => h) (Or.inr ⟨by rfl, rfl⟩) hH ?_
            try simp only [Act.put, List.setIfInBounds_toArray, List.set_cons_zero, List.set_cons_succ, List.getElem_toArray, List.getElem_cons_succ, List.getElem_cons_zero]
            refine wpAnyH_take (i := 10) (oi := _) (v := undef) (by simp only [List.getElem?_toArray, List.getElem?_cons_succ, List.getElem?_cons_zero]; rfl) (by kernel_rfl) (by kernel_rfl) (by kernel_rfl) (by exact fun _ _ _ h => h) (Or.inr ⟨by rfl, rfl⟩) hH ?_
            try simp only [Act.put, List.setIfInBounds_toArray, List.set_cons_zero, List.set_cons_succ, List.getElem_toArray, List.getElem_cons_succ, List.getElem_cons_zero]
            refine wpAnyH_take (i := 11) (oi := _) (v := undef) (by simp only [List.getElem?_toArray, List.getElem?_cons_succ, List.getElem?_cons_zero]; rfl) (by kernel_rfl) (by kernel_rfl) (by kernel_rfl) (by exact fun _ _ _ h => h) (Or.inr ⟨by rfl, rfl⟩) hH ?_
            try simp only [Act.put, List.setIfInBounds_toArray, List.set_cons_zero, List.set_cons_succ, List.getElem_toArray, List.getElem_cons_succ, List.getElem_cons_zero]
            refine wpAnyH_take (i := 12) (oi := _) (v := undef) (by simp only [List.getElem?_toArray, List.getElem?_cons_succ, List.getElem?_cons_zero]; rfl) (by kernel_rfl) (by kernel_rfl) (by kernel_rfl) (by exact fun _ _ _ h => h) (Or.inr ⟨by rfl, rfl⟩) hH ?_
            try simp only [Act.put, List.setIfInBounds_toArray, List.set_cons_zero, List.set_cons_succ, List.getElem_toArray, List.getElem_cons_succ, List.getElem_cons_zero]
            refine wpAnyH_take (i := 13) (oi := _) (v := undef) (by simp only [List.getElem?_toArray, List.getElem?_cons_succ, List.getElem?_cons_zero]; rfl) (by kernel_rfl) (by kernel_rfl) (by kernel_rfl) (by exact fun _ _ _ h => h) (Or.inr ⟨by rfl, rfl⟩) hH ?_
            try simp only [Act.put, List.setIfInBounds_toArray, List.set_cons_zero, List.set_cons_succ, List.getElem_toArray, List.getElem_cons_succ, List.getElem_cons_zero]
            refine wpAnyH_take (i := 14) (oi := _) (v := ?_) (by simp only [List.getElem?_toArray, List.getElem?_cons_succ, List.getElem?_cons_zero]; rfl) (by kernel_rfl) (by kernel_rfl) (by kernel_rfl) (by exact fun _ _ _ h => h) (Or.inl ⟨by rfl, ?_⟩) hH ?_
            rotate_left
            · intro w hSw; (try dsimp only at hSw); go_simp; try with_reducible rfl
            try simp only [Act.put, List.setIfInBounds_toArray, List.set_cons_zero, List.set_cons_succ, List.getElem_toArray, List.getElem_cons_succ, List.getElem_cons_zero]
            refine wpAnyH_take (i := 15) (oi := _) (v := ?_) (by simp only [List.getElem?_toArray, List.getElem?_cons_succ, List.getElem?_cons_zero]; rfl) (by kernel_rfl) (by kernel_rfl) (by kernel_rfl) (by exact fun _ _ _ h => h) (Or.inl ⟨by rfl, ?_⟩) hH ?_
            rotate_left
            · intro w hSw; (try dsimp only at hSw); go_simp; try with_reducible rfl
            try simp only [Act.put, List.setIfInBounds_toArray, List.set_cons_zero, List.set_cons_succ, List.getElem_toArray, List.getElem_cons_succ, List.getElem_cons_zero]
            refine wpAnyH_take (i := 16) (oi := _) (v := ?_) (by simp only [List.getElem?_toArray, List.getElem?_cons_succ, List.getElem?_cons_zero]; rfl) (by kernel_rfl) (by kernel_rfl) (by kernel_rfl) (by exact fun _ _ _ h => h) (Or.inl ⟨by rfl, ?_⟩) hH ?_
            rotate_left
            · intro w hSw; (try dsimp only at hSw); go_simp; try with_reducible rfl
            try simp only [Act.put, List.setIfInBounds_toArray, List.set_cons_zero, List.set_cons_succ, List.getElem_toArray, List.getElem_cons_succ, List.getElem_cons_zero]
            refine wpAnyH_take (i := 17) (oi := _) (v := ?_) (by simp only [List.getElem?_toArray, List.getElem?_cons_succ, List.getElem?_cons_zero]; rfl) (by kernel_rfl) (by kernel_rfl) (by kernel_rfl) (by exact fun _ _ _ h => h) (Or.inl ⟨by rfl, ?_⟩) hH ?_
            rotate_left
            · intro w hSw; (try dsimp only at hSw); go_simp; try with_reducible rfl
            try simp only [Act.put, List.setIfInBounds_toArray, List.set_cons_zero, List.set_cons_succ, List.getElem_toArray, List.getElem_cons_succ, List.getElem_cons_zero]
            refine wpAnyH_take (i := 18) (oi := _) (v := ?_) (by simp only [List.getElem?_toArray, List.getElem?_cons_succ, List.getElem?_cons_zero]; rfl) (by kernel_rfl) (by kernel_rfl) (by kernel_rfl) (by exact fun _ _ _ h => h) (Or.inl ⟨by rfl, ?_⟩) hH ?_
            rotate_left
            · intro w hSw; (try dsimp only at hSw); go_simp; try with_reducible rfl
            try simp only [Act.put, List.setIfInBounds_toArray, List.set_cons_zero, List.set_cons_succ, List.getElem_toArray, List.getElem_cons_succ, List.getElem_cons_zero]
            refine wpAnyH_take (i := 19) (oi := _) (v := ?_) (by simp only [List.getElem?_toArray, List.getElem?_cons_succ, List.getElem?_cons_zero]; rfl) (by kernel_rfl) (by kernel_rfl) (by kernel_rfl) (by exact fun _ _ _ h => h) (Or.inl ⟨by rfl, ?_⟩) hH ?_
            rotate_left
            · intro w hSw; (try dsimp only at hSw); go_simp; try with_reducible rfl
            try simp only [Act.put, List.setIfInBounds_toArray, List.set_cons_zero, List.set_cons_succ, List.getElem_toArray, List.getElem_cons_succ, List.getElem_cons_zero]
            refine wpAnyH_take (i := 20) (oi := _) (v := ?_) (by simp only [List.getElem?_toArray, List.getElem?_cons_succ, List.getElem?_cons_zero]; rfl) (by kernel_rfl) (by kernel_rfl) (by kernel_rfl) (by exact fun _ _ _ h => h) (Or.inl ⟨by rfl, ?_⟩) hH ?_
            rotate_left
            · intro w hSw; (try dsimp only at hSw); go_simp; try with_reducible rfl
            try simp only [Act.put, List.setIfInBounds_toArray, List.set_cons_zero, List.set_cons_succ, List.getElem_toArray, List.getElem_cons_succ, List.getElem_cons_zero]
            refine wpAnyH_take (i := 21) (oi := _) (v := ?_) (by simp only [List.getElem?_toArray, List.getElem?_cons_succ, List.getElem?_cons_zero]; rfl) (by kernel_rfl) (by kernel_rfl) (by kernel_rfl) (by exact fun _ _ _ h => h) (Or.inl ⟨by rfl, ?_⟩) hH ?_
            rotate_left
            · intro w hSw; (try dsimp only at hSw); go_simp; try with_reducible rfl
            try simp only [Act.put, List.setIfInBounds_toArray, List.set_cons_zero, List.set_cons_succ, List.getElem_toArray, List.getElem_cons_succ, List.getElem_cons_zero]
            refine wpAnyH_take (i := 22) (oi := _) (v := ?_) (by simp only [List.getElem?_toArray, List.getElem?_cons_succ, List.getElem?_cons_zero]; rfl) (by kernel_rfl) (by kernel_rfl) (by kernel_rfl) (by exact fun _ _ _ h => h) (Or.inl ⟨by rfl, ?_⟩) hH ?_
            rotate_left
            · intro w hSw; (try dsimp only at hSw); go_simp; try with_reducible rfl
            try simp only [Act.put, List.setIfInBounds_toArray, List.set_cons_zero, List.set_cons_succ, List.getElem_toArray, List.getElem_cons_succ, List.getElem_cons_zero]
            refine wpAnyH_take (i := 23) (oi := _) (v := ?_) (by simp only [List.getElem?_toArray, List.getElem?_cons_succ, List.getElem?_cons_zero]; rfl) (by kernel_rfl) (by kernel_rfl) (by kernel_rfl) (by exact fun _ _ _ h => h) (Or.inl ⟨by rfl, ?_⟩) hH ?_
            rotate_left
            · intro w hSw; (try dsimp only at hSw); go_simp; try with_reducible rfl
            try simp only [Act.put, List.setIfInBounds_toArray, List.set_cons_zero, List.set_cons_succ, List.getElem_toArray, List.getElem_cons_succ, List.getElem_cons_zero]
            refine wpAnyH_take (i := 24) (oi := _) (v := ?_) (by simp only [List.getElem?_toArray, List.getElem?_cons_succ, List.getElem?_cons_zero]; rfl) (by kernel_rfl) (by kernel_rfl) (by kernel_rfl) (by exact fun _ _ _ h => h) (Or.inl ⟨by rfl, ?_⟩) hH ?_
            rotate_left
            · intro w hSw; (try dsimp only at hSw); go_simp; try with_reducible rfl
            try simp only [Act.put, List.setIfInBounds_toArray, List.set_cons_zero, List.set_cons_succ, List.getElem_toArray, List.getElem_cons_succ, List.getElem_cons_zero]
            refine wpAnyH_take (i := 26) (oi := _) (v := ?_) (by simp only [List.getElem?_toArray, List.getElem?_cons_succ, List.getElem?_cons_zero]; rfl) (by kernel_rfl) (by kernel_rfl) (by kernel_rfl) (by exact fun _ _ _ h => h) (Or.inl ⟨by rfl, ?_⟩) hH ?_
            rotate_left
            · intro w hSw; (try dsimp only at hSw); go_simp; try with_reducible rfl
            try simp only [Act.put, List.setIfInBounds_toArray, List.set_cons_zero, List.set_cons_succ, List.getElem_toArray, List.getElem_cons_succ, List.getElem_cons_zero]
            refine wpAnyH_take (i := 27) (oi := _) (v := ?_) (by simp only [List.getElem?_toArray, List.getElem?_cons_succ, List.getElem?_cons_zero]; rfl) (by kernel_rfl) (by kernel_rfl) (by kernel_rfl) (by exact fun _ _ _ h => h) (Or.inl ⟨by rfl, ?_⟩) hH ?_
            rotate_left
            · intro w hSw; (try dsimp only at hSw); go_simp; try with_reducible rfl
            try simp only [Act.put, List.setIfInBounds_toArray, List.set_cons_zero, List.set_cons_succ, List.getElem_toArray, List.getElem_cons_succ, List.getElem_cons_zero]
            refine wpAnyH_ready (rs := [25]) (by kernel_rfl) (by simp) (AllReadyH.cons rfl (fun K hK => ?_) AllReadyH.nil)
            go_simp
            go_at_call 8
            refine (tk_len O HD7.out).mono ?_
            rw [HM.out]
            rintro e w9 ⟨rfl, hd, hb⟩
            have HD8 := hid hd
            have HB9 := hid (HB8.out.trans (hb.mono HB8.out.size))
            clear hd hb
            refine hK.out _ _ trivial (fun hH => ?_)
            clear hK K
            try simp only [Act.put, List.setIfInBounds_toArray, List.set_cons_zero, List.set_cons_succ, List.getElem_toArray, List.getElem_cons_succ, List.getElem_cons_zero]
            refine wpAnyH_take (i := 28) (oi := _) (v := ?_) (by simp only [List.getElem?_toArray, List.getElem?_cons_succ, List.getElem?_cons_zero]; rfl) (by kernel_rfl) (by kernel_rfl) (by kernel_rfl) (by exact fun _ _ _ h => h) (Or.inl ⟨by rfl, ?_⟩) hH ?_
            rotate_left
            · intro w hSw; (try dsimp only at hSw); go_simp; try with_reducible rfl
            try simp only [Act.put, List.setIfInBounds_toArray, List.set_cons_zero, List.set_cons_succ, List.getElem_toArray, List.getElem_cons_succ, List.getElem_cons_zero]
            refine wpAnyH_take (i := 29) (oi := _) (v := ?_) (by simp only [List.getElem?_toArray, List.getElem?_cons_succ, List.getElem?_cons_zero]; rfl) (by kernel_rfl) (by kernel_rfl) (by kernel_rfl) (by exact fun _ _ _ h => h) (Or.inl ⟨by rfl, ?_⟩) hH ?_
            rotate_left
            · intro w hSw; (try dsimp only at hSw); go_simp; try with_reducible rfl
            try simp only [Act.put, List.setIfInBounds_toArray, List.set_cons_zero, List.set_cons_succ, List.getElem_toArray, List.getElem_cons_succ, List.getElem_cons_zero]
            refine wpAnyH_take (i := 30) (oi := _) (v := ?_) (by simp only [List.getElem?_toArray, List.getElem?_cons_succ, List.getElem?_cons_zero]; rfl) (by kernel_rfl) (by kernel_rfl) (by kernel_rfl) (by exact fun _ _ _ h => h) (Or.inl ⟨by rfl, ?_⟩) hH ?_
            rotate_left
            · intro w hSw; (try dsimp only at hSw); go_simp; try with_reducible rfl
            try simp only [Act.put, List.setIfInBounds_toArray, List.set_cons_zero, List.set_cons_succ, List.getElem_toArray, List.getElem_cons_succ, List.getElem_cons_zero]
            refine wpAnyH_take (i := 31) (oi := _) (v := ?_) (by simp only [List.getElem?_toArray, List.getElem?_cons_succ, List.getElem?_cons_zero]; rfl) (by kernel_rfl) (by kernel_rfl) (by kernel_rfl) (by exact fun _ _ _ h => h) (Or.inl ⟨by rfl, ?_⟩) hH ?_
            rotate_left
            · intro w hSw; (try dsimp only at hSw); go_simp; try with_reducible rfl
            try simp only [Act.put, List.setIfInBounds_toArray, List.set_cons_zero, List.set_cons_succ, List.getElem_toArray, List.getElem_cons_succ, List.getElem_cons_zero]
            refine wpAnyH_take (i := 33) (oi := _) (v := ?_) (by simp only [List.getElem?_toArray, List.getElem?_cons_succ, List.getElem?_cons_zero]; rfl) (by kernel_rfl) (by kernel_rfl) (by kernel_rfl) (by exact fun _ _ _ h => h) (Or.inl ⟨by rfl, ?_⟩) hH ?_
            rotate_left
            · intro w hSw; (try dsimp only at hSw); go_simp; try with_reducible rfl
            try simp only [Act.put, List.setIfInBounds_toArray, List.set_cons_zero, List.set_cons_succ, List.getElem_toArray, List.getElem_cons_succ, List.getElem_cons_zero]
            refine wpAnyH_ready (rs := [32]) (by kernel_rfl) (by simp) (AllReadyH.cons rfl (fun K hK => ?_) AllReadyH.nil)
            go_simp
            go_at_call 8
            refine (tk_lenOther O HD8.out (.tail _ (.tail _ (.head _)))).mono ?_
            rintro e w10 ⟨rfl, hd, hb⟩
            have HB10 := hid (HB9.out.trans (hb.mono HB9.out.size))
            clear hd hb HD8
            refine hK.out _ _ trivial (fun hH => ?_)
            clear hK K
            try simp only [Act.put, List.setIfInBounds_toArray, List.set_cons_zero, List.set_cons_succ, List.getElem_toArray, List.getElem_cons_succ, List.getElem_cons_zero]
            refine wpAnyH_take (i := 34) (oi := _) (v := ?_) (by simp only [List.getElem?_toArray, List.getElem?_cons_succ, List.getElem?_cons_zero]; rfl) (by kernel_rfl) (by kernel_rfl) (by kernel_rfl) (by exact fun _ _ _ h => h) (Or.inl ⟨by rfl, ?_⟩) hH ?_
            rotate_left
            · intro w hSw; (try dsimp only at hSw); go_simp; try with_reducible rfl
            try simp only [Act.put, List.setIfInBounds_toArray, List.set_cons_zero, List.set_cons_succ, List.getElem_toArray, List.getElem_cons_succ, List.getElem_cons_zero]
            refine wpAnyH_take (i := 35) (oi := _) (v := ?_) (by simp only [List.getElem?_toArray, List.getElem?_cons_succ, List.getElem?_cons_zero]; rfl) (by kernel_rfl) (by kernel_rfl) (by kernel_rfl) (by exact fun _ _ _ h => h) (Or.inl ⟨by rfl, ?_⟩) hH ?_
            rotate_left
            · intro w hSw; (try dsimp only at hSw); go_simp; try with_reducible rfl
            try simp only [Act.put, List.setIfInBounds_toArray, List.set_cons_zero, List.set_cons_succ, List.getElem_toArray, List.getElem_cons_succ, List.getElem_cons_zero]
            refine wpAnyH_done (by kernel_rfl) ?_ _
            go_wp2
            go_loopw [22] (fun jv wz => ∃ j : Nat, j ≤ m2 ∧ jv = .int .i64 (j : Int) ∧ Hid (Below w7.heap.size w7 wz)) (fun jv _ => m2 - (intOf jv).toNat)
            case atStart => exact ⟨0, Nat.zero_le _, rfl, HB10⟩
            case round =>
              obtain ⟨j, hj, rfl, HBz⟩ := hrel
              by_cases hjm : j < m2
              · obtain ⟨ad7, xx, rfl, _, hx7, s0⟩ := (HSn.out.below HBz.out).get hjm
                obtain ⟨bj, oj, e', hAj, _, hej, h0, h1, h2, h3, h4, h5⟩ := (HSl8.out.below HBz.out).get hjm
                subst hAj
                rw [List.getElem?_map, hej] at hx7
                obtain rfl : e'.id = xx := Option.some.inj hx7
                have hj0 : (0 : Int) ≤ (j : Int) := by omega
                have hj1 : (j : Int) < (m2 : Int) := by omega
                have hjw : IntKind.i64.wrap ((j : Int) + 1) = (j : Int) + 1 := by rw [IntKind.wrap_i64]; omega
                have HBz2 := hid HBz.out.drew
                have s0' : wr.drew.cell? (ad7.add j) = some (.int .i64 e'.id) := s0
                have h0' : wr.drew.cell? ⟨bj, oj + j * 6, none⟩ = some (.int .i64 e'.id) := h0
                clear hx7 hej h1 h2 h3 h4 h5 s0 h0
                go_wp2_with fail
                go_region_held3 (fun w' => w'.cell? (ad7.add j) = some (.int .i64 e'.id) ∧ w'.cell? ⟨bj, oj + j * 6, none⟩ = some (.int .i64 e'.id)) (first | exact ⟨s0', h0'⟩ | go_keep) (fail)
                clear s0' h0'
                go_wp2
                go_roundw
                case rel => exact ⟨j + 1, by omega, by go_num, HBz2⟩
                case measure => simp [intOf]; omega
              · have HDz := hid ((HD6.out.on (O.stays _ _) HBz.out).less (ls := [Ly.nds w.heap.size (.slice A2 m2 cp2) U2.L]) (fun K hK => by rcases List.mem_cons.1 hK with rfl | hK; exact (.tail _ (.head _)); cases hK))
                have hiw : IntKind.i64.wrap ((i : Int) + 1) = (i : Int) + 1 := by rw [IntKind.wrap_i64]; omega
                have hjn : ¬ (j : Int) < (m2 : Int) := by omega
                clear HBz hjm hj
                go_wp2
                go_roundw
                case rel => exact ⟨i + 1, U2, by omega, by go_num, rfl, HUl2, HDz⟩
                case measure => simp [intOf]; omega
    · have HB := hid HD.out.below
      go_wp2
      go_ret
      exact ⟨rfl, HB.out⟩
end Go.Proofs.YtklplmldhhlgiaaDoor
