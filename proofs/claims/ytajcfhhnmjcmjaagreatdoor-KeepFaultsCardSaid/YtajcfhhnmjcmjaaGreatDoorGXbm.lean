/- Put together out of 5 texts. A keep's Commit: nothing new; one leaf. -/
import Derived.Test.YtajcfhhnmjcmjaaGreatDoorGXbl
import Derived.Test.YtajcfhhnmjcmjaaGreatDoorGXbh
namespace Go.Proofs.YtajcfhhnmjcmjaaGreatDoor
open Go.RowKit

theorem KRow.only {w w' : World} {B : Nat} {v : Value} {l : List Rec} {F : Nat → Prop} (h : KRow w B v l) (ho : Only F w w') (hn : ∀ k, v.ownBlock = some k → ¬ F k) : KRow w' B v l := by
  have hlt := h.lt
  rcases h.2 with ⟨rfl, h0⟩ | ⟨g, cap, cur, rfl, hb, hg, rest⟩
  · exact ⟨h.1, .inl ⟨rfl, h0⟩⟩
  · exact ⟨h.1, .inr ⟨g, cap, cur, rfl, hb, (ho.block g (hlt g rfl).2 (hn g rfl)).trans hg, rest⟩⟩
theorem Lf1.lsl {w : World} {B g cap n c : Nat} {r : Addr} {p : Int} {l : List Rec} (h : Lf1 w B g cap r n c p l) : LSl w w.heap.size (some ⟨g, 0, none⟩) 1 cap [(p, l)] :=
  ⟨rfl, h.cap1, h.capm, (fun e => by cases e), fun ad ha _ => by
    cases ha
    refine ⟨h.lt, fun j x hx => ?_⟩
    rcases j with _ | j
    · simp at hx
      subst hx
      refine ⟨r, n, c, ?_, ?_, h.rs⟩
      · rw [Addr.add_lit]; exact h.c0
      · rw [Addr.add_lit]; exact h.c1
    · simp at hx⟩
theorem LvO.on {w w' : World} {F : Nat → Prop} {lv : Value} {Ao : Option Addr} {no co : Nat} {l0 : List Rec} (h : LvO w F lv Ao no co l0) (hb : Below w.heap.size w w') : LvO w' F lv Ao no co l0 :=
  h.only (Only.of_below (F := fun _ => False) hb) (fun _ _ h => h)
/-- all records of the leaves as they were -/
theorem LvO.recs {w : World} {F : Nat → Prop} {lv : Value} {Ao : Option Addr} {no co : Nat} {l0 : List Rec} (h : LvO w F lv Ao no co l0) (hn : l0.length ≤ 10000) : Calls Tryz.prog 22 #[lv] w (RecO w l0) := by
  rcases h with ⟨rfl, _, _, _, rfl⟩ | ⟨Bo, go, capo, ro, rfl, h2, _⟩
  · exact recordsOf_any none 0 0 [] w (lsl_nil _ _) (by omega) (Nat.zero_le _)
  · have e : recsOf [((0 : Int), l0)] = l0 := by unfold recsOf; simp
    have h3 := recordsOf_any _ 1 capo [(0, l0)] w h2.lsl (by omega) (by rw [e]; exact hn)
    rw [e] at h3
    exact h3
/-- laid anew, on one leaf -/
theorem LvO.relaid {w : World} {F : Nat → Prop} {lv : Value} {Ao : Option Addr} {no co : Nat} {l0 : List Rec} (h : LvO w F lv Ao no co l0) (A : Option Addr) (n c : Nat) (l : List Rec) (hr : RSl w w.heap.size A n c l) (hn : n ≤ 10000) (hs : RszS l) (hl : l ≠ []) (h248 : (laidR l).length ≤ 248) :
    Calls Tryz.prog 25 #[lv, .slice A n c] w fun e w' => ∃ p, (p = -1 ∨ p = 0) ∧ LfO w (fun z => ∃ a, A = some a ∧ a.block = z) [(p, l)] e w' := by
  rcases h with ⟨rfl, _⟩ | ⟨Bo, go, capo, ro, rfl, h2, _⟩
  · exact (relaidNone_any A n c l w hr hn hs hl h248).mono (fun e w' h => ⟨-1, .inl rfl, h⟩)
  · exact (relaidOne_any _ 1 capo 0 l0 A n c l w h2.lsl hr hn hs hl h248).mono (fun e w' h => ⟨0, .inr rfl, h⟩)
theorem eqRec_yes (A A' : Option Addr) (n c n' c' : Nat) (l : List Rec) (B B' : Nat) (w : World) (h : RSl w B A n c l) (h' : RSl w B' A' n' c' l) :
    Calls Tryz.prog 21 #[.slice A n c, .slice A' n' c'] w (Quiet w (.bool true)) := by
  refine (eqRec_any A A' n c n' c' l l B B' w h h').mono ?_
  rintro e w' ⟨b, q, rfl, hb, rfl⟩
  rw [hb.2 rfl]
  exact ⟨rfl, q, rfl⟩
set_option maxRecDepth 100000 in
set_option maxHeartbeats 4000000 in
theorem kComSame_any (b0 kb : Nat) (s lv : Value) (F Fo : Nat → Prop) (Ao : Option Addr) (no co : Nat) (l : List Rec) (w : World) (h : KpX w b0 kb s lv F l) (hlv : LvO w Fo lv Ao no co l) :
    Calls Tryz.prog 9 #[.pointer (some ⟨kb, 0, none⟩)] w fun e w' => e = .returned .nilIface ∧ Below w.heap.size w w' := by
  obtain ⟨v, hbox, hrow, hap⟩ := h.box
  obtain ⟨A, n, c, rfl, hrs⟩ := hrow.rsl
  have hd : Below w.heap.size w w.drew := (Below.refl _ _).drew
  have HRc := hid ((hlv.on hd).recs h.len)
  have HRs := hid (hrs.on hd)
  have HMc := hid (show ∀ w2, Below w.heap.size w w2 → w2.cell? ⟨kb, 1, none⟩ = some (.slice A n c) ∧ w2.cell? ⟨kb, 2, none⟩ = some lv from fun w2 hb => by
    have h1 := hbox.below hb hbox.lt
    exact ⟨by rw [Blk.cell h1]; rfl, by rw [Blk.cell h1]; rfl⟩)
  have k0 := HMc.out w.drew hd
  clear h hbox hrow hap hrs hlv hd
  go_enter Tryz.func9, Tryz.ntmps9
  go_upto_region 1 with fail
  go_region_held3 (fun w' => w'.cell? ⟨kb, 1, none⟩ = some (.slice A n c) ∧ w'.cell? ⟨kb, 2, none⟩ = some lv) (first | exact k0 | exact k1 | exact k2) (first
    | (go_at_call 22; refine HRc.out.mono ?_; rintro e w1 ⟨v1, rfl, hr1, hb1⟩; have HB1 := hid (show Below w.heap.size w w1 from ((Below.refl w.heap.size w).drew).trans hb1); have k1 := HMc.out w1 HB1.out; obtain ⟨A1, n1, c1, rfl, hs1⟩ := hr1.rsl; have HR1 := hid hs1; have HR0 := hid (HRs.out.on hb1); clear hr1 hb1 hs1)
    | (go_at_call 21; refine (eqRec_yes _ _ _ _ _ _ _ _ _ _ HR0.out HR1.out).mono ?_; rintro e w2 ⟨rfl, q, rfl⟩; have HB2 := hid (below_drewN HB1.out q); have k2 := HMc.out _ HB2.out))
  go_wp2
  go_ret
  exact ⟨rfl, HB2.out⟩
end Go.Proofs.YtajcfhhnmjcmjaaGreatDoor
namespace Go.Proofs.YtajcfhhnmjcmjaaGreatDoor
open Go.RowKit

section
variable {Real : World → Nat → DSt → (Nat → Prop) → Prop} {PR : World → Nat → Nat → Nat → Nat → (Nat → Prop) → Prop} {S : Nat → Addr} {w0 w : World} {d g n q mk : Nat} {T : Nat → Prop} {s : DSt} {P : PS} {ch : Chg} {cont : Cont}
/-- a keep behind a Commit that wrote: its leaves' blocks (Fo), its store's (T'), its own (F) -/
def KNew (Real : World → Nat → DSt → (Nat → Prop) → Prop) (PR : World → Nat → Nat → Nat → Nat → (Nat → Prop) → Prop) (S : Nat → Addr) (w0 : World) (d g n q mk : Nat) (s : DSt) (P : PS) (b0 kb : Nat) (F : Nat → Prop) (l : List Rec) (e : Ending) (w' : World) : Prop :=
  e = .returned .nilIface ∧ ∃ lv Fo Ao no co T', KpX w' b0 kb (.pointer (some ⟨g, 0, none⟩)) lv F l ∧ LvO w' Fo lv Ao no co l ∧
    Shop Real PR S w0 w' d g n (q + 1000) mk T' (comDev P (wrC 256 (laidR l)) s (halN n)) (commitTo P (wrC 256 (laidR l)) s (halN n)).2 noChg ∧
    (∀ k, F k → ¬ T' k ∧ ¬ Fo k) ∧ (∀ k, Fo k → ¬ T' k ∧ k < w'.heap.size)
set_option maxRecDepth 100000 in
set_option maxHeartbeats 8000000 in
theorem kComNew_any (D : DevOk Real) (O : PairOk Real PR) (hS : Sent7 w0 S) (b0 kb : Nat) (lv : Value) (F Fo : Nat → Prop) (Ao : Option Addr) (no co : Nat) (l0 l : List Rec)
    (h : Shop Real PR S w0 w d g n q mk T s P ch) (hK : Keeps s n q P cont) (hc : ∀ i, 1 ≤ i → cont i = none) (h42 : 42 ≤ halN n) (hq : q ≤ 600000)
    (hx : KpX w b0 kb (.pointer (some ⟨g, 0, none⟩)) lv F l) (hb0 : w0.heap.size ≤ b0) (hlv : LvO w Fo lv Ao no co l0) (hF : ∀ k, F k → ¬ T k ∧ ¬ Fo k) (hFo : ∀ k, Fo k → ¬ T k ∧ k < w.heap.size)
    (hn0 : l0.length ≤ 10000) (hne : l ≠ l0) (hl : l ≠ []) (h248 : (laidR l).length ≤ 248) :
    Calls Tryz.prog 9 #[.pointer (some ⟨kb, 0, none⟩)] w (KNew Real PR S w0 d g n q mk s P b0 kb F l) := by
  obtain ⟨v, hbox, hrow, hap⟩ := hx.box
  obtain ⟨A, rn, c, rfl, hrs⟩ := hrow.rsl
  have hd : Below w.heap.size w w.drew := (Below.refl _ _).drew
  have hl0 := (hlv.on hd).recs hn0
  have HRc := hid hl0
  have HRs := hid (hrs.on hd)
  have HRn := hid (show rn ≤ 10000 from by have := hrs.len; have := hx.len; omega)
  have HMc := hid (show ∀ w2, Below w.heap.size w w2 → w2.cell? ⟨kb, 1, none⟩ = some (.slice A rn c) ∧ w2.cell? ⟨kb, 2, none⟩ = some lv from fun w2 hb => by
    have h1 := hbox.below hb hbox.lt
    exact ⟨by rw [Blk.cell h1]; rfl, by rw [Blk.cell h1]; rfl⟩)
  have k0 := HMc.out w.drew hd
  have HX := hid hx
  have HLv := hid hlv
  have HSh := hid h
  have HTl := hid (h.lt D O)
  have hkbF := hx.own
  have hkbl := hx.lt kb hx.own
  have hkb0 := hx.lo kb hx.own
  have HD := hid D
  have HO := hid O
  have HSe := hid hS
  have HC := hid (fun (W : World) (hb : Below w.heap.size w W) (B : Nat) (Q : Nat → Prop) (v2 : Value) (p : Int) (hL : LOwn W B Q v2 [(p, l)]) (hp : p = -1 ∨ p = 0) (hQ : ∀ k, Q k → w.heap.size ≤ k) (hB : w.heap.size ≤ B) =>
    kCommitOne_any (mk := mk) D O hS kb (.slice A rn c) lv Ao no co l0 Fo B Q v2 p l (h.on D O hb) hK hc h42 hq (hbox.below hb hbox.lt) (hF kb hkbF).1 (hlv.on hb) (fun k hk => ⟨(hFo k hk).1, fun e => (hF kb hkbF).2 (e ▸ hk), by have := (hFo k hk).2; omega⟩) hL hp (fun k hk => ⟨fun ht => by have := h.lt D O k ht; have := hQ k hk; omega, by have := hQ k hk; omega⟩) (fun k hk => by have := h.lt D O k hk; omega) (by omega) (by omega) hne hl (fun x hx' => by have := hx.siz x hx'; omega) h248 hx.len)
  have HF := hid hF
  have HFo := hid hFo
  have HNe := hid (And.intro hne (And.intro hl h248))
  have HRel := hid (fun (W : World) (hb : Below w.heap.size w W) (A2 : Option Addr) (n2 c2 : Nat) (hr : RSl W W.heap.size A2 n2 c2 l) => (hlv.on hb).relaid A2 n2 c2 l hr (by have := hr.len; have := hx.len; omega) (fun x hx' => by have := hx.siz x hx'; omega) hl h248)
  have HRow := hid hrow
  have HAp := hid hap
  have HBox := hid hbox
  clear h hK hc h42 hq hx hlv hF hFo hne hl h248 hbox hrow hap hrs hl0 hd D O hS
  go_enter Tryz.func9, Tryz.ntmps9
  go_upto_region 1 with fail
  go_region_held3 (fun w' => w'.cell? ⟨kb, 1, none⟩ = some (.slice A rn c) ∧ w'.cell? ⟨kb, 2, none⟩ = some lv) (first | exact k0 | exact k1 | exact k2) (first
    | (go_at_call 22; refine HRc.out.mono ?_; rintro e w1 ⟨v1, rfl, hr1, hb1⟩; have HB1 := hid (show Below w.heap.size w w1 from ((Below.refl w.heap.size w).drew).trans hb1); have k1 := HMc.out w1 HB1.out; obtain ⟨A1, n1, c1, rfl, hs1⟩ := hr1.rsl; have HR1 := hid hs1; have HR0 := hid (HRs.out.on hb1); clear hr1 hb1 hs1)
    | (go_at_call 21; refine (eqRec_no _ _ _ _ _ _ _ _ _ _ _ HR0.out HR1.out HNe.out.1).mono ?_; rintro e w2 ⟨rfl, q2, rfl⟩; have HB2 := hid (below_drewN HB1.out q2); have k2 := HMc.out _ HB2.out; have HR2 := hid (HR0.out.on (below_drewN (Below.refl _ _) q2))))
  generalize w1.drewN q2 = w2 at HB2 HR2 k2 ⊢
  obtain ⟨a1, a2⟩ := k2
  clear k0 k1
  go_wp2_with fail
  refine (cloneRec_any A rn c l w2 HR2.out HRn.out).mono ?_
  rintro e w3 ⟨v3, rfl, hr3, hb3⟩
  obtain ⟨A3, n3, c3, rfl, hs3⟩ := hr3.rsl
  have HB3 := hid (HB2.out.trans (hb3.mono HB2.out.size))
  have HQ3 := hid (show ∀ z, (∃ a, A3 = some a ∧ a.block = z) → w.heap.size ≤ z from fun z hz => by
    obtain ⟨a, rfl, rfl⟩ := hz
    have h1 := (hr3.lt a.block rfl).1
    have h2 := HB2.out.size
    omega)
  have HR3 := hid hs3
  have a3 := (HMc.out w3 HB3.out).2
  clear hr3 hb3 hs3 a1 a2
  go_wp2_with fail
  refine (HRel.out w3 HB3.out _ _ _ HR3.out).mono ?_
  rintro e w4 ⟨p, hp, v4, rfl, hL4, hb4⟩
  have HB4 := hid (HB3.out.trans (hb4.mono HB3.out.size))
  have HC4 := hid (HC.out w4 HB4.out w3.heap.size _ v4 p hL4 hp HQ3.out HB3.out.size)
  clear hp hL4 hb4 a3
  go_wp2_with fail
  refine HC4.out.mono ?_
  rintro e w5 ⟨g2, cap, r, n', c', T', rfl, k1, k2, k3, k4, k5, k6, k7, k8, kq, k9, k10⟩
  have hg2 : w.heap.size ≤ g2 := Nat.le_trans HB3.out.size k2.lo
  have hrl := (k2.rs.at_ r rfl (k2.pos HNe.out.2.1)).1
  have hrq := HQ3.out r.block kq
  have eF : w5.cell? ⟨1, 0, none⟩ = some (.iface 264 (.pointer (some (S 4)))) := (HSe.out.on k3.below) 4 (by decide)
  have hq1 := run_eql_iface_nil_left (P := Tryz.prog) (w := w5) 264 (.pointer (some (S 4))) Tryz.underlying31
  have s4 := HB4.out.size
  have hFT : ∀ k, F k → ¬ T' k := fun k hk ht => by
    rcases k10 k ht with h1 | h1
    · exact (HF.out k hk).1 h1
    · have := HX.out.lt k hk; omega
  have hap5 := HAp.out
  have hrow5 : KRow w5 b0 (.slice A rn c) l := (HRow.out.on HB4.out).only k9 (fun k hk h1 => by
    obtain ⟨e1, e2⟩ := hap5 k hk
    rcases h1 with h1 | h1 | h1
    · exact (HF.out k e2).1 h1
    · exact e1 h1
    · have := HX.out.lt k e2; omega)
  have HFin := hid (show KNew Real PR S w0 d g n q mk s P b0 kb F l (.returned .nilIface) w5 from by
    refine ⟨rfl, .slice (some ⟨g2, 0, none⟩) 1 cap, fun k => k = g2 ∨ k = r.block, some r, n', c', T', ⟨⟨_, k1, hrow5, hap5⟩, HX.out.own, fun k hk => ?_, HX.out.lo, HX.out.ris, HX.out.siz, HX.out.len⟩, .inr ⟨_, g2, cap, r, rfl, k2, rfl, .inl rfl, .inr rfl, HNe.out.2.1⟩, k3, fun k hk => ⟨hFT k hk, fun h1 => ?_⟩, fun k hk => ?_⟩
    · have h1 := HX.out.lt k hk; have h2 := k9.size; omega
    · have h2 := HX.out.lt k hk
      rcases h1 with h1 | h1 <;> omega
    · rcases hk with rfl | rfl
      · exact ⟨k5, k2.lt⟩
      · exact ⟨k6, hrl⟩)
  clear k1 k2 k3 k4 k5 k6 k7 k8 kq k9 k10 hg2 hrl hrq s4 hFT hap5 hrow5
  go_wp2
  go_ret
  exact HFin.out
end
end Go.Proofs.YtajcfhhnmjcmjaaGreatDoor
namespace Go.Proofs.YtajcfhhnmjcmjaaGreatDoor
open Go.RowKit

def lenOf : Value → Nat
  | .slice _ n _ => n
  | _ => 0
theorem laidR_split {l : List Rec} {k : Nat} {x : Rec} (h : l[k]? = some x) : laidR l = laidR (l.take k) ++ (recB x ++ laidR (l.drop (k + 1))) := by
  obtain ⟨hk, rfl⟩ := List.getElem?_eq_some_iff.1 h
  have e : l = l.take k ++ (l[k] :: l.drop (k + 1)) := by rw [← List.drop_eq_getElem_cons hk, List.take_append_drop]
  conv => lhs; rw [e]
  unfold laidR
  rw [List.flatMap_append, List.flatMap_cons]
theorem text_at {L R : List Int} {p : Nat} {s : ByteArray} (h : L.drop p = textB s ++ R) (hp : p ≤ L.length) (hs : s.size ≤ 1000) :
    scan (L.drop p) 0 0 = (0, zz (s.size : Int), p + (enc (s.size : Int)).length - p) ∧ unzz (zz (s.size : Int)) = (s.size : Int) ∧ p + (enc (s.size : Int)).length + s.size ≤ L.length ∧ strOfNums ((L.drop (p + (enc (s.size : Int)).length)).take s.size) = s ∧ L.drop (p + (enc (s.size : Int)).length + s.size) = R := by
  unfold textB at h
  rw [List.append_assoc] at h
  have h1 : L.drop (p + (enc (s.size : Int)).length) = str s ++ R := by rw [← List.drop_drop, h, List.drop_left' rfl]
  have hl := congrArg List.length h
  simp only [List.length_drop, List.length_append, str_len] at hl
  refine ⟨?_, unzz_zz _, by omega, ?_, ?_⟩
  · rw [h, scan_num (by omega) (by omega), Nat.add_sub_cancel_left]
  · rw [h1, List.take_left' (str_len s), str_of]
  · rw [← List.drop_drop, h1, List.drop_left' (str_len s)]
theorem KRow.base {w : World} {B B' : Nat} {v : Value} {l : List Rec} (h : KRow w B v l) (hB : B' ≤ B) : KRow w B' v l := by
  rcases h.2 with ⟨rfl, h0⟩ | ⟨g, cap, cu, rfl, hg, rest⟩
  · exact ⟨h.1, .inl ⟨rfl, h0⟩⟩
  · exact ⟨h.1, .inr ⟨g, cap, cu, rfl, by omega, rest⟩⟩
theorem Rdr.same {w w' : World} {g n c : Nat} {A : Option Addr} {l : List Int} {p : Int} {ev : Value} (h : Rdr w g A n c l p ev) (hb : Below (g + 1) w w') : Rdr w' g A n c l p ev :=
  ⟨h.blk.below hb (Nat.lt_succ_self g), h.sl.below (hb.mono (Nat.le_succ g))⟩
theorem Errs.below {w w' : World} {aR aE aS : Addr} (h : Errs w aR aE aS) (hb : Below w.heap.size w w') : Errs w' aR aE aS :=
  ⟨(hb.cell (World.block_lt_of_cell? w _ h.range)).trans h.range, (hb.cell (World.block_lt_of_cell? w _ h.ends)).trans h.ends, (hb.cell (World.block_lt_of_cell? w _ h.shape)).trans h.shape⟩
set_option maxRecDepth 100000 in
set_option maxHeartbeats 4000000 in
theorem keepTold_any (A : Option Addr) (n c : Nat) (l : List Rec) (aR aE aS : Addr) (w : World) (h : Sl w w.heap.size A n c (laidR l)) (hn : n ≤ 248) (hs : ∀ x, x ∈ l → x.1.size ≤ 40 ∧ x.2.size ≤ 120) (hE : Errs w aR aE aS) :
    Calls Tryz.prog 77 #[.slice A n c] w fun e w' => ∃ v, e = .returned (.tuple #[v, .nilIface]) ∧ KRow w' w.heap.size v l ∧ Below w.heap.size w w' := by
  obtain ⟨i0, hi, hz0, hz1, hz2⟩ := info_parts Tryz.infoRec
  have HNr := hid (newReader_any A n c (laidR l) w h (by omega))
  have hlen := h.len
  have HEr := hid hE
  have HSz := hid hs
  have hyt : Byt (laidR l) := laidR_byt (fun x hx => by have := hs x hx; omega)
  have HY := hid hyt
  have HLn := hid hlen
  clear h hs hE hyt hlen
  go_enter Tryz.func77, Tryz.ntmps77
  go_wp2_with fail
  refine HNr.out.mono ?_
  rintro e w1 ⟨g, A1, c1, rfl, hg, hr, hb, hA⟩
  have HR1 := hid hr
  have HB1 := hid hb
  have hgl := hr.lt
  have hkl : l.length ≤ 248 := by
    have h1 : ∀ k, k ≤ l.length → k ≤ (laidR (l.take k)).length := by
      intro k
      induction k with
      | zero => intro _; exact Nat.zero_le _
      | succ k ih =>
        intro hk
        have e := laidR_take (l := l) (k := k) (x := l[k]) (List.getElem?_eq_getElem (by omega))
        have h2 := ih (by omega)
        have h3 := enc_pos (l[k].1.size : Int)
        rw [e, List.length_append]
        unfold recB textB
        simp only [List.length_append]
        omega
    have h2 := h1 l.length (Nat.le_refl _)
    have h3 := laidR_part l l.length
    have := HLn.out
    omega
  clear hr hb
  go_wp2
  go_loopw [4] (fun ov wr => ∃ k : Nat, k ≤ l.length ∧ KRow wr (g + 1) ov (l.take k) ∧ Rdr wr g A1 n c1 (laidR l) ((laidR (l.take k)).length : Int) .nilIface ∧ Below w.heap.size w wr) (fun ov _ => l.length - lenOf ov)
  case atStart => exact ⟨0, Nat.zero_le _, krow_nil _ _, HR1.out, HB1.out⟩
  case round =>
    obtain ⟨k, hk, hown, hrd, hb⟩ := hrel
    have HB := hid hb
    have HO := hid hown
    have HRd := hid hrd
    have hgw := hrd.lt
    obtain ⟨A2, n2, c2, rfl, hn2, _⟩ := hown.form
    by_cases hlt : k < l.length
    · obtain ⟨x, hx⟩ : ∃ x, l[k]? = some x := ⟨_, List.getElem?_eq_getElem hlt⟩
      have hsx := HSz.out x (List.mem_of_getElem? hx)
      have hsp := laidR_split hx
      have hnx := laidR_take hx
      have HTk := hid (takeRc_next hx)
      obtain ⟨p, hp⟩ : ∃ p, (laidR (l.take k)).length = p := ⟨_, rfl⟩
      obtain ⟨L, hL⟩ : ∃ L, laidR l = L := ⟨_, rfl⟩
      have hd0 : L.drop p = textB x.1 ++ (textB x.2 ++ laidR (l.drop (k + 1))) := by
        rw [← hL, hsp, List.drop_left' hp]
        unfold recB
        rw [List.append_assoc]
      have hpl : p ≤ L.length := by rw [← hL, hsp, List.length_append, hp]; omega
      obtain ⟨q1, hq1⟩ : ∃ q, p + (enc (x.1.size : Int)).length = q := ⟨_, rfl⟩
      obtain ⟨s1, s2, s3, s4, s5⟩ := text_at hd0 hpl (by omega)
      rw [hq1] at s1 s3 s4 s5
      obtain ⟨q2, hq2⟩ : ∃ q, q1 + x.1.size + (enc (x.2.size : Int)).length = q := ⟨_, rfl⟩
      obtain ⟨t1, t2, t3, t4, t5⟩ := text_at s5 s3 (by omega)
      rw [hq2] at t1 t3 t4 t5
      have hpk : (laidR (l.take (k + 1))).length = q2 + x.2.size := by
        rw [hnx, List.length_append, hp]
        unfold recB textB
        simp only [List.length_append, str_len]
        omega
      have hln : L.length = n := by rw [← hL]; exact HLn.out
      rw [hL] at HRd HY
      rw [hp] at HRd
      have hgr := hrd.sl
      have hM : (0 : Int) < ((n - p : Nat) : Int) := by have := (enc_len (x.1.size : Int)).1; omega
      have HLe := hid (left_any HRd.out (by omega) (by omega))
      obtain ⟨M, hMe⟩ : ∃ M : Nat, n - p = M := ⟨_, rfl⟩
      rw [hMe] at hM HLe
      have HT1 := hid (fun k2 => text_ok (aR := aR) (aE := aE) (aS := aS) 40 (HRd.out.drewN k2) (HEr.out.below (below_drewN HB.out k2)) HY.out (by omega) s1 (by omega) s2 (by omega) (by omega))
      rw [s4] at HT1
      have HT2 := hid (fun (W : World) (hb : Below w.heap.size w W) (hr : Rdr W g A1 n c1 L ((q1 + x.1.size : Nat) : Int) .nilIface) => text_ok (aR := aR) (aE := aE) (aS := aS) 120 hr (HEr.out.below hb) HY.out (by omega) t1 (by omega) t2 (by omega) (by omega))
      rw [t4] at HT2
      have HPk := hid hpk
      clear hown hrd hb hx hsx hsp hnx hd0 hpl s1 s2 s3 s4 s5 t1 t2 t3 t4 t5 hpk hgr hMe hq1 hq2
      go_wp2_with fail
      refine (err_any HRd.out).mono ?_
      rintro e w2 ⟨rfl, rfl⟩
      go_wp2_with fail
      refine HLe.out.mono ?_
      rintro e w2 ⟨rfl, k2, rfl⟩
      go_wp2_with fail
      refine (HT1.out k2).mono ?_
      rintro e w2 ⟨rfl, hr2, hg2⟩
      have HB2 := hid (show Below w.heap.size w w2 from (below_drewN HB.out k2).grown hg2 HB.out.size (fun j hj => by injection hj with hj; omega))
      have HO2 := hid (show KRow w2 (g + 1) (.slice A2 n2 c2) (l.take k) from (HO.out.on (below_drewN (Below.refl _ _) k2)).kept hg2 (fun j hj => by have := (HO.out.lt j hj).1; omega))
      have HR2 := hid hr2
      clear hr2 hg2
      go_wp2_with fail
      refine (HT2.out w2 HB2.out HR2.out).mono ?_
      rintro e w3 ⟨rfl, hr3, hg3⟩
      have HB3 := hid (show Below w.heap.size w w3 from HB2.out.grown hg3 HB2.out.size (fun j hj => by injection hj with hj; omega))
      have HO3 := hid (show KRow w3 (g + 1) (.slice A2 n2 c2) (l.take k) from HO2.out.kept hg3 (fun j hj => by have := (HO2.out.lt j hj).1; omega))
      have HR3 := hid hr3
      have hg3' := hr3.lt
      have hkk : (l.take k).length = k := by rw [List.length_take]; omega
      clear hr3 hg3
      go_wp2_with (at_builtin; refine wpList_append_own _ rfl _ _ 56 rfl (g + 1) 52 i0 (.agg #[.string ⟨#[]⟩, .string ⟨#[]⟩]) 2 32 Tryz.underlying56 hi hz0 hz1 hz2 rfl (by decide) _ _ _ rfl (World.ownsRow.alloc HO3.out _) ⟨w3.heap.size, 0, none⟩ 1 1 (recC [x]) rfl rfl ?c1 (recC_one _) ?c3 ?c4 ?c5 ?_)
      case c1 => exact argR_cells (Blk.new w3 _ _)
      case c3 => rw [hkk]; unfold maxLen; omega
      case c4 => rw [hkk]; omega
      case c5 => simp; omega
      intro v' w5 hown' hgrow _
      have R1 := hid (show KRow w5 (g + 1) v' (l.take (k + 1)) from by
        show World.ownsRow _ _ _ _ _ _ _
        rw [HTk.out, recC_app, List.length_append, hn2]
        simpa using hown')
      have R2 := hid (show Below w.heap.size w w5 from (HB3.out.alloc HB3.out.size _).grown hgrow (by have := HB3.out.size; simp; omega) (fun q hq => by have := (HO3.out.lt q hq).1; omega))
      have R3 := hid (show Rdr w5 g A1 n c1 L ((laidR (l.take (k + 1))).length : Int) .nilIface from by
        rw [HPk.out]
        exact HR3.out.same (((Below.refl (g + 1) w3).alloc (by omega) _).grown hgrow (by simp; omega) (fun q hq => (HO3.out.lt q hq).1)))
      have hlo : lenOf v' = k + 1 := by
        obtain ⟨A5, n5, c5, rfl, h5, _⟩ := R1.out.form
        rw [List.length_take] at h5
        show n5 = _
        omega
      have hlo0 : lenOf (.slice A2 n2 c2) = k := by show n2 = k; omega
      clear hown' hgrow
      go_wp2
      go_roundw
      case rel => exact ⟨k + 1, by omega, R1.out, by rw [hL]; exact R3.out, R2.out⟩
      case measure => omega
    · have he : l.take k = l := List.take_of_length_le (by omega)
      rw [he] at HO HRd
      have HLe := hid (left_any HRd.out (by have := HLn.out; omega) (by omega))
      have hz : n - (laidR l).length = 0 := by have := HLn.out; omega
      rw [hz] at HLe
      clear hown hrd hb
      go_wp2_with fail
      refine (err_any HRd.out).mono ?_
      rintro e w2 ⟨rfl, rfl⟩
      go_wp2_with fail
      refine HLe.out.mono ?_
      rintro e w2 ⟨rfl, k2, rfl⟩
      go_wp2_with fail
      refine (err_any (HRd.out.drewN k2)).mono ?_
      rintro e w2 ⟨rfl, rfl⟩
      have HF := hid (show KRow (wr.drewN k2) w.heap.size (.slice A2 n2 c2) l ∧ Below w.heap.size w (wr.drewN k2) from ⟨(HO.out.on (below_drewN (Below.refl _ _) k2)).base (by omega), below_drewN HB.out k2⟩)
      go_wp2
      go_ret2
      exact ⟨_, rfl, HF.out⟩
end Go.Proofs.YtajcfhhnmjcmjaaGreatDoor
namespace Go.Proofs.YtajcfhhnmjcmjaaGreatDoor
open Go.RowKit

theorem less_cb : ∀ a b : List UInt8, Op.bytesLess a b = true → Lib.compareBytes a b < 0
  | _, [], h => by simp [Op.bytesLess] at h
  | [], _ :: _, _ => by simp [Lib.compareBytes]
  | a :: ta, b :: tb, h => by
    simp only [Op.bytesLess, Bool.or_eq_true, Bool.and_eq_true, decide_eq_true_eq, beq_iff_eq] at h
    unfold Lib.compareBytes
    rcases h with h | ⟨rfl, h⟩
    · rw [if_pos h]; decide
    · have h2 : ¬ a < a := UInt8.lt_irrefl a
      rw [if_neg h2, if_neg h2]
      exact less_cb ta tb h
theorem leq_no {a b : ByteArray} (h : kc b a < 0) : (Op.bytesLess a.toList b.toList || a.toList == b.toList) = false := by
  rw [ByteArray.toList_eq, ByteArray.toList_eq, Bool.or_eq_false_iff]
  have h1 := kc_swap b a
  constructor
  · rcases hb : Op.bytesLess a.data.toList b.data.toList with _ | _
    · rfl
    · have h2 : kc a b < 0 := less_cb _ _ hb
      omega
  · rw [beq_eq_false_iff_ne]
    intro e
    have e2 : a = b := show (⟨a.data⟩ : ByteArray) = ⟨b.data⟩ from congrArg ByteArray.mk (Array.ext' e)
    subst e2
    rw [kc_self] at h
    omega
theorem kc_empty {a : ByteArray} (h : 1 ≤ a.size) : kc ⟨#[]⟩ a < 0 := by
  unfold kc
  have h2 : a.data.toList.length = a.size := Array.length_toList
  generalize a.data.toList = l at h2
  rcases l with _ | ⟨x, t⟩
  · rw [List.length_nil] at h2; omega
  · show Lib.compareBytes [] (x :: t) < 0
    simp [Lib.compareBytes]
def lastK (l : List Rec) : Nat → ByteArray
  | 0 => ⟨#[]⟩
  | k + 1 => (l.getD k (⟨#[]⟩, ⟨#[]⟩)).1
theorem lastK_lt {l : List Rec} {k : Nat} {x : Rec} (hr : Ris l) (h1 : ∀ x, x ∈ l → 1 ≤ x.1.size) (hx : l[k]? = some x) : kc (lastK l k) x.1 < 0 := by
  rcases k with _ | k
  · exact kc_empty (h1 x (List.mem_of_getElem? hx))
  · have hk := (List.getElem?_eq_some_iff.1 hx).1
    have hy : l[k]? = some l[k] := List.getElem?_eq_getElem (by omega)
    have e : lastK l (k + 1) = l[k].1 := by
      show (l.getD k _).1 = _
      rw [List.getD_eq_getElem?_getD, hy]
      rfl
    rw [e]
    exact hr.lt (Nat.lt_succ_self k) hy hx
theorem lastK_next {l : List Rec} {k : Nat} {x : Rec} (hx : l[k]? = some x) : lastK l (k + 1) = x.1 := by
  show (l.getD k _).1 = _
  rw [List.getD_eq_getElem?_getD, hx]
  rfl
set_option maxRecDepth 100000 in
set_option maxHeartbeats 2000000 in
theorem rising_any (A : Option Addr) (n c : Nat) (l : List Rec) (w : World) (h : RSl w w.heap.size A n c l) (hr : Ris l) (h1 : ∀ x, x ∈ l → 1 ≤ x.1.size) :
    Calls Tryz.prog 80 #[.slice A n c] w fun e w' => e = .returned (.bool true) ∧ Below w.heap.size w w' := by
  have HS := hid h
  have HLt := hid (fun k x => lastK_lt (k := k) (x := x) hr h1)
  have hmx : n ≤ 9223372036854775807 := by have := h.cap; have := h.max; unfold maxLen at this; omega
  clear h hr h1
  go_enter Tryz.func80, Tryz.ntmps80
  go_wp2
  go_loopw [3, 8] (fun a b wr => ∃ k : Nat, k ≤ n ∧ a = .string (lastK l k) ∧ b = .int .i64 (k : Int) ∧ Below w.heap.size w wr) (fun _ b _ => n - (intOf b).toNat)
  case atStart => exact ⟨0, Nat.zero_le _, rfl, rfl, Below.refl _ _⟩
  case round =>
    obtain ⟨k, hk, rfl, rfl, hb⟩ := hrel
    have HB := hid hb
    by_cases hlt : k < n
    · obtain ⟨ad, x, rfl, hbl, hx, hc, hd⟩ := (HS.out.on hb).get hlt
      have hle := leq_no (HLt.out k x hx)
      have HNx := hid (lastK_next hx)
      have hki : (k : Int) < n := by omega
      have HB2 := hid (hb.alloc hb.size (.cells #[.string x.1, .string x.2] 52))
      clear hb hx
      go_wp2
      go_roundw
      case rel => exact ⟨k + 1, by omega, by rw [HNx.out], by go_num, HB2.out⟩
      case measure => simp [intOf]; omega
    · have hki : ¬ (k : Int) < n := by omega
      clear hb
      go_wp2
      go_ret
      exact ⟨rfl, HB.out⟩
set_option maxRecDepth 100000 in
set_option maxHeartbeats 1000000 in
theorem len64_1 (w : World) : Calls Tryz.prog 155 #[.int .u64 1] w fun e w' => e = .returned (.int .i64 1) ∧ w' = w := by
  have h8 : Lib.len8 1 = 1 := by decide
  go_enter Tryz.func155, Tryz.ntmps155
  go_wp2
  go_ret
  exact ⟨rfl, rfl⟩
set_option maxRecDepth 100000 in
set_option maxHeartbeats 1000000 in
theorem bitsLen_1 (w : World) : Calls Tryz.prog 120 #[.int .u64 1] w fun e w' => e = .returned (.int .i64 1) ∧ w' = w := by
  go_enter Tryz.func120, Tryz.ntmps120
  go_wp2_with fail
  refine (len64_1 _).mono ?_
  rintro e w1 ⟨rfl, rfl⟩
  go_wp2
  go_ret
  exact ⟨rfl, rfl⟩
set_option maxRecDepth 100000 in
set_option maxHeartbeats 1000000 in
theorem insSort_1 (v : Value) (w : World) : Calls Tryz.prog 146 #[v, .int .i64 0, .int .i64 1, .func (.func 79) #[] #[]] w fun e w' => e = .returned (.tuple #[]) ∧ w' = w := by
  go_enter Tryz.func146, Tryz.ntmps146
  go_wp2
  go_loopw [8] (fun iv wr => iv = .int .i64 1 ∧ wr = w) (fun _ _ => 0)
  case atStart => exact ⟨rfl, rfl⟩
  case round =>
    obtain ⟨rfl, rfl⟩ := hrel
    go_wp2
    go_end0
    exact ⟨rfl, rfl⟩
set_option maxRecDepth 100000 in
set_option maxHeartbeats 1000000 in
theorem pdq_1 (v : Value) (w : World) : Calls Tryz.prog 119 #[v, .int .i64 0, .int .i64 1, .int .i64 1, .func (.func 79) #[] #[]] w fun e w' => e = .returned (.tuple #[]) ∧ w' = w := by
  go_enter Tryz.func119, Tryz.ntmps119
  go_wp2
  go_loopw [1, 2, 3, 10, 11] (fun a b c d e wr => a = .int .i64 0 ∧ b = .int .i64 1 ∧ c = .int .i64 1 ∧ d = .bool true ∧ e = .bool true ∧ wr = w) (fun _ _ _ _ _ _ => 0)
  case atStart => exact ⟨rfl, rfl, rfl, rfl, rfl, rfl⟩
  case round =>
    obtain ⟨rfl, rfl, rfl, rfl, rfl, rfl⟩ := hrel
    go_wp2_with fail
    refine (insSort_1 _ _).mono ?_
    rintro e w1 ⟨rfl, rfl⟩
    go_wp2
    refine bodyPost_ret (results_none rfl _ _ _) rfl ?_
    exact ⟨rfl, rfl⟩
set_option maxRecDepth 100000 in
set_option maxHeartbeats 1000000 in
theorem sortFunc_1 (A : Option Addr) (c : Nat) (w : World) : Calls Tryz.prog 78 #[.slice A 1 c, .func (.func 79) #[] #[]] w fun e w' => e = .returned (.tuple #[]) ∧ w' = w := by
  go_enter Tryz.func78, Tryz.ntmps78
  go_wp2_with fail
  refine (bitsLen_1 _).mono ?_
  rintro e w1 ⟨rfl, rfl⟩
  go_wp2_with fail
  refine (pdq_1 _ _).mono ?_
  rintro e w1 ⟨rfl, rfl⟩
  go_wp2
  go_end0
  exact ⟨rfl, rfl⟩
end Go.Proofs.YtajcfhhnmjcmjaaGreatDoor
namespace Go.Proofs.YtajcfhhnmjcmjaaGreatDoor
open Go.RowKit

theorem Tryz.infoBt : (Tryz.prog.info? 29).map (fun i => (i.zero, i.size, i.bytes)) = some (some (.slice none 0 0), 1, 24) := by kernel_rfl
section
variable {Real : World → Nat → DSt → (Nat → Prop) → Prop} {PR : World → Nat → Nat → Nat → Nat → (Nat → Prop) → Prop} {S : Nat → Addr} {w0 w w' : World} {d g n q mk Q M : Nat} {T : Nat → Prop} {s s' : DSt} {P : PS} {ch : Chg} {cont : Cont} {c : Nat → List Int} {done : Nat → Bool} {K : (Nat → Bool) → Prop}
theorem fst_beside (D : DevOk Real) (O : PairOk Real PR) {G : Nat → Prop} (h : FSt Real PR S w0 d g n Q M P cont K T w) (ho : Only G w w') (hd : ∀ k, T k → ¬ G k) (hB : ∀ k, G k → w0.heap.size ≤ k) : FSt Real PR S w0 d g n Q M P cont K T w' := by
  obtain ⟨s, q, mk, c, done, hsh, r⟩ := h
  exact ⟨s, q, mk, c, done, hsh.beside D O ho hd hB, r⟩
theorem fst_on (D : DevOk Real) (O : PairOk Real PR) (h : FSt Real PR S w0 d g n Q M P cont K T w) (hb : Below w.heap.size w w') : FSt Real PR S w0 d g n Q M P cont K T w' :=
  fst_beside D O h (Only.of_below (F := fun _ => False) hb) (fun _ _ h => h) (fun _ h => h.elim)
theorem fst_lt (D : DevOk Real) (O : PairOk Real PR) (h : FSt Real PR S w0 d g n Q M P cont K T w) : ∀ k, T k → k < w.heap.size := by
  obtain ⟨s, q, mk, c, done, hsh, _⟩ := h
  exact hsh.lt D O
theorem fst_below (h : FSt Real PR S w0 d g n Q M P cont K T w) : Below w0.heap.size w0 w := by
  obtain ⟨s, q, mk, c, done, hsh, _⟩ := h
  exact hsh.below
theorem fst_pages (h : FSt Real PR S w0 d g n Q M P cont K T w) : Calls Tryz.prog 75 #[.pointer (some ⟨g, 0, none⟩)] w fun e w' => ∃ v, e = .returned v ∧ OwnN w' w.heap.size v (natsI (pagesTo P noChg 256)) ∧ Below w.heap.size w w' := by
  obtain ⟨s, q, mk, c, done, hsh, _⟩ := h
  exact sh_pages hsh
theorem fst_abort (D : DevOk Real) (O : PairOk Real PR) (h : FSt Real PR S w0 d g n Q M P cont K T w) : Calls Tryz.prog 38 #[.pointer (some ⟨g, 0, none⟩)] w fun e w' => e = .returned (.tuple #[]) ∧ ∃ T', FSt Real PR S w0 d g n Q M P cont K T' w' ∧ Only T w w' ∧ ∀ k, T' k → T k ∨ w.heap.size ≤ k := by
  obtain ⟨s, q, mk, c, done, hsh, r⟩ := h
  refine (sh_abort D O hsh).mono ?_
  rintro e w' ⟨rfl, T', h1, h2, h3⟩
  exact ⟨rfl, T', ⟨s, q, mk, c, done, h1, r⟩, h2, h3⟩
/-- the bytes of the one page, read -/
def HasO (Real : World → Nat → DSt → (Nat → Prop) → Prop) (PR : World → Nat → Nat → Nat → Nat → (Nat → Prop) → Prop) (S : Nat → Addr) (w0 w : World) (d g n Q M : Nat) (P : PS) (cont : Cont) (K : (Nat → Bool) → Prop) (T : Nat → Prop) (L : List Int) (hv : Value) (w' : World) : Prop :=
  ∃ T2 A k c, OwnV 29 w' w.heap.size hv [.slice A k c] ∧ Sl w' w'.heap.size A k c L ∧ FSt Real PR S w0 d g n Q M P cont K T2 w' ∧ Only T w w' ∧ ∀ k, T2 k → T k ∨ w.heap.size ≤ k
/-- leaves read: what they are made of lies above B, the store below -/
def LvsO (Real : World → Nat → DSt → (Nat → Prop) → Prop) (PR : World → Nat → Nat → Nat → Nat → (Nat → Prop) → Prop) (S : Nat → Addr) (w0 w : World) (d g n Q M : Nat) (P : PS) (cont : Cont) (K : (Nat → Bool) → Prop) (T : Nat → Prop) (l : List Rec) (e : Ending) (w' : World) : Prop :=
  ∃ v T2 B, e = .returned (.tuple #[v, .nilIface]) ∧ w.heap.size ≤ B ∧ LOwn w' B (fun z => B ≤ z) v [(0, l)] ∧ FSt Real PR S w0 d g n Q M P cont K T2 w' ∧ (∀ k, T2 k → k < B) ∧ Only T w w' ∧ ∀ k, T2 k → T k ∨ w.heap.size ≤ k
set_option maxRecDepth 100000 in
set_option maxHeartbeats 8000000 in
theorem leavesOf_one (D : DevOk Real) (O : PairOk Real PR) (h : FSt Real PR S w0 d g n Q M P cont K T w) (hQ : Q ≤ 800000) (hM : M ≤ 900) (hK : ∀ dn f, K dn → K (setD dn f false)) (l : List Rec) (hc : cont 0 = some (laidR l)) (hp : natsI (pagesTo P noChg 256) = [0]) (aR aE aS : Addr) (hE : Errs w0 aR aE aS) (hs : ∀ x, x ∈ l → 1 ≤ x.1.size ∧ x.1.size ≤ 40 ∧ x.2.size ≤ 120) (hr : Ris l) (h248 : (laidR l).length ≤ 248) (hn : l.length ≤ 10000) (hl : l ≠ []) :
    Calls Tryz.prog 46 #[.pointer (some ⟨g, 0, none⟩)] w (LvsO Real PR S w0 w d g n Q M P cont K T l) := by
  obtain ⟨i1, hi1, hy0, hy1, hy2⟩ := info_parts Tryz.infoBt
  obtain ⟨i2, hi2, hx0, hx1, hx2⟩ := info_parts Tryz.infoLeaf
  have HPg := hid (fst_pages h)
  have HFw := hid h
  have HTl := hid (fst_lt D O h)
  have HD := hid D
  have HO := hid O
  have HRd := hid (fun (W : World) (T1 : Nat → Prop) (h1 : FSt Real PR S w0 d g n Q M P cont K T1 W) => fst_read D O h1 hQ hM hK (by omega : 0 < 256) hc)
  have HEr := hid hE
  have HL := hid (And.intro hs (And.intro hr (And.intro h248 (And.intro hn hl))))
  rw [hp] at HPg
  clear D O h hK hE hs hr h248 hn hl hp hc
  go_enter Tryz.func46, Tryz.ntmps46
  go_wp2_with fail
  refine HPg.out.mono ?_
  rintro e w1 ⟨v, rfl, hown, hb⟩
  obtain ⟨A1, c1, rfl, hsn⟩ := hown.form
  obtain ⟨a1, rfl⟩ : ∃ a, A1 = some a := by
    cases A1 with
    | none => have h1 := hsn.nil rfl; have h2 := hsn.cap; simp at h2; omega
    | some a => exact ⟨a, rfl⟩
  obtain ⟨ha1, hcell⟩ := hsn.at_ a1 rfl (by simp)
  have hc0 := hcell 0 0 rfl
  rw [Addr.add_zero'] at hc0
  have HA1 := hid (show ¬ T a1.block ∧ a1.block < w1.heap.size from ⟨fun ht => by
    have h1 := HTl.out _ ht
    have h2 := (World.ownsRow.lt hown a1.block rfl).1
    omega, ha1⟩)
  have HC0 := hid hc0
  have HB := hid hb
  have HF1 := hid (fst_on HD.out HO.out HFw.out hb)
  clear hown hb hsn ha1 hcell hc0
  have h1l : ([0] : List Int).length = 1 := rfl
  rw [h1l]
  go_wp2
  go_loopw [5, 19] (fun hv iv wr => (iv = .int .i64 0 ∧ hv = .slice none 0 0 ∧ wr = w1) ∨ (iv = .int .i64 1 ∧ HasO Real PR S w0 w1 d g n Q M P cont K T (laidR l) hv wr)) (fun _ iv _ => 1 - (intOf iv).toNat)
  case atStart => exact .inl ⟨rfl, rfl, rfl⟩
  case round =>
    rcases hrel with ⟨rfl, rfl, rfl⟩ | ⟨rfl, ho⟩
    · have c0 := HC0.out
      go_wp2_with fail
      refine (HRd.out wr T HF1.out).mono ?_
      rintro e w2 ⟨⟨A2, k2, c2, rfl, hsl⟩, T2, hf2, ho2, ht2⟩
      have HS2 := hid hsl
      have HF2 := hid hf2
      have HO2 := hid ho2
      have HT2 := hid ht2
      have HN := hid (show World.ownsRow (w2.alloc (.cells #[.slice A2 k2 c2] 29)) wr.heap.size 29 1 (.slice none 0 0) 0 [] from World.ownsRow_nil _ _ _ _)
      have hsz := ho2.size
      clear hsl hf2 ho2 ht2
      go_wp2_with (at_builtin; refine wpList_append_own _ rfl _ _ 152 rfl wr.heap.size 29 i1 (.slice none 0 0) 1 24 Tryz.underlying152 hi1 hy0 hy1 hy2 rfl (by decide) _ _ _ rfl HN.out ⟨w2.heap.size, 0, none⟩ 1 1 [.slice A2 k2 c2] rfl rfl ?c1 ?c2 ?c3 ?c4 ?c5 ?_)
      case c1 => exact cell_one_new _ _ _
      case c2 => intro u hu; simp at hu; subst hu; rfl
      case c3 => unfold maxLen; omega
      case c4 => omega
      case c5 => simp; omega
      intro v' w3 hown' hgrow _
      have hbw : Below w2.heap.size w2 w3 := ((Below.refl _ _).alloc (Nat.le_refl _) _).grown hgrow (by simp) (fun q hq => by cases hq)
      have HH := hid (show HasO Real PR S w0 wr d g n Q M P cont K T (laidR l) v' w3 from ⟨T2, A2, k2, c2, by unfold OwnV; simpa using hown', HS2.out.on hbw, fst_on HD.out HO.out HF2.out hbw, HO2.out.then_below hbw, HT2.out⟩)
      clear hown' hgrow hbw c0
      go_wp2
      go_roundw
      case rel => exact .inr ⟨rfl, HH.out⟩
      case measure => simp [intOf]
    · obtain ⟨T2, A2, k2, c2, hov, hsl, hf2, ho2, ht2⟩ := ho
      have c0 : wr.cell? a1 = some (.int .i64 0) := (World.cell?_of_block (ho2.block _ HA1.out.2 HA1.out.1)).trans HC0.out
      obtain ⟨Ah, ch', rfl, hsv, _⟩ := hov.form
      obtain ⟨gh, rfl, _, hgl, _⟩ := OwnV.slot hov (by simp)
      have ch := OwnV.cell hov (k := 0) rfl
      have h1v : ([Value.slice A2 k2 c2] : List Value).length = 1 := rfl
      rw [h1v]
      have hk2 : k2 ≤ 248 := by have h1 := hsl.len; have h2 := HL.out.2.2.1; omega
      have HTo := hid (keepTold_any A2 k2 c2 l aR aE aS wr hsl hk2 (fun x hx => (HL.out.1 x hx).2) (HEr.out.below (fst_below hf2)))
      have HF2 := hid hf2
      have HO2 := hid ho2
      have HT2 := hid ht2
      have HTl2 := hid (fst_lt HD.out HO.out hf2)
      clear hov hsv hsl hf2 ho2 ht2 h1v
      go_wp2
      go_loopw [10, 39] (fun lv iv wx => (iv = .int .i64 0 ∧ lv = .slice none 0 0 ∧ wx = wr) ∨ (iv = .int .i64 1 ∧ LOwn wx wr.heap.size (fun z => wr.heap.size ≤ z) lv [(0, l)] ∧ Below wr.heap.size wr wx)) (fun _ iv _ => 1 - (intOf iv).toNat)
      case atStart => exact .inl ⟨rfl, rfl, rfl⟩
      case round =>
        rcases hrel with ⟨rfl, rfl, rfl⟩ | ⟨rfl, hlo, hb⟩
        · go_wp2_with fail
          refine HTo.out.mono ?_
          rintro e w2 ⟨v2, rfl, hr2, hb2⟩
          obtain ⟨A3, n3, c3, rfl, hs3⟩ := hr2.rsl
          obtain ⟨r3, rfl⟩ : ∃ a, A3 = some a := by
            cases A3 with
            | none => have h1 := hs3.nil rfl; have h2 := hs3.cap; have h3 := hs3.len; exact absurd (List.eq_nil_of_length_eq_zero (by omega)) HL.out.2.2.2.2
            | some a => exact ⟨a, rfl⟩
          have HR3 := hid hs3
          have HB2 := hid hb2
          have hr3 := hr2.lt r3.block rfl
          have HN := hid (show World.ownsRow (w2.alloc (.cells #[.int .i64 0, .slice (some r3) n3 c3] 85)) w2.heap.size 85 2 (.slice none 0 0) 0 [] from World.ownsRow_nil _ _ _ _)
          clear hr2 hb2 hs3 c0
          go_wp2_with (at_builtin; refine wpList_append_own _ rfl _ _ 57 rfl w2.heap.size 85 i2 (.agg #[.int .i64 0, .slice none 0 0]) 2 32 Tryz.underlying57 hi2 hx0 hx1 hx2 rfl (by decide) _ _ _ rfl HN.out ⟨w2.heap.size, 0, none⟩ 1 1 [.int .i64 0, .slice (some r3) n3 c3] rfl rfl ?c1 ?c2 ?c3 ?c4 ?c5 ?_)
          case c1 =>
            intro j u hu
            rcases j with _ | _ | j
            · simp at hu; subst hu; exact (Blk.new w2 _ _).cell 0
            · simp at hu; subst hu; exact (Blk.new w2 _ _).cell 1
            · simp at hu
          case c2 => intro u hu; simp at hu; rcases hu with rfl | rfl <;> rfl
          case c3 => unfold maxLen; omega
          case c4 => omega
          case c5 => simp
          intro v' w3 hown' hgrow _
          have hbw : Below w2.heap.size w2 w3 := ((Below.refl _ _).alloc (Nat.le_refl _) _).grown hgrow (by simp) (fun q hq => (World.ownsRow.lt HN.out q hq).1)
          have HO3 := hid (show LOwn w3 wr.heap.size (fun z => wr.heap.size ≤ z) v' [(0, l)] from by
            refine ⟨[(0, .slice (some r3) n3 c3)], rfl, ?_, fun j x hx => ?_⟩
            · have h1 : World.ownsRow w3 w2.heap.size 85 2 v' 1 [.int .i64 0, .slice (some r3) n3 c3] := by simpa using hown'
              rcases h1.2 with ⟨rfl, h0⟩ | ⟨g, cap, cur, rfl, hb, rest⟩
              · exact ⟨h1.1, .inl ⟨rfl, h0⟩⟩
              · exact ⟨h1.1, .inr ⟨g, cap, cur, rfl, by have := HB2.out.size; omega, rest⟩⟩
            · rcases j with _ | j
              · simp at hx
                subst hx
                exact ⟨r3, n3, c3, rfl, HR3.out.on hbw, hr3.1, fun g hg => by have := (World.ownsRow.lt hown' g hg).1; omega⟩
              · simp at hx)
          have HB3 := hid (HB2.out.trans (hbw.mono HB2.out.size))
          clear hown' hgrow hbw
          go_wp2
          go_roundw
          case rel => exact .inr ⟨rfl, HO3.out, HB3.out⟩
          case measure => simp [intOf]
        · obtain ⟨g2, cap, r, n', c', rfl, hf1, hq1⟩ := hlo.one
          have HLo := hid hlo
          have HLf := hid hf1
          have HBx := hid hb
          clear hlo hf1 hq1 hb c0 ch
          go_wp2_with fail
          refine (sortFunc_1 (some ⟨g2, 0, none⟩) cap _).mono ?_
          rintro e w2 ⟨rfl, rfl⟩
          have e1 : recsOf [((0 : Int), l)] = l := by unfold recsOf; simp
          have HRc := hid (recordsOf_any _ 1 cap [(0, l)] w2 HLf.out.lsl (by omega) (by rw [e1]; exact HL.out.2.2.2.1))
          rw [e1] at HRc
          go_wp2_with fail
          refine HRc.out.mono ?_
          rintro e w3 ⟨v3, rfl, hr3, hb3⟩
          obtain ⟨A3, n3, c3, rfl, hs3⟩ := hr3.rsl
          have HB3 := hid hb3
          have HRi := hid (rising_any A3 n3 c3 l w3 hs3 HL.out.2.1 (fun x hx => (HL.out.1 x hx).1))
          clear hr3 hb3 hs3
          go_wp2_with fail
          refine HRi.out.mono ?_
          rintro e w4 ⟨rfl, hb4⟩
          have hb24 : Below w2.heap.size w2 w4 := HB3.out.trans (hb4.mono HB3.out.size)
          have hbr4 : Below wr.heap.size wr w4 := HBx.out.trans (hb24.mono HBx.out.size)
          have HFin := hid (show LvsO Real PR S w0 w d g n Q M P cont K T l (.returned (.tuple #[.slice (some ⟨g2, 0, none⟩) 1 cap, .nilIface])) w4 from
            ⟨_, T2, wr.heap.size, rfl, Nat.le_trans HB.out.size HO2.out.size, HLo.out.on hb24, fst_on HD.out HO.out HF2.out hbr4, HTl2.out, ((Only.of_below HB.out).trans HO2.out (fun i hi => .inl hi)).then_below hbr4, fun k hk => (HT2.out k hk).imp id (fun h => by have := HB.out.size; omega)⟩)
          clear hb4 hb24 hbr4
          go_wp2
          go_ret2
          exact HFin.out
end
end Go.Proofs.YtajcfhhnmjcmjaaGreatDoor
