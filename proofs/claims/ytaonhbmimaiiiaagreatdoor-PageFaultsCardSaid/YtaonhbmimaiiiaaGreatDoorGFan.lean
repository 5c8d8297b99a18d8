/- Put together out of 4 texts. Package page's laws: an act told both, with bytes that are newer than the store. -/
import Derived.Test.YtaonhbmimaiiiaaGreatDoorGFam
namespace Go.Proofs.YtaonhbmimaiiiaaGreatDoor
open Go.RowKit Go.Maps

section
variable {Real : World → Nat → DSt → (Nat → Prop) → Prop} {PR : World → Nat → Nat → Nat → Nat → (Nat → Prop) → Prop} {S : Nat → Addr} {w0 w w' : World} {d g n q mk hb : Nat} {s : DSt} {P : PS} {ch : Chg} {cont : Cont} {M : Mdl}
set_option maxRecDepth 100000 in
set_option maxHeartbeats 16000000 in
theorem toldWriteT_any (D : DevOk Real) (O : PairOk Real PR) (hS : Sent w0 S) {T : Nat → Prop} (hsh : Shop Real PR S w0 w d g n q mk T s P ch) (hmd : MdAt w T hb M) (hw : w0.heap.size ≤ hb) (hag : Agr P ch cont M) (hfi : Fine (halN n) P cont) {p : Nat} (hp : p < 30) {B : Option Addr} {nB cB : Nat} {l : List Int} (hlen : l.length = nB) (hl : ∀ W, Only (fun k => T k ∨ k = hb) w W → Sl W W.heap.size B nB cB l) (h1 : 1 ≤ nB) (h2 : nB ≤ 248) (hy : Byt l) :
    Calls Tryz.prog 16 #[.pointer (some ⟨g, 0, none⟩), .pointer (some ⟨hb, 0, none⟩), .agg #[.int .i64 1, .int .i64 (p : Int), .slice B nB cB]] w fun e w' => e = .returned (.bool true) ∧ ShM Real PR S w0 w' d g n q mk hb s P (putC ch p l) cont (M.write p l) := by
  have HD := hid D
  have HO := hid O
  have HS := hid hS
  have HSh := hid hsh
  have HMd := hid hmd
  have HW := hid hw
  have HAg := hid (agr_write hag hp (l := l) (by rw [hlen]; exact h1))
  have HFi := hid hfi
  have HSl := hid hl
  have HY := hid hy
  have h1i : (1 : Int) ≤ (nB : Int) := by omega
  have h2i : (nB : Int) ≤ 248 := by omega
  have b1 : decide ((nB : Int) < 1) = false := by simp; omega
  have b2 : decide ((248 : Int) < (nB : Int)) = false := by simp; omega
  have HN := hid (And.intro h1 h2)
  have hpi : (p : Int) < 30 := by omega
  have HP := hid hp
  have HSlt0 := hid (show hb < w.heap.size from by obtain ⟨f, _, h, _⟩ := hmd; exact h.lt)
  clear D O hS hsh hmd hw hag hfi hl hlen hy h1 h2 hp
  go_enter Tryz.func16, Tryz.ntmps16
  go_upto_region 1 with fail
  obtain ⟨tb, htb⟩ : ∃ tb, w.heap.size = tb := ⟨_, rfl⟩
  have HTb := hid htb
  have HSlt := hid (show tb ≠ hb from fun e => by have := HSlt0.out; omega)
  have HB0 := hid ((Below.refl w.heap.size w).alloc (Nat.le_refl _) (.cells #[.int .i64 1, .int .i64 (p : Int), .slice B nB cB] 36))
  have hbk := Blk.new w 36 #[.int .i64 1, .int .i64 (p : Int), .slice B nB cB]
  generalize w.alloc (.cells #[.int .i64 1, .int .i64 (p : Int), .slice B nB cB] 36) = w1 at *
  rw [htb] at hbk ⊢
  have HBk := hid hbk
  have c0 := hbk.cell 0
  have c1 := hbk.cell 1
  have c2 := hbk.cell 2
  simp at c0 c1 c2
  have HSh1 := hid (HSh.out.on HD.out HO.out HB0.out)
  have HMd1 := hid (HMd.out.on HB0.out)
  clear htb hbk
  go_wp2_with fail
  refine (sh_write HD.out HO.out HSh1.out (i := p) (by have := HP.out; omega) (HSl.out _ (Only.of_below HB0.out)) HN.out.1 HN.out.2 HY.out).mono ?_
  rintro e w2 ⟨rfl, T2, hsh, ho, hT2⟩
  have hnT : ¬ T tb := fun h => by have := HSh.out.lt HD.out HO.out tb h; have := HTb.out; omega
  have HBk2 : Hid (Blk w2 tb 36 #[.int .i64 1, .int .i64 (p : Int), .slice B nB cB]) := hid ((ho.block tb HBk.out.lt hnT).trans HBk.out)
  have HSh2 := hid hsh
  have HOn2 := hid (((Only.of_below HB0.out : Only (fun k => T k ∨ k = hb) w w1)).trans ho (fun _ h => .inl (.inl h)))
  have HMd2 := hid (HMd1.out.only ho hT2)
  have HNt2 := hid (show ¬ T2 tb from fun h => (hT2 tb h).elim hnT (fun h => by have := HBk.out.lt; omega))
  clear hsh ho hT2 hnT c0 c1 c2
  go_wp2_with fail
  refine (is_any S 0 0 _ w2 (HS.out.on HSh2.out.below) .fine).mono ?_
  rintro e w3 ⟨rfl, hb3⟩
  have HSh3 := hid (HSh2.out.on HD.out HO.out hb3)
  have HOn3 := hid (HOn2.out.then_below hb3)
  obtain ⟨f, hf1, hf2, hf3⟩ := HMd2.out.on hb3
  have HMd3 := hid (And.intro hf1 (And.intro hf2 hf3))
  have hk3 := HBk2.out.on hb3
  have HBk3 := hid hk3
  have c0 := hk3.cell 0
  have c1 := hk3.cell 1
  have c2 := hk3.cell 2
  simp at c0 c1 c2
  have d0 : w3.cell? ⟨hb, 121 + p, none⟩ = some (.bool (M.tch p)) := by rw [blkF_cell hf2 (by have := HP.out; omega), hf3.tch p HP.out]
  have d1 : w3.cell? ⟨hb, 60 + p, none⟩ = some (.bool (M.on p)) := by rw [blkF_cell hf2 (by have := HP.out; omega), hf3.on p HP.out]
  have d2 := Blk.free hf2 (121 + p)
  clear hb3 hf1 hf2 hf3 hk3
  have d3 := Blk.free HMd3.out.2.1 (60 + p)
  rcases htc : M.tch p with _ | _
  all_goals
    rw [htc] at d0
    clear htc
    go_upto_region 15 with fail
    go_region
    go_upto_region 16 with fail
    go_region
    obtain ⟨W4, hW4⟩ : ∃ W4, ((w3.setCell ⟨hb, 121 + p, none⟩ (.bool true)).setCell ⟨hb, 60 + p, none⟩ (.bool true)).drew.drew = W4 := ⟨_, rfl⟩
    have hbk4 : Blk W4 hb 34 (fnL 151 (upF (upF f (121 + p) (.bool true)) (60 + p) (.bool true))).toArray := by rw [← hW4]; exact (blkF_up (blkF_up HMd3.out.2.1 _ _) _ _).drew.drew
    have ho4 : Only (fun k => k = hb) w3 W4 := by rw [← hW4]; exact (((Only.refl (fun k => k = hb) w3).put (p := ⟨hb, 121 + p, none⟩) rfl _).put (p := ⟨hb, 60 + p, none⟩) rfl _).drew.drew
    have HSh4 := hid (HSh3.out.beside HD.out HO.out ho4 (fun k hk e => HMd3.out.1 (e ▸ hk)) (fun k e => by rw [e]; exact HW.out))
    have HMd4 := hid (((HMd3.out.2.2.setTch p HP.out true).setOn p HP.out true).only (T' := fun k => T2 k ∨ k = hb) ho4 (fun k hk => .inl (.inr hk)) (fun k hk => .inl hk))
    have HBk4 := hid hbk4
    have hne : tb ≠ hb := fun e => HSlt.out e
    have HBt4 : Hid (Blk W4 tb 36 #[.int .i64 1, .int .i64 (p : Int), .slice B nB cB]) := hid ((ho4.block tb HBk3.out.lt hne).trans HBk3.out)
    have HSl4 := hid (HSl.out W4 (HOn3.out.trans ho4 (fun _ h => .inl (.inr h))))
    clear c0 c1 c2 d0 d1 d2 d3 hbk4 ho4 hne
    rw [hW4]
    clear hW4
    have c2 := HBt4.out.cell 2
    simp at c2
    have c2d : W4.drew.cell? ⟨tb, 2, none⟩ = some (.slice B nB cB) := c2
    have HC := hid (fun (w5 : World) (hb5 : Below W4.heap.size W4 w5) => (show w5.cell? ⟨tb, 2, none⟩ = some (.slice B nB cB) ∧ (∀ v, (w5.setCell ⟨hb, p, none⟩ v).cell? ⟨tb, 2, none⟩ = some (.slice B nB cB)) ∧ w5.cell? ⟨hb, p, none⟩ = some ((upF (upF f (121 + p) (.bool true)) (60 + p) (.bool true)) p) ∧ w5.frozen? ⟨hb, p, none⟩ = false from
      ⟨(Blk.below HBt4.out hb5 HBt4.out.lt).cell 2, fun v => ((Blk.below HBt4.out hb5 HBt4.out.lt).far (p := ⟨hb, p, none⟩) HSlt.out v).cell 2, blkF_cell (Blk.below HBk4.out hb5 HBk4.out.lt) (by have := HP.out; omega), Blk.free (Blk.below HBk4.out hb5 HBk4.out.lt) p⟩))
    go_upto_region 17 with fail
    go_region_held3 (fun w' => w'.cell? ⟨tb, 2, none⟩ = some (.slice B nB cB)) (first | exact c2d | exact e2 | exact e3 _)
      ((first | (go_at_call 54; refine (bytes_any B nB cB l _ HSl4.out.drew (by have := HN.out.2; omega)).mono ?_; rintro e w5 ⟨v5, rfl, ho5, hb5⟩; obtain ⟨A5, c5, rfl, hs5, ha5⟩ := ho5.form; have HO5 := hid (And.intro hs5 ha5); have HB5 := hid ((Below.refl W4.heap.size W4).drew.trans hb5); obtain ⟨e2, e3, g0, g1⟩ := HC.out w5 HB5.out; clear ho5 hs5 ha5 hb5)))
    have HF := hid (show ShM Real PR S w0 (w5.setCell ⟨hb, p, none⟩ (.slice A5 l.length c5)) d g n q mk hb s P (putC ch p l) cont (M.write p l) from by
      have hs5 := HSh4.out.on HD.out HO.out HB5.out
      have hb5 := Blk.below HBk4.out HB5.out HBk4.out.lt
      have ho5 : Only (fun k => k = hb) w5 (w5.setCell ⟨hb, p, none⟩ (.slice A5 l.length c5)) := (Only.refl (fun k => k = hb) w5).put (p := ⟨hb, p, none⟩) rfl _
      have hlt := HSh4.out.lt HD.out HO.out
      obtain ⟨z1, z2⟩ := ShM.beside HD.out HO.out hs5 HMd3.out.1 HW.out ho5 (blkF_up hb5 p (.slice A5 l.length c5)) ((HMd4.out.below HB5.out).setNow p HP.out HO5.out.1 (fun ad ha _ h => by
        have := HO5.out.2 ad ha
        rcases h with h | h
        · have := hlt _ h; simp at *; omega
        · have := HBk4.out.lt; simp at *; omega))
      exact ⟨T2, z1, z2, HW.out, HAg.out, HFi.out⟩)
    clear c2 c2d e2 e3 g0 g1
    go_wp2
    go_ret
    exact ⟨rfl, HF.out⟩
end
end Go.Proofs.YtaonhbmimaiiiaaGreatDoor
namespace Go.Proofs.YtaonhbmimaiiiaaGreatDoor
open Go.RowKit Go.Maps

theorem slF_blk {w : World} {g : Nat} {l : List Int} (h : Blk w g 5 (I l).toArray) (hl : l.length ≤ 1000) : Sl w w.heap.size (some ⟨g, 0, none⟩) l.length l.length l := by
  refine ⟨rfl, Nat.le_refl _, by unfold maxLen; omega, (fun h => by cases h), fun ad ha _ => ?_⟩
  cases ha
  refine ⟨h.lt, fun j x hx => ?_⟩
  have e : (⟨g, 0, none⟩ : Addr).add j = ⟨g, j, none⟩ := by unfold Addr.add; split <;> simp_all
  rw [e, h.cell j]
  simpa using I_get hx
section
variable {Real : World → Nat → DSt → (Nat → Prop) → Prop} {PR : World → Nat → Nat → Nat → Nat → (Nat → Prop) → Prop} {S : Nat → Addr} {w0 w w' : World} {d g n q mk hb : Nat} {s : DSt} {P : PS} {ch : Chg} {cont : Cont} {M : Mdl}
/-- a store being filled -/
def Bl (Real : World → Nat → DSt → (Nat → Prop) → Prop) (PR : World → Nat → Nat → Nat → Nat → (Nat → Prop) → Prop) (S : Nat → Addr) (w0 : World) (d g hb q : Nat) (any : Prop) (w : World) : Prop :=
  ∃ s P ch cont M, ShM Real PR S w0 w d g 400 q 7 hb s P ch cont M ∧ Keeps s 400 q P cont ∧ RtAll s 400 P ∧ (any → 0 < (keysOf ch).length ∨ 0 < P.epoch)
/-- behind a commit -/
def BlC (Real : World → Nat → DSt → (Nat → Prop) → Prop) (PR : World → Nat → Nat → Nat → Nat → (Nat → Prop) → Prop) (S : Nat → Addr) (w0 : World) (d g hb q : Nat) (w : World) : Prop :=
  ∃ s P cont M, ShM Real PR S w0 w d g 400 q 7 hb s P noChg cont M ∧ Keeps s 400 q P cont ∧ RtAll s 400 P ∧ 0 < P.epoch
theorem BlC.bl (h : BlC Real PR S w0 d g hb q w) (any : Prop) : Bl Real PR S w0 d g hb q any w := by
  obtain ⟨s, P, cont, M, h1, h2, h3, h4⟩ := h
  exact ⟨s, P, noChg, cont, M, h1, h2, h3, fun _ => .inr h4⟩
theorem Bl.more {any : Prop} {q' : Nat} (h : Bl Real PR S w0 d g hb q any w) (hq : q ≤ q') (hq' : q' ≤ 900000) : Bl Real PR S w0 d g hb q' any w := by
  obtain ⟨s, P, ch, cont, M, h1, h2, h3, h4⟩ := h
  exact ⟨s, P, ch, cont, M, h1.more hq hq', h2.more hq, h3, h4⟩
theorem Bl.below {any : Prop} (h : Bl Real PR S w0 d g hb q any w) : Below w0.heap.size w0 w := by
  obtain ⟨s, P, ch, cont, M, ⟨T, h1, _⟩, _⟩ := h
  exact h1.below
theorem h400 : halN 400 = 100 := by decide
theorem bl_commit (D : DevOk Real) (O : PairOk Real PR) (hS : Sent w0 S) {any : Prop} (ha : any) (h : Bl Real PR S w0 d g hb q any w) (hq : q ≤ 500000) {i : Int} {B : Option Addr} {nB cB : Nat} :
    Calls Tryz.prog 16 #[.pointer (some ⟨g, 0, none⟩), .pointer (some ⟨hb, 0, none⟩), .agg #[.int .i64 3, .int .i64 i, .slice B nB cB]] w fun e w' => e = .returned (.bool true) ∧ BlC Real PR S w0 d g hb (q + 1000) w' := by
  obtain ⟨s, P, ch, cont, M, h1, h2, h3, h4⟩ := h
  rcases Nat.eq_zero_or_pos (keysOf ch).length with h0 | h0
  · refine (toldCommitNone_any D O h1 h0).mono ?_
    rintro e w' ⟨rfl, h5⟩
    have hep : 0 < P.epoch := (h4 ha).elim (fun h => by omega) id
    exact ⟨rfl, s, P, cont, _, h5.more (by omega) (by omega), h2.more (by omega), h3, hep⟩
  · obtain ⟨T, hsh, ⟨f, hf1, hf2, hf3⟩, hw, hag, hfi⟩ := id h1
    have hfit : fitsB P ch (halN 400) = true := fits_room h2.fine (N := 30) (fun j hj => by rw [hag.cnt j]; exact if_neg (by omega)) (by have := h400; omega)
    have hrt := rtAll_commit h2 hsh.pd.1 (by omega) (by omega) hsh.chg.1 hsh.chg.2 hfit h3
    refine (toldCommitYes_any D O h1 hS.seven h2 h0 (by have := h400; omega) hq).mono ?_
    rintro e w' ⟨rfl, h5, h6⟩
    exact ⟨rfl, _, _, _, _, h5, h6, hrt, by rw [commitTo_epoch]; have := h2.ep0; omega⟩
theorem bl_write (D : DevOk Real) (O : PairOk Real PR) (hS : Sent w0 S) {any : Prop} (h : Bl Real PR S w0 d g hb q any w) (hbel : Below w.heap.size w w') {tb : Nat} (htb : w.heap.size ≤ tb) {x y : Int} (hx : 0 ≤ x ∧ x < 256) (hy : 0 ≤ y ∧ y < 256) (hblk : Blk w' tb 5 #[.int .u8 x, .int .u8 y, .int .u8 3]) {p : Int} (hp : 0 ≤ p ∧ p < 30) :
    Calls Tryz.prog 16 #[.pointer (some ⟨g, 0, none⟩), .pointer (some ⟨hb, 0, none⟩), .agg #[.int .i64 1, .int .i64 p, .slice (some ⟨tb, 0, none⟩) 3 3]] w' fun e w7 => e = .returned (.bool true) ∧ Bl Real PR S w0 d g hb q True w7 := by
  obtain ⟨s, P, ch, cont, M, ⟨T, hsh, hmd, hw, hag, hfi⟩, h2, h3, h4⟩ := h
  obtain ⟨p, rfl⟩ : ∃ k : Nat, p = (k : Int) := ⟨p.toNat, by omega⟩
  have hlt := hsh.lt D O
  have hhb : hb < w.heap.size := by obtain ⟨f, _, h, _⟩ := hmd; exact h.lt
  refine (toldWriteT_any D O hS (hsh.on D O hbel) (hmd.on hbel) hw hag hfi (p := p) (by omega) (nB := 3) (cB := 3) (B := some ⟨tb, 0, none⟩) (l := [x, y, 3]) rfl (fun W hW => ?_) (by omega) (by omega) (fun z hz => ?_)).mono ?_
  · have hn : ¬ (T tb ∨ tb = hb) := fun h => h.elim (fun h => by have := hlt tb h; omega) (fun h => by omega)
    exact slF_blk (l := [x, y, 3]) ((hW.block tb hblk.lt hn).trans hblk) (by simp)
  · simp only [List.mem_cons, List.not_mem_nil, or_false] at hz
    rcases hz with rfl | rfl | rfl <;> omega
  · rintro e w7 ⟨rfl, h5⟩
    refine ⟨rfl, s, P, _, cont, _, h5, h2, h3, fun _ => .inl ?_⟩
    have : p ∈ keysOf (putC ch p [x, y, 3]) := keysOf_mem.2 ⟨by omega, by simp [putC]⟩
    exact List.length_pos_of_mem this
end
section
variable {s : DSt} {n q : Nat} {P : PS} {cont : Cont} {c : Nat → List Int} {done : Nat → Bool}
/-- those in use: all apart, each with an item or a root -/
theorem used_at (hF : Fine (halN n) P cont) {a : Int} (ha : a ∈ P.used) : 0 ≤ a ∧ a < (halN n : Int) ∧ (a.toNat < 2 ∨ ∃ x l, Item P cont x l ∧ x.1.toNat = a.toNat) := by
  have h1 := (used_perm P).mem_iff.1 ha
  have hs := hF.apart.sound
  have h2 := hF.apart.two
  unfold PS.addrs at h1
  rcases List.mem_cons.1 h1 with rfl | h1
  · exact ⟨by omega, by omega, .inl (by decide)⟩
  · rcases List.mem_cons.1 h1 with rfl | h1
    · exact ⟨by omega, by omega, .inl (by decide)⟩
    · obtain ⟨x, hx, rfl⟩ := List.mem_map.1 h1
      obtain ⟨k1, k2⟩ := List.mem_filter.1 hx
      obtain ⟨i, hi⟩ := List.getElem?_of_mem k1
      have := hF.apart.at_ i x hi k2
      obtain ⟨l, hit⟩ := item_of hF hx
      exact ⟨by omega, by omega, .inr ⟨x, l, hit, rfl⟩⟩
theorem used_inj (hF : Fine (halN n) P cont) {i j : Nat} {a : Int} (hi : P.used[i]? = some a) (hj : P.used[j]? = some a) : i = j := by
  have hn : P.used.Nodup := (used_perm P).nodup_iff.2 hF.apart.sound.2
  obtain ⟨h1, e1⟩ := List.getElem?_eq_some_iff.1 hi
  obtain ⟨h2, e2⟩ := List.getElem?_eq_some_iff.1 hj
  exact (List.getElem_inj hn).1 (e1.trans e2.symm)
/-- mended all the way and flushed: none of those in use is faulted -/
theorem Fau.whole (h : Fau s n q P cont c done) (n0 : 300 ≤ n) (hd : ∀ j, done j = false) {a : Int} (ha : a ∈ P.used) : (fl s).faulted a = false ∧ (fl s).faulted (a + (halN n : Int)) = false := by
  obtain ⟨h0, h1, h2⟩ := used_at h.fine ha
  have hh := half_four n0
  obtain ⟨a, rfl⟩ : ∃ k : Nat, a = (k : Int) := ⟨a.toNat, by omega⟩
  have hf := h.flush
  rw [show (a : Int) + (halN n : Int) = ((a + halN n : Nat) : Int) from by omega]
  rcases h2 with h2 | ⟨x, l, hit, hxa⟩
  · have ha2 : a < 2 := by omega
    obtain ⟨r1, r2⟩ := (h.root a ha2).both (hd a)
    have t1 := (h.ok a a ha2 (.inl rfl)).1
    have t2 := (h.ok a (a + halN n) ha2 (.inr rfl)).1
    exact ⟨r1.flushed.sound r1.blkd t1.byt t1.len hf.up (by omega), r2.flushed.sound r2.blkd t2.byt t2.len hf.up (by omega)⟩
  · obtain ⟨r1, r2⟩ := (h.item x l hit).both (hd _)
    rw [hxa] at r1 r2
    have e : (a : Int).toNat = a := Int.toNat_natCast a
    rw [e] at r1 r2
    obtain ⟨_, _, k1, k2⟩ := hit.fine h.fine
    exact ⟨r1.flushed.sound r1.blkd k2 k1 hf.up (by omega), r2.flushed.sound r2.blkd k2 k1 hf.up (by omega)⟩
end
end Go.Proofs.YtaonhbmimaiiiaaGreatDoor
namespace Go.Proofs.YtaonhbmimaiiiaaGreatDoor
open Go.RowKit Go.Maps

theorem cnt_on_le (done : Nat → Bool) (f j : Nat) : cntTo (setD done f true) j ≤ cntTo done j + 1 := by
  by_cases hd : done f = true
  · have e0 : cntTo (setD done f true) j = cntTo done j := cnt_same j (fun i _ => by
      unfold setD
      by_cases e : i = f
      · rw [if_pos e, e, hd]
      · rw [if_neg e])
    omega
  · have hd' : done f = false := by simpa using hd
    by_cases hf : f < j
    · have h1 := cnt_off (done := setD done f true) (f := f) (if_pos rfl) j hf
      rw [cnt_same (done := done) (done' := setD (setD done f true) f false) j (fun i _ => by
        unfold setD
        by_cases e : i = f
        · rw [if_pos e, e, hd']
        · rw [if_neg e, if_neg e])] at h1
      omega
    · rw [cnt_same (done := done) (done' := setD done f true) j (fun i hi => if_neg (by omega))]
      omega
section
variable {Real : World → Nat → DSt → (Nat → Prop) → Prop} {PR : World → Nat → Nat → Nat → Nat → (Nat → Prop) → Prop} {S : Nat → Addr} {w0 w w' : World} {d g n q mk Q M hb db : Nat} {T : Nat → Prop} {s s' : DSt} {P : PS} {ch : Chg} {cont : Cont} {c : Nat → List Int} {done dn : Nat → Bool} {K K' : (Nat → Bool) → Prop} {Mm : Mdl}
/-- a store over a device with faults, none on those in use -/
def FZ (Real : World → Nat → DSt → (Nat → Prop) → Prop) (PR : World → Nat → Nat → Nat → Nat → (Nat → Prop) → Prop) (S : Nat → Addr) (w0 : World) (d g n Q M : Nat) (P : PS) (cont : Cont) (K : (Nat → Bool) → Prop) (T : Nat → Prop) (w : World) : Prop :=
  ∃ s q mk c done, Shop Real PR S w0 w d g n q mk T s P noChg ∧ Fau s n q P cont c done ∧ q + cntTo done (halN n) ≤ Q ∧ mk + cntTo done (halN n) ≤ M ∧ K done ∧ ∀ a, a ∈ P.used → s.faulted a = false ∧ s.faulted (a + (halN n : Int)) = false
theorem FZ.fst (h : FZ Real PR S w0 d g n Q M P cont K T w) : FSt Real PR S w0 d g n Q M P cont K T w := by
  obtain ⟨s, q, mk, c, done, h1, h2, h3, h4, h5, _⟩ := h
  exact ⟨s, q, mk, c, done, h1, h2, h3, h4, h5⟩
theorem FSt.turn {Q' M' : Nat} (h : FSt Real PR S w0 d g n Q M P cont K T w) (hQ : Q ≤ Q') (hM : M ≤ M') (hK : ∀ dn, K dn → K' dn) : FSt Real PR S w0 d g n Q' M' P cont K' T w := by
  obtain ⟨s, q, mk, c, done, h1, h2, h3, h4, h5⟩ := h
  exact ⟨s, q, mk, c, done, h1, h2, by omega, by omega, hK _ h5⟩
/-- it stands beside what is turned elsewhere -/
def Bes (St : (Nat → Prop) → World → Prop) (B : Nat) : Prop := ∀ T K w w', St T w → Only K w w' → (∀ k, T k → ¬ K k) → (∀ k, K k → B ≤ k) → St T w'
theorem bes_fst (D : DevOk Real) (O : PairOk Real PR) : Bes (FSt Real PR S w0 d g n Q M P cont K) w0.heap.size := fun T K' w w' h ho hd hB => by
  obtain ⟨s, q, mk, c, done, hsh, r⟩ := h
  exact ⟨s, q, mk, c, done, hsh.beside D O ho hd hB, r⟩
theorem bes_fz (D : DevOk Real) (O : PairOk Real PR) : Bes (FZ Real PR S w0 d g n Q M P cont K) w0.heap.size := fun T K' w w' h ho hd hB => by
  obtain ⟨s, q, mk, c, done, hsh, r⟩ := h
  exact ⟨s, q, mk, c, done, hsh.beside D O ho hd hB, r⟩
/-- store, model, row -/
def FA (St : (Nat → Prop) → World → Prop) (hb db : Nat) (dn : Nat → Bool) (Mm : Mdl) (w : World) : Prop :=
  ∃ T f, St T w ∧ ¬ T hb ∧ ¬ T db ∧ Blk w hb 34 (fnL 151 f).toArray ∧ MdOk w (fun k => (T k ∨ k = hb) ∨ k = db) f Mm ∧ Blk w db 53 (fnL 100 (fun i => .bool (dn i))).toArray
theorem FA.imp {St St' : (Nat → Prop) → World → Prop} (h : FA St hb db dn Mm w) (hi : ∀ T, St T w → St' T w) : FA St' hb db dn Mm w := by
  obtain ⟨T, f, h1, h2⟩ := h
  exact ⟨T, f, hi T h1, h2⟩
theorem FA.step {St' : (Nat → Prop) → World → Prop} {T T' : Nat → Prop} {f : Nat → Value} (h1 : ¬ T hb) (h2 : ¬ T db) (h3 : Blk w hb 34 (fnL 151 f).toArray) (h4 : MdOk w (fun k => (T k ∨ k = hb) ∨ k = db) f Mm) (h5 : Blk w db 53 (fnL 100 (fun i => .bool (dn i))).toArray) (hs : St' T' w') (ho : Only T w w') (hT : ∀ k, T' k → T k ∨ w.heap.size ≤ k) : FA St' hb db dn Mm w' := by
  refine ⟨T', f, hs, fun h => (hT _ h).elim h1 (fun h => by have := h3.lt; omega), fun h => (hT _ h).elim h2 (fun h => by have := h5.lt; omega), (ho.block hb h3.lt h1).trans h3, h4.only ho (fun k hk => .inl (.inl (.inl hk))) (fun k hk => ?_), (ho.block db h5.lt h2).trans h5⟩
  rcases hk with (hk | hk) | hk
  · exact (hT k hk).imp (fun h => .inl (.inl h)) id
  · exact .inl (.inl (.inr hk))
  · exact .inl (.inr hk)
theorem FA.call {St St' : (Nat → Prop) → World → Prop} {fn : Nat} {args : Array Value} {Pe : Ending → Prop} (h : FA St hb db dn Mm w) (hc : ∀ T, St T w → Calls Tryz.prog fn args w fun e w' => Pe e ∧ ∃ T', St' T' w' ∧ Only T w w' ∧ ∀ k, T' k → T k ∨ w.heap.size ≤ k) : Calls Tryz.prog fn args w fun e w' => Pe e ∧ FA St' hb db dn Mm w' := by
  obtain ⟨T, f, h0, h1, h2, h3, h4, h5⟩ := h
  refine (hc T h0).mono ?_
  rintro e w' ⟨he, T', k1, k2, k3⟩
  exact ⟨he, FA.step h1 h2 h3 h4 h5 k1 k2 k3⟩
theorem FA.on {St : (Nat → Prop) → World → Prop} {B : Nat} (hB : Bes St B) (h : FA St hb db dn Mm w) (hbl : Below w.heap.size w w') : FA St hb db dn Mm w' := by
  obtain ⟨T, f, h0, h1, h2, h3, h4, h5⟩ := h
  exact FA.step h1 h2 h3 h4 h5 (hB T (fun _ => False) w w' h0 (Only.of_below hbl) (fun _ _ h => h) (fun _ h => h.elim)) (Only.of_below hbl) (fun _ h => .inl h)
theorem FA.set {St : (Nat → Prop) → World → Prop} {B : Nat} (hB : Bes St B) (h : FA St hb db dn Mm w) (hdb : B ≤ db) (hne : db ≠ hb) (k : Nat) : FA St hb db (setD dn k true) Mm (w.setCell ⟨db, k, none⟩ (.bool true)) := by
  obtain ⟨T, f, h0, h1, h2, h3, h4, h5⟩ := h
  have ho : Only (fun i => i = db) w (w.setCell ⟨db, k, none⟩ (.bool true)) := (Only.refl (fun i => i = db) w).put (p := ⟨db, k, none⟩) rfl _
  refine ⟨T, f, hB T _ w _ h0 ho (fun i hi e => h2 (e ▸ hi)) (fun i e => by rw [e]; exact hdb), h1, h2, (ho.block hb h3.lt (fun e => hne e.symm)).trans h3, h4.only ho (fun i hi => .inl (.inr hi)) (fun i hi => .inl hi), ?_⟩
  have := blkF_up h5 k (.bool true)
  rw [show upF (fun i => Value.bool (dn i)) k (.bool true) = fun i => .bool (setD dn k true i) from by funext i; unfold upF setD; split <;> rfl] at this
  exact this
theorem FA.cell {St : (Nat → Prop) → World → Prop} (h : FA St hb db dn Mm w) {k : Nat} (hk : k < 100) : w.cell? ⟨db, k, none⟩ = some (.bool (dn k)) ∧ w.frozen? ⟨db, k, none⟩ = false := by
  obtain ⟨T, f, h0, h1, h2, h3, h4, h5⟩ := h
  exact ⟨blkF_cell h5 hk, Blk.free h5 k⟩
/-- model and store are alike -/
structure Alk (n : Nat) (P : PS) (cont : Cont) (Mm : Mdl) : Prop where
  fine : Fine (halN n) P cont
  ep : P.epoch = Mm.ep
  cnt : ∀ i, cont i = Mm.cont i
theorem fa_same (D : DevOk Real) (O : PairOk Real PR) (hS : Sent w0 S) (hQ : Q ≤ 800000) (hM : M ≤ 900) (hK : ∀ dn f, K dn → K (setD dn f false)) (ha : Alk n P cont Mm) (hbl : Below w0.heap.size w0 w) (h : FA (FSt Real PR S w0 d g n Q M P cont K) hb db dn Mm w) :
    Calls Tryz.prog 17 #[.pointer (some ⟨g, 0, none⟩), .pointer (some ⟨hb, 0, none⟩)] w fun e w' => e = .returned (.bool true) ∧ FA (FSt Real PR S w0 d g n Q M P cont K) hb db dn Mm w' := by
  obtain ⟨T, f, h0, h1, h2, h3, h4, h5⟩ := h
  refine (sameP_any (asks_fst D O hS hQ hM hK) hb f Mm T w h0 hbl.size h1 h3 (h4.only (K := fun _ => False) (Only.refl _ _) (fun _ h => h.elim) (fun k hk => .inl (.inl hk)))).mono ?_
  rintro e w' ⟨b, rfl, ⟨T', k1, k2, k3⟩, _, k4⟩
  have e1 : cont = Mm.cont := funext ha.cnt
  have hb1 := k4 (fun i _ => ha.cnt i) (by rw [pages_some ha.fine (ch := noChg) (cnt := cont) (noChg_cont _) (fun i hi => by rw [e1]; exact mcont_off hi)]) ha.ep
  rw [hb1]
  exact ⟨rfl, FA.step h1 h2 h3 h4 h5 k1 k2 k3⟩
/-- one side of a pair is faulted -/
theorem fst_fail (D : DevOk Real) (O : PairOk Real PR) (h : FSt Real PR S w0 d g n Q M P cont K T w) {f a : Nat} (hf : f < halN n) (ha : a = f ∨ a = f + halN n) (hd : ∀ dn, K dn → dn f = false) (hK : ∀ dn, K dn → K' (setD dn f true)) :
    Calls Tryz.prog 25 #[.pointer (some ⟨d, 0, none⟩), .int .i64 (a : Int)] w fun e w' => (∃ b, e = .returned (.bool b)) ∧ ∃ T', FSt Real PR S w0 d g n (Q + 1) (M + 1) P cont K' T' w' ∧ Only T w w' ∧ ∀ k, T' k → T k ∨ w.heap.size ≤ k := by
  obtain ⟨s, q, mk, c, done, h1, h2, h3, h4, h5⟩ := h
  have hh := half_four h1.pd.2.2.1
  have hfa := h2.fail hh.1 hf ha (hd _ h5)
  have hc := cnt_on_le done f (halN n)
  refine (sh_dev O h1 hfa.up h1.pd.2.1 (Pe := fun e => ∃ b, e = .returned (.bool b)) (fun F hr hok _ => (D.fail d s F a w hr hok).mono fun e w' hx => ⟨⟨_, hx.1⟩, hx.2⟩)).mono ?_
  rintro e w' ⟨he, T', k1, k2, k3⟩
  exact ⟨he, T', ⟨_, q, mk, c, _, k1, hfa, by omega, by omega, hK _ h5⟩, k2, k3⟩
theorem fst_spoil (D : DevOk Real) (O : PairOk Real PR) (h : FSt Real PR S w0 d g n Q M P cont K T w) {f a : Nat} (hf : f < halN n) (ha : a = f ∨ a = f + halN n) {at' : Int} {bits : Nat} (hb : bits < 4294967296) (hd : ∀ dn, K dn → dn f = false) (hK : ∀ dn, K dn → K' (setD dn f true)) :
    Calls Tryz.prog 26 #[.pointer (some ⟨d, 0, none⟩), .int .i64 (a : Int), .int .i64 at', .int .u32 (bits : Int)] w fun e w' => (∃ b, e = .returned (.bool b)) ∧ ∃ T', FSt Real PR S w0 d g n (Q + 1) (M + 1) P cont K' T' w' ∧ Only T w w' ∧ ∀ k, T' k → T k ∨ w.heap.size ≤ k := by
  obtain ⟨s, q, mk, c, done, h1, h2, h3, h4, h5⟩ := h
  have hh := half_four h1.pd.2.2.1
  have hfa := h2.spoil hh.1 hf ha (hd _ h5) (at' := at') hb
  have hc := cnt_on_le done f (halN n)
  refine (sh_dev O h1 hfa.up h1.pd.2.1 (Pe := fun e => ∃ b, e = .returned (.bool b)) (fun F hr hok _ => (D.spoil d s F a at' bits w hr hok hb).mono fun e w' hx => ⟨⟨_, hx.1⟩, hx.2⟩)).mono ?_
  rintro e w' ⟨he, T', k1, k2, k3⟩
  exact ⟨he, T', ⟨_, q, mk, c, _, k1, hfa, by omega, by omega, hK _ h5⟩, k2, k3⟩
/-- flushed, all of it mended -/
theorem fst_flush (D : DevOk Real) (O : PairOk Real PR) (hQ : Q ≤ 800000) (h : FSt Real PR S w0 d g n Q M P cont K T w) (hd : ∀ dn, K dn → ∀ j, dn j = false) :
    Calls Tryz.prog 28 #[.pointer (some ⟨d, 0, none⟩)] w fun e w' => e = .returned .nilIface ∧ ∃ T', FZ Real PR S w0 d g n (Q + 1) M P cont K T' w' ∧ Only T w w' ∧ ∀ k, T' k → T k ∨ w.heap.size ≤ k := by
  obtain ⟨s, q, mk, c, done, h1, h2, h3, h4, h5⟩ := h
  obtain ⟨he, hu⟩ := h2.up.flush
  have hsent : Sent5 w S := by
    obtain ⟨p, mm, m1, F, G, Dm, C, k1, _⟩ := h1
    exact k1.sent
  refine (sh_dev O h1 hu (by omega) (Pe := fun e => e = .returned .nilIface) (fun F hr hok _ => (D.flush S d s F w hsent hr hok).mono ?_)).mono ?_
  · rintro e w' ⟨⟨v, hv, rfl⟩, hupd⟩
    rw [he] at hv hupd
    exact ⟨by rw [hv.nil], hupd⟩
  · rintro e w' ⟨he, T', k1, k2, k3⟩
    exact ⟨he, T', ⟨_, q + 1, mk, c, _, k1, h2.flush, by omega, by omega, h5, fun a ha => h2.whole h1.pd.2.2.1 (hd _ h5) ha⟩, k2, k3⟩
theorem fz_faulted (D : DevOk Real) (h : FZ Real PR S w0 d g n Q M P cont K T w) {a b : Int} (ha : a ∈ P.used) (hb : b = a ∨ b = a + (halN n : Int)) :
    Calls Tryz.prog 30 #[.pointer (some ⟨d, 0, none⟩), .int .i64 b] w fun e w' => e = .returned (.bool false) ∧ Below w.heap.size w w' := by
  obtain ⟨s, q, mk, c, done, h1, h2, h3, h4, h5, h6⟩ := h
  obtain ⟨p, mm, m1, F, G, Dm, C, k1, _⟩ := h1
  refine (D.faulted d s F b w k1.real k1.ok).mono ?_
  rintro e w' ⟨rfl, k, rfl⟩
  have : s.faulted b = false := by
    rcases hb with hb | hb
    · rw [hb]; exact (h6 a ha).1
    · rw [hb]; exact (h6 a ha).2
  rw [this]
  exact ⟨rfl, below_drewN (Below.refl _ _) k⟩
theorem fz_used (h : FZ Real PR S w0 d g n Q M P cont K T w) : Calls Tryz.prog 29 #[.pointer (some ⟨g, 0, none⟩)] w fun e w' => ∃ v, e = .returned v ∧ OwnN w' w.heap.size v P.used ∧ Below w.heap.size w w' := by
  obtain ⟨s, q, mk, c, done, h1, _⟩ := h
  exact sh_used h1
end
end Go.Proofs.YtaonhbmimaiiiaaGreatDoor
namespace Go.Proofs.YtaonhbmimaiiiaaGreatDoor
open Go.RowKit Go.Maps

section
variable {Real : World → Nat → DSt → (Nat → Prop) → Prop} {PR : World → Nat → Nat → Nat → Nat → (Nat → Prop) → Prop} {S : Nat → Addr} {w0 w w' : World} {d g n q mk Q M hb db : Nat} {T : Nat → Prop} {s s' : DSt} {P : PS} {ch : Chg} {cont : Cont} {c : Nat → List Int} {done dn : Nat → Bool} {K K' : (Nat → Bool) → Prop} {Mm : Mdl}
theorem fa_open (D : DevOk Real) (O : PairOk Real PR) (hS : Sent w0 S) {Q2 M2 : Nat} (hQ : Q ≤ 600000) (hQ2 : Q + 10 ≤ Q2) (hM : 7 + halN n ≤ M2) (h : FA (FSt Real PR S w0 d g n Q M P cont K) hb db dn Mm w) :
    Calls Tryz.prog 15 #[.pointer (some ⟨d, 0, none⟩)] w fun e w' => ∃ g', e = .returned (.tuple #[.pointer (some ⟨g', 0, none⟩), .nilIface]) ∧ FA (FSt Real PR S w0 d g' n Q2 M2 P cont K) hb db dn Mm w' := by
  obtain ⟨T, f, ⟨s, q, mk, c, done, k1, k2, k3, k4, k5⟩, h1, h2, h3, h4, h5⟩ := h
  have hc := cnt_le done (halN n)
  refine (fst_open D O hS.seven k1 k2 (by omega) k5 (Q := Q2) (M := M2) (by omega) (by omega)).mono ?_
  rintro e w' ⟨g', T', rfl, z1, z2, z3⟩
  exact ⟨g', rfl, FA.step h1 h2 h3 h4 h5 z1 z2 z3⟩
/-- with a list of ints at hand -/
def Wl (St : (Nat → Prop) → World → Prop) (A : Option Addr) (k : Nat) (l : List Int) (T : Nat → Prop) (w : World) : Prop := St T w ∧ Sn w w.heap.size A l.length k l ∧ ∀ ad, A = some ad → ¬ T ad.block
theorem Wl.step {St St' : (Nat → Prop) → World → Prop} {A : Option Addr} {k : Nat} {l : List Int} {T T' : Nat → Prop} (h : Wl St A k l T w) (hl : 0 < l.length) (hs : St' T' w') (ho : Only T w w') (hT : ∀ k, T' k → T k ∨ w.heap.size ≤ k) : Wl St' A k l T' w' := by
  refine ⟨hs, Sn.onlyA h.2.1 ho h.2.2, fun ad ha hn => ?_⟩
  have := (h.2.1.at_ ad ha hl).1
  exact (hT _ hn).elim (h.2.2 ad ha) (fun h => by omega)
theorem FA.wcall {St St' : (Nat → Prop) → World → Prop} {A : Option Addr} {k : Nat} {l : List Int} {fn : Nat} {args : Array Value} {Pe : Ending → Prop} (hl : 0 < l.length) (h : FA (Wl St A k l) hb db dn Mm w) (hc : ∀ T, St T w → Calls Tryz.prog fn args w fun e w' => Pe e ∧ ∃ T', St' T' w' ∧ Only T w w' ∧ ∀ k, T' k → T k ∨ w.heap.size ≤ k) : Calls Tryz.prog fn args w fun e w' => Pe e ∧ FA (Wl St' A k l) hb db dn Mm w' :=
  h.call (fun T hw => (hc T hw.1).mono (by
    rintro e w' ⟨he, T', z1, z2, z3⟩
    exact ⟨he, T', hw.step hl z1 z2 z3, z2, z3⟩))
theorem FA.won {St : (Nat → Prop) → World → Prop} {A : Option Addr} {k B : Nat} {l : List Int} (hB : Bes St B) (hl : 0 < l.length) (h : FA (Wl St A k l) hb db dn Mm w) (hbl : Below w.heap.size w w') : FA (Wl St A k l) hb db dn Mm w' := by
  obtain ⟨T, f, h0, h1, h2, h3, h4, h5⟩ := h
  have ho : Only T w w' := Only.of_below hbl
  exact FA.step h1 h2 h3 h4 h5 (h0.step hl (hB T (fun _ => False) w w' h0.1 (Only.of_below hbl) (fun _ _ h => h) (fun _ h => h.elim)) ho (fun _ h => .inl h)) ho (fun _ h => .inl h)
theorem FA.row {St : (Nat → Prop) → World → Prop} {A : Option Addr} {k : Nat} {l : List Int} (h : FA (Wl St A k l) hb db dn Mm w) {j : Nat} (hj : j < l.length) : ∃ ad x, A = some ad ∧ l[j]? = some x ∧ w.cell? (ad.add j) = some (.int .i64 x) := by
  obtain ⟨T, f, h0, _⟩ := h
  obtain ⟨ad, x, h1, _, h2, h3⟩ := h0.2.1.get hj
  exact ⟨ad, x, h1, h2, h3⟩
theorem fa_used (D : DevOk Real) (O : PairOk Real PR) (h : FA (FZ Real PR S w0 d g n Q M P cont K) hb db dn Mm w) :
    Calls Tryz.prog 29 #[.pointer (some ⟨g, 0, none⟩)] w fun e w' => ∃ A k, e = .returned (.slice A P.used.length k) ∧ FA (Wl (FZ Real PR S w0 d g n Q M P cont K) A k P.used) hb db dn Mm w' := by
  obtain ⟨T, f, h0, h1, h2, h3, h4, h5⟩ := h
  have hlt : ∀ k, T k → k < w.heap.size := by
    obtain ⟨s, q, mk, c, done, k1, _⟩ := h0
    exact k1.lt D O
  refine (fz_used h0).mono ?_
  rintro e w' ⟨v, rfl, ho, hbl⟩
  have hob := ho
  obtain ⟨A, k, rfl, hs⟩ := ho.form
  have h0' : FZ Real PR S w0 d g n Q M P cont K T w' := bes_fz D O T (fun _ => False) w w' h0 (Only.of_below hbl) (fun _ _ h => h) (fun _ h => h.elim)
  refine ⟨A, k, rfl, FA.step h1 h2 h3 h4 h5 ⟨h0', hs, fun ad ha hT => ?_⟩ (Only.of_below hbl) (fun _ h => .inl h)⟩
  have := hlt _ hT
  subst ha
  have := (hob.lt ad.block rfl).1
  omega
theorem fa_faulted (D : DevOk Real) (O : PairOk Real PR) (hl : 0 < P.used.length) {A : Option Addr} {k : Nat} (h : FA (Wl (FZ Real PR S w0 d g n Q M P cont K) A k P.used) hb db dn Mm w) {a b : Int} (ha : a ∈ P.used) (hb' : b = a ∨ b = a + (halN n : Int)) :
    Calls Tryz.prog 30 #[.pointer (some ⟨d, 0, none⟩), .int .i64 b] w fun e w' => e = .returned (.bool false) ∧ FA (Wl (FZ Real PR S w0 d g n Q M P cont K) A k P.used) hb db dn Mm w' := by
  have h' := h
  obtain ⟨T, f, h0, _⟩ := h'
  refine (fz_faulted D h0.1 ha hb').mono ?_
  rintro e w' ⟨he, hbl⟩
  exact ⟨he, h.won (bes_fz D O) hl hbl⟩
end
end Go.Proofs.YtaonhbmimaiiiaaGreatDoor
