/- Put together out of 8 texts. Package page: what was changed: put, cleared. -/
import Derived.Test.YtkhdgacjgccnnaaGreatDoorGXau
namespace Go.Proofs.YtkhdgacjgccnnaaGreatDoor
open Go.RowKit Go.Maps
open Go.ChangeMaps (setBlock heap_setBlock_same heap_setBlock_other)

/-- clear, at the map of what was changed -/
theorem clearS_run {w : World} {b n : Nat} {D : DataW Unit} (h : w.ownsMap Tryz.prog 3 slR b n D) : ∃ w', (∀ ty, (Builtin.clear_ #[88] ty #[.map (some b)]).run Tryz.prog w = .ok (.tuple #[]) w') ∧ w'.ownsMap Tryz.prog 3 slR b 0 (.map []) ∧ w.grownBy w' (some b) := by
  obtain ⟨es, clock, hb, F, hs, hD⟩ := h
  refine ⟨setBlock w b (.map #[] clock), fun ty => ?_, ⟨#[], clock, heap_setBlock_same hb _, ⟨by simp, MapKept.stamped_empty clock, by simp⟩, Nat.le_refl _, rfl⟩, ⟨rfl, rfl, rfl, by simp [setBlock], fun i _ hi => heap_setBlock_other hb _ (fun e => hi (by rw [e]))⟩⟩
  simp [Builtin.clear_, run_underlying Tryz.underlying88, MapKept.run_getObj_map hb, MapKept.run_setObj_map _ hb, Result.andThen, setBlock]
def noChg : Chg := fun _ => none
theorem keys_none : keysOf noChg = [] := by
  unfold keysOf noChg
  rw [List.filter_eq_nil_iff]
  intro a _
  simp
theorem chd_none {w : World} {m : Nat} (h : w.ownsMap Tryz.prog 3 slR m 0 (.map [])) : Chd w m noChg (.map []) (fun _ => False) :=
  ⟨h, fun _ _ => rfl, fun _ _ _ h => (by cases h), fun z hz => (by simp [Maps.has] at hz), by rw [keys_none]; rfl, fun _ _ h => (by cases h), fun _ _ => rfl, fun _ h => h.elim⟩
def putC (ch : Chg) (p : Nat) (l : List Int) : Chg := fun q => if q = p then some l else ch q
theorem filt_put {p : Nat} {f g : Nat → Bool} (ho : ∀ q, q ≠ p → g q = f q) (hp : g p = true) : ∀ (L : List Nat), L.Nodup → (L.filter g).length = (L.filter f).length + (if p ∈ L ∧ f p = false then 1 else 0)
  | [], _ => by simp
  | a :: L, hn => by
    have ih := filt_put ho hp L (List.nodup_cons.1 hn).2
    have hna := (List.nodup_cons.1 hn).1
    by_cases ha : a = p
    · subst ha
      have e : (if a ∈ L ∧ f a = false then 1 else 0) = 0 := if_neg (fun h => hna h.1)
      rw [e] at ih
      cases hf : f a <;> simp [hp, hf, ih]
    · have e : (p ∈ a :: L ∧ f p = false) ↔ (p ∈ L ∧ f p = false) :=
        ⟨fun ⟨h1, h2⟩ => ⟨(List.mem_cons.1 h1).resolve_left (fun e => ha e.symm), h2⟩, fun ⟨h1, h2⟩ => ⟨List.mem_cons_of_mem _ h1, h2⟩⟩
      have e2 : (if p ∈ a :: L ∧ f p = false then 1 else 0) = if p ∈ L ∧ f p = false then 1 else 0 := by simp only [e]
      rw [e2, List.filter_cons, List.filter_cons, ho a ha]
      cases f a
      · simpa using ih
      · simp only [if_true, List.length_cons, ih]; omega
theorem keys_put (ch : Chg) {p : Nat} (hp : p < 256) (l : List Int) : (keysOf (putC ch p l)).length = if (ch p).isSome then (keysOf ch).length else (keysOf ch).length + 1 := by
  have h := filt_put (p := p) (f := fun q => (ch q).isSome) (g := fun q => (putC ch p l q).isSome) (fun q hq => by simp [putC, hq]) (by simp [putC]) (List.range 256) List.nodup_range
  unfold keysOf
  rw [h]
  have hm : p ∈ List.range 256 := List.mem_range.2 hp
  cases hc : (ch p).isSome
  · simp [hm]
  · simp
/-- one more was changed -/
theorem Chd.put {w w' : World} {m : Nat} {ch : Chg} {D : DataW Unit} {C : Nat → Prop} (h : Chd w m ch D C) {p : Nat} (hp : p < 256) {A : Option Addr} {n c : Nat} {l : List Int} (hA : ∀ a, A = some a → a.spot = none) (hsl : Sl w w.heap.size A n c l) (hAm : ∀ a, A = some a → a.block ≠ m ∧ a.block < w.heap.size) (hl : Byt l ∧ l.length ≤ 248)
    (hm : w'.ownsMap Tryz.prog 3 slR m (Maps.size D + 1) (D.put (kl p) (slD A n c))) (hg : w.grownBy w' (some m)) : Chd w' m (putC ch p l) (D.put (kl p) (slD A n c)) (fun k => C k ∨ ∃ a, A = some a ∧ a.block = k) := by
  have hI := h.map.isMap
  have hT := h.map.tidy law
  have hsz : Maps.size (D.put (kl p) (slD A n c)) = (keysOf (putC ch p l)).length := by
    rw [size_put hT, keys_put ch hp, h.has p hp, h.size]
  have hmv : ∀ {A' : Option Addr} {n' c' : Nat} {l' : List Int}, Sl w w.heap.size A' n' c' l' → (∀ a, A' = some a → a.block ≠ m ∧ a.block < w.heap.size) → Sl w' w'.heap.size A' n' c' l' := fun hs hn => sl_same hs hg.size (fun a ha => hg.block a.block (hn a ha).2 (fun e => (hn a ha).1 (by injection e)))
  refine ⟨?_, fun q hq => ?_, fun q l' hq hl' => ?_, fun z hz => ?_, hsz, fun q l' hl' => ?_, fun q hq => ?_, fun k hk => ?_⟩
  · obtain ⟨es, clock, hb, F, hs, hD⟩ := hm
    refine ⟨es, clock, hb, F, ?_, hD⟩
    rw [hD]
    simp [Maps.size, length_sorted]
  · by_cases e : q = p
    · subst e; simp [putC, has_put_same hI (kl_key q)]
    · rw [has_put_other (fun e' => e (kl_inj e')), h.has q hq]; simp [putC, e]
  · by_cases e : q = p
    · subst e
      have : l' = l := by simpa [putC] using hl'.symm
      subst this
      exact ⟨A, n, c, fun z => atKey_put_same hI (kl_key q) _ z, hA, hmv hsl hAm, fun a ha => .inr ⟨a, ha, rfl⟩⟩
    · have hl2 : ch q = some l' := by simpa [putC, e] using hl'
      obtain ⟨A', n', c', h1, h2, h3, h4⟩ := h.val q l' hq hl2
      exact ⟨A', n', c', fun z => (atKey_put_other (fun e' => e (kl_inj e')) _ z).trans (h1 z), h2, hmv h3 (fun a ha => ⟨(h.lt _ (h4 a ha)).2, (h.lt _ (h4 a ha)).1⟩), fun a ha => .inl (h4 a ha)⟩
  · by_cases e : z = kl p
    · exact ⟨p, hp, e⟩
    · rw [has_put_other e] at hz
      exact h.key z hz
  · by_cases e : q = p
    · subst e
      have : l' = l := by simpa [putC] using hl'.symm
      subst this
      exact hl
    · exact h.good q l' (by simpa [putC, e] using hl')
  · have e : q ≠ p := by omega
    simp [putC, e, h.off q hq]
  · have := hg.size
    rcases hk with hk | ⟨a, ha, rfl⟩
    · exact ⟨by have := (h.lt k hk).1; omega, (h.lt k hk).2⟩
    · exact ⟨by have := (hAm a ha).2; omega, (hAm a ha).1⟩
end Go.Proofs.YtkhdgacjgccnnaaGreatDoor
namespace Go.Proofs.YtkhdgacjgccnnaaGreatDoor
open Go.RowKit Go.Maps

section
variable {P : PS} {ch : Chg}
/-- the map alone has turned: the store's block is as it was -/
theorem Sto.chg {w w' : World} {g d p mm : Nat} {ch' : Chg} {D D' : DataW Unit} {C C' : Nat → Prop} (h : Sto w g d p mm P ch D C) (hg : w.grownBy w' (some mm)) (hc : Chd w' mm ch' D' C') (hC : ¬ C' g) : Sto w' g d p mm P ch' D' C' :=
  ⟨(hg.block g h.box.lt (fun e => h.ap.1 (by injection e))).trans h.box, hc, h.len, h.ap.1, hC⟩
set_option maxRecDepth 100000 in
theorem abort_any (g d p mm : Nat) (D : DataW Unit) (C : Nat → Prop) (w : World) (h : Sto w g d p mm P ch D C) :
    Calls Tryz.prog 30 #[.pointer (some ⟨g, 0, none⟩)] w fun e w' => e = .returned (.tuple #[]) ∧ Sto w' g d p mm P noChg (.map []) (fun _ => False) ∧ w.grownBy w' (some mm) := by
  have c0 := h.mapc
  obtain ⟨w1, hcl, hm1, hg1⟩ := clearS_run h.chd.map
  have HF := hid (show Sto w1 g d p mm P noChg (.map []) (fun _ => False) ∧ w.grownBy w1 (some mm) from ⟨h.chg hg1 (chd_none hm1) id, hg1⟩)
  clear h hm1 hg1
  go_enter Tryz.func30, Tryz.ntmps30
  go_wp2
  go_end0
  exact ⟨rfl, HF.out⟩
set_option maxRecDepth 100000 in
set_option maxHeartbeats 2000000 in
theorem dropNo_any (g d p mm i : Nat) (D : DataW Unit) (C : Nat → Prop) (w : World) (h : Sto w g d p mm P ch D C) (hi : i < 256) (ht : thereB P ch i = false) :
    Calls Tryz.prog 43 #[.pointer (some ⟨g, 0, none⟩), .int .i64 (i : Int)] w fun e w' => e = .returned .nilIface ∧ Below w.heap.size w w' := by
  have HS := hid h
  have hk : numOk (i : Int) = true := by unfold numOk; simp; omega
  clear h
  go_enter Tryz.func43, Tryz.ntmps43
  go_wp2_with fail
  refine (isNumber_any (i : Int) _).mono ?_
  rw [hk]
  rintro e w1 ⟨rfl, rfl⟩
  go_wp2_with fail
  refine (pgThere_any g d p mm P ch D C i _ HS.out hi).mono ?_
  rw [ht]
  rintro e w2 ⟨rfl, hb⟩
  have HB := hid hb
  clear hb
  go_wp2
  go_ret
  exact ⟨rfl, HB.out⟩
set_option maxRecDepth 100000 in
set_option maxHeartbeats 2000000 in
theorem dropYes_any (g d p mm i : Nat) (D : DataW Unit) (C : Nat → Prop) (w : World) (h : Sto w g d p mm P ch D C) (hi : i < 256) (ht : thereB P ch i = true) :
    Calls Tryz.prog 43 #[.pointer (some ⟨g, 0, none⟩), .int .i64 (i : Int)] w fun e w' => e = .returned .nilIface ∧ Sto w' g d p mm P (putC ch i []) (D.put (kl i) (slD none 0 0)) C ∧ ∃ w1, Below w.heap.size w w1 ∧ w1.grownBy w' (some mm) := by
  have HS := hid h
  have hk : numOk (i : Int) = true := by unfold numOk; simp; omega
  clear h
  go_enter Tryz.func43, Tryz.ntmps43
  go_wp2_with fail
  refine (isNumber_any (i : Int) _).mono ?_
  rw [hk]
  rintro e w1 ⟨rfl, rfl⟩
  go_wp2_with fail
  refine (pgThere_any g d p mm P ch D C i _ HS.out hi).mono ?_
  rw [ht]
  rintro e w2 ⟨rfl, hb⟩
  have HB := hid hb
  have hs2 := HS.out.below hb
  have HS2 := hid hs2
  have c0 := hs2.mapc
  have HKy := hid (key_of (i := i) (by omega))
  have HMp := hid hs2.chd.map
  have HMl := hid (show Maps.size D < maxLen from by rw [hs2.chd.size]; have := keysOf_le ch; unfold maxLen; omega)
  clear hb hs2
  go_wp2_with (at_mapUpdate; refine wpList_mapUpdate_own _ rfl _ _ _ 88 rfl 3 29 law Tryz.underlying88 slR mm (Maps.size D) D rfl HMp.out HMl.out _ _ _ rfl rfl HKy.out (slD none 0 0) [] (slR_nil 0 0) ?_)
  intro w3 hm3 hg3
  have hc3 := HS2.out.chd.put hi (A := none) (n := 0) (c := 0) (l := []) (fun _ h => (by cases h)) ⟨rfl, Nat.le_refl _, by unfold maxLen; omega, fun _ => rfl, fun _ h => (by cases h)⟩ (fun _ h => (by cases h)) ⟨(fun _ h => by cases h), Nat.zero_le _⟩ hm3 hg3
  have hcC : (fun k => C k ∨ ∃ a : Addr, (none : Option Addr) = some a ∧ a.block = k) = C := by
    funext k
    exact propext ⟨fun h => h.elim id (fun ⟨_, h2, _⟩ => by cases h2), .inl⟩
  rw [hcC] at hc3
  have HF := hid (show Sto w3 g d p mm P (putC ch i []) (D.put (kl i) (slD none 0 0)) C from HS2.out.chg hg3 hc3 HS2.out.ap.2)
  have HG := hid hg3
  clear hm3 hg3 hc3 hcC
  go_wp2
  go_ret
  exact ⟨rfl, HF.out, w2, HB.out, HG.out⟩
end
end Go.Proofs.YtkhdgacjgccnnaaGreatDoor
namespace Go.Proofs.YtkhdgacjgccnnaaGreatDoor
open Go.RowKit Go.Maps

theorem own_someB {w : World} {B : Nat} {v : Value} {l : List Int} {n : Nat} (h : Own w B v l) (hn : l.length = n) (h0 : 1 ≤ n) : ∃ g cap, v = .slice (some ⟨g, 0, none⟩) n cap ∧ B ≤ g ∧ Sl w w.heap.size (some ⟨g, 0, none⟩) n cap l := by
  subst hn
  obtain ⟨A, c, rfl, hs, _⟩ := h.form
  have h' := h
  rcases h'.2 with ⟨e, _⟩ | ⟨g, cap, cur, e, hb, hg, _⟩
  · have e1 : l.length = 0 := by injection e
    omega
  · cases e
    exact ⟨g, _, rfl, hb, hs⟩
section
variable {P : PS} {ch : Chg}
set_option maxRecDepth 100000 in
set_option maxHeartbeats 4000000 in
theorem writeS_any (g d p mm i : Nat) (D : DataW Unit) (C : Nat → Prop) (A : Option Addr) (n c : Nat) (l : List Int) (w : World) (h : Sto w g d p mm P ch D C) (hi : i < 256) (hl : Sl w w.heap.size A n c l) (h1 : 1 ≤ n) (h2 : n ≤ 248) (hy : Byt l) :
    Calls Tryz.prog 44 #[.pointer (some ⟨g, 0, none⟩), .int .i64 (i : Int), .slice A n c] w fun e w' => e = .returned .nilIface ∧ ∃ b c', w.heap.size ≤ b ∧ Sto w' g d p mm P (putC ch i l) (D.put (kl i) (slD (some ⟨b, 0, none⟩) n c')) (fun k => C k ∨ ∃ a, (some ⟨b, 0, none⟩ : Option Addr) = some a ∧ a.block = k) ∧ w.grownBy w' (some mm) := by
  have HS := hid h
  have hk : numOk (i : Int) = true := by unfold numOk; simp; omega
  have h1i : (1 : Int) ≤ n := by omega
  have h2i : (n : Int) ≤ 248 := by omega
  have hdr : Below w.heap.size w w.drew := (Below.refl _ _).drew
  have HLl := hid (show l.length = n from hl.len)
  have HY := hid hy
  have HCl := hid (cloned_any A n c l w.drew (hl.on hdr) (by omega))
  have HUp := hid (fun (w2 : World) (b c' : Nat) (hb : Below w.drew.heap.size w.drew w2) (hs : Sl w2 w2.heap.size (some ⟨b, 0, none⟩) n c' l) (hbl : w.drew.heap.size ≤ b) => (show ∃ w3, (Instr.mapUpdate 88 (.map (some mm)) (.int .i64 (i : Int)) (.slice (some ⟨b, 0, none⟩) n c')).run Tryz.prog w2 = .ok () w3 ∧ w3.cell? ⟨g, 529, none⟩ = some (.map (some mm)) ∧ Sto w3 g d p mm P (putC ch i l) (D.put (kl i) (slD (some ⟨b, 0, none⟩) n c')) (fun k => C k ∨ ∃ a, (some ⟨b, 0, none⟩ : Option Addr) = some a ∧ a.block = k) ∧ w.grownBy w3 (some mm) from by
    have hs2 := HS.out.below (hdr.trans (hb.mono hdr.size))
    have hbb := (hs.at_ _ rfl (by omega)).1
    have hsz := hdr.size
    obtain ⟨w3, r1, r2, r3⟩ := hs2.chd.map.store law Tryz.underlying88 (by rw [hs2.chd.size]; have := keysOf_le ch; unfold maxLen; omega) (key_of (i := i) (by omega)) (slR_mk b 0 n c')
    have hg3 := r3.grown
    have hlm := HS.out.chd.map.lt
    have hlg := HS.out.box.lt
    have hc3 := hs2.chd.put hi (A := some ⟨b, 0, none⟩) (n := n) (c := c') (l := l) (fun a ha => by cases ha; rfl) hs (fun a ha => by cases ha; exact ⟨by show b ≠ mm; omega, hbb⟩) ⟨HY.out, by rw [HLl.out]; omega⟩ r2 hg3
    have hst3 := hs2.chg hg3 hc3 (fun hk => by
      rcases hk with hk | ⟨a, ha, hk⟩
      · exact HS.out.ap.2 hk
      · cases ha
        have e : b = g := hk
        omega)
    exact ⟨w3, r1, hst3.mapc, hst3, only_trans (only_below (hdr.trans (hb.mono hdr.size)) _) hg3⟩))
  have HMc := hid (fun (w2 : World) (hb : Below w.drew.heap.size w.drew w2) => (HS.out.below (hdr.trans (hb.mono hdr.size))).mapc)
  have k0 := HMc.out _ (Below.refl _ _)
  clear h hl hdr
  go_enter Tryz.func44, Tryz.ntmps44
  go_wp2_with fail
  refine (isNumber_any (i : Int) _).mono ?_
  rw [hk]
  rintro e w1 ⟨rfl, rfl⟩
  go_upto_region 5 with fail
  go_region_held3 (fun w' => w'.cell? ⟨g, 529, none⟩ = some (.map (some mm))) (first | exact k0 | exact k2 | exact k3) (first | (go_at_call 79; refine HCl.out.mono ?_; rintro e w2 ⟨v, rfl, hown, hb2, _⟩; have k2 := HMc.out w2 hb2; obtain ⟨b, c', rfl, hbl, hs2⟩ := own_someB hown HLl.out h1; obtain ⟨w3, hrun, k3, hst3, hg3⟩ := HUp.out w2 b c' hb2 hs2 hbl; have HF := hid (show w.heap.size ≤ b ∧ Sto w3 g d p mm P (putC ch i l) (D.put (kl i) (slD (some ⟨b, 0, none⟩) n c')) (fun k => C k ∨ ∃ a, (some ⟨b, 0, none⟩ : Option Addr) = some a ∧ a.block = k) ∧ w.grownBy w3 (some mm) from ⟨hbl, hst3, hg3⟩); clear hown hb2 hbl hs2 hst3 hg3))
  go_wp2
  go_ret
  exact ⟨rfl, b, c', HF.out⟩
end
end Go.Proofs.YtkhdgacjgccnnaaGreatDoor
namespace Go.Proofs.YtkhdgacjgccnnaaGreatDoor
open Go.RowKit Go.Maps

section
variable {P : PS} {ch : Chg}
variable {Real : World → Nat → DSt → (Nat → Prop) → Prop} {PR : World → Nat → Nat → Nat → Nat → (Nat → Prop) → Prop}
theorem Stepped.then_ (DD : DevOk Real) (O : PairOk Real PR) {S : Nat → Addr} {w0 wa w w' wb : World} {d p n m q : Nat} {s : DSt} {F G : Nat → Prop} {Q Q' : (Nat → Prop) → (Nat → Prop) → Prop} (h : Stepped Real PR S w0 w d p s n m q F G Q w') (ha : Below wa.heap.size wa w) (hb : Below w'.heap.size w' wb) (hQ : ∀ F' G', Q F' G' → Q' F' G') : Stepped Real PR S w0 wa d p s n m q F G Q' wb := by
  obtain ⟨F', G', h1, h2, h3, h4, h5⟩ := h
  have hs := ha.size
  exact ⟨F', G', h1.on DD O hb, ((Only.of_below ha).trans h2 (fun i hi => .inl hi)).then_below hb, fun k hk => (h3 k hk).imp id (fun h => h.imp id (fun h => by omega)), fun k hk => (h4 k hk).imp id (fun h => h.imp id (fun h => by omega)), hQ F' G' h5⟩
end
end Go.Proofs.YtkhdgacjgccnnaaGreatDoor
namespace Go.Proofs.YtkhdgacjgccnnaaGreatDoor
open Go.RowKit

/-- all 0s -/
def zeroB (l : List Int) : Bool := l.all fun x => x == 0
theorem notZero_any (x : Int) (h0 : 0 ≤ x) (h1 : x < 256) (w : World) : Calls Tryz.prog 106 #[.int .u8 x] w fun e w' => e = .returned (.bool (!(x == 0))) ∧ w' = w := by
  by_cases hx : x = 0
  · subst hx
    go_enter Tryz.func106, Tryz.ntmps106
    go_wp2
    go_ret
    exact ⟨rfl, rfl⟩
  · have e : (x == 0) = false := by simpa using hx
    rw [e]
    go_enter Tryz.func106, Tryz.ntmps106
    go_wp2
    go_ret
    exact ⟨by simp [hx], rfl⟩
def IdxZ (l : List Int) (r : Int) : Prop := (r = -1 ∧ zeroB l = true) ∨ (0 ≤ r ∧ zeroB l = false)
theorem zeroB_no {l : List Int} {k : Nat} {x : Int} (hx : l[k]? = some x) (h : (x == 0) = false) : zeroB l = false := by
  unfold zeroB
  rw [List.all_eq_false]
  exact ⟨x, List.mem_of_getElem? hx, by rw [h]; simp⟩
set_option maxRecDepth 100000 in
set_option maxHeartbeats 2000000 in
theorem indexZ_any (A : Option Addr) (n c : Nat) (l : List Int) (w : World) (h : Sl w w.heap.size A n c l) (hy : Byt l) :
    Calls Tryz.prog 136 #[.slice A n c, .func (.func 106) #[] #[]] w fun e w' => ∃ r, e = .returned (.int .i64 r) ∧ IdxZ l r ∧ Below w.heap.size w w' := by
  have HS := hid h
  have HY := hid hy
  have hmx := h.max
  have hcp := h.cap
  unfold maxLen at hmx
  have hn63 : (n : Int) ≤ 9223372036854775807 := by omega
  clear h hy hmx hcp
  go_enter Tryz.func136, Tryz.ntmps136
  go_wp2
  go_loopw [8] (fun i wr => ∃ k : Nat, k ≤ n ∧ i = .int .i64 (k : Int) ∧ (∀ y, y ∈ l.take k → y = 0) ∧ Below w.heap.size w wr) (fun i _ => n - (intOf i).toNat)
  case atStart => exact ⟨0, Nat.zero_le _, rfl, fun y hy => by simp at hy, Below.refl _ _⟩
  case round =>
    obtain ⟨k, hk, rfl, hall, hb⟩ := hrel
    have HA := hid hall
    have HB := hid hb
    clear hall
    by_cases hlt : k < n
    · obtain ⟨ad, x, rfl, hbl, hx, c0⟩ := (HS.out.on hb).get hlt
      have HX := hid hx
      have hkn : (k : Int) < n := by omega
      have hbt := HY.out x (List.mem_of_getElem? hx)
      obtain ⟨b, hpb⟩ : ∃ b, (x == 0) = b := ⟨_, rfl⟩
      have HPb := hid hpb
      clear hx hb hbl hpb
      go_wp2_with fail
      refine (notZero_any x hbt.1 (by have := hbt.2; omega) _).mono ?_
      rw [HPb.out]
      rintro e w1 ⟨rfl, rfl⟩
      cases b
      · have HZ := hid (zeroB_no HX.out HPb.out)
        go_wp2
        go_ret
        exact ⟨_, rfl, .inr ⟨by omega, HZ.out⟩, HB.out⟩
      · have HN := hid (show ∀ y, y ∈ l.take (k + 1) → y = 0 from fun y hy => by
          rw [List.take_add_one, HX.out, List.mem_append] at hy
          rcases hy with hy | hy
          · exact HA.out y hy
          · have e : y = x := by simpa using hy
            rw [e]; simpa using HPb.out)
        go_wp2
        go_roundw
        case rel => exact ⟨k + 1, by omega, by go_num, HN.out, HB.out⟩
        case measure => simp [intOf]; omega
    · have hnlt : decide (k < n) = false := by simpa using hlt
      have HZ := hid (show zeroB l = true from by
        unfold zeroB
        rw [List.all_eq_true]
        intro y hy
        have h1 := HA.out y (by rw [List.take_of_length_le (by rw [HS.out.len]; omega)]; exact hy)
        rw [h1]; rfl)
      go_wp2
      go_ret
      exact ⟨_, rfl, .inl ⟨rfl, HZ.out⟩, HB.out⟩
set_option maxRecDepth 100000 in
theorem containsZ_any (A : Option Addr) (n c : Nat) (l : List Int) (w : World) (h : Sl w w.heap.size A n c l) (hy : Byt l) :
    Calls Tryz.prog 105 #[.slice A n c, .func (.func 106) #[] #[]] w fun e w' => e = .returned (.bool (!zeroB l)) ∧ Below w.heap.size w w' := by
  have HS := hid h
  clear h
  go_enter Tryz.func105, Tryz.ntmps105
  go_wp2_with fail
  refine (indexZ_any A n c l _ HS.out hy).mono ?_
  rintro e w1 ⟨r, rfl, hr, hb⟩
  have HB := hid hb
  rcases hr with ⟨rfl, hz⟩ | ⟨h0, hz⟩
  · have HZ := hid hz
    clear hb hz
    go_wp2
    go_ret
    exact ⟨by rw [HZ.out]; rfl, HB.out⟩
  · have HZ := hid hz
    have hd : decide ((0 : Int) ≤ r) = true := by simpa using h0
    clear hb hz
    go_wp2
    go_ret
    exact ⟨by rw [HZ.out]; first | rfl | simp [h0], HB.out⟩
set_option maxRecDepth 100000 in
theorem blank_any (A : Option Addr) (n c : Nat) (l : List Int) (w : World) (h : Sl w w.heap.size A n c l) (hy : Byt l) :
    Calls Tryz.prog 66 #[.slice A n c] w fun e w' => e = .returned (.bool (zeroB l)) ∧ Below w.heap.size w w' := by
  have HS := hid h
  clear h
  go_enter Tryz.func66, Tryz.ntmps66
  go_wp2_with fail
  refine (containsZ_any A n c l _ HS.out hy).mono ?_
  obtain ⟨b, hb⟩ : ∃ b, zeroB l = b := ⟨_, rfl⟩
  have HBq := hid hb
  rw [hb]
  rintro e w1 ⟨rfl, hb1⟩
  have HB := hid hb1
  clear hb1 hb
  cases b
  all_goals
    go_wp2
    go_ret
    exact ⟨by rw [HBq.out]; rfl, HB.out⟩
end Go.Proofs.YtkhdgacjgccnnaaGreatDoor
namespace Go.Proofs.YtkhdgacjgccnnaaGreatDoor
open Go.RowKit

set_option maxRecDepth 100000 in
set_option maxHeartbeats 2000000 in
theorem places_any (B H i : Int) (w : World) (hg : Gm B H) :
    Calls Tryz.prog 63 #[gv B H, .int .i64 i] w fun e w' => e = .returned (.agg #[.int .i64 i, .int .i64 (prt H i)]) ∧ Below w.heap.size w w' := by
  have HG := hid hg
  obtain ⟨W1, hW1⟩ : ∃ W1, ((w.alloc (.cells #[.int .i64 B, .int .i64 H] 125)).alloc (.cells #[.int .i64 0, .int .i64 0] 140)) = W1 := ⟨_, rfl⟩
  have hz : (w.alloc (.cells #[.int .i64 B, .int .i64 H] 125)).heap.size = w.heap.size + 1 := by simp
  have hb1 : Below w.heap.size w W1 := by rw [← hW1]; exact ((Below.refl _ _).alloc (Nat.le_refl _) _).alloc (by rw [hz]; omega) _
  have hk1 : Blk W1 w.heap.size 125 #[.int .i64 B, .int .i64 H] := by rw [← hW1]; exact (Blk.new w _ _).below ((Below.refl (w.heap.size + 1) _).alloc (by rw [hz]; omega) _) (by omega)
  have hk2 : Blk W1 (w.heap.size + 1) 140 #[.int .i64 0, .int .i64 0] := by
    rw [← hW1]
    have := Blk.new (w.alloc (.cells #[.int .i64 B, .int .i64 H] 125)) 140 #[.int .i64 0, .int .i64 0]
    rwa [hz] at this
  have HB1 := hid hb1
  have HK2 := hid hk2
  have c0 : W1.cell? ⟨w.heap.size, 0, none⟩ = some (.int .i64 B) := hk1.cell 0
  have c1 : W1.cell? ⟨w.heap.size, 1, none⟩ = some (.int .i64 H) := hk1.cell 1
  clear hg hb1 hk1 hk2 hz
  go_enter Tryz.func63, Tryz.ntmps63
  go_wp2_with fail
  refine (partner_any B H i _ HG.out).mono ?_
  rintro e w2 ⟨rfl, hb2⟩
  have HB2 := hid (HB1.out.trans (hb2.mono HB1.out.size))
  have hk3 := HK2.out.below hb2 HK2.out.lt
  have HK3 := hid hk3
  have d0 : w2.cell? ⟨w.heap.size + 1, 0, none⟩ = some (.int .i64 0) := hk3.cell 0
  have d1 : w2.cell? ⟨w.heap.size + 1, 1, none⟩ = some (.int .i64 0) := hk3.cell 1
  have f0 := Blk.free hk3 0
  have f1 := Blk.free hk3 1
  clear hb2 hk3
  go_wp2
  have hk4 := (HK3.out.put 0 (.int .i64 i)).put 1 (.int .i64 (prt H i))
  exact bodyPost_ret_by (results_cell_row (p := 4) rfl _ _ (w.heap.size + 1) 140 _ (0, 0) _ rfl hk4 Tryz.underlying140 rfl (by kernel_rfl)) rfl ⟨rfl, (HB2.out.setCell (p := ⟨w.heap.size + 1, 0, none⟩) (by show w.heap.size ≤ w.heap.size + 1; omega) _).setCell (p := ⟨w.heap.size + 1, 1, none⟩) (by show w.heap.size ≤ w.heap.size + 1; omega) _⟩
end Go.Proofs.YtkhdgacjgccnnaaGreatDoor
namespace Go.Proofs.YtkhdgacjgccnnaaGreatDoor
open Go.RowKit Go.Maps

section
variable {P : PS} {ch : Chg}
variable {Real : World → Nat → DSt → (Nat → Prop) → Prop} {PR : World → Nat → Nat → Nat → Nat → (Nat → Prop) → Prop}
theorem pagesOf_le (P : PS) (ch : Chg) : (pagesOf P ch).length ≤ 256 := by
  unfold pagesOf
  exact Nat.le_trans (List.length_filter_le _ _) (keysOf_le ch)
theorem indexesOf_le (P : PS) (ch : Chg) : (indexesOf P ch).length ≤ 256 := by
  unfold indexesOf
  refine Nat.le_trans (List.length_filter_le _ _) ?_
  have h1 := onceTo_len ((keysOf ch).map (· / 42)) ((keysOf ch).map (· / 42)).length
  rw [List.length_map] at h1
  exact Nat.le_trans (by unfold once; rw [List.length_map]; exact h1) (keysOf_le ch)
theorem freeOf_le (P : PS) (H : Nat) : (freeOf P H).length ≤ H := by
  unfold freeOf
  have := List.length_filter_le (fun i : Nat => !P.addrs.contains (i : Int)) (List.range H)
  rwa [List.length_range] at this
theorem cut_len {P : PS} (h : P.Len) (K : List Nat) : (P.cut K).Len := by
  have := cutTo_len h K K.length
  unfold cutTo at this
  rwa [List.take_length] at this
end
end Go.Proofs.YtkhdgacjgccnnaaGreatDoor
namespace Go.Proofs.YtkhdgacjgccnnaaGreatDoor
open Go.RowKit Go.Maps

theorem pagesOf_is {P : PS} {ch : Chg} {k : Nat} (h : k ∈ pagesOf P ch) : k < 256 ∧ ∃ l, ch k = some l ∧ 1 ≤ l.length := by
  unfold pagesOf at h
  obtain ⟨h1, h2⟩ := List.mem_filter.1 h
  obtain ⟨h3, h4⟩ := keysOf_mem.1 h1
  obtain ⟨l, hl⟩ := Option.isSome_iff_exists.1 h4
  rw [thereB_some hl] at h2
  exact ⟨h3, l, hl, by simp at h2; omega⟩
theorem indexesOf_is {P : PS} {ch : Chg} {k : Nat} (h : k ∈ indexesOf P ch) : k < 7 := by
  unfold indexesOf at h
  obtain ⟨y, hy, rfl⟩ := List.mem_map.1 (once_mem (List.mem_filter.1 h).1)
  have := (keysOf_mem.1 hy).1
  omega
theorem freeOf_is {P : PS} {H f : Nat} (h : f ∈ freeOf P H) : f < H ∧ P.addrs.contains (f : Int) = false := by
  unfold freeOf at h
  obtain ⟨h1, h2⟩ := List.mem_filter.1 h
  exact ⟨List.mem_range.1 h1, by simpa using h2⟩
theorem cut_epoch (P : PS) (K : List Nat) : (P.cut K).epoch = P.epoch + 1 := by
  unfold PS.cut
  have : ∀ (l : List Nat) (Q : PS), (l.foldl PS.cutAt Q).epoch = Q.epoch := fun l => by
    induction l with
    | nil => exact fun _ => rfl
    | cons a l ih => exact fun Q => (ih _).trans rfl
  exact this _ _
theorem cut_small {P : PS} (h : Small P.idx ∧ Small P.pgs) (K : List Nat) : Small (P.cut K).idx ∧ Small (P.cut K).pgs := by
  unfold PS.cut
  have : ∀ (l : List Nat) (Q : PS), Small Q.idx ∧ Small Q.pgs → Small (l.foldl PS.cutAt Q).idx ∧ Small (l.foldl PS.cutAt Q).pgs := fun l => by
    induction l with
    | nil => exact fun _ h => h
    | cons a l ih => exact fun Q h => ih _ ⟨h.1.set _ (by decide), h.2.set _ (by decide)⟩
  exact this _ _ h
theorem wpTo_epoch {ch : Chg} {H : Nat} {fr lp : List Nat} {s : DSt} {Q : PS} : ∀ i, (wpTo ch H fr lp s Q i).2.epoch = Q.epoch
  | 0 => rfl
  | i + 1 => wpTo_epoch i
theorem wiTo_epoch {H : Nat} {fr li : List Nat} {s : DSt} {Q : PS} : ∀ i, (wiTo H fr li s Q i).2.epoch = Q.epoch
  | 0 => rfl
  | i + 1 => wiTo_epoch i
theorem wpTo_idx {ch : Chg} {H : Nat} {fr lp : List Nat} {s : DSt} {Q : PS} : ∀ i, (wpTo ch H fr lp s Q i).2.idx = Q.idx
  | 0 => rfl
  | i + 1 => wpTo_idx i
theorem wiTo_small {H : Nat} {fr li : List Nat} {s : DSt} {Q : PS} (h : Small Q.idx) (hf : ∀ f, f ∈ fr → f < 65536) : ∀ i, Small (wiTo H fr li s Q i).2.idx
  | 0 => h
  | i + 1 => by
    refine (wiTo_small h hf i).set _ ⟨by omega, ?_, crc_nats (indexB_byt _ _)⟩
    have : fr.getD i 0 < 65536 := by
      rcases e : fr[i]? with _ | f
      · simp [List.getD, e]
      · simp only [List.getD, e, Option.getD_some]; exact hf f (List.mem_of_getElem? e)
    omega
/-- a commit: the device ahead of its Flush, the state that it leaves -/
def commitTo (P : PS) (ch : Chg) (s : DSt) (H : Nat) : DSt × PS :=
  wiTo H ((freeOf P H).drop (pagesOf P ch).length) (indexesOf P ch) (wpTo ch H (freeOf P H) (pagesOf P ch) s (P.cut (keysOf ch)) (pagesOf P ch).length).1 (wpTo ch H (freeOf P H) (pagesOf P ch) s (P.cut (keysOf ch)) (pagesOf P ch).length).2 (indexesOf P ch).length
theorem commitTo_len {P : PS} (h : P.Len) (ch : Chg) (s : DSt) (H : Nat) : (commitTo P ch s H).2.Len := wiTo_len (wpTo_len (cut_len h _) _) _
theorem commitTo_epoch (P : PS) (ch : Chg) (s : DSt) (H : Nat) : (commitTo P ch s H).2.epoch = P.epoch + 1 := by
  unfold commitTo; rw [wiTo_epoch, wpTo_epoch, cut_epoch]
theorem commitTo_small {P : PS} (h : Small P.idx ∧ Small P.pgs) (ch : Chg) (s : DSt) {H : Nat} (hH : H ≤ 512) (hc : ∀ k l, ch k = some l → Byt l ∧ l.length ≤ 248) : Small (commitTo P ch s H).2.idx ∧ Small (commitTo P ch s H).2.pgs := by
  have hc2 := cut_small h (keysOf ch)
  have hf : ∀ f, f ∈ freeOf P H → f < 65536 := fun f hf => by have := (freeOf_is hf).1; omega
  unfold commitTo
  refine ⟨wiTo_small (by rw [wpTo_idx]; exact hc2.1) (fun f h2 => hf f (List.mem_of_mem_drop h2)) _, ?_⟩
  rw [wiTo_pgs]
  exact wpTo_small hc2.2 hf hc _
end Go.Proofs.YtkhdgacjgccnnaaGreatDoor
