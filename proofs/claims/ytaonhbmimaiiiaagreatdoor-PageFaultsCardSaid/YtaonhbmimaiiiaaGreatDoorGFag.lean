/- Put together out of 3 texts. Package page: a store with its device, carried along a walk: each call. -/
import Derived.Test.YtaonhbmimaiiiaaGreatDoorGFaf
import Derived.Test.YtaonhbmimaiiiaaGreatDoorGKab
namespace Go.Proofs.YtaonhbmimaiiiaaGreatDoor
open Go.RowKit Go.Maps

/-- behind w0: the store at g over the device at d; all of it lies in the blocks T, new since w0 -/
def Shop (Real : World → Nat → DSt → (Nat → Prop) → Prop) (PR : World → Nat → Nat → Nat → Nat → (Nat → Prop) → Prop) (S : Nat → Addr) (w0 w : World) (d g n q mk : Nat) (T : Nat → Prop) (s : DSt) (P : PS) (ch : Chg) : Prop :=
  ∃ p mm m F G D C, Pd Real PR S w0 w d p s n m q F G ∧ m ≤ mk ∧ Sto w g d p mm P ch D C ∧ ¬ (F g ∨ G g) ∧ ¬ (F mm ∨ G mm) ∧ (∀ k, C k → ¬ (F k ∨ G k)) ∧ (w0.heap.size ≤ g ∧ w0.heap.size ≤ mm ∧ ∀ k, C k → w0.heap.size ≤ k) ∧ ∀ k, T k ↔ (F k ∨ G k ∨ k = g ∨ k = mm ∨ C k)
/-- what a call of it leaves -/
def ShopUpd (Real : World → Nat → DSt → (Nat → Prop) → Prop) (PR : World → Nat → Nat → Nat → Nat → (Nat → Prop) → Prop) (S : Nat → Addr) (w0 w : World) (d g n q mk : Nat) (T : Nat → Prop) (s : DSt) (P : PS) (ch : Chg) (w' : World) : Prop :=
  ∃ T', Shop Real PR S w0 w' d g n q mk T' s P ch ∧ Only T w w' ∧ ∀ k, T' k → T k ∨ w.heap.size ≤ k
section
variable {Real : World → Nat → DSt → (Nat → Prop) → Prop} {PR : World → Nat → Nat → Nat → Nat → (Nat → Prop) → Prop} {S : Nat → Addr} {w0 w w' : World} {d g n q mk : Nat} {T : Nat → Prop} {s : DSt} {P : PS} {ch : Chg}
theorem Shop.on (D : DevOk Real) (O : PairOk Real PR) (h : Shop Real PR S w0 w d g n q mk T s P ch) (hb : Below w.heap.size w w') : Shop Real PR S w0 w' d g n q mk T s P ch := by
  obtain ⟨p, mm, m, F, G, Dm, C, h1, h2, h3, h4⟩ := h
  exact ⟨p, mm, m, F, G, Dm, C, h1.on D O hb, h2, h3.below hb, h4⟩
theorem Shop.lt (D : DevOk Real) (O : PairOk Real PR) (h : Shop Real PR S w0 w d g n q mk T s P ch) : ∀ k, T k → k < w.heap.size := fun k hk => by
  obtain ⟨p, mm, m, F, G, Dm, C, h1, h2, h3, h4, h5, h6, h7, h8⟩ := h
  rcases (h8 k).1 hk with h | h | h | h | h
  · exact D.lt h1.real k h
  · exact O.lt h1.pr k h
  · rw [h]; exact h3.box.lt
  · rw [h]; exact h3.chd.map.lt
  · exact (h3.chd.lt k h).1
theorem Shop.new (h : Shop Real PR S w0 w d g n q mk T s P ch) : ∀ k, T k → w0.heap.size ≤ k := fun k hk => by
  obtain ⟨p, mm, m, F, G, Dm, C, h1, h2, h3, h4, h5, h6, h7, h8⟩ := h
  rcases (h8 k).1 hk with h | h | h | h | h
  · exact h1.fn k h
  · exact h1.gn k h
  · rw [h]; exact h7.1
  · rw [h]; exact h7.2.1
  · exact h7.2.2 k h
theorem Shop.below (h : Shop Real PR S w0 w d g n q mk T s P ch) : Below w0.heap.size w0 w := by
  obtain ⟨p, mm, m, F, G, Dm, C, h1, _⟩ := h
  exact h1.below
theorem Shop.pd (h : Shop Real PR S w0 w d g n q mk T s P ch) : Up s n q ∧ q ≤ 900000 ∧ 300 ≤ n ∧ n ≤ 6000 := by
  obtain ⟨p, mm, m, F, G, Dm, C, h1, _⟩ := h
  exact ⟨h1.up, h1.small, h1.n0, h1.n1⟩
theorem Shop.chg (h : Shop Real PR S w0 w d g n q mk T s P ch) : (∀ p l, ch p = some l → Byt l ∧ l.length ≤ 248) ∧ ∀ p, 256 ≤ p → ch p = none := by
  obtain ⟨p, mm, m, F, G, Dm, C, h1, h2, h3, _⟩ := h
  exact ⟨h3.chd.good, h3.chd.off⟩
theorem Shop.len (h : Shop Real PR S w0 w d g n q mk T s P ch) : P.Len := by
  obtain ⟨p, mm, m, F, G, Dm, C, h1, h2, h3, _⟩ := h
  exact h3.len
/-- what lies beside it has turned -/
theorem Shop.beside (D : DevOk Real) (O : PairOk Real PR) {K : Nat → Prop} (h : Shop Real PR S w0 w d g n q mk T s P ch) (ho : Only K w w') (hK : ∀ k, T k → ¬ K k) (hB : ∀ k, K k → w0.heap.size ≤ k) : Shop Real PR S w0 w' d g n q mk T s P ch := by
  obtain ⟨p, mm, m, F, G, Dm, C, h1, h2, h3, h4, h5, h6, h7, h8⟩ := h
  exact ⟨p, mm, m, F, G, Dm, C, h1.beside D O ho (fun k hk => hK k ((h8 k).2 (.inl hk))) (fun k hk => hK k ((h8 k).2 (.inr (.inl hk)))) hB, h2, h3.only ho (hK g ((h8 g).2 (.inr (.inr (.inl rfl))))) (hK mm ((h8 mm).2 (.inr (.inr (.inr (.inl rfl)))))) (fun k hk => hK k ((h8 k).2 (.inr (.inr (.inr (.inr hk)))))), h4, h5, h6, h7, h8⟩
theorem Shop.more (h : Shop Real PR S w0 w d g n q mk T s P ch) {q' mk' : Nat} (hq : q ≤ q') (hq' : q' ≤ 900000) (hm : mk ≤ mk') : Shop Real PR S w0 w d g n q' mk' T s P ch := by
  obtain ⟨p, mm, m, F, G, Dm, C, h1, h2, h3⟩ := h
  exact ⟨p, mm, m, F, G, Dm, C, ⟨h1.real, h1.pr, h1.below, h1.sent0, h1.fn, h1.gn, h1.ap, h1.up.more hq, hq', h1.n0, h1.n1⟩, by omega, h3⟩
theorem ShopUpd.same (h : Shop Real PR S w0 w d g n q mk T s P ch) (D : DevOk Real) (O : PairOk Real PR) (hb : Below w.heap.size w w') : ShopUpd Real PR S w0 w d g n q mk T s P ch w' := ⟨T, h.on D O hb, Only.of_below hb, fun _ hk => .inl hk⟩
theorem ShopUpd.then_ {wa wb : World} (D : DevOk Real) (O : PairOk Real PR) (h : ShopUpd Real PR S w0 w d g n q mk T s P ch w') (ha : Below wa.heap.size wa w) (hb : Below w'.heap.size w' wb) : ShopUpd Real PR S w0 wa d g n q mk T s P ch wb := by
  obtain ⟨T', h1, h2, h3⟩ := h
  have := ha.size
  exact ⟨T', h1.on D O hb, ((Only.of_below ha).trans h2 (fun i hi => .inl hi)).then_below hb, fun k hk => (h3 k hk).imp id (fun h => by omega)⟩
/-- a device and its pairs have gone on beneath it -/
theorem shop_step {p mm m' q' mk' : Nat} {F G F' G' C : Nat → Prop} {Dm : DataW Unit} {s' : DSt} (hs : Sto w g d p mm P ch Dm C) (h4 : ¬ (F g ∨ G g)) (h5 : ¬ (F mm ∨ G mm)) (h6 : ∀ k, C k → ¬ (F k ∨ G k)) (h7 : w0.heap.size ≤ g ∧ w0.heap.size ≤ mm ∧ ∀ k, C k → w0.heap.size ≤ k) (h8 : ∀ k, T k ↔ (F k ∨ G k ∨ k = g ∨ k = mm ∨ C k))
    (k1 : Pd Real PR S w0 w' d p s' n m' q' F' G') (k2 : Only (fun k => F k ∨ G k) w w') (k3 : ∀ k, F' k → F k ∨ G k ∨ w.heap.size ≤ k) (k4 : ∀ k, G' k → F k ∨ G k ∨ w.heap.size ≤ k) (hm : m' ≤ mk') : ShopUpd Real PR S w0 w d g n q' mk' T s' P ch w' := by
  have hgl := hs.box.lt
  have hml := hs.chd.map.lt
  have out : ∀ k, k < w.heap.size → ¬ (F k ∨ G k) → ¬ (F' k ∨ G' k) := fun k hk hn h => by
    rcases h with h | h
    · rcases k3 k h with h | h | h
      · exact hn (.inl h)
      · exact hn (.inr h)
      · omega
    · rcases k4 k h with h | h | h
      · exact hn (.inl h)
      · exact hn (.inr h)
      · omega
  refine ⟨fun k => F' k ∨ G' k ∨ k = g ∨ k = mm ∨ C k, ⟨p, mm, m', F', G', Dm, C, k1, hm, hs.only k2 h4 h5 h6, out g hgl h4, out mm hml h5, fun k hk => out k (hs.chd.lt k hk).1 (h6 k hk), h7, fun _ => Iff.rfl⟩, k2.mono (fun i hi => .inl ((h8 i).2 (hi.elim .inl (fun h => .inr (.inl h))))), fun k hk => ?_⟩
  rcases hk with hk | hk | hk
  · rcases k3 k hk with h | h | h
    · exact .inl ((h8 k).2 (.inl h))
    · exact .inl ((h8 k).2 (.inr (.inl h)))
    · exact .inr h
  · rcases k4 k hk with h | h | h
    · exact .inl ((h8 k).2 (.inl h))
    · exact .inl ((h8 k).2 (.inr (.inl h)))
    · exact .inr h
  · exact .inl ((h8 k).2 (.inr (.inr hk)))
/-! each call -/
theorem sh_epoch (h : Shop Real PR S w0 w d g n q mk T s P ch) : Calls Tryz.prog 36 #[.pointer (some ⟨g, 0, none⟩)] w fun e w' => e = .returned (.int .i64 P.epoch) ∧ w' = w := by
  obtain ⟨p, mm, m, F, G, Dm, C, h1, h2, h3, _⟩ := h
  exact epoch_any g d p mm Dm C w h3
theorem sh_changed (h : Shop Real PR S w0 w d g n q mk T s P ch) : Calls Tryz.prog 20 #[.pointer (some ⟨g, 0, none⟩)] w fun e w' => e = .returned (.int .i64 ((keysOf ch).length : Int)) ∧ w' = w := by
  obtain ⟨p, mm, m, F, G, Dm, C, h1, h2, h3, _⟩ := h
  exact changed_any g d p mm Dm C w h3
theorem sh_pages (h : Shop Real PR S w0 w d g n q mk T s P ch) : Calls Tryz.prog 48 #[.pointer (some ⟨g, 0, none⟩)] w fun e w' => ∃ v, e = .returned v ∧ OwnN w' w.heap.size v (natsI (pagesTo P ch 256)) ∧ Below w.heap.size w w' := by
  obtain ⟨p, mm, m, F, G, Dm, C, h1, h2, h3, _⟩ := h
  exact pages_any g d p mm Dm C w h3
theorem sh_used (h : Shop Real PR S w0 w d g n q mk T s P ch) : Calls Tryz.prog 29 #[.pointer (some ⟨g, 0, none⟩)] w fun e w' => ∃ v, e = .returned v ∧ OwnN w' w.heap.size v P.used ∧ Below w.heap.size w w' := by
  obtain ⟨p, mm, m, F, G, Dm, C, h1, h2, h3, _⟩ := h
  exact usedS_any g d p mm Dm C w h3
theorem sh_write (D : DevOk Real) (O : PairOk Real PR) (h : Shop Real PR S w0 w d g n q mk T s P ch) {i : Nat} (hi : i < 256) {A : Option Addr} {m c : Nat} {l : List Int} (hl : Sl w w.heap.size A m c l) (h1 : 1 ≤ m) (h2 : m ≤ 248) (hy : Byt l) :
    Calls Tryz.prog 32 #[.pointer (some ⟨g, 0, none⟩), .int .i64 (i : Int), .slice A m c] w fun e w' => e = .returned .nilIface ∧ ShopUpd Real PR S w0 w d g n q mk T s P (putC ch i l) w' := by
  obtain ⟨p, mm, m1, F, G, Dm, C, k1, k2, k3, k4, k5, k6, k7, k8⟩ := h
  refine (writeS_any g d p mm i Dm C A m c l w k3 hi hl h1 h2 hy).mono ?_
  rintro e w' ⟨rfl, b, c', hb, hs, hg⟩
  have ho : Only (fun k => k = mm) w w' := ⟨hg.os, hg.tape, hg.output, hg.size, fun k hk hn => hg.block k hk (fun e => hn (by injection e))⟩
  have hsz := k1.below.size
  refine ⟨rfl, fun k => F k ∨ G k ∨ k = g ∨ k = mm ∨ (C k ∨ ∃ a, (some ⟨b, 0, none⟩ : Option Addr) = some a ∧ a.block = k), ⟨p, mm, m1, F, G, _, _, k1.beside D O ho (fun k hk e => k5 (.inl (e ▸ hk))) (fun k hk e => k5 (.inr (e ▸ hk))) (fun k e => by rw [e]; exact k7.2.1), k2, hs, k4, k5, fun k hk h => ?_, ⟨k7.1, k7.2.1, fun k hk => ?_⟩, fun _ => Iff.rfl⟩, ho.mono (fun i hi => .inl ((k8 i).2 (.inr (.inr (.inr (.inl hi)))))), fun k hk => ?_⟩
  · rcases hk with hk | ⟨a, ha, rfl⟩
    · exact k6 k hk h
    · cases ha
      rcases h with h | h
      · have := D.lt k1.real _ h; simp only at this; omega
      · have := O.lt k1.pr _ h; simp only at this; omega
  · rcases hk with hk | ⟨a, ha, rfl⟩
    · exact k7.2.2 k hk
    · cases ha; show w0.heap.size ≤ b; omega
  · rcases hk with hk | hk | hk | hk | hk | ⟨a, ha, rfl⟩
    · exact .inl ((k8 k).2 (.inl hk))
    · exact .inl ((k8 k).2 (.inr (.inl hk)))
    · exact .inl ((k8 k).2 (.inr (.inr (.inl hk))))
    · exact .inl ((k8 k).2 (.inr (.inr (.inr (.inl hk)))))
    · exact .inl ((k8 k).2 (.inr (.inr (.inr (.inr hk)))))
    · cases ha; exact .inr hb
end
end Go.Proofs.YtaonhbmimaiiiaaGreatDoor
namespace Go.Proofs.YtaonhbmimaiiiaaGreatDoor
open Go.RowKit Go.Maps

/-- what a store's last commit left on a device without faults -/
structure Keeps (s : DSt) (n q : Nat) (P : PS) (cont : Cont) : Prop where
  fine : Fine (halN n) P cont
  held : Held s (halN n) P cont
  roots : Roots s (halN n) (rootSt P)
  both : Both s (halN n) (rootSt P)
  clean : Clean s
  ep0 : 0 ≤ P.epoch
  ep1 : P.epoch ≤ (q : Int)
  new : P.epoch = 0 → P = noPS 0
theorem Keeps.more {s : DSt} {n q q' : Nat} {P : PS} {cont : Cont} (h : Keeps s n q P cont) (hq : q ≤ q') : Keeps s n q' P cont := ⟨h.fine, h.held, h.roots, h.both, h.clean, h.ep0, by have := h.ep1; omega, h.new⟩
theorem halN_four {n : Nat} (h : 300 ≤ n) : 4 ≤ halN n := by unfold halN; omega
theorem keeps_new {n : Nat} (h0 : 300 ≤ n) (h1 : n ≤ 6000) : Keeps (DSt.new n) n 0 (noPS 0) (fun _ => none) := by
  have u := up_new h1
  have rd : ∀ i, i < n → (DSt.new n).read (i : Int) = (0, List.replicate 256 0) := fun i hi => by rw [u.read hi (new_at hi)]; rfl
  have hH := halN_two (n := n)
  have hz : ∀ i, i = 0 ∨ i = halN n ∨ i = 1 ∨ i = 1 + halN n → (DSt.new n).root i = none := fun i hi => by
    unfold DSt.root
    rw [rd i (by have : halN n ≤ n / 4 := by unfold halN; omega
                 omega)]
    exact readR_zeros
  refine ⟨fine_new (halN_four h0) 0, fun x l hi => ?_, ⟨fun i hi => by rw [hz i hi]; exact under_none _, fun h => absurd h (by decide), fun _ => rd 1 (by omega)⟩, fun h => absurd h (by decide), clean_new n, by decide, by decide, fun _ => rfl⟩
  obtain ⟨q, hq, hp, _⟩ := hi.at_ (noPS_len 0)
  have : x ∈ (noPS 0).all := List.mem_of_getElem? hq
  rcases List.mem_append.1 this with h | h
  · rw [List.eq_of_mem_replicate h] at hp; cases hp
  · rw [List.eq_of_mem_replicate h] at hp; cases hp
theorem keys_nil {ch : Chg} (h : keysOf ch = []) (hoff : ∀ p, 256 ≤ p → ch p = none) (p : Nat) : ch p = none := by
  rcases Nat.lt_or_ge p 256 with hp | hp
  · rcases hc : ch p with _ | l
    · rfl
    · have : p ∈ keysOf ch := keysOf_mem.2 ⟨hp, by rw [hc]; rfl⟩
      rw [h] at this; cases this
  · exact hoff p hp
theorem contC_nil {cont : Cont} {ch : Chg} (h : ∀ p, ch p = none) : contC cont ch = cont := by
  funext i; exact contC_none (h i)
/-- those that package page answers -/
abbrev Sent7 : World → (Nat → Addr) → Prop := SentL [1, 2, 3, 4, 5, 6, 8]
theorem Sent.seven {w : World} {S : Nat → Addr} (h : Sent w S) : Sent7 w S := h.some (by decide)
theorem Sent7.six' {w : World} {S : Nat → Addr} (h : Sent7 w S) : Sent6 w S := fun i hi => h i (by revert hi; revert i; decide)
section
variable {Real : World → Nat → DSt → (Nat → Prop) → Prop} {PR : World → Nat → Nat → Nat → Nat → (Nat → Prop) → Prop} {S : Nat → Addr} {w0 w w' : World} {d g n q mk : Nat} {T : Nat → Prop} {s : DSt} {P : PS} {ch : Chg} {cont : Cont}
theorem sent_cell (hS : Sent7 w0 S) (hb : Below w0.heap.size w0 w) {j : Nat} (hj : j ∈ [1, 2, 3, 4, 5, 6, 8]) {g : Nat} (hg : glo.getD j 0 = g) : w.cell? ⟨g, 0, none⟩ = some (.iface 307 (.pointer (some (S j)))) := by
  rw [← hg]; exact (hS.on hb) j hj
/-- is it there: what it has -/
theorem there_cont (hk : Fine (halN n) P cont) {i : Nat} (hi : i < 256) : thereB P ch i = (contC cont ch i).isSome := by
  rcases hc : ch i with _ | l
  · obtain ⟨x, hx⟩ := hk.len.page hi
    rw [thereB_none hc hx, contC_none hc]
    rcases hk.page i x hx with ⟨h1, _, h2⟩ | ⟨h1, ⟨l, h2, _⟩, _⟩
    · rw [h1, h2]; rfl
    · rw [h1, h2]; rfl
  · rw [thereB_some hc]
    rcases Nat.eq_zero_or_pos l.length with h0 | h0
    · rw [contC_drop hc h0]; simp [h0]
    · rw [contC_some hc h0]; simp [h0]
theorem sh_readNo (D : DevOk Real) (O : PairOk Real PR) (hS : Sent7 w0 S) (h : Shop Real PR S w0 w d g n q mk T s P ch) (hk : Fine (halN n) P cont) {i : Nat} (hi : i < 256) (hc : contC cont ch i = none) :
    Calls Tryz.prog 33 #[.pointer (some ⟨g, 0, none⟩), .int .i64 (i : Int)] w fun e w' => (∃ v, e = .returned (.tuple #[.slice none 0 0, v]) ∧ EV S 109 v) ∧ ShopUpd Real PR S w0 w d g n q mk T s P ch w' ∧ Below w.heap.size w w' := by
  have hh := h
  obtain ⟨p, mm, m1, F, G, Dm, C, k1, k2, k3, k4, k5, k6, k7, k8⟩ := h
  refine (readNo_any g d p mm i Dm C _ w k3 hi (by rw [there_cont hk hi, hc]; rfl) (fun w' hb => sent_cell hS (hh.below.trans (hb.mono hh.below.size)) (j := 8) (by decide) rfl)).mono ?_
  rintro e w' ⟨rfl, hb⟩
  exact ⟨⟨_, rfl, .err 8 (by omega)⟩, ShopUpd.same hh D O hb, hb⟩
theorem sh_readYes (D : DevOk Real) (O : PairOk Real PR) (h : Shop Real PR S w0 w d g n q mk T s P ch) (hk : Keeps s n q P cont) (hq : q + 1 ≤ 900000) (hmk : mk ≤ 1000) {i : Nat} {l : List Int} (hi : i < 256) (hc : contC cont ch i = some l) :
    Calls Tryz.prog 33 #[.pointer (some ⟨g, 0, none⟩), .int .i64 (i : Int)] w fun e w' => (∃ A k c, e = .returned (.tuple #[.slice A k c, .nilIface]) ∧ Sl w' w'.heap.size A k c l ∧ ∀ ad, A = some ad → w.heap.size ≤ ad.block) ∧ ShopUpd Real PR S w0 w d g n q mk T s P ch w' := by
  have hh := h
  obtain ⟨p, mm, m1, F, G, Dm, C, k1, k2, k3, k4, k5, k6, k7, k8⟩ := h
  rcases hch : ch i with _ | l0
  · rw [contC_none hch] at hc
    obtain ⟨x, hx⟩ := hk.fine.len.page hi
    rcases hk.fine.page i x hx with ⟨_, _, h2⟩ | ⟨hp, ⟨l1, e1, e2, e3, e4, e5⟩, _⟩
    · rw [h2] at hc; cases hc
    · rw [e1] at hc
      obtain rfl : l1 = l := by injection hc
      have hit : Item P cont x (pageB l1) := .page hx hp e1
      obtain ⟨⟨f, hf, f2, f3⟩, hz, _, _⟩ := hit.fine hk.fine
      obtain ⟨r1, r2, _, _, _, r6, _⟩ := hk.held.read hk.fine hit k1.up halN_two
      obtain ⟨r7, r8⟩ := r6 hk.clean
      have hx' : x = ((f : Int), x.2) := Prod.ext hf rfl
      rw [hf, Int.toNat_natCast] at r1 r2 r7 r8
      rw [hx'] at hx
      refine (readDev_any D O S w0 w g d p mm n m1 q i f x.2 Dm C F G s l1 k3 k1 hi hch hx (by omega) f3 (hk.fine.small.2 _ (List.mem_of_getElem? hx)).2.2 r1 r2 e2 e3 hq (by omega) ⟨fun h => k4 (.inl h), fun h => k4 (.inr h)⟩).mono ?_
      rintro e w' ⟨A, k, c, rfl, hsl, F', G', j1, j2, j3, j4, j5⟩
      rw [r7, r8, Nat.add_zero] at j1
      exact ⟨⟨A, k, c, rfl, hsl, j5⟩, shop_step k3 k4 k5 k6 k7 k8 ⟨j1.real, j1.pr, j1.below, j1.sent0, j1.fn, j1.gn, j1.ap, k1.up, k1.small, j1.n0, j1.n1⟩ j2 j3 j4 k2⟩
  · have h1 : 1 ≤ l0.length := by
      rcases Nat.eq_zero_or_pos l0.length with h0 | h0
      · rw [contC_drop hch h0] at hc; cases hc
      · exact h0
    rw [contC_some hch h1] at hc
    obtain rfl : l0 = l := by injection hc
    refine (readChg_any g d p mm i Dm C l0 w k3 hi hch h1).mono ?_
    rintro e w' ⟨b, c, rfl, hb, hs, hbw⟩
    exact ⟨⟨_, _, _, rfl, hs, fun ad ha => by cases ha; exact hb⟩, ShopUpd.same hh D O hbw⟩
theorem sh_commitNone (D : DevOk Real) (O : PairOk Real PR) (h : Shop Real PR S w0 w d g n q mk T s P ch) (h0 : (keysOf ch).length = 0) :
    Calls Tryz.prog 21 #[.pointer (some ⟨g, 0, none⟩)] w fun e w' => e = .returned .nilIface ∧ ShopUpd Real PR S w0 w d g n q mk T s P ch w' := by
  have hh := h
  obtain ⟨p, mm, m1, F, G, Dm, C, k1, k2, k3, _⟩ := h
  refine (commitNone_any g d p mm Dm C w k3 h0).mono ?_
  rintro e w' ⟨rfl, rfl⟩
  exact ⟨rfl, ShopUpd.same hh D O (Below.refl _ _)⟩
theorem rising_len {m : Nat} : ∀ (l : List Nat) (b : Nat), l.Pairwise (· < ·) → (∀ x, x ∈ l → b ≤ x ∧ x < m) → l.length ≤ m - b
  | [], _, _, _ => Nat.zero_le _
  | a :: l, b, hp, h => by
    obtain ⟨h1, h2⟩ := List.pairwise_cons.1 hp
    have h3 := h a (List.mem_cons_self ..)
    have h4 := rising_len l (a + 1) h2 (fun x hx => ⟨h1 x hx, (h x (List.mem_cons_of_mem _ hx)).2⟩)
    rw [List.length_cons]; omega
theorem indexes_rising (P : PS) (ch : Chg) : (indexesOf P ch).Pairwise (· < ·) := by
  unfold indexesOf
  have h : ((keysOf ch).map (· / 42)).Pairwise (· ≤ ·) := List.pairwise_map.2 ((keysOf_sorted ch).imp (fun h => Nat.div_le_div_right (Nat.le_of_lt h)))
  exact (once_rising h).filter _
theorem indexesOf_seven (P : PS) (ch : Chg) : (indexesOf P ch).length ≤ 7 :=
  rising_len _ 0 (indexes_rising P ch) (fun _ hx => ⟨Nat.zero_le _, indexesOf_is hx⟩)
theorem keeps_commit (hk : Keeps s n q P cont) (u : Up s n q) (hq : q ≤ 800000) (hc : ∀ k l, ch k = some l → Byt l ∧ l.length ≤ 248) (hoff : ∀ k, 256 ≤ k → ch k = none) (hf : fitsB P ch (halN n) = true) :
    saveR (fl (commitTo P ch s (halN n)).1) (halN n) (rootSt (commitTo P ch s (halN n)).2) = (0, comDev P ch s (halN n)) ∧ Up (comDev P ch s (halN n)) n (q + 1000) ∧ Keeps (comDev P ch s (halN n)) n (q + 1000) (commitTo P ch s (halN n)).2 (contC cont ch) := by
  have he := hk.ep1
  have he0 := hk.ep0
  have h6 := indexesOf_seven P ch
  have h7 := pagesOf_le P ch
  have h8 := commitTo_epoch P ch s (halN n)
  obtain ⟨k1, k2, k3, k4, k5, k6, k7, _⟩ := com_done hk.fine hk.held hk.roots u halN_two (by unfold halN; omega) hc hoff hf hk.ep0 (by omega)
  exact ⟨k1, k2.more (by omega), k3, k4, k5, k6, k7 hk.clean, by omega, by omega, fun h => by omega⟩
theorem sh_commit (D : DevOk Real) (O : PairOk Real PR) (hS : Sent7 w0 S) (h : Shop Real PR S w0 w d g n q mk T s P ch) (hk : Keeps s n q P cont) (h0 : 0 < (keysOf ch).length) (hf : fitsB P ch (halN n) = true) (hq : q ≤ 600000) :
    Calls Tryz.prog 21 #[.pointer (some ⟨g, 0, none⟩)] w fun e w' => e = .returned .nilIface ∧ ShopUpd Real PR S w0 w d g n (q + 1000) mk T (comDev P ch s (halN n)) (commitTo P ch s (halN n)).2 noChg w' := by
  obtain ⟨hg1, hg2⟩ := h.chg
  obtain ⟨p, mm, m1, F, G, Dm, C, k1, k2, k3, k4, k5, k6, k7, k8⟩ := h
  have he := hk.ep1
  have he0 := hk.ep0
  have h6 := indexesOf_seven P ch
  have h7 := pagesOf_le P ch
  obtain ⟨j1, j2, _⟩ := keeps_commit hk k1.up (by omega) hg1 hg2 hf
  have hfr : 0 < (freeOf P (halN n)).length := by
    have h9 := free_len hk.fine.apart
    have h10 := hk.fine.room
    have h11 := hk.fine.apart.two
    omega
  refine (commit_any D O S w0 w g d p mm n m1 q (q + 1000) Dm C F G s (comDev P ch s (halN n)) k3 k1 (Sent7.six' hS) ⟨k7.1, k7.2.1⟩ k4 k5 k6 h0 hk.ep0 (by omega) hk.fine.small hf hfr (by omega) j1 j2 (by omega)).mono ?_
  rintro e w' ⟨rfl, F', G', i1, i2, i3, i4, i5⟩
  have hgl := k3.box.lt
  have hml := k3.chd.map.lt
  have out : ∀ k, k < w.heap.size → ¬ (F k ∨ G k) → ¬ (F' k ∨ G' k) := fun k hk hn h => by
    rcases h with h | h
    · rcases i4 k h with h | h | h
      · exact hn (.inl h)
      · exact hn (.inr h)
      · omega
    · rcases i5 k h with h | h | h
      · exact hn (.inl h)
      · exact hn (.inr h)
      · omega
  refine ⟨rfl, fun k => F' k ∨ G' k ∨ k = g ∨ k = mm ∨ False, ⟨p, mm, m1, F', G', _, _, i1, k2, i2, out g hgl k4, out mm hml k5, fun _ h => h.elim, ⟨k7.1, k7.2.1, fun _ h => h.elim⟩, fun _ => Iff.rfl⟩, i3.mono (fun i hi => .inl ((k8 i).2 ?_)), fun k hk => ?_⟩
  · rcases hi with hi | hi | hi | hi
    · exact .inl hi
    · exact .inr (.inl hi)
    · exact .inr (.inr (.inl hi))
    · exact .inr (.inr (.inr (.inl hi)))
  · rcases hk with hk | hk | hk | hk | hk
    · rcases i4 k hk with h | h | h
      · exact .inl ((k8 k).2 (.inl h))
      · exact .inl ((k8 k).2 (.inr (.inl h)))
      · exact .inr h
    · rcases i5 k hk with h | h | h
      · exact .inl ((k8 k).2 (.inl h))
      · exact .inl ((k8 k).2 (.inr (.inl h)))
      · exact .inr h
    · exact .inl ((k8 k).2 (.inr (.inr (.inl hk))))
    · exact .inl ((k8 k).2 (.inr (.inr (.inr (.inl hk)))))
    · exact hk.elim
theorem opDev_clean (hk : Keeps s n q P cont) (u : Up s n q) (h0 : 0 < P.epoch) : opDev s (halN n) P = s := by
  obtain ⟨_, _, _, k4, _⟩ := rd_keeps hk.fine hk.held u halN_two 7 (Nat.le_refl _)
  have e := k4 hk.clean
  unfold opDev
  rw [e, if_neg]
  rw [hk.roots.copies2 h0 hk.both]; omega
/-- a device of such a state is opened -/
theorem sh_opened (D : DevOk Real) (O : PairOk Real PR) (hS : Sent7 w0 S) {F : Nat → Prop} (hb0 : Below w0.heap.size w0 w) (hr : Real w d s F) (hF : ∀ k, F k → w0.heap.size ≤ k) (u : Up s n q) (hq : q ≤ 690000) (n0 : 300 ≤ n) (n1 : n ≤ 6000) (hk : Keeps s n q P cont) :
    Calls Tryz.prog 15 #[.pointer (some ⟨d, 0, none⟩)] w fun e w' => ∃ g' T', e = .returned (.tuple #[.pointer (some ⟨g', 0, none⟩), .nilIface]) ∧ Shop Real PR S w0 w' d g' n q 7 T' s P noChg ∧ Only F w w' ∧ ∀ k, T' k → F k ∨ w.heap.size ≤ k := by
  have fin : ∀ e w' q', q' ≤ 900000 → OpenR Real PR S w0 w d s n q' P F e w' → ∃ g' T', e = .returned (.tuple #[.pointer (some ⟨g', 0, none⟩), .nilIface]) ∧ Shop Real PR S w0 w' d g' n q 7 T' s P noChg ∧ Only F w w' ∧ ∀ k, T' k → F k ∨ w.heap.size ≤ k := by
    rintro e w' q' _ ⟨g', p, mm, m, F', G', rfl, k1, k2, k3, k4, k5, k6, k7, k8, k9, k10⟩
    have hz := hb0.size
    refine ⟨g', fun k => F' k ∨ G' k ∨ k = g' ∨ k = mm ∨ False, rfl, ⟨p, mm, m, F', G', _, _, ⟨k1.real, k1.pr, k1.below, k1.sent0, k1.fn, k1.gn, k1.ap, u, by omega, n0, n1⟩, k2, k3, k4, k5, fun _ h => h.elim, ⟨by omega, by omega, fun _ h => h.elim⟩, fun _ => Iff.rfl⟩, k8, fun k hk => ?_⟩
    rcases hk with hk | hk | hk | hk | hk
    · exact k9 k hk
    · exact k10 k hk
    · exact .inr (by omega)
    · exact .inr (by omega)
    · exact hk.elim
  by_cases h0 : P.epoch = 0
  · have e := hk.new h0
    have hro := hk.roots
    rw [e] at hro
    refine (openNew_any D O S w0 w d n q F s (Sent7.six' hS) hb0 hr hF u (by omega) n0 n1 hro).mono ?_
    intro e' w' h
    rw [← e] at h
    exact fin e' w' q (by omega) h
  · have h1 : 1 ≤ P.epoch := by have := hk.ep0; omega
    have h2 := hk.ep1
    refine (openOld_any D O S w0 w d n q F P cont s (Sent7.six' hS) hb0 hr hF u (by omega) n0 n1 hk.fine hk.held hk.roots ⟨h1, by omega⟩).mono ?_
    intro e' w' h
    rw [opDev_clean hk u (by omega)] at h
    exact fin e' w' (q + 10) (by omega) h
/-- .. that of a store that is given up -/
theorem sh_open (D : DevOk Real) (O : PairOk Real PR) (hS : Sent7 w0 S) (h : Shop Real PR S w0 w d g n q mk T s P ch) (hq : q ≤ 690000) (hk : Keeps s n q P cont) :
    Calls Tryz.prog 15 #[.pointer (some ⟨d, 0, none⟩)] w fun e w' => ∃ g' T', e = .returned (.tuple #[.pointer (some ⟨g', 0, none⟩), .nilIface]) ∧ Shop Real PR S w0 w' d g' n q 7 T' s P noChg ∧ Only T w w' ∧ ∀ k, T' k → T k ∨ w.heap.size ≤ k := by
  obtain ⟨p, mm, m1, F, G, Dm, C, k1, k2, k3, k4, k5, k6, k7, k8⟩ := h
  refine (sh_opened D O hS k1.below k1.real k1.fn k1.up hq k1.n0 k1.n1 hk).mono ?_
  rintro e w' ⟨g', T', rfl, j1, j2, j3⟩
  exact ⟨g', T', rfl, j1, j2.mono (fun i hi => .inl ((k8 i).2 (.inl hi))), fun k hk => (j3 k hk).imp (fun h => (k8 k).2 (.inl h)) id⟩
end
end Go.Proofs.YtaonhbmimaiiiaaGreatDoor
namespace Go.Proofs.YtaonhbmimaiiiaaGreatDoor
open Go.RowKit Go.Maps

theorem filt_at {α : Type} (p : α → Bool) (d : α) (l : List α) : (l.filter p).length = ((List.range l.length).filter fun i => p (l.getD i d)).length := by
  have e : l = (List.range l.length).map fun i => l.getD i d := by
    apply List.ext_getElem?
    intro i
    rcases Nat.lt_or_ge i l.length with h | h
    · simp [h]
    · simp [h]
  have h : (l.filter p).length = (((List.range l.length).map fun i => l.getD i d).filter p).length := by rw [← e]
  rw [h, List.filter_map, List.length_map]
  rfl
theorem filt_apart (p q r : Nat → Bool) (l : List Nat) (h1 : ∀ x, x ∈ l → p x = true → q x = true → False) (h2 : ∀ x, x ∈ l → p x = true ∨ q x = true → r x = true) : (l.filter p).length + (l.filter q).length ≤ (l.filter r).length := by
  induction l with
  | nil => simp
  | cons a l ih =>
    have ih := ih (fun x hx => h1 x (List.mem_cons_of_mem _ hx)) (fun x hx => h2 x (List.mem_cons_of_mem _ hx))
    have a1 := h1 a (List.mem_cons_self ..)
    have a2 := h2 a (List.mem_cons_self ..)
    rw [List.filter_cons, List.filter_cons, List.filter_cons]
    rcases hp : p a with _ | _ <;> rcases hq : q a with _ | _ <;> rcases hr : r a with _ | _ <;> rw [hp, hq] at a1 a2 <;> simp only [if_true, Bool.false_eq_true, if_false, List.length_cons] <;> first | omega | exact (a1 rfl rfl).elim | (rw [hr] at a2; exact absurd (a2 (by simp)) (by simp))
theorem rising_filt {m : Nat} {l : List Nat} (h : l.Pairwise (· < ·)) (hm : ∀ x, x ∈ l → x < m) : l.length = ((List.range m).filter fun i => l.contains i).length := by
  have hn : l.Nodup := h.imp (fun h => Nat.ne_of_lt h)
  refine ((List.perm_ext_iff_of_nodup hn (List.nodup_range.filter _)).2 (fun a => ?_)).length_eq
  rw [List.mem_filter, List.mem_range, List.contains_iff_mem]
  exact ⟨fun ha => ⟨hm a ha, ha⟩, fun ha => ha.2⟩
theorem pages_rising (P : PS) (ch : Chg) : (pagesOf P ch).Pairwise (· < ·) := (List.Pairwise.filter _ List.pairwise_lt_range).filter _
section
variable {P : PS} {ch : Chg} {cont : Cont} {H : Nat}
/-- as many pages as will be there, twice, and 40: there is room -/
theorem fits_room (hk : Fine H P cont) {N : Nat} (hN : ∀ i, N ≤ i → contC cont ch i = none) (h : 2 * N + 40 ≤ H) : fitsB P ch H = true := by
  have hcl := cut_len hk.len (keysOf ch)
  have c1 : ((P.cut (keysOf ch)).pgs.filter points).length + (pagesOf P ch).length ≤ N := by
    rw [filt_at points (0, 0), hcl.p, rising_filt (pages_rising P ch) (m := 256) (fun x hx => (pagesOf_is hx).1)]
    refine Nat.le_trans (filt_apart _ _ (fun i => decide (i < N)) _ (fun i hi h1 h2 => ?_) (fun i hi h1 => ?_)) ?_
    · obtain ⟨_, l, hl, _⟩ := pagesOf_is (List.contains_iff_mem.1 h2)
      have hi := List.mem_range.1 hi
      obtain ⟨x, hx⟩ := hcl.page hi
      simp only [List.getD, hx, Option.getD_some] at h1
      rw [cut_pgs, if_pos (keysOf_mem.2 ⟨hi, by rw [hl]; rfl⟩)] at hx
      obtain ⟨y, _, rfl⟩ := Option.map_eq_some_iff.1 hx
      cases h1
    · have hi := List.mem_range.1 hi
      rw [decide_eq_true_eq]
      refine Nat.lt_of_not_le (fun hge => ?_)
      have hn := hN i hge
      rcases h1 with h1 | h1
      · obtain ⟨x, hx⟩ := hcl.page hi
        simp only [List.getD, hx, Option.getD_some] at h1
        rw [cut_pgs] at hx
        by_cases hm : i ∈ keysOf ch
        · rw [if_pos hm] at hx
          obtain ⟨y, _, rfl⟩ := Option.map_eq_some_iff.1 hx
          cases h1
        · rw [if_neg hm] at hx
          have hc : ch i = none := by
            rcases hc : ch i with _ | l
            · rfl
            · exact absurd (keysOf_mem.2 ⟨hi, by rw [hc]; rfl⟩) hm
          rw [contC_none hc] at hn
          rcases hk.page i x hx with ⟨h2, _⟩ | ⟨_, ⟨l, h2, _⟩, _⟩
          · rw [h2] at h1; cases h1
          · rw [hn] at h2; cases h2
      · obtain ⟨_, l, hl, hl1⟩ := pagesOf_is (List.contains_iff_mem.1 h1)
        rw [contC_some hl hl1] at hn; cases hn
    · have := rising_len ((List.range 256).filter fun i => decide (i < N)) 0 (m := N) (List.Pairwise.filter _ List.pairwise_lt_range) (fun x hx => ⟨Nat.zero_le _, by simpa using (List.mem_filter.1 hx).2⟩)
      omega
  have c2 : ((P.cut (keysOf ch)).idx.filter points).length + (indexesOf P ch).length ≤ 7 := by
    rw [filt_at points (0, 0), hcl.i, rising_filt (indexes_rising P ch) (m := 7) (fun x hx => indexesOf_is hx)]
    refine Nat.le_trans (filt_apart _ _ (fun _ => true) _ (fun i hi h1 h2 => ?_) (fun _ _ _ => rfl)) ?_
    · have ht := (indexesOf_iff.1 (List.contains_iff_mem.1 h2)).1
      have hi := List.mem_range.1 hi
      obtain ⟨x, hx⟩ := hcl.index hi
      simp only [List.getD, hx, Option.getD_some] at h1
      rw [cut_idx, if_pos (touched_iff.1 ht)] at hx
      obtain ⟨y, _, rfl⟩ := Option.map_eq_some_iff.1 hx
      cases h1
    · exact Nat.le_trans (List.length_filter_le _ _) (by rw [List.length_range]; exact Nat.le_refl _)
  have h1 := free_len hk.apart
  have h2 := hk.room
  unfold fitsB
  rw [used_len]
  simp only [Bool.and_eq_true, decide_eq_true_eq]
  constructor <;> omega
end
theorem noChg_cont (cont : Cont) : contC cont noChg = cont := contC_nil (fun _ => rfl)
theorem pages_none {n : Nat} {P : PS} {ch : Chg} {cont : Cont} (hk : Fine (halN n) P cont) (h : ∀ i, contC cont ch i = none) : pagesTo P ch 256 = [] := by
  unfold pagesTo
  rw [List.filter_eq_nil_iff]
  intro i hi
  rw [there_cont hk (List.mem_range.1 hi), h i]; decide
section
variable {Real : World → Nat → DSt → (Nat → Prop) → Prop} {PR : World → Nat → Nat → Nat → Nat → (Nat → Prop) → Prop} {S : Nat → Addr} {w0 w w' : World} {d g n q mk : Nat} {T : Nat → Prop} {s : DSt} {P : PS} {ch : Chg} {cont : Cont}
set_option maxRecDepth 100000 in
set_option maxHeartbeats 4000000 in
theorem opened7_any (D : DevOk Real) (O : PairOk Real PR) (n : Nat) (w : World) (hS : Sent7 w S) (h0 : 300 ≤ n) (h1 : n ≤ 6000) :
    Calls Tryz.prog 14 #[.int .i64 (n : Int)] w fun e w' => ∃ g d T, e = .returned (.tuple #[.pointer (some ⟨g, 0, none⟩), .pointer (some ⟨d, 0, none⟩)]) ∧ Shop Real PR S w w' d g n 0 7 T (DSt.new n) (noPS 0) noChg ∧ Below w.heap.size w w' := by
  have HN := hid (D.new n w (by omega) h1)
  have HOp := hid (fun (w1 : World) (d : Nat) (F : Nat → Prop) (hr : Real w1 d (DSt.new n) F) (hb : Below w.heap.size w w1) (hF : ∀ k, F k → w.heap.size ≤ k) => sh_opened (w0 := w) D O hS hb hr hF (up_new h1) (by omega) h0 h1 (keeps_new h0 h1))
  clear D O hS
  go_enter Tryz.func14, Tryz.ntmps14
  go_wp2_with fail
  refine HN.out.mono ?_
  rintro e w1 ⟨d, F, rfl, hr, hb, hF⟩
  have HO1 := hid (HOp.out w1 d F hr hb hF)
  have HB1 := hid hb
  have HF1 := hid hF
  clear hr hb hF
  go_wp2_with fail
  refine HO1.out.mono ?_
  rintro e w2 ⟨g, T, rfl, hsh, ho, _⟩
  have HF := hid (show Shop Real PR S w w2 d g n 0 7 T (DSt.new n) (noPS 0) noChg ∧ Below w.heap.size w w2 from ⟨hsh, hsh.below⟩)
  clear hsh ho
  go_wp2
  go_ret2
  exact ⟨g, d, T, rfl, HF.out⟩
/-- a slice that the law writes out: one byte -/
theorem sl_one (w : World) (x : Int) : Sl (w.alloc (.cells #[.int .u8 x] 5)) (w.alloc (.cells #[.int .u8 x] 5)).heap.size (some ⟨w.heap.size, 0, none⟩) 1 1 [x] := by
  refine ⟨rfl, Nat.le_refl _, by unfold maxLen; omega, (fun h => by cases h), fun ad ha _ => ?_⟩
  cases ha
  have hb := Blk.new w 5 #[.int .u8 x]
  refine ⟨hb.lt, fun j y hy => ?_⟩
  rw [add0, Blk.cell hb]
  rcases j with _ | j
  · simp at hy; subst hy; rfl
  · simp at hy
theorem byt7 : Byt [7] := fun x hx => by
  have : x = 7 := by simpa using hx
  omega
theorem put_none {ch : Chg} {p : Nat} {l : List Int} (hp : p < 256) : 0 < (keysOf (putC ch p l)).length := by
  have : p ∈ keysOf (putC ch p l) := keysOf_mem.2 ⟨hp, by simp [putC]⟩
  exact List.length_pos_of_mem this
set_option maxRecDepth 100000 in
set_option maxHeartbeats 8000000 in
theorem first7_any (D : DevOk Real) (O : PairOk Real PR) (w : World) (hS : Sent7 w S) : Calls Tryz.prog 12 #[] w (Yes w) := by
  have HD := hid D
  have HO := hid O
  have HS := hid hS
  have HOp := hid (opened7_any D O 500 w hS (by omega) (by omega))
  have hh : halN 500 = 125 := by decide
  have HK0 := hid (keeps_new (n := 500) (by omega) (by omega))
  clear D O hS
  go_enter Tryz.func12, Tryz.ntmps12
  go_wp2_with fail
  refine HOp.out.mono ?_
  rintro e w1 ⟨g, d, T, rfl, hsh, hb⟩
  have HSh1 := hid hsh
  have HB1 := hid hb
  clear hsh hb
  go_wp2_with fail
  refine (sh_pages HSh1.out).mono ?_
  rw [pages_none HK0.out.fine (fun i => by rw [noChg_cont])]
  rintro e w2 ⟨v, rfl, hown, hb⟩
  obtain ⟨A2, c2, rfl, _, _⟩ := hown.form
  have HSh2 := hid (HSh1.out.on HD.out HO.out hb)
  have HB2 := hid (HB1.out.trans (hb.mono HB1.out.size))
  clear hown hb
  go_wp2_with fail
  refine (sh_write HD.out HO.out (HSh2.out.on HD.out HO.out ((Below.refl _ _).alloc (Nat.le_refl _) _)) (i := 3) (by omega) (sl_one w2 7) (by omega) (by omega) byt7).mono ?_
  rintro e w3 ⟨rfl, T3, hsh, _, _⟩
  have HSh3 := hid hsh
  have HB3 := hid hsh.below
  clear hsh
  have hfit : fitsB (noPS 0) (putC noChg 3 [7]) (halN 500) = true := fits_room HK0.out.fine (N := 4) (fun i hi => by
    have h1 : (putC noChg 3 [7]) i = none := by unfold putC noChg; rw [if_neg (by omega)]
    rw [contC_none h1]) (by rw [hh]; omega)
  have HK1 := hid (keeps_commit HK0.out (up_new (by omega)) (by omega) HSh3.out.chg.1 HSh3.out.chg.2 hfit).2.2
  go_wp2_with fail
  refine (sh_commit HD.out HO.out HS.out HSh3.out HK0.out (put_none (by omega)) hfit (by omega)).mono ?_
  rintro e w4 ⟨rfl, T4, hsh, _, _⟩
  have HSh4 := hid hsh
  have HB4 := hid hsh.below
  clear hsh hfit
  go_wp2_with fail
  refine (sh_open HD.out HO.out HS.out HSh4.out (by omega) HK1.out).mono ?_
  rintro e w5 ⟨g5, T5, rfl, hsh, _, _⟩
  have HSh5 := hid hsh
  have HB5 := hid hsh.below
  clear hsh
  go_wp2_with fail
  refine (sh_readYes HD.out HO.out HSh5.out HK1.out (by omega) (by omega) (i := 3) (l := [7]) (by omega) (by rw [noChg_cont]; rfl)).mono ?_
  rintro e w6 ⟨⟨A6, k6, c6, rfl, hs6, _⟩, T6, hsh, _, _⟩
  have HSl6 := hid hs6
  have HB6 := hid hsh.below
  clear hs6 hsh
  go_wp2_with fail
  refine (same_any _ _ _ _ _ _ _ _ _ _ _ (HSl6.out.on ((Below.refl _ _).alloc (Nat.le_refl _) _)) (sl_one w6 7)).mono ?_
  rintro e w7 ⟨rfl, k7, rfl⟩
  rw [same_self]
  have HB7 := hid (below_drewN (HB6.out.alloc HB6.out.size (.cells #[.int .u8 7] 5)) k7)
  go_wp2
  go_ret
  exact ⟨rfl, HB7.out⟩
end
end Go.Proofs.YtaonhbmimaiiiaaGreatDoor
