/- Put together out of 5 texts. Leaves sorted. -/
import Derived.Shelf.SlSortCmp.WholeK
import Derived.Test.YtkhdgacjgccnnaaGreatDoorGXbo
import Derived.Maps.AppendAt
import Derived.Test.YtkhdgacjgccnnaaGreatDoorGXbk
namespace Go.Proofs.YtkhdgacjgccnnaaGreatDoor
open Go.RowKit

/-- a leaf's first key -/
def keyL (x : Lf) : ByteArray := (x.2.getD 0 (⟨#[]⟩, ⟨#[]⟩)).1
theorem keyL_mem {x : Lf} (h : x.2 ≠ []) : ∃ r, r ∈ x.2 ∧ r.1 = keyL x := by
  obtain ⟨p, l⟩ := x
  rcases l with _ | ⟨r, l⟩
  · exact absurd rfl h
  · exact ⟨r, by simp, rfl⟩
theorem ris_keys : ∀ {M : List Lf}, (∀ x, x ∈ M → x.2 ≠ []) → Ris (recsOf M) → M.Pairwise (fun x y => kc (keyL x) (keyL y) < 0)
  | [], _, _ => List.Pairwise.nil
  | x :: M, hne, h => by
    rw [recsOf_cons] at h
    obtain ⟨_, h2, h3⟩ := List.pairwise_append.1 h
    refine List.pairwise_cons.2 ⟨fun y hy => ?_, ris_keys (fun z hz => hne z (by simp [hz])) h2⟩
    obtain ⟨r, hr, e⟩ := keyL_mem (hne x (by simp))
    obtain ⟨r', hr', e'⟩ := keyL_mem (hne y (by simp [hy]))
    rw [← e, ← e']
    exact h3 r hr r' (recsOf_mem hy hr')
theorem sorted_is : ∀ {a b : List Lf}, b.Perm a → a.Pairwise (fun x y => kc (keyL x) (keyL y) < 0) → b.Pairwise (fun x y => ¬ kc (keyL y) (keyL x) < 0) → b = a
  | [], b, hp, _, _ => hp.eq_nil
  | x :: a, [], hp, _, _ => absurd hp.symm.eq_nil (by simp)
  | x :: a, y :: b, hp, ha, hb => by
    obtain ⟨a1, a2⟩ := List.pairwise_cons.1 ha
    obtain ⟨b1, b2⟩ := List.pairwise_cons.1 hb
    have hxy : y = x := by
      rcases List.mem_cons.1 (hp.mem_iff.1 (by simp : y ∈ y :: b)) with e | e
      · exact e
      · rcases List.mem_cons.1 (hp.mem_iff.2 (by simp : x ∈ x :: a)) with f | f
        · exact f.symm
        · exact absurd (a1 y e) (b1 x f)
    subst hxy
    rw [sorted_is (a := a) (b := b) hp.cons_inv a2 b2]
theorem kc_ntrans {a b c : ByteArray} (h1 : ¬ kc a b < 0) (h2 : ¬ kc b c < 0) : ¬ kc a c < 0 := fun h => by
  have s1 := kc_swap a b
  by_cases e : kc a b = 0
  · have := kc_zero e
    subst this
    exact h2 h
  · have h3 : kc b a < 0 := by omega
    exact h2 (kc_trans h3 h)
theorem flat_lfC {α : Type} [Inhabited α] (f : α → Int × Value) (d : Array α) (t : Nat) (ht : t < d.size * 2) : (lfC (d.toList.map f))[t]? = some ((Go.Sort.flatK (fun x => [.int .i64 (f x).1, (f x).2]) 2 d)[t]!) := by
  rw [Go.Sort.get_flatK _ _ _ _ ht]
  obtain ⟨j, hj⟩ : ∃ j, t / 2 = j := ⟨_, rfl⟩
  have hjl : j < d.size := by omega
  have hg : (d.toList.map f)[j]? = some (f d[j]!) := by
    rw [List.getElem?_map, Array.getElem?_toList, Array.getElem?_eq_getElem hjl, getElem!_pos d j hjl]
    rfl
  obtain ⟨h1, h2⟩ := lfC_get hg
  rw [hj]
  rcases Nat.mod_two_eq_zero_or_one t with e | e
  · rw [e, show t = j * 2 by omega, h1]; rfl
  · rw [e, show t = j * 2 + 1 by omega, h2]; rfl
section
variable {α : Type} [Inhabited α]
theorem grownBy_sortedK {enc : α → List Value} {k : Nat} {w : World} {g n : Nat} {os : Array Obj} (d : Array α) : w.grownBy (sortWorldK enc k w g 0 n d os) (some g) := by
  unfold sortWorldK Go.Sort.putRowK
  refine ⟨rfl, rfl, rfl, by simp [Go.Sort.grow], fun i hk hne => ?_⟩
  rw [Go.Sort.heap_grow_old _ _ (by simpa using hk)]
  have : g ≠ i := fun e => hne (by rw [e])
  simp [Go.Sort.putRow, Go.Sort.mapBlock, Go.Sort.ahead, Array.getElem?_modify, this]
theorem heap_sortedK {enc : α → List Value} {k : Nat} {w : World} {g n : Nat} {os : Array Obj} {cur : Array Value} {e : TypeId} {fr : Nat × Nat} (d : Array α) (hb : w.heap[g]? = some (.cells cur e fr)) :
    (sortWorldK enc k w g 0 n d os).heap[g]? = some (.cells (Go.Sort.putCells id 0 (Go.Sort.flatK enc k d) cur) e fr) := by
  unfold sortWorldK Go.Sort.putRowK
  have hg : g < w.heap.size := (Array.getElem?_eq_some_iff.1 hb).1
  rw [Go.Sort.heap_grow_old _ _ (by simpa using hg)]
  simp [Go.Sort.putRow, Go.Sort.mapBlock, Go.Sort.ahead, Array.getElem?_modify, hb, Go.Sort.onCells]
theorem take_putCellsK (cur F : Array Value) (ts : List Value) (h : ts.length ≤ cur.size) (hF : F.size = ts.length) (ht : ∀ t, t < F.size → ts[t]? = some (F[t]!)) : (Go.Sort.putCells id 0 F cur).toList.take ts.length = ts := by
  apply List.ext_getElem?
  intro j
  by_cases hj : j < ts.length
  · rw [List.getElem?_take_of_lt hj, Array.getElem?_toList, ht j (by omega)]
    simp [Go.Sort.putCells, hF, hj, show j < cur.size by omega]
  · rw [List.getElem?_take_eq_none (by omega), List.getElem?_eq_none (by omega)]
end
end Go.Proofs.YtkhdgacjgccnnaaGreatDoor
namespace Go.Proofs.YtkhdgacjgccnnaaGreatDoor
open Go.RowKit

set_option maxRecDepth 100000 in
set_option maxHeartbeats 1000000 in
theorem sortLeaves_any (g n cap B : Nat) (Q : Nat → Prop) (L M : List Lf) (w : World) (h : LOwn w B Q (.slice (some ⟨g, 0, none⟩) n cap) L) (hL0 : L ≠ []) (hne : ∀ x, x ∈ L → x.2 ≠ [] ∧ x.2.length ≤ 10000) (hM : M.Perm L) (hr : Ris (recsOf M)) (hn : L.length ≤ 1000) :
    Calls Tryz.prog 70 #[.slice (some ⟨g, 0, none⟩) n cap, .func (.func 71) #[] #[]] w fun e w' => e = .returned (.tuple #[]) ∧ LOwn w' B Q (.slice (some ⟨g, 0, none⟩) n cap) M ∧ Only (fun k => k = g) w w' := by
  obtain ⟨xs, h1, h2, h3⟩ := h
  rcases h2.2 with ⟨e, _⟩ | ⟨g', cap', cur, e, hb, hg, hle, hcm, hsz, htk⟩
  · cases e
  cases e
  obtain ⟨m, hm⟩ : ∃ m, L.length = m + 1 := by
    rcases e : L.length with _ | m
    · exact absurd (List.eq_nil_of_length_eq_zero e) hL0
    · exact ⟨m, rfl⟩
  obtain ⟨f, hf⟩ : ∃ f : Fin (m + 1) → Int × Value, f = fun i => xs.getD i.1 (0, nilV) := ⟨_, rfl⟩
  obtain ⟨lf, hlf⟩ : ∃ lf : Fin (m + 1) → Lf, lf = fun i => L.getD i.1 (0, []) := ⟨_, rfl⟩
  have hat : ∀ i : Fin (m + 1), ∃ r nn c, L[i.1]? = some (lf i) ∧ f i = ((lf i).1, Value.slice (some r) nn c) ∧ xs[i.1]? = some (f i) ∧ RSl w w.heap.size (some r) nn c (lf i).2 ∧ Q r.block ∧ r.block ≠ g ∧ w.cell? r = some (.string (keyL (lf i))) ∧ 0 < nn ∧ nn ≤ 10000 := fun i => by
    have hi : i.1 < L.length := by have := i.2; omega
    have e1 : L[i.1]? = some (lf i) := by rw [hlf]; simp [List.getD_eq_getElem?_getD, hi]
    obtain ⟨r, nn, c, e2, e3, e4, e5⟩ := h3 i.1 _ e1
    have e6 : f i = ((lf i).1, Value.slice (some r) nn c) := by rw [hf]; show xs.getD i.1 (0, nilV) = _; rw [List.getD_eq_getElem?_getD, e2]; rfl
    have hmem := hne _ (List.mem_of_getElem? e1)
    have hln := e3.len
    have hnn : 0 < nn := by
      rcases Nat.eq_zero_or_pos nn with e | e
      · exact absurd (List.eq_nil_of_length_eq_zero (by omega)) hmem.1
      · exact e
    obtain ⟨r9, x2, e8, _, hx2, f0, _⟩ := e3.get hnn
    obtain rfl : r = r9 := Option.some.inj e8
    rw [Nat.zero_mul, Addr.add_zero'] at f0
    have hk : keyL (lf i) = x2.1 := by unfold keyL; rw [List.getD_eq_getElem?_getD, hx2]; rfl
    exact ⟨r, nn, c, e1, e6, by rw [e6]; exact e2, e3, e4, e5 g rfl, by rw [hk]; exact f0, hnn, by omega⟩
  have hO : Go.Sort.SWO (ltOf fun x y : Fin (m + 1) => kc (keyL (lf x)) (keyL (lf y))) := ⟨fun x => decide_eq_false (by show ¬ kc (keyL (lf x)) (keyL (lf x)) < 0; rw [kc_self]; decide), fun x y z a b => by unfold ltOf at *; exact decide_eq_true (kc_trans (of_decide_eq_true a) (of_decide_eq_true b)), fun x y z a b => by unfold ltOf at *; exact decide_eq_false (kc_ntrans (of_decide_eq_false a) (of_decide_eq_false b))⟩
  have hcmp : ∀ sz : Nat, CmpLays Tryz.prog 71 #[] (fun x => [.int .i64 (f x).1, (f x).2]) 2 (fun x y : Fin (m + 1) => kc (keyL (lf x)) (keyL (lf y))) g 0 sz w := fun sz mm os dk hs x y => by
    obtain ⟨r1, n1, c1, _, a2, _, _, _, a5, a6, a7, a8⟩ := hat x
    obtain ⟨r2, n2, c2, _, b2, _, _, _, b5, b6, b7, b8⟩ := hat y
    have q1 := (grownBy_sortedK (enc := fun x : Fin (m + 1) => [Value.int .i64 (f x).1, (f x).2]) (k := 2) (n := mm) (os := os) dk).cell a6 (by simpa using a5)
    have q2 := (grownBy_sortedK (enc := fun x : Fin (m + 1) => [Value.int .i64 (f x).1, (f x).2]) (k := 2) (n := mm) (os := os) dk).cell b6 (by simpa using b5)
    generalize sortWorldK (fun x : Fin (m + 1) => [Value.int .i64 (f x).1, (f x).2]) 2 w g 0 mm dk os = W at q1 q2 ⊢
    show Calls Tryz.prog 71 #[.agg #[.int .i64 (f x).1, (f x).2], .agg #[.int .i64 (f y).1, (f y).2]] W _
    rw [a2, b2]
    exact leafCmp_any _ _ r1 r2 n1 c1 n2 c2 _ _ _ q1 q2 ⟨a7, a8⟩ ⟨b7, b8⟩
  obtain ⟨d0, hd0⟩ : ∃ d0 : Array (Fin (m + 1)), d0 = (List.finRange (m + 1)).toArray := ⟨_, rfl⟩
  have hds : d0.size = m + 1 := by rw [hd0]; simp
  have hdx : d0.toList.map f = xs := by
    apply List.ext_getElem?
    intro j
    rw [hd0]
    by_cases hj : j < m + 1
    · obtain ⟨_, _, _, _, _, e3, _⟩ := hat ⟨j, hj⟩
      rw [e3]
      simp [hj]
    · rw [List.getElem?_eq_none (by simp; omega), List.getElem?_eq_none (by omega)]
  have hdl : d0.toList.map lf = L := by
    apply List.ext_getElem?
    intro j
    rw [hd0]
    by_cases hj : j < m + 1
    · obtain ⟨_, _, _, e1, _⟩ := hat ⟨j, hj⟩
      rw [e1]
      simp [hj]
    · rw [List.getElem?_eq_none (by simp; omega), List.getElem?_eq_none (by omega)]
  have hgl : g < w.heap.size := (Array.getElem?_eq_some_iff.1 hg).1
  have hH : Go.Sort.HoldsK (fun x => [.int .i64 (f x).1, (f x).2]) 2 w g 0 d0 := fun j hj => by
    have hj2 : j < d0.size * 2 := by simpa using hj
    have e1 := flat_lfC f d0 j hj2
    rw [hdx, ← htk, List.getElem?_take_of_lt (by omega)] at e1
    refine ⟨?_, by simp [World.frozen?, hg]⟩
    simp only [World.cell?, hg, Nat.zero_add]
    simp only [Option.isSome_none, Bool.false_eq_true, if_false]
    rw [← Array.getElem?_toList, e1]
    rfl
  have eg : ∀ args w, (callFunc 71 args).run Tryz.prog w = .ok (.enter 71 args) w := enters_of Tryz.func71 (by kernel_rfl) rfl
  have hcon := AnyQ.slices_SortFunc Tryz.sortF 2 Tryz.isAgg77 Tryz.sizeOf77 (fun x : Fin (m + 1) => [.int .i64 (f x).1, (f x).2]) (fun _ => rfl) (fun x v hv => by
    obtain ⟨r, nn, c, _, e2, _⟩ := hat x
    rw [e2] at hv
    simp at hv
    rcases hv with rfl | rfl <;> rfl) (fun x y : Fin (m + 1) => kc (keyL (lf x)) (keyL (lf y))) hO 71 #[] g 0 cap d0 w eg (hcmp _) hH hgl (by omega)
  change Calls Tryz.prog 70 _ _ _ at hcon
  rw [show d0.size = L.length from hds.trans hm.symm] at hcon
  refine hcon.mono ?_
  rintro e w' ⟨rfl, d', nn, os, hp, hs, rfl⟩
  have hd's : d'.size = m + 1 := hp.1.trans hds
  have hperm : d'.toList.Perm d0.toList := by
    have h9 := hp.2.2
    have e1 : d'.extract 0 L.length = d' := by
      have h : L.length = d'.size := by omega
      rw [h]
      exact Array.extract_size
    have e2 : d0.extract 0 L.length = d0 := by
      have h : L.length = d0.size := by omega
      rw [h]
      exact Array.extract_size
    rw [e1, e2] at h9
    exact h9
  have hL' : d'.toList.map lf = M := by
    refine sorted_is ?_ (ris_keys (fun x hx => (hne x (hM.mem_iff.1 hx)).1) hr) ?_
    · have := hperm.map lf
      rw [hdl] at this
      exact this.trans hM.symm
    · rw [List.pairwise_map, List.pairwise_iff_getElem]
      intro i j hi hj hij
      have hjL : j < L.length := by
        have hjs : j < d'.size := by simpa using hj
        omega
      have h9 := hs i j (Nat.zero_le _) hij hjL
      have hi' : i < d'.size := by simpa using hi
      have hj' : j < d'.size := by simpa using hj
      rw [getElem!_pos d' i hi', getElem!_pos d' j hj'] at h9
      have h8 := of_decide_eq_false h9
      simpa using h8
  have hgr := grownBy_sortedK (enc := fun x : Fin (m + 1) => [Value.int .i64 (f x).1, (f x).2]) (k := 2) (w := w) (g := g) (n := nn) (os := os) d'
  have hml : M.length = L.length := hM.length_eq
  refine ⟨rfl, ⟨d'.toList.map f, by rw [List.length_map, hml, hm, Array.length_toList, hd's], ⟨by rw [lfC_len, List.length_map, Array.length_toList, hd's, hml, hm], .inr ⟨g, cap, _, by rw [hml], hb, heap_sortedK d' hg, by rw [hml]; exact hle, hcm, by simp [Go.Sort.putCells, hsz], ?_⟩⟩, fun j x hx => ?_⟩, ⟨hgr.os, hgr.tape, hgr.output, hgr.size, fun k hk hn => hgr.block k hk (fun e => hn (by injection e))⟩⟩
  · have e1 : M.length * 2 = (lfC (d'.toList.map f)).length := by rw [lfC_len, List.length_map, hml, hm, Array.length_toList, hd's]
    rw [e1]
    refine take_putCellsK cur _ _ (by rw [← e1, hsz, hml]; exact Nat.mul_le_mul_right 2 hle) ?_ (fun t ht => flat_lfC f d' t (by simpa using ht))
    rw [Go.Sort.size_flatK, ← e1, hd's, hml, hm]
  · rw [← hL', List.getElem?_map] at hx
    obtain ⟨i, hi, rfl⟩ := Option.map_eq_some_iff.1 hx
    obtain ⟨r, n2, c2, e1, e2, e3, e4, e5, e6, _⟩ := hat i
    refine ⟨r, n2, c2, by rw [List.getElem?_map, hi, ← e2]; rfl, e4.same hgr.size (fun ad ha h0 => hgr.block _ (e4.at_ ad ha h0).1 (by cases ha; simpa using e6)), e5, fun g2 hg2 => by cases hg2; exact e6⟩
end Go.Proofs.YtkhdgacjgccnnaaGreatDoor
namespace Go.Proofs.YtkhdgacjgccnnaaGreatDoor
open Go.RowKit

/-- the leaves in their pages' order -/
def byPg (P : PS) (M : List Lf) : List Lf := (pagesTo P noChg 256).map fun z : Nat => ((z : Int), recAt M z)
theorem byPg_at {P : PS} {cont : Cont} {n : Nat} {M : List Lf} (hk : Fine (halN n) P cont) (hc : ContL cont M) {j : Nat} {x : Lf} (h : (byPg P M)[j]? = some x) : ∃ z : Nat, (natsI (pagesTo P noChg 256))[j]? = some (z : Int) ∧ z < 256 ∧ x = ((z : Int), recAt M z) ∧ cont z = some (laidR (recAt M z)) ∧ recAt M z ≠ [] := by
  unfold byPg at h
  rw [List.getElem?_map] at h
  obtain ⟨z, hz, rfl⟩ := Option.map_eq_some_iff.1 h
  have h1 := List.mem_of_getElem? hz
  unfold pagesTo at h1
  obtain ⟨h2, h3⟩ := List.mem_filter.1 h1
  have h4 := List.mem_range.1 h2
  rw [there_cont hk h4, noChg_cont, hc.some] at h3
  have h5 : recAt M z ≠ [] := fun e => by rw [e] at h3; simp at h3
  exact ⟨z, by unfold natsI; rw [List.getElem?_map, hz]; rfl, h4, rfl, by rw [hc z, if_neg h5], h5⟩
theorem pgs_map {M : List Lf} (hg : ∀ x, x ∈ M → x.1 ≠ -1) : pgs M = M.map (·.1) := by
  unfold pgs
  rw [List.filter_eq_self]
  intro p hp
  obtain ⟨x, hx, rfl⟩ := List.mem_map.1 hp
  exact decide_eq_true (hg x hx)
theorem nodup_of_map {α β : Type} {f : α → β} : ∀ {l : List α}, (l.map f).Nodup → l.Nodup
  | [], _ => List.nodup_nil
  | x :: l, h => by
    rw [List.map_cons] at h
    obtain ⟨h1, h2⟩ := List.nodup_cons.1 h
    exact List.nodup_cons.2 ⟨fun hm => h1 (List.mem_map.2 ⟨x, hm, rfl⟩), nodup_of_map h2⟩
theorem byPg_perm {P : PS} {cont : Cont} {n : Nat} {M : List Lf} (hk : Fine (halN n) P cont) (hc : ContL cont M) (hp : PgOk M) (hg : ∀ x, x ∈ M → x.1 ≠ -1) (hne : ∀ x, x ∈ M → x.2 ≠ []) : (byPg P M).Perm M := by
  have n1 : M.Nodup := nodup_of_map (f := (·.1)) (by rw [← pgs_map hg]; exact hp.nodup)
  have n2 : (byPg P M).Nodup := by
    refine nodup_of_map (f := (·.1)) ?_
    unfold byPg
    rw [List.map_map]
    refine List.Pairwise.map _ (fun a b hab e => hab ?_) (List.nodup_range.filter _)
    have e2 : (a : Int) = (b : Int) := e
    omega
  refine (List.perm_ext_iff_of_nodup n2 n1).2 (fun x => ⟨fun hx => ?_, fun hx => ?_⟩)
  · obtain ⟨j, hj⟩ := List.getElem?_of_mem hx
    obtain ⟨z, _, _, rfl, _, h5⟩ := byPg_at hk hc hj
    rcases recAt_or M z with e | ⟨y, hy, hyz, e⟩
    · exact absurd e h5
    · rw [e, ← hyz]
      exact hy
  · have h1 := hp.1 x hx
    have h2 := hg x hx
    obtain ⟨z, hz⟩ : ∃ z : Nat, x.1 = (z : Int) := ⟨x.1.toNat, by omega⟩
    have h3 := recAt_mem hp hx hz
    unfold byPg
    refine List.mem_map.2 ⟨z, ?_, by rw [h3, ← hz]⟩
    unfold pagesTo
    refine List.mem_filter.2 ⟨List.mem_range.2 (by omega), ?_⟩
    rw [there_cont hk (by omega), noChg_cont, hc.some, h3, decide_eq_false (hne x hx)]
    rfl
/-- one page's bytes, held -/
def SlotK (w : World) (T : Nat → Prop) (hv v : Value) (x : Lf) : Prop := ∃ ad m c, v = .slice (some ad) m c ∧ 0 < m ∧ Sl w w.heap.size (some ad) m c (laidR x.2) ∧ ¬ T ad.block ∧ hv.ownBlock ≠ some ad.block
theorem SlotK.step {wr w2 W w3 : World} {T2 T3 : Nat → Prop} {hv v v' : Value} {x : Lf} (h : SlotK wr T2 hv v x) (ho : Only T2 wr w2) (ht : ∀ k, T3 k → T2 k ∨ wr.heap.size ≤ k) (hb : Below w2.heap.size w2 W) (hg : W.grownBy w3 hv.ownBlock) (ha : v'.ownBlock = hv.ownBlock ∨ v'.ownBlock = some W.heap.size) : SlotK w3 T3 v' v x := by
  obtain ⟨ad, m, c, rfl, h0, h1, h2, h3⟩ := h
  have hlt := (h1.at_ ad rfl h0).1
  have s2 := (h1.only ho (fun a ha' _ => by cases ha'; exact h2)).on hb
  refine ⟨ad, m, c, rfl, h0, (s2.same (fun a ha' => by cases ha'; exact hg.block _ (s2.at_ ad rfl h0).1 (fun e => h3 e.symm))).more hg.size, fun hk => ?_, fun e => ?_⟩
  · rcases ht _ hk with e | e
    · exact h2 e
    · omega
  · rcases ha with e2 | e2
    · exact h3 (e2 ▸ e)
    · rw [e2] at e
      injection e with e
      have := ho.size
      have := hb.size
      omega
/-- the pages' bytes up to k -/
structure HasK (w1 wr : World) (T2 : Nat → Prop) (hv : Value) (L : List Lf) (k : Nat) : Prop where
  own : ∃ vs, OwnV 29 wr w1.heap.size hv vs ∧ vs.length = k ∧ ∀ j, j < k → ∃ v x, vs[j]? = some v ∧ L[j]? = some x ∧ SlotK wr T2 hv v x
  row : ∀ k, hv.ownBlock = some k → ¬ T2 k
theorem HasK.step {w1 wr w2 W w3 : World} {T2 T3 : Nat → Prop} {hv v' : Value} {L : List Lf} {k : Nat} {vs : List Value} {ad : Addr} {m c : Nat} {x : Lf} (h : ∀ j, j < k → ∃ v x, vs[j]? = some v ∧ L[j]? = some x ∧ SlotK wr T2 hv v x) (hl : vs.length = k) (hr : ∀ k, hv.ownBlock = some k → ¬ T2 k ∧ k < wr.heap.size) (ho : Only T2 wr w2) (ht : ∀ k, T3 k → (T2 k ∨ wr.heap.size ≤ k) ∧ k < w2.heap.size) (hb : Below w2.heap.size w2 W) (hg : W.grownBy w3 hv.ownBlock) (ha : v'.ownBlock = hv.ownBlock ∨ v'.ownBlock = some W.heap.size)
    (hx : L[k]? = some x) (h0 : 0 < m) (hs : Sl w2 w2.heap.size (some ad) m c (laidR x.2)) (hf : wr.heap.size ≤ ad.block ∧ ¬ T3 ad.block) (hown : OwnV 29 w3 w1.heap.size v' (vs ++ [.slice (some ad) m c])) : HasK w1 w3 T3 v' L (k + 1) := by
  have hhv : hv.ownBlock ≠ some ad.block := fun e => by have := (hr _ e).2; omega
  have s2 := hs.on hb
  refine ⟨⟨_, hown, by rw [List.length_append, hl]; rfl, fun j hj => ?_⟩, fun z hz hk => ?_⟩
  · by_cases e : j < k
    · obtain ⟨v, y, e1, e2, e3⟩ := h j e
      exact ⟨v, y, by rw [List.getElem?_append_left (by omega)]; exact e1, e2, e3.step ho (fun z hz => (ht z hz).1) hb hg ha⟩
    · obtain rfl : j = k := by omega
      refine ⟨.slice (some ad) m c, x, by rw [List.getElem?_append_right (by omega), hl, Nat.sub_self]; rfl, hx, ad, m, c, rfl, h0, (s2.same (fun a ha' => by cases ha'; exact hg.block _ (s2.at_ ad rfl h0).1 (fun e => hhv e.symm))).more hg.size, hf.2, fun e => ?_⟩
      rcases ha with e2 | e2
      · exact hhv (e2 ▸ e)
      · rw [e2] at e
        injection e with e
        have := (s2.at_ ad rfl h0).1
        omega
  · rcases ha with e2 | e2
    · rcases (ht z hk).1 with e | e
      · exact (hr z (e2 ▸ hz)).1 e
      · have := (hr z (e2 ▸ hz)).2; omega
    · rw [e2] at hz
      injection hz with hz
      have h1 := (ht z hk).2
      have := hb.size
      omega
end Go.Proofs.YtkhdgacjgccnnaaGreatDoor
namespace Go.Proofs.YtkhdgacjgccnnaaGreatDoor
open Go.RowKit

theorem Tryz.infoBtK : (Tryz.prog.info? 29).map (fun i => (i.zero, i.size, i.bytes)) = some (some (.slice none 0 0), 1, 24) := by kernel_rfl
section
variable {Real : World → Nat → DSt → (Nat → Prop) → Prop} {PR : World → Nat → Nat → Nat → Nat → (Nat → Prop) → Prop} {S : Nat → Addr} {w0 w : World} {d g n q mk : Nat} {T : Nat → Prop} {s : DSt} {P : PS} {cont : Cont}
/-- leaves read: what they are made of is their own -/
def LvsK (Real : World → Nat → DSt → (Nat → Prop) → Prop) (PR : World → Nat → Nat → Nat → Nat → (Nat → Prop) → Prop) (S : Nat → Addr) (w0 w : World) (d g n q mk : Nat) (s : DSt) (P : PS) (T : Nat → Prop) (M : List Lf) (e : Ending) (w' : World) : Prop :=
  ∃ v T2 B, e = .returned (.tuple #[v, .nilIface]) ∧ w.heap.size ≤ B ∧ LOwn w' B (fun z => B ≤ z) v M ∧ Shop Real PR S w0 w' d g n q mk T2 s P noChg ∧ (∀ k, T2 k → k < B) ∧ Only T w w' ∧ ∀ k, T2 k → T k ∨ w.heap.size ≤ k
set_option maxRecDepth 100000 in
set_option maxHeartbeats 8000000 in
theorem leavesOfK_any (D : DevOk Real) (O : PairOk Real PR) (h : Shop Real PR S w0 w d g n q mk T s P noChg) (hk : Keeps s n q P cont) (hq : q + 1 ≤ 900000) (hmk : mk ≤ 1000) (M : List Lf) (hc : ContL cont M) (hp : PgOk M) (hg : ∀ x, x ∈ M → x.1 ≠ -1) (hok : LfOk M) (hr : Ris (recsOf M)) (aR aE aS : Addr) (hE : Errs w0 aR aE aS) (hs : ∀ x, x ∈ recsOf M → 1 ≤ x.1.size ∧ x.1.size ≤ 40 ∧ x.2.size ≤ 120) (hn : (recsOf M).length ≤ 800) (hM : M ≠ []) :
    Calls Tryz.prog 38 #[.pointer (some ⟨g, 0, none⟩)] w (LvsK Real PR S w0 w d g n q mk s P T M) := by
  obtain ⟨i1, hi1, hy0, hy1, hy2⟩ := info_parts Tryz.infoBtK
  obtain ⟨i2, hi2, hx0, hx1, hx2⟩ := info_parts Tryz.infoLeaf
  have HPg := hid (sh_pages h)
  have HFw := hid h
  have HTl := hid (h.lt D O)
  have HD := hid D
  have HO := hid O
  have hperm := byPg_perm hk.fine hc hp hg (fun x hx => (hok x hx).1)
  obtain ⟨L, hL⟩ : ∃ L, byPg P M = L := ⟨_, rfl⟩
  have hat := fun (j : Nat) (x : Lf) (hx : L[j]? = some x) => byPg_at (j := j) (x := x) hk.fine hc (by rw [hL]; exact hx)
  rw [hL] at hperm
  have hpl : (natsI (pagesTo P noChg 256)).length = L.length := by rw [← hL]; unfold natsI byPg; rw [List.length_map, List.length_map]
  have hmem : ∀ x, x ∈ L → x.2 ≠ [] ∧ (laidR x.2).length ≤ 248 ∧ x.2.length ≤ 800 ∧ (∀ r, r ∈ x.2 → r ∈ recsOf M) := fun x hx => by
    have h1 := hperm.mem_iff.1 hx
    refine ⟨(hok x h1).1, (hok x h1).2, ?_, fun r hr => recsOf_mem h1 hr⟩
    obtain ⟨j, hj⟩ := List.getElem?_of_mem h1
    have h2 := recsOf_take hj
    have h3 := recsOf_part M (j + 1)
    rw [h2, List.length_append] at h3
    omega
  have hll : L.length ≤ 800 := by
    have h1 := hok.count
    rw [hperm.length_eq]
    omega
  have hL0 : L ≠ [] := fun e => hM (by rw [e] at hperm; exact hperm.symm.eq_nil)
  have HRd := hid (fun (W : World) (T1 : Nat → Prop) (h1 : Shop Real PR S w0 W d g n q mk T1 s P noChg) (j : Nat) (x : Lf) (hx : L[j]? = some x) => show Calls Tryz.prog 68 #[.pointer (some ⟨g, 0, none⟩), .int .i64 x.1] W fun e w' => ∃ A k c T', e = .returned (.tuple #[.slice A k c, .nilIface]) ∧ Sl w' w'.heap.size A k c (laidR x.2) ∧ (∀ ad, A = some ad → W.heap.size ≤ ad.block ∧ ¬ T' ad.block) ∧ Shop Real PR S w0 w' d g n q mk T' s P noChg ∧ Only T1 W w' ∧ ∀ k, T' k → T1 k ∨ W.heap.size ≤ k from by
    obtain ⟨z, _, hz, rfl, hcz, _⟩ := hat j x hx
    exact sh_readK D O h1 hk hq hmk hz hcz)
  have HPs := hid (fun (j : Nat) (x : Lf) (hx : L[j]? = some x) => show (natsI (pagesTo P noChg 256))[j]? = some x.1 from by
    obtain ⟨z, h1, _, rfl, _⟩ := hat j x hx
    exact h1)
  have HEr := hid hE
  have HL := hid (And.intro hs (And.intro hr (And.intro hn (And.intro hM (And.intro hperm (And.intro hmem hL0))))))
  obtain ⟨N, hN⟩ : ∃ N, L.length = N := ⟨_, rfl⟩
  have HN := hid hN
  have hNI : (N : Int) ≤ 800 := by omega
  have hN8 : N ≤ 800 := by omega
  rw [hN] at hpl
  have HPl := hid hpl
  clear D O h hk hE hs hr hn hM hp hc hg hok hperm hat hmem hll hL0 hN hpl
  go_enter Tryz.func38, Tryz.ntmps38
  go_wp2_with fail
  refine HPg.out.mono ?_
  rintro e w1 ⟨v, rfl, hown, hb⟩
  obtain ⟨A1, c1, rfl, hsn⟩ := hown.form
  obtain ⟨a1, rfl⟩ : ∃ a, A1 = some a := by
    cases A1 with
    | none =>
      have h1 := hsn.nil rfl
      have h2 := hsn.cap
      have h3 := HPl.out
      have h4 := HN.out
      exact absurd (List.eq_nil_of_length_eq_zero (by omega)) HL.out.2.2.2.2.2.2
    | some a => exact ⟨a, rfl⟩
  have hN0 : 0 < N := by
    have h4 := HN.out
    rcases Nat.eq_zero_or_pos N with e | e
    · exact absurd (List.eq_nil_of_length_eq_zero (by omega)) HL.out.2.2.2.2.2.2
    · exact e
  rw [HPl.out] at hsn ⊢
  obtain ⟨ha1, hcell⟩ := hsn.at_ a1 rfl hN0
  have HA1 := hid (show ¬ T a1.block ∧ a1.block < w1.heap.size from ⟨fun ht => by
    have h1 := HTl.out _ ht
    have h2 := (World.ownsRow.lt hown a1.block rfl).1
    omega, ha1⟩)
  have HC0 := hid (fun (j : Nat) (x : Lf) (hx : L[j]? = some x) => hcell j x.1 (HPs.out j x hx))
  have HB := hid hb
  have HF1 := hid (HFw.out.on HD.out HO.out hb)
  clear hown hb hsn ha1 hcell
  go_wp2
  go_loopw [5, 19] (fun hv iv wr => ∃ k : Nat, k ≤ N ∧ iv = .int .i64 (k : Int) ∧ Hid (∃ T2, HasK w1 wr T2 hv L k ∧ Shop Real PR S w0 wr d g n q mk T2 s P noChg ∧ Only T w1 wr ∧ ∀ z, T2 z → T z ∨ w1.heap.size ≤ z)) (fun _ iv _ => N - (intOf iv).toNat)
  case atStart => exact ⟨0, Nat.zero_le _, rfl, T, ⟨⟨[], OwnV.nil _ _ _, rfl, fun j hj => absurd hj (Nat.not_lt_zero _)⟩, fun k hk => (by cases hk)⟩, HF1.out, Only.refl _ _, fun z hz => .inl hz⟩
  case round =>
    obtain ⟨k, hk, rfl, HR⟩ := hrel
    by_cases hlt : k < N
    · obtain ⟨T2, hHas, hsh, ho, ht⟩ := HR.out
      obtain ⟨x, hx⟩ : ∃ x, L[k]? = some x := ⟨L[k]'(by rw [HN.out]; exact hlt), List.getElem?_eq_getElem _⟩
      obtain ⟨⟨vs, hov, hvl, hvat⟩, hrow⟩ := hHas
      have c0 : wr.cell? (a1.add k) = some (.int .i64 x.1) := by
        have h1 := HC0.out k x hx
        exact (World.cell?_of_block (by rw [add_block]; exact ho.block _ HA1.out.2 HA1.out.1)).trans h1
      have HX := hid hx
      have HOv := hid (And.intro hov (And.intro hvl hvat))
      have HRw := hid (show ∀ z, u5.ownBlock = some z → ¬ T2 z ∧ z < wr.heap.size from fun z hz => ⟨hrow z hz, (hov.lt z hz).2⟩)
      have HSh := hid hsh
      have HOn := hid ho
      have HT2 := hid ht
      have HC1 := hid (HRd.out wr T2 hsh k x hx)
      have hw1r := ho.size
      have HW1 := hid hw1r
      have hkI : (k : Int) < N := by omega
      clear hx hov hvl hvat hrow hsh ho ht HR hw1r
      go_wp2_with fail
      refine HC1.out.mono ?_
      rintro e w2 ⟨A2, k2, c2, T3, rfl, hsl, hfr, hsh3, ho3, ht3⟩
      have hk2 : 0 < k2 := by
        have h1 := hsl.len
        have h2 := laidR_pos (HL.out.2.2.2.2.2.1 x (List.mem_of_getElem? HX.out)).1
        omega
      obtain ⟨ad2, rfl⟩ : ∃ a, A2 = some a := by
        cases A2 with
        | none => have h1 := hsl.nil rfl; have h2 := hsl.cap; omega
        | some a => exact ⟨a, rfl⟩
      have HS2 := hid (And.intro hsl (hfr ad2 rfl))
      have HF2 := hid hsh3
      have HO2 := hid ho3
      have HT3 := hid (show ∀ z, T3 z → (T2 z ∨ wr.heap.size ≤ z) ∧ z < w2.heap.size from fun z hz => ⟨ht3 z hz, hsh3.lt HD.out HO.out z hz⟩)
      have hov2 : OwnV 29 w2 w1.heap.size u5 vs := by
        have h1 := HOv.out.1
        rcases h1.2 with hn | ⟨g9, cap9, cur9, e9, hb9, hgg9, rest9⟩
        · exact ⟨h1.1, .inl hn⟩
        · exact ⟨h1.1, .inr ⟨g9, cap9, cur9, e9, hb9, (ho3.block g9 (Array.getElem?_eq_some_iff.1 hgg9).1 (HRw.out g9 (by rw [e9]; rfl)).1).trans hgg9, rest9⟩⟩
      have HN2 := hid (show World.ownsRow (w2.alloc (.cells #[.slice (some ad2) k2 c2] 29)) w1.heap.size 29 1 u5 vs.length vs from World.ownsRow.alloc hov2 _)
      have hsz := ho3.size
      have hvl2 : vs.length = k := HOv.out.2.1
      have hw12 : w1.heap.size ≤ w2.heap.size := Nat.le_trans HW1.out hsz
      clear hsl hfr hsh3 ho3 ht3 hov2
      go_wp2_with (at_builtin; refine wpList_append_own_at _ rfl _ _ 145 rfl w1.heap.size 29 i1 (.slice none 0 0) 1 24 Tryz.underlying145 hi1 hy0 hy1 hy2 rfl (by decide) _ _ _ rfl HN2.out ⟨w2.heap.size, 0, none⟩ 1 1 [.slice (some ad2) k2 c2] rfl rfl ?c1 ?c2 ?c3 ?c4 ?c5 ?_)
      case c1 => exact cell_one_new _ _ _
      case c2 => intro u hu; simp at hu; subst hu; rfl
      case c3 => unfold maxLen; omega
      case c4 => omega
      case c5 => simp; omega
      intro v' w3 hown' hgrow _ hav
      have hon3 : Only (fun z => u5.ownBlock = some z) w2 w3 := ⟨hgrow.os, hgrow.tape, hgrow.output, by have h1 := hgrow.size; rw [World.size_alloc] at h1; omega, fun z hz hn => (hgrow.block z (by rw [World.size_alloc]; omega) (fun e => hn e.symm)).trans (heap_alloc_old _ _ hz)⟩
      have HH := hid (HasK.step (T3 := T3) (v' := v') HOv.out.2.2 HOv.out.2.1 HRw.out HO2.out HT3.out ((Below.refl _ _).alloc (Nat.le_refl _) _) hgrow (by rw [World.size_alloc]; exact hav) HX.out hk2 HS2.out.1 HS2.out.2 (by unfold OwnV; rw [List.length_append, hvl2]; exact hown'))
      have HH2 := hid (show Shop Real PR S w0 w3 d g n q mk T3 s P noChg ∧ Only T w1 w3 ∧ ∀ z, T3 z → T z ∨ w1.heap.size ≤ z from by
        have hlo : ∀ z, u5.ownBlock = some z → w1.heap.size ≤ z := fun z hz => (HOv.out.1.lt z hz).1
        have hw0 := HFw.out.below.size
        have hw1 := HB.out.size
        refine ⟨HF2.out.beside HD.out HO.out hon3 (fun z hz e => ?_) (fun z hz => by have := hlo z hz; omega), (HOn.out.trans HO2.out (fun z hz => HT2.out z hz)).trans hon3 (fun z hz => .inr (hlo z hz)), fun z hz => ?_⟩
        · rcases (HT3.out z hz).1 with e2 | e2
          · exact (HRw.out z e).1 e2
          · have := (HRw.out z e).2; omega
        · rcases (HT3.out z hz).1 with e2 | e2
          · exact HT2.out z e2
          · exact .inr (Nat.le_trans HW1.out e2))
      clear hown' hgrow hav hon3 c0
      go_wp2
      go_roundw
      case rel => exact ⟨k + 1, by omega, by go_num, ⟨T3, HH.out, HH2.out.1, HH2.out.2.1, HH2.out.2.2⟩⟩
      case measure => simp [intOf]; omega
    · obtain rfl : k = N := by omega
      obtain ⟨T2, hHas, hsh, ho, ht⟩ := HR.out
      obtain ⟨⟨vs, hov, hvl, hvat⟩, hrow⟩ := hHas
      have HSh := hid hsh
      have HOn := hid ho
      have HT2 := hid ht
      have HAt := hid hvat
      have HTl2 := hid (hsh.lt HD.out HO.out)
      obtain ⟨Ah, ch', rfl, hsv, _⟩ := hov.form
      have HSv := hid hsv
      have HA2 := hid (show ∀ (j : Nat) (x : Lf), L[j]? = some x → wr.cell? (a1.add j) = some (.int .i64 x.1) from fun j x hx => (World.cell?_of_block (by rw [add_block]; exact ho.block _ HA1.out.2 HA1.out.1)).trans (HC0.out j x hx))
      have HEb := hid (HEr.out.below hsh.below)
      rw [hvl]
      have HVl := hid hvl
      clear hsh ho ht hvat hov hrow hsv hvl HR
      rename World => wq
      go_wp2
      go_loopw [10, 39] (fun lv iv wr => ∃ j : Nat, j ≤ k ∧ iv = .int .i64 (j : Int) ∧ Hid (LOwn wr wq.heap.size (fun z => wq.heap.size ≤ z) lv (L.take j)) ∧ Hid (Below wq.heap.size wq wr)) (fun _ iv _ => k - (intOf iv).toNat)
      case atStart => exact ⟨0, Nat.zero_le _, rfl, lown_nil _ _ _, Below.refl _ _⟩
      case round =>
        obtain ⟨j, hj, rfl, HLo, HBx⟩ := hrel
        by_cases hlt : j < k
        · obtain ⟨v0, x, hv0, hx, ad, m, c, hve, hm0, hsl, _⟩ := HAt.out j hlt
          subst hve
          obtain ⟨ad', rfl, hadb, hadc⟩ := HSv.out.get hv0
          have hpc := HA2.out j x hx
          have d0 : wr.cell? (a1.add j) = some (.int .i64 x.1) := (HBx.out.cell (World.block_lt_of_cell? wq _ hpc)).trans hpc
          have d1 : wr.cell? (ad'.add j) = some (.slice (some ad) m c) := (HBx.out.cell (World.block_lt_of_cell? wq _ hadc)).trans hadc
          have hxm := HL.out.2.2.2.2.2.1 x (List.mem_of_getElem? hx)
          have hmm : m ≤ 248 := by have := hsl.len; have := hxm.2.1; omega
          have HTo := hid (keepTold_any (some ad) m c x.2 aR aE aS wr (hsl.on HBx.out) hmm (fun r hr => (HL.out.1 r (hxm.2.2.2 r hr)).2) (HEb.out.below HBx.out))
          have HX := hid hx
          have HXm := hid hxm
          have hjI : (j : Int) < k := by omega
          have hjc : (j : Int) < (L.length : Int) := by have := HN.out; omega
          clear hv0 hx hsl hadb hadc hpc hxm
          go_wp2_with fail
          refine HTo.out.mono ?_
          rintro e w2 ⟨v2, rfl, hr2, hb2⟩
          obtain ⟨A3, n3, c3, rfl, hs3⟩ := hr2.rsl
          have hn3 : 0 < n3 := by
            have h3 := hs3.len
            rcases Nat.eq_zero_or_pos n3 with e | e
            · exact absurd (List.eq_nil_of_length_eq_zero (by omega)) HXm.out.1
            · exact e
          obtain ⟨r3, rfl⟩ : ∃ a, A3 = some a := by
            cases A3 with
            | none => have h1 := hs3.nil rfl; have h2 := hs3.cap; omega
            | some a => exact ⟨a, rfl⟩
          obtain ⟨xs, g1, g2, g3⟩ := HLo.out.on hb2
          have HR3 := hid hs3
          have HB2 := hid hb2
          have HG2 := hid g2
          have HG := hid (And.intro g1 g3)
          have hr3 := (hr2.lt r3.block rfl)
          have HRr := hid hr3
          have hlw := HLo.out.lt
          have HLw := hid hlw
          have hbs : wq.heap.size ≤ w2.heap.size := Nat.le_trans HBx.out.size hb2.size
          have htl : (L.take j).length = j := by rw [List.length_take]; have := HN.out; omega
          rw [htl] at HG2
          clear hr2 hb2 hs3 d0 d1 g1 g2 g3 hlw
          go_wp2_with (at_builtin; refine wpList_append_own_at _ rfl _ _ 49 rfl wq.heap.size 77 i2 (.agg #[.int .i64 0, .slice none 0 0]) 2 32 Tryz.underlying49 hi2 hx0 hx1 hx2 rfl (by decide) _ _ _ rfl (World.ownsRow.alloc HG2.out _) ⟨w2.heap.size, 0, none⟩ 1 1 [.int .i64 x.1, .slice (some r3) n3 c3] rfl rfl ?c1 ?c2 ?c3 ?c4 ?c5 ?_)
          case c1 =>
            intro i u hu
            rcases i with _ | _ | i
            · simp at hu; subst hu; exact (Blk.new w2 _ _).cell 0
            · simp at hu; subst hu; exact (Blk.new w2 _ _).cell 1
            · simp at hu
          case c2 => intro u hu; simp at hu; rcases hu with rfl | rfl <;> rfl
          case c3 => unfold maxLen; omega
          case c4 => omega
          case c5 => simp; omega
          intro v' w3 hown' hgrow _ hav
          have hlo2 : ∀ z, u10.ownBlock = some z → wq.heap.size ≤ z ∧ z < wr.heap.size := fun z hz => HLw.out z hz
          have hbW : Below w2.heap.size w2 (w2.alloc (.cells #[.int .i64 x.1, .slice (some r3) n3 c3] 77)) := (Below.refl _ _).alloc (Nat.le_refl _) _
          have HNx := hid (show LOwn w3 wq.heap.size (fun z => wq.heap.size ≤ z) v' (L.take (j + 1)) from by
            rw [List.take_add_one, HX.out]
            refine LOwn.push (w := w2.alloc (.cells #[.int .i64 x.1, .slice (some r3) n3 c3] 77)) (v := u10) HG.out.1 (fun i y hy => ?_) (HR3.out.on hbW) hn3 (show wq.heap.size ≤ r3.block by have := HRr.out.1; have := HBx.out.size; omega) (fun z hz e => by have h1 := (hlo2 z hz).2; have h2 := HRr.out.1; omega) (fun y hy => (HL.out.2.2.2.2.2.1 y (List.mem_of_mem_take hy)).1) (by rw [htl]; exact hown') hgrow (by rw [World.size_alloc]; exact hav)
            obtain ⟨r2, m2, cc2, f1, f2, f3, f4⟩ := HG.out.2 i y hy
            exact ⟨r2, m2, cc2, f1, f2.on hbW, f3, f4⟩)
          have HBn := hid (show Below wq.heap.size wq w3 from (HBx.out.trans ((HB2.out.trans (hbW.mono HB2.out.size)).mono HBx.out.size)).grown hgrow (by rw [World.size_alloc]; omega) (fun z hz => (hlo2 z hz).1))
          clear hown' hgrow hav hlo2 hbW
          go_wp2
          go_roundw
          case rel => exact ⟨j + 1, by omega, by go_num, HNx, HBn⟩
          case measure => simp [intOf]; omega
        · obtain rfl : j = k := by omega
          have htl : L.take j = L := List.take_of_length_le (by have := HN.out; omega)
          have hlo := HLo.out
          rw [htl] at hlo
          obtain ⟨g2, cap, hv⟩ : ∃ g2 cap, u10 = .slice (some ⟨g2, 0, none⟩) L.length cap := by
            obtain ⟨xs, h1, h2, _⟩ := hlo
            rcases h2.2 with ⟨e, h0⟩ | ⟨g, cap, cur, e, _⟩
            · exact absurd (List.eq_nil_of_length_eq_zero h0) HL.out.2.2.2.2.2.2
            · exact ⟨g, cap, e⟩
          subst hv
          have hg2 := hlo.lt g2 rfl
          have HG2 := hid hg2
          have HSo := hid (sortLeaves_any g2 L.length cap wq.heap.size _ L M wr hlo HL.out.2.2.2.2.2.2 (fun x hx => ⟨(HL.out.2.2.2.2.2.1 x hx).1, by have := (HL.out.2.2.2.2.2.1 x hx).2.2.1; omega⟩) HL.out.2.2.2.2.1.symm HL.out.2.1 (by have := HN.out; omega))
          clear hlo htl hg2
          go_wp2_with fail
          refine HSo.out.mono ?_
          rintro e w2 ⟨rfl, hls, hos⟩
          have hbs : Below wq.heap.size wr w2 := hos.below HBx.out.size (fun z hz => by rw [hz]; exact HG2.out.1)
          have HLs := hid hls
          have HB2 := hid (HBx.out.trans hbs)
          obtain ⟨A9, n9, c9, e9, hl9, _⟩ := hls.lsl
          cases e9
          have HRc := hid (recordsOf_any _ L.length cap M w2 hl9 (by have := HN.out; omega) (by have := HL.out.2.2.1; omega))
          clear hls hos hbs hl9
          go_upto_region 21 with fail
          go_wp2_with (first
            | (go_at_call 16; refine HRc.out.mono ?_; rintro e w3 ⟨v3, rfl, hr3, hb3⟩; obtain ⟨A3, n3, c3, rfl, hs3⟩ := hr3.rsl; have HB3 := hid hb3; have HRi := hid (rising_any A3 n3 c3 (recsOf M) w3 hs3 HL.out.2.1 (fun x hx => (HL.out.1 x hx).1)); clear hr3 hb3 hs3)
            | (go_at_call 72; refine HRi.out.mono ?_; rintro e w4 ⟨rfl, hb4⟩; have HB4 := hid hb4; clear hb4))
          have hb4 := HB4.out
          have hb24 : Below w2.heap.size w2 w4 := HB3.out.trans (hb4.mono HB3.out.size)
          have hbr4 : Below wq.heap.size wq w4 := HB2.out.trans (hb24.mono HB2.out.size)
          have HFin := hid (show LvsK Real PR S w0 w d g n q mk s P T M (.returned (.tuple #[.slice (some ⟨g2, 0, none⟩) L.length cap, .nilIface])) w4 from
            ⟨_, T2, wq.heap.size, rfl, Nat.le_trans HB.out.size HOn.out.size, HLs.out.on hb24, HSh.out.on HD.out HO.out hbr4, HTl2.out, ((Only.of_below HB.out).trans HOn.out (fun i hi => .inl hi)).then_below hbr4, fun z hz => (HT2.out z hz).imp id (fun h => by have := HB.out.size; omega)⟩)
          clear hb4 hb24 hbr4
          go_ret2
          exact HFin.out
end
end Go.Proofs.YtkhdgacjgccnnaaGreatDoor
namespace Go.Proofs.YtkhdgacjgccnnaaGreatDoor
open Go.RowKit

section
variable {Real : World → Nat → DSt → (Nat → Prop) → Prop} {PR : World → Nat → Nat → Nat → Nat → (Nat → Prop) → Prop} {S : Nat → Addr} {w0 w w' : World} {d g n q mk : Nat} {T : Nat → Prop} {s : DSt} {P : PS} {ch : Chg} {cont : Cont}
/-- a keep taken up -/
def KpOK (w0 w : World) (l : List Rec) (e : Ending) (w' : World) : Prop := ∃ kb s lv F, e = .returned (.tuple #[.pointer (some ⟨kb, 0, none⟩), .nilIface]) ∧ KpX w' w.heap.size kb s lv F l ∧ Below w0.heap.size w0 w'
set_option maxRecDepth 100000 in
set_option maxHeartbeats 4000000 in
theorem kpOpenK_any (D : DevOk Real) (O : PairOk Real PR) (h : Shop Real PR S w0 w d g n q mk T s P ch) (hk : Keeps s n q P cont) (hq : q + 1 ≤ 900000) (hmk : mk ≤ 1000) (M : List Lf) (hc : ContL cont M) (hp : PgOk M) (hg : ∀ x, x ∈ M → x.1 ≠ -1) (hok : LfOk M) (hr : Ris (recsOf M)) (aR aE aS : Addr) (hE : Errs w0 aR aE aS) (hs : ∀ x, x ∈ recsOf M → 1 ≤ x.1.size ∧ x.1.size ≤ 40 ∧ x.2.size ≤ 120) (hn : (recsOf M).length ≤ 800) (hM : M ≠ []) :
    Calls Tryz.prog 22 #[.pointer (some ⟨g, 0, none⟩)] w (KpOK w0 w (recsOf M)) := by
  have HAb := hid (sh_abort D O h)
  have HLv := hid (fun (W : World) (T1 : Nat → Prop) (h1 : Shop Real PR S w0 W d g n q mk T1 s P noChg) => leavesOfK_any D O h1 hk hq hmk M hc hp hg hok hr aR aE aS hE hs hn hM)
  have HL := hid (And.intro hs (And.intro hr hn))
  have hcn := hok.count
  have hml : M.length ≤ 800 := by omega
  clear D O h hk hc hp hE hs hr hok hM hg hcn
  go_enter Tryz.func22, Tryz.ntmps22
  go_wp2_with fail
  refine HAb.out.mono ?_
  rintro e w1 ⟨rfl, T1, h1, ho1, _⟩
  have H1 := hid h1
  have HO1 := hid ho1.size
  clear h1 ho1
  go_wp2_with fail
  refine (HLv.out w1 T1 H1.out).mono ?_
  rintro e w2 ⟨v, T2, B, rfl, hB, hlo, hsh2, _, ho2, _⟩
  obtain ⟨A, m, c, rfl, hls, _⟩ := hlo.lsl
  have hmm := hls.len
  have HO2 := hid ho2.size
  have HB0 := hid hsh2.below
  have HRc := hid (recordsOf_any A m c M w2 hls (by omega) (by have := HL.out.2.2; omega))
  clear hlo hls ho2 hsh2
  go_wp2_with fail
  refine HRc.out.mono ?_
  rintro e w3 ⟨v3, rfl, hr3, hb3⟩
  obtain ⟨W, hW⟩ : ∃ W, w3.alloc (.cells #[.pointer (some ⟨g, 0, none⟩), v3, .slice A m c] 51) = W := ⟨_, rfl⟩
  have z1 : Below w3.heap.size w3 W := by rw [← hW]; exact (Below.refl _ _).alloc (Nat.le_refl _) _
  have z2 : Blk W w3.heap.size 51 #[.pointer (some ⟨g, 0, none⟩), v3, .slice A m c] := by rw [← hW]; exact Blk.new w3 _ _
  have hz := hb3.size
  have hw2 : w.heap.size ≤ w2.heap.size := Nat.le_trans HO1.out HO2.out
  have HF := hid (show KpX W w.heap.size w3.heap.size (.pointer (some ⟨g, 0, none⟩)) (.slice A m c) (fun k => k = w3.heap.size ∨ v3.ownBlock = some k) (recsOf M) ∧ Below w0.heap.size w0 W from ⟨
    { box := ⟨v3, z2, (hr3.on z1).base hw2, fun k hk => ⟨by have := (hr3.lt k hk).2; omega, .inr hk⟩⟩
      own := .inl rfl
      lt := fun k hk => by
        rcases hk with rfl | hk
        · exact z2.lt
        · have h1 := (hr3.lt k hk).2; have h2 := z1.size; omega
      lo := fun k hk => by
        rcases hk with rfl | hk
        · omega
        · have := (hr3.lt k hk).1; omega
      ris := HL.out.2.1
      siz := fun x hx => by have := HL.out.1 x hx; omega
      len := by have := HL.out.2.2; omega }, HB0.out.trans ((hb3.trans (z1.mono hb3.size)).mono HB0.out.size)⟩)
  obtain ⟨A3, n3, c3, rfl, _⟩ := hr3.form
  clear hr3 hb3 z1 z2 hz hw2
  go_wp2
  go_ret2
  first
    | exact ⟨_, _, _, _, rfl, HF.out⟩
    | (rw [hW]; exact ⟨_, _, _, _, rfl, HF.out⟩)
/-- a keep opened anew -/
def ReOK (w0 : World) (l : List Rec) (e : Ending) (w' : World) : Prop := ∃ kb s lv F b0, e = .returned (.pointer (some ⟨kb, 0, none⟩)) ∧ KpX w' b0 kb s lv F l ∧ Below w0.heap.size w0 w'
set_option maxRecDepth 100000 in
set_option maxHeartbeats 1000000 in
theorem reopenedK_any (D : DevOk Real) (O : PairOk Real PR) (hS : Sent7 w0 S) (h : Shop Real PR S w0 w d g n q mk T s P ch) (hk : Keeps s n q P cont) (hq : q ≤ 690000) (M : List Lf) (hc : ContL cont M) (hp : PgOk M) (hg : ∀ x, x ∈ M → x.1 ≠ -1) (hok : LfOk M) (hr : Ris (recsOf M)) (aR aE aS : Addr) (hE : Errs w0 aR aE aS) (hs : ∀ x, x ∈ recsOf M → 1 ≤ x.1.size ∧ x.1.size ≤ 40 ∧ x.2.size ≤ 120) (hn : (recsOf M).length ≤ 800) (hM : M ≠ []) :
    Calls Tryz.prog 9 #[.pointer (some ⟨d, 0, none⟩)] w (ReOK w0 (recsOf M)) := by
  have HOp := hid (sh_open D O hS h hq hk)
  have HKp := hid (fun (W : World) (g' : Nat) (T' : Nat → Prop) (h1 : Shop Real PR S w0 W d g' n q 7 T' s P noChg) => kpOpenK_any D O h1 hk (by omega) (by omega) M hc hp hg hok hr aR aE aS hE hs hn hM)
  clear D O hS h hk hc hp hE hs hr hok hM hg
  go_enter Tryz.func9, Tryz.ntmps9
  go_wp2_with fail
  refine HOp.out.mono ?_
  rintro e w1 ⟨g', T', rfl, hsh, _, _⟩
  have HSh := hid hsh
  clear hsh
  go_wp2_with fail
  refine (HKp.out w1 g' T' HSh.out).mono ?_
  rintro e w2 ⟨kb, s', lv, F, rfl, hkp⟩
  have HF := hid hkp
  clear hkp
  go_wp2
  go_ret
  exact ⟨kb, s', lv, F, _, rfl, HF.out⟩
set_option maxRecDepth 100000 in
set_option maxHeartbeats 1000000 in
theorem kpLenK_any (b0 kb : Nat) (s lv : Value) (F : Nat → Prop) (l : List Rec) (h : KpX w b0 kb s lv F l) :
    Calls Tryz.prog 10 #[.pointer (some ⟨kb, 0, none⟩)] w fun e w' => e = .returned (.int .i64 (l.length : Int)) ∧ w' = w := by
  obtain ⟨v, hbox, hrow, hap⟩ := h.box
  obtain ⟨A3, n3, c3, rfl, hln, hnc, hcm, hnil, hat⟩ := hrow.form
  have c1 : w.cell? ⟨kb, 1, none⟩ = some (.slice A3 n3 c3) := (Blk.cell hbox 1).trans rfl
  have HL := hid hln
  clear h hbox hrow hap hln hnc hcm hnil hat
  go_enter Tryz.func10, Tryz.ntmps10
  go_wp2
  go_ret
  exact ⟨by rw [HL.out]; rfl, rfl⟩
end
end Go.Proofs.YtkhdgacjgccnnaaGreatDoor
