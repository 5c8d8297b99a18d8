/- Put together out of 2 texts. Package page over plain values: what lies on the device behind a commit; what is read, and mended. -/
import Derived.Test.YtkhdgacjgccnnaaGreatDoorGXaw
import Derived.Test.YtkhdgacjgccnnaaGreatDoorGXan
namespace Go.Proofs.YtkhdgacjgccnnaaGreatDoor

/-- no block is faulted -/
def Clean (s : DSt) : Prop := ∀ b, b ∈ s.blks → b.fault = false
theorem St.clean {l : List Int} {b : BSt} (h : St l b) (hf : b.fault = false) : b.read = (0, l) := by
  rcases h with ⟨h, hn⟩ | ⟨h, _, hl, hh⟩ | ⟨_, _, _, h2, _, _, _, _, _, _⟩ | ⟨_, h2, _⟩
  · unfold BSt.read; rw [if_pos h, hn]
  · unfold BSt.read; rw [if_neg (by rw [h]; decide), if_neg (by rw [hl]; decide), hh]
  · rw [hf] at h2; cases h2
  · rw [hf] at h2; cases h2
theorem clean_new (n : Nat) : Clean (DSt.new n) := fun b hb => by
  unfold DSt.new at hb
  rw [List.eq_of_mem_replicate hb]; rfl
theorem Clean.turn {s : DSt} (h : Clean s) (i : Int) {f : BSt → BSt} (hf : ∀ b, b.fault = false → (f b).fault = false) : Clean (s.turn i f) := fun b hb => by
  obtain ⟨j, hj⟩ := List.getElem?_of_mem hb
  simp only [DSt.turn, List.getElem?_modify] at hj
  obtain ⟨y, hy, rfl⟩ := Option.map_eq_some_iff.1 hj
  have := h y (List.mem_of_getElem? hy)
  split
  · exact hf y this
  · exact this
theorem Clean.put {s : DSt} (h : Clean s) (i : Nat) (l : List Int) : Clean (s.put i l) := h.turn (i : Int) (f := BSt.write l) (fun _ hb => hb)
theorem Clean.pWrite {s : DSt} (h : Clean s) (H i : Nat) (l : List Int) : Clean (pWrite s H i l) := (h.put i l).put (i + H) l
theorem Clean.fl {s : DSt} (h : Clean s) : Clean (fl s) := fun b hb => by
  obtain ⟨y, hy, rfl⟩ := List.mem_map.1 hb
  unfold BSt.flush
  split
  · rfl
  · exact h y hy
/-- both of a pair were written last with l, and one of both is right -/
def Two (s : DSt) (H f : Nat) (l : List Int) : Prop := ∃ a b, At s f (f + H) a b ∧ St l a ∧ St l b ∧ (a.right (crcOf (nats l)) = true ∨ b.right (crcOf (nats l)) = true)
theorem read_flush (b : BSt) : b.flush.read = b.read := by
  unfold BSt.flush
  split
  · rename_i h
    unfold BSt.read BSt.settle
    simp [h]
  · rfl
theorem right_flush (b : BSt) (z : Nat) : b.flush.right z = b.right z := by unfold BSt.right; rw [read_flush]
section
variable {s s' : DSt} {n q H f f' j : Nat} {l l' : List Int}
theorem Two.fl (h : Two s H f l) : Two (fl s) H f l := by
  obtain ⟨a, b, h1, h2, h3, h4⟩ := h
  exact ⟨_, _, h1.fl, h2.flush, h3.flush, by rw [right_flush, right_flush]; exact h4⟩
theorem Two.same (h : Two s H f l) (h1 : s'.blks[f]? = s.blks[f]?) (h2 : s'.blks[f + H]? = s.blks[f + H]?) : Two s' H f l := by
  obtain ⟨a, b, h3, h4⟩ := h
  exact ⟨a, b, ⟨h1.trans h3.a, h2.trans h3.c⟩, h4⟩
theorem right_write (b : BSt) (l : List Int) : (b.write l).right (crcOf (nats l)) = true := right_of (read_write b l)
theorem Two.put (h : Two s H f l) (hH : 0 < H) : Two (s.put f l) H f l := by
  obtain ⟨a, b, h1, _, h3, _⟩ := h
  exact ⟨_, b, h1.put1 (by omega) l, st_write a l, h3, .inl (right_write a l)⟩
theorem Two.read (h : Two s H f l) (hl : Byt l) (h256 : l.length = 256) (u : Up s n q) (hf : f + H < n) :
    (pRead s H f (crcOf (nats l))).1 = 0 ∧ (pRead s H f (crcOf (nats l))).2.1 = l ∧ (((pRead s H f (crcOf (nats l))).2.2.1 = s ∧ (pRead s H f (crcOf (nats l))).2.2.2 = 0) ∨ ((pRead s H f (crcOf (nats l))).2.2.1 = s.put f l ∧ (pRead s H f (crcOf (nats l))).2.2.2 = 1)) := by
  obtain ⟨a, b, h1, h2, h3, h4⟩ := h
  rcases ha : a.right (crcOf (nats l)) with _ | _
  · have hb : b.right (crcOf (nats l)) = true := by rcases h4 with h4 | h4; (rw [ha] at h4; cases h4); exact h4
    rw [pRead_two u hf h1 ha hb, h3.right hl h256 hb]
    exact ⟨rfl, rfl, .inr ⟨rfl, rfl⟩⟩
  · rw [pRead_one u (by omega) h1 ha, h2.right hl h256 ha]
    exact ⟨rfl, rfl, .inl ⟨rfl, rfl⟩⟩
theorem Two.clean (h : Two s H f l) (u : Up s n q) (hf : f + H < n) (hc : Clean s) : pRead s H f (crcOf (nats l)) = (0, l, s, 0) := by
  obtain ⟨a, b, h1, h2, _, _⟩ := h
  have hr := h2.clean (hc a (List.mem_of_getElem? h1.a))
  rw [pRead_one u (by omega) h1 (right_of hr), hr]
end
/-! many pairs written -/
def pWrites (s : DSt) (H : Nat) (ws : List (Nat × List Int)) : DSt := ws.foldl (fun s x => pWrite s H x.1 x.2) s
theorem pWrites_cons (s : DSt) (H : Nat) (x : Nat × List Int) (ws : List (Nat × List Int)) : pWrites s H (x :: ws) = pWrites (pWrite s H x.1 x.2) H ws := rfl
theorem pWrites_append (s : DSt) (H : Nat) (a b : List (Nat × List Int)) : pWrites s H (a ++ b) = pWrites (pWrites s H a) H b := List.foldl_append ..
theorem pWrites_else {H j : Nat} : ∀ (ws : List (Nat × List Int)) (s : DSt), (∀ x, x ∈ ws → x.1 ≠ j ∧ x.1 + H ≠ j) → (pWrites s H ws).blks[j]? = s.blks[j]?
  | [], _, _ => rfl
  | x :: ws, s, h => by
    rw [pWrites_cons, pWrites_else ws _ (fun y hy => h y (List.mem_cons_of_mem _ hy))]
    exact pWrite_else (h x (List.mem_cons_self ..)).1 (h x (List.mem_cons_self ..)).2
theorem pWrite_len (s : DSt) (H i : Nat) (l : List Int) : (pWrite s H i l).blks.length = s.blks.length := by
  show (((s.put i l).turn _ _).blks.length) = _
  rw [DSt.turn_len]
  show ((s.turn _ _).blks.length) = _
  rw [DSt.turn_len]
theorem Clean.pWrites {H : Nat} : ∀ {ws : List (Nat × List Int)} {s : DSt}, Clean s → Clean (pWrites s H ws)
  | [], _, h => h
  | x :: ws, _, h => Clean.pWrites (ws := ws) (h.pWrite H x.1 x.2)
theorem pWrites_at {H n : Nat} {f : Nat} {l : List Int} : ∀ (ws : List (Nat × List Int)) (s : DSt), s.blks.length = n → 2 * H ≤ n → (ws.map (·.1)).Nodup → (∀ x, x ∈ ws → x.1 < H) → (f, l) ∈ ws → ∃ a b, At (pWrites s H ws) f (f + H) (BSt.write l a) (BSt.write l b)
  | [], _, _, _, _, _, hm => by cases hm
  | x :: ws, s, hn, hH, nd, hlt, hm => by
    rw [List.map_cons, List.nodup_cons] at nd
    have hxl := hlt x (List.mem_cons_self ..)
    rcases List.mem_cons.1 hm with e | hm
    · subst e
      have hne : ∀ y, y ∈ ws → y.1 ≠ f := fun y hy e => nd.1 (List.mem_map.2 ⟨y, hy, e⟩)
      have e1 : f < H := hxl
      have ha : s.blks[f]? = some (s.blks[f]'(by omega)) := List.getElem?_eq_getElem (by omega)
      have hb : s.blks[f + H]? = some (s.blks[f + H]'(by omega)) := List.getElem?_eq_getElem (by omega)
      have hw := At.write (s := s) (i := f) (H := H) ⟨ha, hb⟩ (by omega) l
      refine ⟨_, _, (pWrites_else ws _ (fun y hy => ⟨hne y hy, ?_⟩)).trans hw.a, (pWrites_else ws _ (fun y hy => ⟨?_, ?_⟩)).trans hw.c⟩
      · omega
      · have := hlt y (List.mem_cons_of_mem _ hy); omega
      · have := hne y hy; omega
    · exact pWrites_at ws _ (by rw [pWrite_len]; exact hn) hH nd.2 (fun y hy => hlt y (List.mem_cons_of_mem _ hy)) hm
theorem pWrites_up {n H : Nat} : ∀ (ws : List (Nat × List Int)) (s : DSt) (q : Nat), Up s n q → 2 * H ≤ n → (∀ x, x ∈ ws → x.1 < H ∧ x.2.length = 256 ∧ Byt x.2) → Up (pWrites s H ws) n (q + 2 * ws.length)
  | [], _, _, u, _, _ => u
  | x :: ws, s, q, u, hH, h => by
    obtain ⟨h1, h2, h3⟩ := h x (List.mem_cons_self ..)
    have u1 := (u.write (i := x.1) (l := x.2) (by omega) h2 h3).2
    have u2 := (u1.write (i := x.1 + H) (l := x.2) (by omega) h2 h3).2
    have := pWrites_up ws _ _ u2 hH (fun y hy => h y (List.mem_cons_of_mem _ hy))
    rw [pWrites_cons, List.length_cons, show q + 2 * (ws.length + 1) = q + 1 + 1 + 2 * ws.length by omega]
    exact this
theorem wpTo_dev {ch : Chg} {H : Nat} {fr lp : List Nat} {s : DSt} {Q : PS} : ∀ i, (wpTo ch H fr lp s Q i).1 = pWrites s H ((List.range i).map fun t => (fr.getD t 0, pageB ((ch (lp.getD t 0)).getD [])))
  | 0 => rfl
  | i + 1 => by
    rw [List.range_succ, List.map_append, pWrites_append, ← wpTo_dev i]
    rfl
theorem wiTo_dev {H : Nat} {fr li : List Nat} {s : DSt} {Q : PS} : ∀ i, (wiTo H fr li s Q i).1 = pWrites s H ((List.range i).map fun t => (fr.getD t 0, indexB Q.pgs (li.getD t 0)))
  | 0 => rfl
  | i + 1 => by
    rw [List.range_succ, List.map_append, pWrites_append, ← wiTo_dev i]
    show pWrite _ _ _ (indexB (wiTo H fr li s Q i).2.pgs _) = _
    rw [wiTo_pgs]
    rfl
section
variable {P : PS} {ch : Chg} {s : DSt} {H : Nat}
/-- what a commit writes, ahead of the root -/
def wsOf (P : PS) (ch : Chg) (H : Nat) (s : DSt) : List (Nat × List Int) :=
  ((List.range (pagesOf P ch).length).map fun t => ((freeOf P H).getD t 0, pageB ((ch ((pagesOf P ch).getD t 0)).getD []))) ++ (List.range (indexesOf P ch).length).map fun t => ((freeOf P H).getD ((pagesOf P ch).length + t) 0, indexB (commitTo P ch s H).2.pgs ((indexesOf P ch).getD t 0))
theorem com_dev (P : PS) (ch : Chg) (s : DSt) (H : Nat) : (commitTo P ch s H).1 = pWrites s H (wsOf P ch H s) := by
  unfold wsOf
  rw [pWrites_append, com_pgs]
  unfold commitTo
  rw [wiTo_dev, wpTo_dev]
  simp only [getD_drop]
theorem ws_len : (wsOf P ch H s).length = (pagesOf P ch).length + (indexesOf P ch).length := by simp [wsOf]
theorem ws_addr {x : Nat × List Int} (hfit : (pagesOf P ch).length + (indexesOf P ch).length ≤ (freeOf P H).length) (hc : ∀ k l, ch k = some l → Byt l ∧ l.length ≤ 248) (hx : x ∈ wsOf P ch H s) : x.1 ∈ freeOf P H ∧ x.2.length = 256 ∧ Byt x.2 := by
  unfold wsOf at hx
  rcases List.mem_append.1 hx with hx | hx
  · obtain ⟨t, ht, rfl⟩ := List.mem_map.1 hx
    have ht := List.mem_range.1 ht
    obtain ⟨_, l, hl, _⟩ := pagesOf_iff.1 (getD_mem ht)
    rw [hl]
    exact ⟨getD_mem (by omega), pageB_len (hc _ _ hl).2, pageB_byt (hc _ _ hl).2 (hc _ _ hl).1⟩
  · obtain ⟨t, ht, rfl⟩ := List.mem_map.1 hx
    have ht := List.mem_range.1 ht
    exact ⟨getD_mem (by omega), indexB_len _ _, indexB_byt _ _⟩
theorem ws_map (P : PS) (ch : Chg) (H : Nat) (s : DSt) : (wsOf P ch H s).map (·.1) = (List.range ((pagesOf P ch).length + (indexesOf P ch).length)).map fun t => (freeOf P H).getD t 0 := by
  unfold wsOf
  rw [List.map_append, List.map_map, List.map_map, List.range_add, List.map_append, List.map_map]
  rfl
theorem ws_nodup (hfit : (pagesOf P ch).length + (indexesOf P ch).length ≤ (freeOf P H).length) : ((wsOf P ch H s).map (·.1)).Nodup := by
  rw [ws_map]
  refine List.pairwise_map.2 (List.nodup_range.imp_of_mem (fun ha hb hne e => hne ?_))
  exact getD_inj (free_nodup P H) (by have := List.mem_range.1 ha; omega) (by have := List.mem_range.1 hb; omega) e
/-- what is pointed to: where, and what -/
inductive Item (P : PS) (cont : Cont) : Int × Nat → List Int → Prop
  | page {i : Nat} {x : Int × Nat} {l : List Int} (hx : P.pgs[i]? = some x) (hp : points x = true) (hl : cont i = some l) : Item P cont x (pageB l)
  | index {k : Nat} {y : Int × Nat} (hy : P.idx[k]? = some y) (hp : points y = true) : Item P cont y (indexB P.pgs k)
theorem Item.at_ {cont : Cont} {x : Int × Nat} {l : List Int} (hL : P.Len) (h : Item P cont x l) : ∃ q, P.all[q]? = some x ∧ points x = true ∧ ((7 ≤ q ∧ ∃ m, cont (q - 7) = some m ∧ l = pageB m) ∨ (q < 7 ∧ l = indexB P.pgs q)) := by
  rcases h with ⟨hx, hp, hl⟩ | ⟨hy, hp⟩
  · rename_i i m
    exact ⟨7 + i, by rw [all_pg hL]; exact hx, hp, .inl ⟨by omega, m, by rw [Nat.add_sub_cancel_left]; exact hl, rfl⟩⟩
  · rename_i k
    have hk := (List.getElem?_eq_some_iff.1 hy).1
    rw [hL.i] at hk
    exact ⟨k, by rw [all_idx hL hk]; exact hy, hp, .inr ⟨hk, rfl⟩⟩
theorem Item.same {cont : Cont} {x y : Int × Nat} {l m : List Int} (h : Fine H P cont) (hx : Item P cont x l) (hy : Item P cont y m) (he : x.1 = y.1) : x = y ∧ l = m := by
  obtain ⟨a, a1, a2, a3⟩ := hx.at_ h.len
  obtain ⟨b, b1, b2, b3⟩ := hy.at_ h.len
  obtain rfl := h.apart.inj a b x y a1 b1 a2 b2 he
  rw [a1] at b1
  refine ⟨by injection b1, ?_⟩
  rcases a3 with ⟨h1, u, hu, rfl⟩ | ⟨h1, rfl⟩ <;> rcases b3 with ⟨h2, v, hv, rfl⟩ | ⟨h2, rfl⟩
  · rw [hu] at hv; cases hv; rfl
  · omega
  · omega
  · rfl
theorem Item.fine {cont : Cont} {x : Int × Nat} {l : List Int} (h : Fine H P cont) (hi : Item P cont x l) : (∃ f : Nat, x.1 = (f : Int) ∧ 2 ≤ f ∧ f < H) ∧ x.2 = crcOf (nats l) ∧ l.length = 256 ∧ Byt l := by
  obtain ⟨q, hq, hp, _⟩ := hi.at_ h.len
  refine ⟨h.addr hq hp, ?_⟩
  rcases hi with ⟨hx, hp, hl⟩ | ⟨hy, hp⟩
  · rcases h.page _ _ hx with ⟨h1, _⟩ | ⟨_, ⟨m, h2, h3, h4, h5, h6⟩, _⟩
    · rw [h1] at hp; cases hp
    · rw [hl] at h2; cases h2
      exact ⟨h6, pageB_len h4, pageB_byt h4 h5⟩
  · rcases h.index _ _ hy with ⟨h1, _⟩ | ⟨_, h2⟩
    · rw [h1] at hp; cases hp
    · exact ⟨h2, indexB_len _ _, indexB_byt _ _⟩
/-- all that is pointed to lies on the device -/
def Held (s : DSt) (H : Nat) (P : PS) (cont : Cont) : Prop := ∀ x l, Item P cont x l → Two s H x.1.toNat l
theorem Held.fl {cont : Cont} (h : Held s H P cont) : Held (fl s) H P cont := fun x l hi => (h x l hi).fl
theorem Held.same {s' : DSt} {cont : Cont} (h : Held s H P cont) (hF : Fine H P cont) (hs : ∀ f, 2 ≤ f → f < H → P.addrs.contains (f : Int) = true → s'.blks[f]? = s.blks[f]? ∧ s'.blks[f + H]? = s.blks[f + H]?) : Held s' H P cont := fun x l hi => by
  obtain ⟨f, hf, h2, h3⟩ := (hi.fine hF).1
  obtain ⟨q, hq, hp, _⟩ := hi.at_ hF.len
  have hm := mem_addrs hq hp
  have ht := h x l hi
  rw [hf] at ht hm ⊢
  rw [Int.toNat_natCast] at ht ⊢
  exact ht.same (hs f h2 h3 hm).1 (hs f h2 h3 hm).2
theorem com_held {cont : Cont} {n : Nat} (hF : Fine H P cont) (h : Held s H P cont) (hn : s.blks.length = n) (hH : 2 * H ≤ n) (hc : ∀ k l, ch k = some l → Byt l ∧ l.length ≤ 248) (hf : fitsB P ch H = true) : Held (commitTo P ch s H).1 H (commitTo P ch s H).2 (contC cont ch) := by
  have hL := hF.len
  have hfit : (pagesOf P ch).length + (indexesOf P ch).length ≤ (freeOf P H).length := by
    unfold fitsB at hf
    simp only [Bool.and_eq_true, decide_eq_true_eq] at hf
    exact hf.1
  have hws : ∀ x, x ∈ wsOf P ch H s → x.1 < H := fun x hx => (freeOf_is (ws_addr hfit hc hx).1).1
  have old : ∀ x l, Item P cont x l → Two (commitTo P ch s H).1 H x.1.toNat l := by
    refine h.same hF (fun f h2 h3 hm => ?_)
    have hne : ∀ x, x ∈ wsOf P ch H s → x.1 ≠ f := fun x hx e => by
      have := (freeOf_is (ws_addr hfit hc hx).1).2
      rw [e, hm] at this; cases this
    rw [com_dev]
    exact ⟨pWrites_else _ _ (fun x hx => ⟨hne x hx, by omega⟩), pWrites_else _ _ (fun x hx => ⟨by have := hws x hx; omega, by have := hne x hx; omega⟩)⟩
  have new : ∀ (f : Nat) l, (f, l) ∈ wsOf P ch H s → Two (commitTo P ch s H).1 H f l := fun f l hm => by
    obtain ⟨a, b, hab⟩ := pWrites_at (wsOf P ch H s) s hn hH (ws_nodup hfit) hws hm
    rw [com_dev]
    exact ⟨_, _, hab, st_write a l, st_write b l, .inl (right_write a l)⟩
  intro x l hi
  rcases hi with ⟨hx, hp, hl⟩ | ⟨hy, hp⟩
  · rename_i i m
    rcases com_pg hL hx with ⟨hn, h1⟩ | ⟨_, _, _, rfl⟩ | ⟨l', t, hl', h1, h2, h3, rfl⟩
    · rw [contC_none hn] at hl
      exact old x _ (.page h1 hp hl)
    · cases hp
    · rw [contC_some hl' h1] at hl
      cases hl
      simp only [Int.toNat_natCast]
      refine new _ _ (List.mem_append_left _ (List.mem_map.2 ⟨t, List.mem_range.2 h2, ?_⟩))
      rw [h3, hl']; rfl
  · rename_i k
    rcases com_idx hL hy with ⟨ht, h1⟩ | ⟨_, _, rfl⟩ | ⟨_, _, t, h1, h2, rfl⟩
    · rw [com_slots hL ht]
      exact old x _ (.index h1 hp)
    · cases hp
    · simp only [Int.toNat_natCast]
      refine new _ _ (List.mem_append_right _ (List.mem_map.2 ⟨t, List.mem_range.2 h1, ?_⟩))
      rw [h2]
end
end Go.Proofs.YtkhdgacjgccnnaaGreatDoor
namespace Go.Proofs.YtkhdgacjgccnnaaGreatDoor

/-- the root of a state -/
def rootSt (P : PS) : RSt := ⟨P.epoch, P.idx⟩
/-- the roots on a device: r is one of the greatest Epoch, in its own place; with Epoch 0 there is none -/
structure Roots (s : DSt) (H : Nat) (r : RSt) : Prop where
  under : ∀ i, i = 0 ∨ i = H ∨ i = 1 ∨ i = 1 + H → Under r (s.root i)
  here : 0 < r.epoch → s.root (r.epoch % 2).toNat = some r ∨ s.root ((r.epoch % 2).toNat + H) = some r
  zero : r.epoch = 0 → s.read 1 = (0, List.replicate 256 0)
def Both (s : DSt) (H : Nat) (r : RSt) : Prop := 0 < r.epoch → s.root (r.epoch % 2).toNat = some r ∧ s.root ((r.epoch % 2).toNat + H) = some r
theorem root_pos {s : DSt} {i : Nat} {x : RSt} (h : s.root i = some x) : 0 < x.epoch := readR_pos h
section
variable {s s' : DSt} {n q H p : Nat} {r : RSt}
theorem par (r : RSt) : (r.epoch % 2).toNat ≤ 1 ∧ r.epoch % 2 = (((r.epoch % 2).toNat : Nat) : Int) := by omega
theorem Roots.newest (h : Roots s H r) (h0 : 0 < r.epoch) : s.newest H = r := by
  obtain ⟨hp, he⟩ := par r
  refine newest_four (f := s.root) hp h0 (h.under _ (by omega)) (h.under _ (by omega)) (h.under _ (by omega)) (h.under _ (by omega)) ?_
  rcases h.here h0 with h | h
  · exact .inl h
  · exact .inr (.inl h)
theorem Roots.none_ (h : Roots s H r) (h0 : r.epoch = 0) {i : Nat} (hi : i = 0 ∨ i = H ∨ i = 1 ∨ i = 1 + H) : s.root i = none := by
  rcases e : s.root i with _ | x
  · rfl
  · have h1 := root_pos e
    rcases h.under i hi x e with rfl | h2 <;> omega
theorem Roots.newest0 (h : Roots s H r) (h0 : r.epoch = 0) : (s.newest H).epoch = 0 := by
  unfold DSt.newest
  rw [h.none_ h0 (.inl rfl), h.none_ h0 (.inr (.inl rfl)), h.none_ h0 (.inr (.inr (.inl rfl))), h.none_ h0 (.inr (.inr (.inr rfl)))]
  rfl
theorem Roots.copies (h : Roots s H r) (h0 : 0 < r.epoch) {p : Nat} (hp : r.epoch % 2 = (p : Int)) : s.copies H = has r (s.root p) + has r (s.root (p + H)) :=
  copies_four (by omega) h0 hp (f := s.root) (h.newest h0)
theorem Roots.copies2 (h : Roots s H r) (h0 : 0 < r.epoch) (hb : Both s H r) : s.copies H = 2 := by
  obtain ⟨hp, he⟩ := par r
  rw [h.copies h0 he, (hb h0).1, (hb h0).2, has_self]
theorem read_same (hd : s'.down = s.down) (hl : s'.blks.length = s.blks.length) {i : Nat} (hb : (s'.blks[i]?).map BSt.read = (s.blks[i]?).map BSt.read) : s'.read (i : Int) = s.read (i : Int) := by
  unfold DSt.read DSt.inB
  rw [hd, hl, Int.toNat_natCast, hb]
theorem root_same (hd : s'.down = s.down) (hl : s'.blks.length = s.blks.length) {i : Nat} (hb : (s'.blks[i]?).map BSt.read = (s.blks[i]?).map BSt.read) : s'.root i = s.root i := by
  unfold DSt.root; rw [read_same hd hl hb]
/-- the roots' blocks read as they did -/
theorem Roots.same (h : Roots s H r) (hd : s'.down = s.down) (hl : s'.blks.length = s.blks.length) (hb : ∀ i, i = 0 ∨ i = H ∨ i = 1 ∨ i = 1 + H → (s'.blks[i]?).map BSt.read = (s.blks[i]?).map BSt.read) : Roots s' H r := by
  obtain ⟨hp, he⟩ := par r
  refine ⟨fun i hi => by rw [root_same hd hl (hb i hi)]; exact h.under i hi, fun h0 => ?_, fun h0 => by rw [show (1 : Int) = ((1 : Nat) : Int) from rfl, read_same hd hl (hb 1 (by omega))]; exact h.zero h0⟩
  rw [root_same hd hl (hb _ (by omega)), root_same hd hl (hb _ (by omega))]
  exact h.here h0
theorem Both.same (h : Both s H r) (hd : s'.down = s.down) (hl : s'.blks.length = s.blks.length) (hb : ∀ i, i = 0 ∨ i = H ∨ i = 1 ∨ i = 1 + H → (s'.blks[i]?).map BSt.read = (s.blks[i]?).map BSt.read) : Both s' H r := fun h0 => by
  obtain ⟨hp, he⟩ := par r
  rw [root_same hd hl (hb _ (by omega)), root_same hd hl (hb _ (by omega))]
  exact h h0
theorem saveR_up (u : Up s n q) (hc : r.code = 0) (hp : r.epoch % 2 = (p : Int)) (hH : 1 + H < n) : saveR s H r = (0, fl (pWrite s H p (bytesOf r))) ∧ Up (fl (pWrite s H p (bytesOf r))) n (q + 3) := by
  have hl := bytesOf_len (RSt.fine hc).2.2.2
  have hy := bytesOf_byt r
  obtain ⟨e1, u1⟩ := u.write (i := p) (l := bytesOf r) (by omega) hl hy
  obtain ⟨e2, u2⟩ := u1.write (i := p + H) (l := bytesOf r) (by omega) hl hy
  obtain ⟨e3, u3⟩ := u2.flush
  refine ⟨?_, u3⟩
  unfold saveR
  rw [if_neg (by rw [hc]; simp), hp, e1]
  rw [if_neg (by simp)]
  simp only
  rw [show ((p : Int) + (H : Int)) = ((p + H : Nat) : Int) by omega, e2]
  rw [if_neg (by simp)]
  exact e3
theorem fl_read {i : Nat} : ((fl s).blks[i]?).map BSt.read = (s.blks[i]?).map BSt.read := by
  unfold fl
  simp only [List.getElem?_map]
  rcases s.blks[i]? with _ | b
  · rfl
  · simp only [Option.map_some, read_flush]
theorem fl_down : (fl s).down = s.down := rfl
theorem flD_len : (fl s).blks.length = s.blks.length := by show (s.blks.map _).length = _; rw [List.length_map]
/-- a root is saved: it is in both of its places, whatever there was -/
theorem Roots.save {r' : RSt} (h : Roots s H r') (u : Up s n q) (hH : 2 * H ≤ n) (h2 : 2 ≤ H) (hc : r.code = 0) (hs : Sums r.refs) (hp : r.epoch % 2 = (p : Int)) (hlt : r' = r ∨ r'.epoch < r.epoch) : Roots (fl (pWrite s H p (bytesOf r))) H r ∧ Both (fl (pWrite s H p (bytesOf r))) H r := by
  have hpos := (RSt.fine hc).1
  have u3 := (saveR_up u hc hp (H := H) (by omega)).2
  obtain ⟨a, ha⟩ := u.at_ (i := p) (by omega)
  obtain ⟨b, hb⟩ := u.at_ (i := p + H) (by omega)
  have hw := (At.write (s := s) (i := p) (H := H) ⟨ha, hb⟩ (by omega) (bytesOf r)).fl
  have r1 : (fl (pWrite s H p (bytesOf r))).root p = some r := by rw [up_root u3 (by omega) hw.a, read_flush]; exact readR_bytes hc hs
  have r2 : (fl (pWrite s H p (bytesOf r))).root (p + H) = some r := by rw [up_root u3 (by omega) hw.c, read_flush]; exact readR_bytes hc hs
  have hd : (fl (pWrite s H p (bytesOf r))).down = s.down := rfl
  have hl : (fl (pWrite s H p (bytesOf r))).blks.length = s.blks.length := by rw [flD_len, pWrite_len]
  have other : ∀ i, (i = 0 ∨ i = H ∨ i = 1 ∨ i = 1 + H) → i ≠ p → i ≠ p + H → (fl (pWrite s H p (bytesOf r))).root i = s.root i := fun i hi h1 h2 =>
    root_same hd hl (by rw [fl_read, pWrite_else (by omega) (by omega)])
  have hB : Both (fl (pWrite s H p (bytesOf r))) H r := fun _ => by rw [show (r.epoch % 2).toNat = p by omega]; exact ⟨r1, r2⟩
  refine ⟨⟨fun i hi => ?_, fun h0 => .inl (hB h0).1, fun h0 => by omega⟩, hB⟩
  by_cases e1 : i = p
  · subst e1; rw [r1]; exact under_self r
  · by_cases e2 : i = p + H
    · subst e2; rw [r2]; exact under_self r
    · rw [other i hi e1 e2]
      intro x hx
      rcases h.under i hi x hx with rfl | h3
      · exact hlt.imp id id
      · rcases hlt with rfl | hlt
        · exact .inr h3
        · exact .inr (by omega)
end
theorem root_code {H : Nat} {P : PS} {cont : Cont} (h : Fine H P cont) (hH : H ≤ 512) (h0 : 1 ≤ P.epoch) (h1 : P.epoch ≤ 1099511627776) : (rootSt P).code = 0 ∧ Sums (rootSt P).refs := by
  refine ⟨RSt.fine_iff h0 h1 (fun x hx => ?_) (by show P.idx.length ≤ 16; rw [h.len.i]; omega), fun x hx => (h.small.1 x hx).2.2⟩
  obtain ⟨k, hk⟩ := List.getElem?_of_mem hx
  rcases h.index k x hk with ⟨_, rfl⟩ | ⟨hp, _⟩
  · exact ⟨by decide, by decide⟩
  · have hk7 := (List.getElem?_eq_some_iff.1 hk).1
    have hk7 : k < 7 := by rw [← h.len.i]; exact hk7
    obtain ⟨f, hf, h2, h3⟩ := h.addr (q := k) (by rw [all_idx h.len hk7]; exact hk) hp
    omega
section
variable {P : PS} {ch : Chg} {s : DSt} {H n q : Nat} {cont : Cont}
/-- a commit: the device behind it -/
def comDev (P : PS) (ch : Chg) (s : DSt) (H : Nat) : DSt := fl (pWrite (fl (commitTo P ch s H).1) H ((commitTo P ch s H).2.epoch % 2).toNat (bytesOf (rootSt (commitTo P ch s H).2)))
theorem Held.root_ {p : Nat} {l : List Int} (h : Held s H P cont) (hF : Fine H P cont) (hp : p ≤ 1) : Held (pWrite s H p l) H P cont :=
  h.same hF (fun f h2 h3 _ => ⟨pWrite_else (by omega) (by omega), pWrite_else (by omega) (by omega)⟩)
theorem com_done (hF : Fine H P cont) (hd : Held s H P cont) (hr : Roots s H (rootSt P)) (u : Up s n q) (hHn : 2 * H ≤ n) (hH : H ≤ 512) (hc : ∀ k l, ch k = some l → Byt l ∧ l.length ≤ 248) (hoff : ∀ k, 256 ≤ k → ch k = none) (hf : fitsB P ch H = true) (he0 : 0 ≤ P.epoch) (he1 : P.epoch < 1099511627776) :
    saveR (fl (commitTo P ch s H).1) H (rootSt (commitTo P ch s H).2) = (0, comDev P ch s H) ∧ Up (comDev P ch s H) n (q + 2 * ((pagesOf P ch).length + (indexesOf P ch).length) + 4) ∧ Fine H (commitTo P ch s H).2 (contC cont ch) ∧ Held (comDev P ch s H) H (commitTo P ch s H).2 (contC cont ch) ∧ Roots (comDev P ch s H) H (rootSt (commitTo P ch s H).2) ∧ Both (comDev P ch s H) H (rootSt (commitTo P ch s H).2) ∧ (Clean s → Clean (comDev P ch s H)) ∧ Calm (comDev P ch s H) := by
  have h2 := hF.apart.two
  have hfit : (pagesOf P ch).length + (indexesOf P ch).length ≤ (freeOf P H).length := by
    unfold fitsB at hf
    simp only [Bool.and_eq_true, decide_eq_true_eq] at hf
    exact hf.1
  have hF2 := com_fine (s := s) hF hH hc hoff hf
  have hd2 := com_held hF hd u.len hHn hc hf
  have u1 := pWrites_up (H := H) (wsOf P ch H s) s q u hHn (fun x hx => by
    have := ws_addr hfit hc hx
    exact ⟨(freeOf_is this.1).1, this.2⟩)
  rw [← com_dev, ws_len] at u1
  have u2 := u1.flush.2
  have hep := commitTo_epoch P ch s H
  obtain ⟨hcode, hsums⟩ := root_code hF2 hH (by omega) (by omega)
  have hp : (rootSt (commitTo P ch s H).2).epoch % 2 = ((((commitTo P ch s H).2.epoch % 2).toNat : Nat) : Int) := by show (commitTo P ch s H).2.epoch % 2 = _; omega
  have hp1 : ((commitTo P ch s H).2.epoch % 2).toNat ≤ 1 := by omega
  obtain ⟨e3, u3⟩ := saveR_up u2 hcode hp (H := H) (by omega)
  have hr2 : Roots (fl (commitTo P ch s H).1) H (rootSt P) := by
    have hne : ∀ i, (i = 0 ∨ i = H ∨ i = 1 ∨ i = 1 + H) → ∀ x, x ∈ wsOf P ch H s → x.1 ≠ i ∧ x.1 + H ≠ i := fun i hi x hx => by
      have h3 := (ws_addr hfit hc hx).1
      have h4 := free_two h3
      have h5 := (freeOf_is h3).1
      omega
    refine hr.same (by rw [fl_down, u1.down, u.down]) (by rw [flD_len, u1.len, u.len]) (fun i hi => ?_)
    rw [fl_read, com_dev, pWrites_else _ _ (hne i hi)]
  have hr3 := hr2.save u2 hHn h2 hcode hsums hp (.inr (by show P.epoch < (commitTo P ch s H).2.epoch; omega))
  refine ⟨e3, u3, hF2, ((hd2.fl).root_ hF2 hp1).fl, hr3.1, hr3.2, fun hcl => (((by rw [com_dev]; exact hcl.pWrites : Clean (commitTo P ch s H).1).fl).pWrite H _ _).fl, calm_fl _⟩
/-! what Open reads -/
def rdTo (H : Nat) (idx : List (Int × Nat)) (s : DSt) : Nat → DSt × Nat
  | 0 => (s, 0)
  | j + 1 => if points (idx.getD j (0, 0)) = true then ((pRead (rdTo H idx s j).1 H (idx.getD j (0, 0)).1.toNat (idx.getD j (0, 0)).2).2.2.1, (rdTo H idx s j).2 + (pRead (rdTo H idx s j).1 H (idx.getD j (0, 0)).1.toNat (idx.getD j (0, 0)).2).2.2.2) else rdTo H idx s j
/-- one item is read: all that is pointed to lies there all the same -/
theorem Held.read {x : Int × Nat} {l : List Int} (h : Held s H P cont) (hF : Fine H P cont) (hi : Item P cont x l) (u : Up s n q) (hHn : 2 * H ≤ n) :
    (pRead s H x.1.toNat x.2).1 = 0 ∧ (pRead s H x.1.toNat x.2).2.1 = l ∧ Held (pRead s H x.1.toNat x.2).2.2.1 H P cont ∧ Up (pRead s H x.1.toNat x.2).2.2.1 n (q + 1) ∧ (pRead s H x.1.toNat x.2).2.2.2 ≤ 1 ∧ (Clean s → (pRead s H x.1.toNat x.2).2.2.1 = s ∧ (pRead s H x.1.toNat x.2).2.2.2 = 0) ∧ ∀ i, i < 2 ∨ H ≤ i → (pRead s H x.1.toNat x.2).2.2.1.blks[i]? = s.blks[i]? := by
  obtain ⟨⟨f, hf, h2, h3⟩, hz, h256, hy⟩ := hi.fine hF
  have ht := h x l hi
  rw [hf, Int.toNat_natCast] at ht ⊢
  rw [hz]
  obtain ⟨r1, r2, r3⟩ := ht.read hy h256 u (by omega)
  refine ⟨r1, r2, ?_, ?_, ?_, fun hc => ?_, ?_⟩
  · rcases r3 with ⟨e, _⟩ | ⟨e, _⟩
    · rw [e]; exact h
    · rw [e]
      intro y m hm
      obtain ⟨g, hg, g2, g3⟩ := (hm.fine hF).1
      by_cases hfg : f = g
      · obtain ⟨_, rfl⟩ := Item.same hF hi hm (by rw [hf, hg, hfg])
        rw [hg, Int.toNat_natCast, ← hfg]
        exact ht.put (by omega)
      · have := h y m hm
        rw [hg, Int.toNat_natCast] at this ⊢
        exact this.same (put_else hfg) (put_else (by omega))
  · rcases r3 with ⟨e, _⟩ | ⟨e, _⟩
    · rw [e]; exact u.more (Nat.le_succ _)
    · rw [e]; exact (u.write (by omega) h256 hy).2
  · rcases r3 with ⟨_, e⟩ | ⟨_, e⟩ <;> omega
  · rw [ht.clean u (by omega) hc]; exact ⟨rfl, rfl⟩
  · intro i hi2
    rcases r3 with ⟨e, _⟩ | ⟨e, _⟩
    · rw [e]
    · rw [e]; exact put_else (by omega)
theorem rd_keeps (hF : Fine H P cont) (hd : Held s H P cont) (u : Up s n q) (hHn : 2 * H ≤ n) : ∀ j, j ≤ 7 → Held (rdTo H P.idx s j).1 H P cont ∧ Up (rdTo H P.idx s j).1 n (q + j) ∧ (rdTo H P.idx s j).2 ≤ j ∧ (Clean s → rdTo H P.idx s j = (s, 0)) ∧ ∀ i, i < 2 ∨ H ≤ i → (rdTo H P.idx s j).1.blks[i]? = s.blks[i]?
  | 0, _ => ⟨hd, u, Nat.le_refl _, fun _ => rfl, fun _ _ => rfl⟩
  | j + 1, hj => by
    obtain ⟨i1, i2, i3, i4, i5⟩ := rd_keeps hF hd u hHn j (by omega)
    obtain ⟨y, hy⟩ := hF.len.index (k := j) (by omega)
    have eg : P.idx.getD j (0, 0) = y := by simp [List.getD, hy]
    have e0 : rdTo H P.idx s (j + 1) = if points y = true then ((pRead (rdTo H P.idx s j).1 H y.1.toNat y.2).2.2.1, (rdTo H P.idx s j).2 + (pRead (rdTo H P.idx s j).1 H y.1.toNat y.2).2.2.2) else rdTo H P.idx s j := by
      rw [rdTo, eg]
    rw [e0]
    rcases hp : points y with _ | _
    · simp only [Bool.false_eq_true, if_false]
      exact ⟨i1, i2.more (by omega), by omega, i4, i5⟩
    · simp only [if_true]
      obtain ⟨_, _, k1, k2, k3, k4, k5⟩ := i1.read hF (.index hy hp) i2 hHn
      refine ⟨k1, k2.more (by omega), by omega, fun hc => ?_, fun i hi => (k5 i hi).trans (i5 i hi)⟩
      have e1 := i4 hc
      have hc1 : Clean (rdTo H P.idx s j).1 := by rw [e1]; exact hc
      obtain ⟨e2, e3⟩ := k4 hc1
      rw [e2, e3, e1]
/-- the pages' Refs of the first j indexes, the others not yet -/
def tkTo (ps : List (Int × Nat)) (j : Nat) : List (Int × Nat) := ps.take (42 * j) ++ List.replicate (256 - 42 * j) (0, 0)
theorem tkTo_get {ps : List (Int × Nat)} (h : ps.length = 256) (j i : Nat) : (tkTo ps j)[i]? = if i < 42 * j then ps[i]? else if i < 256 then some (0, 0) else none := by
  unfold tkTo
  by_cases h1 : i < 42 * j
  · rw [if_pos h1]
    rcases Nat.lt_or_ge i 256 with h2 | h2
    · rw [List.getElem?_append_left (by rw [List.length_take]; omega), List.getElem?_take_of_lt h1]
    · rw [List.getElem?_eq_none (by rw [List.length_append, List.length_take, List.length_replicate]; omega), List.getElem?_eq_none (by omega)]
  · rw [if_neg h1]
    have e : (ps.take (42 * j)).length = 42 * j ∨ 256 ≤ 42 * j := by rw [List.length_take]; omega
    rcases e with e | e
    · rw [List.getElem?_append_right (by omega), List.getElem?_replicate, e]
      by_cases h2 : i < 256
      · rw [if_pos (by omega), if_pos h2]
      · rw [if_neg (by omega), if_neg h2]
    · rw [if_neg (by omega), List.getElem?_eq_none (by rw [List.length_append, List.length_take, List.length_replicate]; omega)]
theorem tkTo_len {ps : List (Int × Nat)} (h : ps.length = 256) (j : Nat) : (tkTo ps j).length = 256 := by
  unfold tkTo; rw [List.length_append, List.length_take, List.length_replicate]; omega
theorem tkTo_zero (ps : List (Int × Nat)) : tkTo ps 0 = List.replicate 256 (0, 0) := by
  unfold tkTo; rw [Nat.mul_zero, List.take_zero, List.nil_append, Nat.sub_zero]
theorem tkTo_all {ps : List (Int × Nat)} (h : ps.length = 256) : tkTo ps 7 = ps := by
  unfold tkTo; rw [List.take_of_length_le (by omega)]
  show ps ++ [] = ps
  rw [List.append_nil]
theorem tellTo_get (ps : List (Int × Nat)) (b : List Int) (k : Nat) : ∀ i, 42 * k + i ≤ ps.length → ∀ m, (tellTo ps b k i)[m]? = if 42 * k ≤ m ∧ m < 42 * k + i then some (tellRef b (m - 42 * k)) else ps[m]?
  | 0, _, m => by rw [if_neg (by omega)]; rfl
  | i + 1, h, m => by
    rw [tellTo, List.getElem?_set]
    by_cases e : 42 * k + i = m
    · rw [if_pos e, if_pos (by rw [tellTo_len]; omega), if_pos (by omega), show m - 42 * k = i by omega]
    · rw [if_neg e, tellTo_get ps b k i (by omega) m]
      by_cases h1 : 42 * k ≤ m ∧ m < 42 * k + i
      · rw [if_pos h1, if_pos (by omega)]
      · rw [if_neg h1, if_neg (by omega)]
theorem tk_told (hF : Fine H P cont) {j : Nat} (hj : j < 7) : tellTo (tkTo P.pgs j) (indexB P.pgs j) j (endK j - 42 * j) = tkTo P.pgs (j + 1) := by
  have hl := hF.len.p
  apply List.ext_getElem?
  intro m
  have he : endK j = min ((j + 1) * 42) 256 := rfl
  rw [tellTo_get _ _ _ _ (by rw [tkTo_len hl]; omega), tkTo_get hl, tkTo_get hl]
  by_cases h1 : 42 * j ≤ m ∧ m < 42 * j + (endK j - 42 * j)
  · rw [if_pos h1, if_pos (by omega)]
    obtain ⟨x, hx⟩ := hF.len.page (p := m) (by omega)
    rw [hx]
    congr 1
    refine tellRef_refsB (fun y hy => ?_) _ (x := x) ?_
    · exact hF.small.2 y (by unfold slotsOf at hy; exact List.mem_of_mem_drop (List.mem_of_mem_take hy))
    · unfold slotsOf
      rw [List.getElem?_take_of_lt (by omega), List.getElem?_drop, show 42 * j + (m - 42 * j) = m by omega]; exact hx
  · rw [if_neg h1]
    by_cases h2 : m < 42 * j
    · rw [if_pos h2, if_pos (by omega)]
    · rw [if_neg h2]
      by_cases h3 : m < 256
      · rw [if_pos h3, if_neg (by omega)]
      · rw [if_neg h3]
        by_cases h4 : m < 42 * (j + 1)
        · rw [if_pos h4, List.getElem?_eq_none (by omega)]
        · rw [if_neg h4]
theorem tk_skip (hF : Fine H P cont) {j : Nat} {y : Int × Nat} (hy : P.idx[j]? = some y) (hp : points y = false) : tkTo P.pgs (j + 1) = tkTo P.pgs j := by
  have hl := hF.len.p
  apply List.ext_getElem?
  intro m
  rw [tkTo_get hl, tkTo_get hl]
  by_cases h1 : m < 42 * j
  · rw [if_pos h1, if_pos (by omega)]
  · rw [if_neg h1]
    by_cases h2 : m < 42 * (j + 1)
    · rw [if_pos h2]
      by_cases h3 : m < 256
      · rw [if_pos h3]
        obtain ⟨x, hx⟩ := hF.len.page (p := m) h3
        rcases hF.page m x hx with ⟨_, rfl, _⟩ | ⟨_, _, y', hy', hp'⟩
        · exact hx
        · rw [show m / 42 = j by omega, hy] at hy'
          cases hy'
          rw [hp] at hp'; cases hp'
      · rw [if_neg h3, List.getElem?_eq_none (by omega)]
    · rw [if_neg h2]
/-- any part of what lies apart lies apart -/
theorem apart_less {Q : PS} (h : P.Apart H) (hs : ∀ (q : Nat) (x : Int × Nat), Q.all[q]? = some x → points x = true → P.all[q]? = some x) : Q.Apart H :=
  ⟨h.two, fun q x hx hp => h.at_ q x (hs q x hx hp) hp, fun a b x y ha hb hx hy he => h.inj a b x y (hs a x ha hx) (hs b y hb hy) hx hy he⟩
theorem tk_sound (hF : Fine H P cont) (e : Int) (j : Nat) : (⟨e, P.idx, tkTo P.pgs j⟩ : PS).Sound H := by
  have hL : (⟨e, P.idx, tkTo P.pgs j⟩ : PS).Len := ⟨hF.len.i, tkTo_len hF.len.p j⟩
  refine (apart_less hF.apart (fun q x hx hp => ?_)).sound
  rcases all_cases hL hx with ⟨hq, h1⟩ | ⟨i, rfl, hi, h1⟩
  · rw [all_idx hF.len hq]; exact h1
  · rw [all_pg hF.len]
    have h2 : (tkTo P.pgs j)[i]? = some x := h1
    rw [tkTo_get hF.len.p] at h2
    split at h2
    · exact h2
    · first | (cases h2; cases hp) | (rw [if_pos hi] at h2; cases h2; cases hp)
end
end Go.Proofs.YtkhdgacjgccnnaaGreatDoor
