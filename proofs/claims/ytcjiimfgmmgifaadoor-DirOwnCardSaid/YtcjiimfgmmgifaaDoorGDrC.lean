/- Package dir's directory in memory; what is copied and read. -/
import Derived.Test.YtcjiimfgmmgifaaDoorGDrB
namespace Go.Proofs.YtcjiimfgmmgifaaDoor
open Go.RowKit Go.Shelf Go.Sort

/-- a directory at g, in the blocks F: its entries by names, each once -/
structure DirR (w : World) (g : Nat) (D : List En) (F : Nat → Prop) : Prop where
  box : ∃ v, Blk w g 27 #[v] ∧ EOwn w 0 v D ∧ (∀ k, v.ownBlock = some k → k ≠ g ∧ F k)
  own : F g
  lt : ∀ k, F k → k < w.heap.size
  ris : RisE D
theorem eown_kept {w w' : World} {F : Nat → Prop} {B : Nat} {v : Value} {L : List En} (h : EOwn w B v L) (hk : Kept F w w') (hF : ∀ k, v.ownBlock = some k → F k) : EOwn w' B v L := by
  rcases h.2 with ⟨rfl, h0⟩ | ⟨g, cap, cur, rfl, hb, hg, hr⟩
  · exact ⟨h.1, .inl ⟨rfl, h0⟩⟩
  · exact ⟨h.1, .inr ⟨g, cap, cur, rfl, hb, (hk.1 g (hF g rfl)).trans hg, hr⟩⟩
theorem DirR.stays (g : Nat) (D : List En) : Stays (fun w F => DirR w g D F) where
  kept := by
    intro w w' F h hk
    obtain ⟨v, h1, h2, h3⟩ := h.box
    exact ⟨⟨v, h1.same (hk.1 g h.own), eown_kept h2 hk (fun k hv => (h3 k hv).2), h3⟩, h.own, fun k hk' => Nat.lt_of_lt_of_le (h.lt k hk') hk.2, h.ris⟩
  lt h := h.lt
theorem DirR.on {w w' : World} {g : Nat} {D : List En} {F : Nat → Prop} (h : DirR w g D F) (hb : Below w.heap.size w w') : DirR w' g D F := (DirR.stays g D).kept h (Kept.of_below hb h.lt)
theorem DirR.open {w : World} {g : Nat} {D : List En} {F : Nat → Prop} (h : DirR w g D F) : ∃ A c, Blk w g 27 #[.slice A D.length c] ∧ EOwn w 0 (.slice A D.length c) D ∧ ESl w w.heap.size A D.length c D := by
  obtain ⟨v, h1, h2, _⟩ := h.box
  obtain ⟨A, c, rfl, h4, _⟩ := h2.form
  exact ⟨A, c, h1, h2, h4⟩
set_option maxRecDepth 100000 in
set_option maxHeartbeats 1000000 in
theorem cloneE_any (A : Option Addr) (n c : Nat) (D : List En) (w : World) (h : ESl w w.heap.size A n c D) (hn : n ≤ 100000) :
    Calls Tryd.prog 26 #[.slice A n c] w (EMade w D) := by
  have HS := hid h
  clear h
  rcases A with _ | ad
  · obtain rfl : c = 0 := HS.out.nil rfl
    obtain rfl : n = 0 := by have := HS.out.cap; omega
    obtain rfl : D = [] := List.eq_nil_of_length_eq_zero HS.out.len
    have HF := hid (show EMade w [] (.returned (.slice none 0 0)) w from ⟨_, rfl, EOwn.nil _ _, Below.refl _ _⟩)
    have hq : ∀ W, (binOp .eql 25 (.slice none 0 0) (.slice none 0 0)).run Tryd.prog W = .ok (.bool true) W := fun W => Lib.run_eql_slice_nil (P := Tryd.prog) W 25 29 none 0 0 0 0 Tryd.underlying25
    go_enter Tryd.func26, Tryd.ntmps26
    go_wp2
    go_ret
    exact HF.out
  · have hq : ∀ W, (binOp .eql 25 (.slice (some ad) n c) (.slice none 0 0)).run Tryd.prog W = .ok (.bool false) W := fun W => Lib.run_eql_slice_nil (P := Tryd.prog) W 25 29 (some ad) n c 0 0 Tryd.underlying25
    have HM := hid (show EOwn (w.alloc (.cells #[] 29)) w.heap.size (.slice (some ⟨w.heap.size, 0, none⟩) 0 0) [] from World.ownsRow_made w #[] 0 (Nat.le_refl _) (by decide) rfl)
    have HS2 := hid (HS.out.on (show Below w.heap.size w (w.alloc (.cells #[] 29)) from (Below.refl _ _).alloc (Nat.le_refl _) _))
    go_enter Tryd.func26, Tryd.ntmps26
    go_wp2_with (at_builtin; refine wpList_append_en rfl _ _ rfl w.heap.size (w.alloc (.cells #[] 29)).heap.size _ [] D rfl HM.out (some ad) n c rfl HS2.out ?c1 ?c2 ?_)
    case c1 => simp; omega
    case c2 => simp
    intro v' w2 hown' hgrow _
    have HF := hid (show EMade w D (.returned v') w2 from ⟨_, rfl, by simpa using hown', ((Below.refl _ _).alloc (Nat.le_refl _) _).grown hgrow (by simp) (fun k hk => (HM.out.lt k hk).1)⟩)
    clear hown' hgrow
    go_wp2
    go_ret
    exact HF.out
section
variable {w : World} {g : Nat} {D : List En} {F : Nat → Prop}
set_option maxRecDepth 100000 in
set_option maxHeartbeats 1000000 in
theorem place_any (s : Nam) (h : DirR w g D F) (hD : D.length ≤ 100000) :
    Calls Tryd.prog 30 #[.pointer (some ⟨g, 0, none⟩), encStr s] w fun e w' => ∃ i : Nat, e = .returned (.tuple #[.int .i64 (i : Int), .bool (isIn D s)]) ∧ LowAt D s i ∧ Below w.heap.size w w' := by
  obtain ⟨A, c, hx, ho, hs⟩ := h.open
  have HC := hid (searchE_any A D.length c D s w hs h.ris hD)
  have c0 := hx.cell 0
  simp at c0
  clear hx ho hs h hD
  go_enter Tryd.func30, Tryd.ntmps30
  go_wp2_with fail
  refine HC.out.mono ?_
  rintro e w1 ⟨i, rfl, hl, hb⟩
  clear c0
  go_wp2
  go_ret2
  exact ⟨i, rfl, hl, hb⟩
set_option maxRecDepth 100000 in
set_option maxHeartbeats 1000000 in
theorem dirLen_any (h : DirR w g D F) :
    Calls Tryd.prog 8 #[.pointer (some ⟨g, 0, none⟩)] w fun r w' => r = .returned (.int .i64 (D.length : Int)) ∧ Below w.heap.size w w' := by
  obtain ⟨A, c, hx, _, _⟩ := h.open
  have c0 := hx.cell 0
  simp at c0
  clear hx h
  go_enter Tryd.func8, Tryd.ntmps8
  go_wp2
  go_ret
  exact ⟨rfl, Below.refl _ _⟩
set_option maxRecDepth 100000 in
set_option maxHeartbeats 1000000 in
theorem dirAll_any (h : DirR w g D F) (hD : D.length ≤ 100000) :
    Calls Tryd.prog 20 #[.pointer (some ⟨g, 0, none⟩)] w fun r w' => EMade w D r w' := by
  obtain ⟨A, c, hx, _, hs⟩ := h.open
  have HC := hid (cloneE_any A D.length c D w hs hD)
  have c0 := hx.cell 0
  simp at c0
  clear hx h hs hD
  go_enter Tryd.func20, Tryd.ntmps20
  go_wp2_with fail
  refine HC.out.mono ?_
  rintro e w1 ⟨v, rfl, hm⟩
  have HM := hid hm
  clear c0 hm
  go_wp2
  go_ret
  exact ⟨v, rfl, HM.out⟩
set_option maxRecDepth 100000 in
set_option maxHeartbeats 1000000 in
theorem dirClone_any (h : DirR w g D F) (hD : D.length ≤ 100000) :
    Calls Tryd.prog 7 #[.pointer (some ⟨g, 0, none⟩)] w fun r w' => Below w.heap.size w w' ∧ ∃ q F2, r = .returned (.pointer (some ⟨q, 0, none⟩)) ∧ DirR w' q D F2 ∧ ∀ k, F2 k → w.heap.size ≤ k := by
  obtain ⟨A, c, hx, _, hs⟩ := h.open
  have HC := hid (cloneE_any A D.length c D w hs hD)
  have HR := hid h.ris
  have c0 := hx.cell 0
  simp at c0
  clear hx h hs hD
  go_enter Tryd.func7, Tryd.ntmps7
  go_wp2_with fail
  refine HC.out.mono ?_
  rintro e w1 ⟨v, rfl, ho, hb⟩
  have HO := hid ho
  have HB := hid hb
  obtain ⟨A1, c1, rfl, _, _⟩ := ho.form
  have HF := hid (show Below w.heap.size w (w1.alloc (.cells #[.slice A1 D.length c1] 27)) ∧ DirR (w1.alloc (.cells #[.slice A1 D.length c1] 27)) w1.heap.size D (fun k => k = w1.heap.size ∨ (Value.slice A1 D.length c1).ownBlock = some k) ∧ ∀ k, (k = w1.heap.size ∨ (Value.slice A1 D.length c1).ownBlock = some k) → w.heap.size ≤ k from by
    refine ⟨HB.out.alloc HB.out.size _, ⟨⟨_, Blk.new _ _ _, EOwn.lower (EOwn.on HO.out ((Below.refl _ _).alloc (Nat.le_refl _) _)) (Nat.zero_le _), fun k hk => ⟨?_, .inr hk⟩⟩, .inl rfl, ?_, HR.out⟩, ?_⟩
    · have := (HO.out.lt k hk).2; omega
    · rintro k (rfl | hk)
      · simp
      · have := (HO.out.lt k hk).2; simp; omega
    · rintro k (rfl | hk)
      · exact HB.out.size
      · exact (HO.out.lt k hk).1)
  clear c0 ho hb
  go_wp2
  go_ret
  exact ⟨HF.out.1, w1.heap.size, _, rfl, HF.out.2.1, HF.out.2.2⟩
end
end Go.Proofs.YtcjiimfgmmgifaaDoor
