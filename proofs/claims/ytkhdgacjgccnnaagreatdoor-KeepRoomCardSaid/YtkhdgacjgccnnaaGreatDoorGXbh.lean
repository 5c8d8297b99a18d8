/- Put together out of 3 texts. Records that are read where they lie; a page's bytes: laid, size. -/
import Derived.Test.YtkhdgacjgccnnaaGreatDoorGXbc
import Derived.Test.YtkhdgacjgccnnaaGreatDoorGXbg
namespace Go.Proofs.YtkhdgacjgccnnaaGreatDoor
open Go.RowKit

/-- a slice of records, read -/
structure RSl (w : World) (B : Nat) (A : Option Addr) (n c : Nat) (l : List Rec) : Prop where
  len : l.length = n
  cap : n ≤ c
  max : c ≤ maxLen
  nil : A = none → c = 0
  at_ : ∀ ad, A = some ad → 0 < n → ad.block < B ∧ ∀ j x, l[j]? = some x → w.cell? (ad.add (j * 2)) = some (.string x.1) ∧ w.cell? (ad.add (j * 2 + 1)) = some (.string x.2)
theorem RSl.get {w : World} {B n c k : Nat} {A : Option Addr} {l : List Rec} (h : RSl w B A n c l) (hk : k < n) : ∃ ad x, A = some ad ∧ ad.block < B ∧ l[k]? = some x ∧ w.cell? (ad.add (k * 2)) = some (.string x.1) ∧ w.cell? ⟨(ad.add (k * 2)).block, (ad.add (k * 2)).off + 1, none⟩ = some (.string x.2) := by
  rcases A with _ | ad
  · have := h.nil rfl; have := h.cap; omega
  · have hl := h.len
    obtain ⟨hb, hc⟩ := h.at_ ad rfl (by omega)
    have hx : l[k]? = some (l[k]'(by omega)) := List.getElem?_eq_getElem (by omega)
    obtain ⟨h1, h2⟩ := hc k _ hx
    exact ⟨ad, _, rfl, hb, hx, h1, by rw [← add_atR ad (k * 2) (by omega)]; exact h2⟩
theorem RSl.same {w w' : World} {n c : Nat} {A : Option Addr} {l : List Rec} (h : RSl w w.heap.size A n c l) (hs : w.heap.size ≤ w'.heap.size) (hk : ∀ ad, A = some ad → 0 < n → w'.heap[ad.block]? = w.heap[ad.block]?) : RSl w' w'.heap.size A n c l := by
  refine ⟨h.len, h.cap, h.max, h.nil, fun ad ha h0 => ?_⟩
  obtain ⟨h1, h2⟩ := h.at_ ad ha h0
  refine ⟨Nat.lt_of_lt_of_le h1 hs, fun j x hx => ?_⟩
  obtain ⟨c1, c2⟩ := h2 j x hx
  have hb := hk ad ha h0
  exact ⟨(World.cell?_of_block (by rw [add_block]; exact hb)).trans c1, (World.cell?_of_block (by rw [add_block]; exact hb)).trans c2⟩
theorem RSl.on {w w' : World} {n c : Nat} {A : Option Addr} {l : List Rec} (h : RSl w w.heap.size A n c l) (hb : Below w.heap.size w w') : RSl w' w'.heap.size A n c l :=
  h.same hb.size (fun ad ha h0 => hb.block _ (h.at_ ad ha h0).1)
/-- a text, as a page has it; a record; records -/
def textB (s : ByteArray) : List Int := enc (s.size : Int) ++ str s
def recB (r : Rec) : List Int := textB r.1 ++ textB r.2
def laidR (l : List Rec) : List Int := l.flatMap recB
theorem laidR_take {l : List Rec} {k : Nat} {x : Rec} (h : l[k]? = some x) : laidR (l.take (k + 1)) = laidR (l.take k) ++ recB x := by
  obtain ⟨hk, rfl⟩ := List.getElem?_eq_some_iff.1 h
  unfold laidR
  rw [List.take_succ_eq_append_getElem hk, List.flatMap_append]
  simp
theorem laidR_part (l : List Rec) (k : Nat) : (laidR (l.take k)).length ≤ (laidR l).length := by
  have e : laidR l = laidR (l.take k) ++ laidR (l.drop k) := by
    unfold laidR
    rw [← List.flatMap_append, List.take_append_drop]
  rw [e, List.length_append]; omega
theorem Own.base {w : World} {B B' : Nat} {v : Value} {l : List Int} (h : Own w B v l) (hB : B' ≤ B) : Own w B' v l := by
  rcases h.2 with ⟨rfl, h0⟩ | ⟨g, cap, cur, rfl, hb, rest⟩
  · exact ⟨h.1, .inl ⟨rfl, h0⟩⟩
  · exact ⟨h.1, .inr ⟨g, cap, cur, rfl, Nat.le_trans hB hb, rest⟩⟩
set_option maxRecDepth 100000 in
set_option maxHeartbeats 4000000 in
theorem kLaid_any (A : Option Addr) (n c : Nat) (l : List Rec) (w : World) (h : RSl w w.heap.size A n c l) (hn : n ≤ 10000) (hs : ∀ x, x ∈ l → x.1.size ≤ 1000 ∧ x.2.size ≤ 1000) (hL : (laidR l).length ≤ 8000) :
    Calls Tryz.prog 45 #[.slice A n c] w (Made w (laidR l)) := by
  have HR := hid h
  have HS := hid hs
  have HL := hid (fun k => Nat.le_trans (laidR_part l k) hL)
  have hnI : (n : Int) ≤ 10000 := by omega
  clear h hs hL
  go_enter Tryz.func45, Tryz.ntmps45
  go_wp2
  go_loopw [8, 3] (fun iv ov wr => ∃ k : Nat, k ≤ n ∧ iv = .int .i64 (k : Int) ∧ Own wr w.heap.size ov (laidR (l.take k)) ∧ Below w.heap.size w wr) (fun iv _ _ => n - (intOf iv).toNat)
  case atStart => exact ⟨0, Nat.zero_le _, rfl, Own.nil _ _, Below.refl _ _⟩
  case round =>
    obtain ⟨k, hk, rfl, hown, hb⟩ := hrel
    have HB := hid hb
    by_cases hlt : k < n
    · obtain ⟨ad, x, rfl, _, hx, c0, c1⟩ := (HR.out.on hb).get hlt
      obtain ⟨A', c', rfl, hsl, _⟩ := hown.form
      obtain ⟨m1, hm1⟩ : ∃ m1, (laidR (l.take k)).length = m1 := ⟨_, rfl⟩
      rw [hm1] at hsl
      have HM1 := hid hm1
      rw [hm1]
      clear hm1
      have HSl := hid hsl
      have HX := hid (laidR_take hx)
      have HSx := hid (HS.out x (List.mem_of_getElem? hx))
      have HLk := hid (HL.out (k + 1))
      clear hown hb hsl hx
      have hki : (k : Int) < n := by omega
      go_upto_region 5 with fail
      obtain ⟨bx, hbx⟩ : ∃ bx, wr.heap.size = bx := ⟨_, rfl⟩
      obtain ⟨W1, hW1⟩ : ∃ W, wr.alloc (.cells #[.string x.1, .string x.2] 44) = W := ⟨_, rfl⟩
      have HB1 := hid (show Below wr.heap.size wr W1 from by rw [← hW1]; exact (Below.refl _ _).alloc (Nat.le_refl _) _)
      have HK1 := hid (show Blk W1 bx 44 #[.string x.1, .string x.2] from by rw [← hW1, ← hbx]; exact Blk.new wr _ _)
      rw [hW1, hbx]
      clear hW1 hbx c0 c1
      have HCe := hid (fun (w' : World) (hb : Below W1.heap.size W1 w') => (show w'.cell? ⟨bx, 0, none⟩ = some (.string x.1) ∧ w'.cell? ⟨bx, 1, none⟩ = some (.string x.2) from by
        have hk := HK1.out.below hb HK1.out.lt
        exact ⟨Blk.cell hk 0, Blk.cell hk 1⟩))
      have k0 := HCe.out W1.drew ((Below.refl _ _).drew)
      have HP1 := hid (putText_any A' m1 c' x.1 (laidR (l.take k)) W1.drew ((HSl.out.on HB1.out).on ((Below.refl _ _).drew)) (by have := HL.out k; have := HM1.out; omega) (by have := HSx.out.1; omega))
      have HP2 := hid (fun (w' : World) (A2 : Option Addr) (m2 c2 : Nat) (h2 : Sl w' w'.heap.size A2 m2 c2 (laidR (l.take k) ++ enc (x.1.size : Int) ++ str x.1)) => putText_any A2 m2 c2 x.2 _ w' h2 (by
        have h3 := HLk.out
        rw [HX.out] at h3
        have h4 := h2.len
        unfold recB textB at h3
        simp only [List.length_append] at h3 h4
        omega) (by have := HSx.out.2; omega))
      refine wp_region_held_drew (S := fun w' => w'.cell? ⟨bx, 0, none⟩ = some (.string x.1) ∧ w'.cell? ⟨bx, 1, none⟩ = some (.string x.2)) (by kernel_rfl) k0 (fun hH => ?_)
      refine wpAnyH_take (i := 0) (oi := _) (v := ?_) (by simp only [List.getElem?_toArray, List.getElem?_cons_zero]; rfl) (by kernel_rfl) (by kernel_rfl) (by kernel_rfl) (by exact fun _ _ _ h => h) (Or.inl ⟨by rfl, ?_⟩) hH ?_
      rotate_left
      · intro w hSw; (try dsimp only at hSw); (try obtain ⟨hSa, hSb⟩ := hSw); go_simp; try with_reducible rfl
      try simp only [Act.put, List.setIfInBounds_toArray, List.set_cons_zero, List.set_cons_succ]
      refine wpAnyH_take (i := 1) (oi := _) (v := ?_) (by simp only [List.getElem?_toArray, List.getElem?_cons_succ, List.getElem?_cons_zero]; rfl) (by kernel_rfl) (by kernel_rfl) (by kernel_rfl) (by exact fun _ _ _ h => h) (Or.inl ⟨by rfl, ?_⟩) hH ?_
      rotate_left
      · intro w hSw; (try dsimp only at hSw); (try obtain ⟨hSa, hSb⟩ := hSw); go_simp; try with_reducible rfl
      try simp only [Act.put, List.setIfInBounds_toArray, List.set_cons_zero, List.set_cons_succ]
      refine wpAnyH_take (i := 2) (oi := _) (v := ?_) (by simp only [List.getElem?_toArray, List.getElem?_cons_succ, List.getElem?_cons_zero]; rfl) (by kernel_rfl) (by kernel_rfl) (by kernel_rfl) (by exact fun _ _ _ h => h) (Or.inl ⟨by rfl, ?_⟩) hH ?_
      rotate_left
      · intro w hSw; (try dsimp only at hSw); (try obtain ⟨hSa, hSb⟩ := hSw); go_simp; try with_reducible rfl
      try simp only [Act.put, List.setIfInBounds_toArray, List.set_cons_zero, List.set_cons_succ]
      refine wpAnyH_take (i := 4) (oi := _) (v := ?_) (by simp only [List.getElem?_toArray, List.getElem?_cons_succ, List.getElem?_cons_zero]; rfl) (by kernel_rfl) (by kernel_rfl) (by kernel_rfl) (by exact fun _ _ _ h => h) (Or.inl ⟨by rfl, ?_⟩) hH ?_
      rotate_left
      · intro w hSw; (try dsimp only at hSw); (try obtain ⟨hSa, hSb⟩ := hSw); go_simp; try with_reducible rfl
      try simp only [Act.put, List.setIfInBounds_toArray, List.set_cons_zero, List.set_cons_succ]
      refine wpAnyH_take (i := 5) (oi := _) (v := ?_) (by simp only [List.getElem?_toArray, List.getElem?_cons_succ, List.getElem?_cons_zero]; rfl) (by kernel_rfl) (by kernel_rfl) (by kernel_rfl) (by exact fun _ _ _ h => h) (Or.inl ⟨by rfl, ?_⟩) hH ?_
      rotate_left
      · intro w hSw; (try dsimp only at hSw); (try obtain ⟨hSa, hSb⟩ := hSw); go_simp; try with_reducible rfl
      try simp only [Act.put, List.setIfInBounds_toArray, List.set_cons_zero, List.set_cons_succ]
      refine wpAnyH_ready (rs := [3]) (by kernel_rfl) (by simp) (AllReadyH.cons rfl (fun K hK => ?_) AllReadyH.nil)
      go_simp
      go_at_call 80; refine HP1.out.mono ?_; rintro e w2 hm2; obtain ⟨A2, m2, c2, rfl, hs2, hb2⟩ := hm2.get; have k2 := HCe.out w2 (((Below.refl _ _).drew).trans hb2); have HQ2 := hid (HP2.out w2 A2 m2 c2 hs2); have HB2 := hid hb2; clear hm2 hs2 hb2
      try go_wp2_with fail
      refine hK.out _ _ k2 (fun hH => ?_)
      clear hK K
      try simp only [Act.put, List.setIfInBounds_toArray, List.set_cons_zero, List.set_cons_succ]
      refine wpAnyH_ready (rs := [6]) (by kernel_rfl) (by simp) (AllReadyH.cons rfl (fun K hK => ?_) AllReadyH.nil)
      go_simp
      go_at_call 80; refine HQ2.out.mono ?_; rintro e w3 ⟨v3, rfl, ho3, hb3⟩; have k3 := HCe.out w3 ((((Below.refl _ _).drew).trans HB2.out).trans (hb3.mono (by have := HB2.out.size; exact this))); have HO3 := hid ho3; have HB3 := hid hb3; clear ho3 hb3
      try go_wp2_with fail
      refine hK.out _ _ k3 (fun hH => ?_)
      clear hK K
      try simp only [Act.put, List.setIfInBounds_toArray, List.set_cons_zero, List.set_cons_succ]
      refine wpAnyH_take (i := 7) (oi := _) (v := ?_) (by simp only [List.getElem?_toArray, List.getElem?_cons_succ, List.getElem?_cons_zero]; rfl) (by kernel_rfl) (by kernel_rfl) (by kernel_rfl) (by exact fun _ _ _ h => h) (Or.inl ⟨by rfl, ?_⟩) hH ?_
      rotate_left
      · intro w hSw; (try dsimp only at hSw); (try obtain ⟨hSa, hSb⟩ := hSw); go_simp; try with_reducible rfl
      try simp only [Act.put, List.setIfInBounds_toArray, List.set_cons_zero, List.set_cons_succ]
      refine wpAnyH_done (by kernel_rfl) ?_ _
      have R1 := hid (show Own w3 w.heap.size v3 (laidR (l.take (k + 1))) from by
        rw [HX.out]
        have h1 := HO3.out.base (B' := w.heap.size) (by have h2 := HB.out.size; have h3 := HB1.out.size; have h4 := HB2.out.size; have h5 : W1.drew.heap.size = W1.heap.size := rfl; omega)
        unfold recB textB
        simpa [List.append_assoc] using h1)
      have R2 := hid (show Below w.heap.size w w3 from (HB.out.trans (HB1.out.mono HB.out.size)).trans (((Below.refl _ _).drew.trans (HB2.out.mono (Nat.le_refl _)) |>.trans (HB3.out.mono HB2.out.size)).mono (Nat.le_trans HB.out.size HB1.out.size)))
      go_wp2
      go_roundw
      case rel => exact ⟨k + 1, by omega, by go_num, R1.out, R2.out⟩
      case measure => simp [intOf]; omega
    · have he : laidR (l.take k) = laidR l := by rw [List.take_of_length_le (by have := HR.out.len; omega)]
      rw [he] at hown
      have HO := hid hown
      clear hown hb
      go_wp2
      go_ret
      exact ⟨_, rfl, HO.out, HB.out⟩
end Go.Proofs.YtkhdgacjgccnnaaGreatDoor
namespace Go.Proofs.YtkhdgacjgccnnaaGreatDoor
open Go.RowKit

theorem laidR_one (x : Rec) : laidR [x] = recB x := by simp [laidR]
theorem laidR_append (l m : List Rec) : laidR (l ++ m) = laidR l ++ laidR m := by simp [laidR]
def RszS (l : List Rec) : Prop := ∀ x, x ∈ l → x.1.size ≤ 1000 ∧ x.2.size ≤ 1000
/-- one record in a block of its own -/
theorem rsl_one (w : World) (x : Rec) : RSl (w.alloc (.cells #[.string x.1, .string x.2] 44)) (w.heap.size + 1) (some ⟨w.heap.size, 0, none⟩) 1 1 [x] := by
  refine ⟨rfl, Nat.le_refl _, by unfold maxLen; omega, (fun h => by cases h), fun ad ha _ => ?_⟩
  cases ha
  refine ⟨Nat.lt_succ_self _, fun j y hy => ?_⟩
  have hb := Blk.new w 44 #[.string x.1, .string x.2]
  rcases j with _ | j
  · simp at hy
    subst hy
    exact ⟨hb.cell 0, hb.cell 1⟩
  · simp at hy
theorem rsl_two (w : World) (o : Obj) (x : Rec) : RSl ((w.alloc o).alloc (.cells #[.string x.1, .string x.2] 44)) ((w.alloc o).alloc (.cells #[.string x.1, .string x.2] 44)).heap.size (some ⟨w.heap.size + 1, 0, none⟩) 1 1 [x] := by
  have h1 := rsl_one (w.alloc o) x
  rw [World.size_alloc, World.size_alloc]
  rw [World.size_alloc] at h1
  exact h1
theorem rsl_own (w : World) (x : Rec) : RSl (w.alloc (.cells #[.string x.1, .string x.2] 44)) (w.alloc (.cells #[.string x.1, .string x.2] 44)).heap.size (some ⟨w.heap.size, 0, none⟩) 1 1 [x] := by
  rw [World.size_alloc]
  exact rsl_one w x
set_option maxRecDepth 100000 in
set_option maxHeartbeats 2000000 in
theorem size_any (A : Option Addr) (n c : Nat) (l : List Rec) (w : World) (h : RSl w w.heap.size A n c l) (hn : n ≤ 10000) (hs : RszS l) (hL : (laidR l).length ≤ 8000) :
    Calls Tryz.prog 55 #[.slice A n c] w fun e w' => e = .returned (.int .i64 ((laidR l).length : Int)) ∧ Below w.heap.size w w' := by
  have HR := hid h
  have HS := hid hs
  have HL := hid (fun k => Nat.le_trans (laidR_part l k) hL)
  have hnI : (n : Int) ≤ 10000 := by omega
  clear h hs hL
  go_enter Tryz.func55, Tryz.ntmps55
  go_wp2
  go_loopw [3, 8] (fun sv iv wr => ∃ k : Nat, k ≤ n ∧ iv = .int .i64 (k : Int) ∧ sv = .int .i64 ((laidR (l.take k)).length : Int) ∧ Below w.heap.size w wr) (fun _ iv _ => n - (intOf iv).toNat)
  case atStart => exact ⟨0, Nat.zero_le _, rfl, rfl, Below.refl _ _⟩
  case round =>
    obtain ⟨k, hk, rfl, rfl, hb⟩ := hrel
    have HB := hid hb
    by_cases hlt : k < n
    · obtain ⟨ad, x, rfl, _, hx, c0, c1⟩ := (HR.out.on hb).get hlt
      have HSx := hid (HS.out x (List.mem_of_getElem? hx))
      obtain ⟨a, ha⟩ : ∃ a : Nat, (laidR (l.take k)).length = a := ⟨_, rfl⟩
      obtain ⟨b, hbx⟩ : ∃ b : Nat, (laidR [x]).length = b := ⟨_, rfl⟩
      have hab : (laidR (l.take (k + 1))).length = a + b := by rw [laidR_take hx, List.length_append, ha, ← hbx, laidR_one]
      have h8 : a + b ≤ 8000 := by rw [← hab]; exact HL.out (k + 1)
      have HAB := hid hab
      have HBX := hid hbx
      have hki : (k : Int) < n := by omega
      rw [ha]
      clear hb hx ha hbx hab
      go_wp2_with fail
      refine (kLaid_any _ 1 1 [x] _ (rsl_two _ _ x) (by omega) (fun y hy => by obtain rfl : y = x := (by simpa using hy); exact HSx.out) (by rw [HBX.out]; omega)).mono ?_
      rintro e w2 h2
      obtain ⟨A2, c2, rfl, _, _, hb2⟩ := h2.out
      rw [HBX.out]
      have HB2 := hid ((HB.out.alloc HB.out.size _).alloc (by have := HB.out.size; simp; omega) _ |>.trans (hb2.mono (by have := HB.out.size; simp; omega)))
      clear h2 hb2
      go_wp2
      go_roundw
      case rel => exact ⟨k + 1, by omega, by go_num, by rw [HAB.out]; go_num, HB2.out⟩
      case measure => simp [intOf]; omega
    · have he : laidR (l.take k) = laidR l := by rw [List.take_of_length_le (by have := HR.out.len; omega)]
      rw [he]
      clear hb
      go_wp2
      go_ret
      exact ⟨rfl, HB.out⟩
end Go.Proofs.YtkhdgacjgccnnaaGreatDoor
namespace Go.Proofs.YtkhdgacjgccnnaaGreatDoor
open Go.RowKit

theorem RSl.cells {w : World} {B n c : Nat} {ad : Addr} {l : List Rec} (h : RSl w B (some ad) n c l) : ∀ j u, (recC l)[j]? = some u → w.cell? (ad.add j) = some u := fun j u hu => by
  have hj : j < (recC l).length := (List.getElem?_eq_some_iff.1 hu).1
  rw [recC_len] at hj
  obtain ⟨x, hx⟩ : ∃ x, l[j / 2]? = some x := ⟨_, List.getElem?_eq_getElem (by omega)⟩
  obtain ⟨h1, h2⟩ := (h.at_ ad rfl (by have := h.len; omega)).2 (j / 2) x hx
  obtain ⟨g1, g2⟩ := recC_get hx
  rcases Nat.mod_two_eq_zero_or_one j with h0 | h0
  · have e : j / 2 * 2 = j := by omega
    rw [e] at h1 g1
    rw [g1] at hu
    injection hu with hu
    rw [h1, hu]
  · have e : j / 2 * 2 + 1 = j := by omega
    rw [e] at h2 g2
    rw [g2] at hu
    injection hu with hu
    rw [h2, hu]
/-- what compares two lists of records -/
def EqO (w : World) (l m : List Rec) (e : Ending) (w' : World) : Prop := ∃ (b : Bool) (q : Nat), e = .returned (.bool b) ∧ (b = true ↔ l = m) ∧ w' = w.drewN q
theorem bytes_eq_yes {a b : ByteArray} (h : a = b) : (a.toList == b.toList) = true := by subst h; simp
theorem bytes_eq_no {a b : ByteArray} (h : a ≠ b) : (a.toList == b.toList) = false := by
  rw [beq_eq_false_iff_ne, ByteArray.toList_eq, ByteArray.toList_eq]
  intro e
  exact h (show (⟨a.data⟩ : ByteArray) = ⟨b.data⟩ from congrArg ByteArray.mk (Array.ext' e))
theorem rec_ways (x y : Rec) : (x = y ∧ (x.1.toList == y.1.toList) = true ∧ (x.2.toList == y.2.toList) = true) ∨ (x ≠ y ∧ (x.1.toList == y.1.toList) = false) ∨ (x ≠ y ∧ (x.1.toList == y.1.toList) = true ∧ (x.2.toList == y.2.toList) = false) := by
  by_cases h1 : x.1 = y.1
  · by_cases h2 : x.2 = y.2
    · exact .inl ⟨Prod.ext h1 h2, bytes_eq_yes h1, bytes_eq_yes h2⟩
    · exact .inr (.inr ⟨fun e => h2 (by rw [e]), bytes_eq_yes h1, bytes_eq_no h2⟩)
  · exact .inr (.inl ⟨fun e => h1 (by rw [e]), bytes_eq_no h1⟩)
theorem takeRc_next {l : List Rec} {k : Nat} {x : Rec} (h : l[k]? = some x) : l.take (k + 1) = l.take k ++ [x] := by rw [List.take_add_one, h]; rfl
set_option maxRecDepth 100000 in
set_option maxHeartbeats 2000000 in
theorem eqRec_any (A A' : Option Addr) (n c n' c' : Nat) (l m : List Rec) (B B' : Nat) (w : World) (h : RSl w B A n c l) (h' : RSl w B' A' n' c' m) :
    Calls Tryz.prog 15 #[.slice A n c, .slice A' n' c'] w (EqO w l m) := by
  have HS := hid h
  have HS' := hid h'
  clear h h'
  have hmx : n ≤ 9223372036854775807 := by have := HS.out.cap; have := HS.out.max; unfold maxLen at this; omega
  by_cases hne : n = n'
  · subst hne
    go_enter Tryz.func15, Tryz.ntmps15
    go_wp2
    go_loopw [13] (fun i wr => ∃ k q : Nat, k ≤ n ∧ i = .int .i64 (k : Int) ∧ l.take k = m.take k ∧ wr = w.drewN q) (fun i _ => n - (intOf i).toNat)
    case atStart => exact ⟨0, 0, Nat.zero_le _, rfl, rfl, rfl⟩
    case round =>
      obtain ⟨k, q, hk, rfl, ht, rfl⟩ := hrel
      have HT := hid ht
      clear ht
      by_cases hlt : k < n
      · obtain ⟨ad, x, rfl, hbl, hx, hc, hd⟩ := HS.out.get hlt
        obtain ⟨ad', y, rfl, hbl', hy, hc', hd'⟩ := HS'.out.get hlt
        have HX := hid hx
        have HY := hid hy
        rcases rec_ways x y with ⟨e, g1, g2⟩ | ⟨e, g1⟩ | ⟨e, g1, g2⟩
        · have HE := hid e
          clear hx hy hbl hbl' e
          go_wp2_with fail
          go_quiet (fail)
          go_wp2
          go_roundw
          case rel => exact ⟨k + 1, _, by omega, by go_num, by rw [takeRc_next HX.out, takeRc_next HY.out, HT.out, HE.out], rfl⟩
          case measure => simp [intOf]; omega
        · have HR := hid (show ¬ l = m from fun h => e (by rw [h] at hx; exact Option.some.inj (hx.symm.trans hy)))
          clear hx hy hbl hbl' e
          go_wp2_with fail
          go_quiet (fail)
          go_wp2
          go_ret
          simp only [World.drewN_drewN]
          exact ⟨false, _, rfl, ⟨fun h => (by cases h), fun h => absurd h HR.out⟩, rfl⟩
        · have HR := hid (show ¬ l = m from fun h => e (by rw [h] at hx; exact Option.some.inj (hx.symm.trans hy)))
          clear hx hy hbl hbl' e
          go_wp2_with fail
          go_quiet (fail)
          go_wp2
          go_ret
          simp only [World.drewN_drewN]
          exact ⟨false, _, rfl, ⟨fun h => (by cases h), fun h => absurd h HR.out⟩, rfl⟩
      · have HE := hid (show l = m from by
          have h1 := HT.out
          rwa [List.take_of_length_le (by have := HS.out.len; omega), List.take_of_length_le (by have := HS'.out.len; omega)] at h1)
        go_wp2
        go_ret
        exact ⟨true, _, rfl, ⟨fun _ => HE.out, fun _ => rfl⟩, rfl⟩
  · have HR := hid (show ¬ l = m from fun e => by subst e; have h1 := HS.out.len; have h2 := HS'.out.len; omega)
    have hb : ((n : Int) != (n' : Int)) = true := by rw [bne_iff_ne]; omega
    clear hne
    go_enter Tryz.func15, Tryz.ntmps15
    go_wp2
    go_ret
    exact ⟨false, 0, rfl, ⟨fun h => (by cases h), fun h => absurd h HR.out⟩, rfl⟩
/-- records laid anew -/
def RecO (w : World) (l : List Rec) (e : Ending) (w' : World) : Prop := ∃ v, e = .returned v ∧ KRow w' w.heap.size v l ∧ Below w.heap.size w w'
set_option maxRecDepth 100000 in
set_option maxHeartbeats 1000000 in
theorem cloneRec_any (A : Option Addr) (n c : Nat) (l : List Rec) (w : World) (h : RSl w w.heap.size A n c l) (hn : n ≤ 10000) :
    Calls Tryz.prog 17 #[.slice A n c] w (RecO w l) := by
  obtain ⟨i0, hi, hz0, hz1, hz2⟩ := info_parts Tryz.infoRec
  have HS := hid h
  clear h
  rcases A with _ | ad
  · obtain rfl : c = 0 := HS.out.nil rfl
    obtain rfl : n = 0 := by have := HS.out.cap; omega
    obtain rfl : l = [] := List.eq_nil_of_length_eq_zero HS.out.len
    have HF := hid (show RecO w [] (.returned (.slice none 0 0)) w from ⟨_, rfl, krow_nil _ _, Below.refl _ _⟩)
    have hq : ∀ W, (binOp .eql 48 (.slice none 0 0) (.slice none 0 0)).run Tryz.prog W = .ok (.bool true) W := fun W => Lib.run_eql_slice_nil (P := Tryz.prog) W 48 44 none 0 0 0 0 Tryz.underlying48
    go_enter Tryz.func17, Tryz.ntmps17
    go_wp2
    go_ret
    exact HF.out
  · have hq : ∀ W, (binOp .eql 48 (.slice (some ad) n c) (.slice none 0 0)).run Tryz.prog W = .ok (.bool false) W := fun W => Lib.run_eql_slice_nil (P := Tryz.prog) W 48 44 (some ad) n c 0 0 Tryz.underlying48
    have HM := hid (show (w.alloc (.cells #[] 44)).ownsRow w.heap.size 44 2 (.slice (some ⟨w.heap.size, 0, none⟩) 0 0) 0 [] from World.ownsRow_made w #[] 0 (Nat.le_refl _) (by decide) rfl)
    go_enter Tryz.func17, Tryz.ntmps17
    go_wp2_with (at_builtin; refine wpList_append_own _ rfl _ _ 48 rfl w.heap.size 44 i0 (.agg #[.string ⟨#[]⟩, .string ⟨#[]⟩]) 2 32 Tryz.underlying48 hi hz0 hz1 hz2 rfl (by decide) _ _ _ rfl HM.out ad n c (recC l) rfl ?c0 ?c1 ?c2 ?c3 ?c4 ?c5 ?_)
    case c0 => rw [recC_len, HS.out.len]
    case c1 => exact (HS.out.on (show Below w.heap.size w (w.alloc (.cells #[] 44)) from (Below.refl _ _).alloc (Nat.le_refl _) _)).cells
    case c2 => exact recC_one l
    case c3 => unfold maxLen; omega
    case c4 => omega
    case c5 => simp
    intro v' w2 hown' hgrow _
    have HF := hid (show RecO w l (.returned v') w2 from ⟨_, rfl, by
      show World.ownsRow _ _ _ _ _ _ _
      rw [HS.out.len]
      simpa using hown', ((Below.refl _ _).alloc (Nat.le_refl _) _).grown hgrow (by simp) (fun k hk => (World.ownsRow.lt HM.out k hk).1)⟩)
    clear hown' hgrow
    go_wp2
    go_ret
    exact HF.out
/-- a row of one's own, read -/
theorem KRow.rsl {w : World} {B : Nat} {v : Value} {l : List Rec} (h : KRow w B v l) : ∃ A n c, v = .slice A n c ∧ RSl w w.heap.size A n c l := by
  obtain ⟨A, n, c, rfl, hl, hc, hm, hn, hat⟩ := h.form
  refine ⟨A, n, c, rfl, hl, hc, hm, fun e => (hn e).2, fun ad ha _ => ?_⟩
  obtain ⟨g, rfl, _, hg, hx⟩ := hat ad ha
  refine ⟨hg, fun j x hj => ?_⟩
  obtain ⟨c0, c1, _, _⟩ := hx j x hj
  rw [Addr.add_lit, Addr.add_lit, Nat.zero_add, Nat.zero_add]
  exact ⟨c0, c1⟩
/-- leaves: a page's number, its records -/
abbrev Lf := Int × List Rec
/-- a slice of leaves, read -/
structure LSl (w : World) (B : Nat) (A : Option Addr) (n c : Nat) (L : List Lf) : Prop where
  len : L.length = n
  cap : n ≤ c
  max : c ≤ maxLen
  nil : A = none → c = 0
  at_ : ∀ ad, A = some ad → 0 < n → ad.block < B ∧ ∀ j x, L[j]? = some x → ∃ r n' c', w.cell? (ad.add (j * 2)) = some (.int .i64 x.1) ∧ w.cell? (ad.add (j * 2 + 1)) = some (.slice (some r) n' c') ∧ RSl w B (some r) n' c' x.2
def recsOf (L : List Lf) : List Rec := L.flatMap (·.2)
theorem recsOf_take {L : List Lf} {k : Nat} {x : Lf} (h : L[k]? = some x) : recsOf (L.take (k + 1)) = recsOf (L.take k) ++ x.2 := by
  unfold recsOf
  rw [List.take_add_one, h]
  simp
theorem recsOf_part (L : List Lf) (k : Nat) : (recsOf (L.take k)).length ≤ (recsOf L).length := by
  have e : recsOf L = recsOf (L.take k) ++ recsOf (L.drop k) := by
    unfold recsOf
    rw [← List.flatMap_append, List.take_append_drop]
  rw [e, List.length_append]; omega
theorem RSl.below {w w' : World} {B n c : Nat} {A : Option Addr} {l : List Rec} (h : RSl w B A n c l) (hb : Below B w w') : RSl w' B A n c l := by
  refine ⟨h.len, h.cap, h.max, h.nil, fun ad ha h0 => ?_⟩
  obtain ⟨h1, h2⟩ := h.at_ ad ha h0
  refine ⟨h1, fun j x hx => ?_⟩
  obtain ⟨c1, c2⟩ := h2 j x hx
  have hk := hb.block _ h1
  exact ⟨(World.cell?_of_block (by rw [add_block]; exact hk)).trans c1, (World.cell?_of_block (by rw [add_block]; exact hk)).trans c2⟩
theorem RSl.more {w : World} {B B' n c : Nat} {A : Option Addr} {l : List Rec} (h : RSl w B A n c l) (hB : B ≤ B') : RSl w B' A n c l :=
  ⟨h.len, h.cap, h.max, h.nil, fun ad ha h0 => ⟨Nat.lt_of_lt_of_le (h.at_ ad ha h0).1 hB, (h.at_ ad ha h0).2⟩⟩
theorem LSl.below {w w' : World} {B n c : Nat} {A : Option Addr} {L : List Lf} (h : LSl w B A n c L) (hb : Below B w w') : LSl w' B A n c L := by
  refine ⟨h.len, h.cap, h.max, h.nil, fun ad ha h0 => ?_⟩
  obtain ⟨h1, h2⟩ := h.at_ ad ha h0
  refine ⟨h1, fun j x hx => ?_⟩
  obtain ⟨r, n', c', c1, c2, h3⟩ := h2 j x hx
  have hk := hb.block _ h1
  exact ⟨r, n', c', (World.cell?_of_block (by rw [add_block]; exact hk)).trans c1, (World.cell?_of_block (by rw [add_block]; exact hk)).trans c2, h3.below hb⟩
theorem LSl.more {w : World} {B B' n c : Nat} {A : Option Addr} {L : List Lf} (h : LSl w B A n c L) (hB : B ≤ B') : LSl w B' A n c L := by
  refine ⟨h.len, h.cap, h.max, h.nil, fun ad ha h0 => ?_⟩
  obtain ⟨h1, h2⟩ := h.at_ ad ha h0
  refine ⟨Nat.lt_of_lt_of_le h1 hB, fun j x hx => ?_⟩
  obtain ⟨r, n', c', c1, c2, h3⟩ := h2 j x hx
  exact ⟨r, n', c', c1, c2, h3.more hB⟩
theorem LSl.on {w w' : World} {A : Option Addr} {n c : Nat} {L : List Lf} (h : LSl w w.heap.size A n c L) (hb : Below w.heap.size w w') : LSl w' w'.heap.size A n c L := (h.below hb).more hb.size
theorem LSl.get {w : World} {B n c k : Nat} {A : Option Addr} {L : List Lf} (h : LSl w B A n c L) (hk : k < n) : ∃ ad x r n' c', A = some ad ∧ ad.block < B ∧ L[k]? = some x ∧ w.cell? (ad.add (k * 2)) = some (.int .i64 x.1) ∧ w.cell? ⟨(ad.add (k * 2)).block, (ad.add (k * 2)).off + 1, none⟩ = some (.slice (some r) n' c') ∧ RSl w B (some r) n' c' x.2 := by
  rcases A with _ | ad
  · have := h.nil rfl; have := h.cap; omega
  · have hl := h.len
    obtain ⟨hb, hc⟩ := h.at_ ad rfl (by omega)
    have hx : L[k]? = some (L[k]'(by omega)) := List.getElem?_eq_getElem (by omega)
    obtain ⟨r, n', c', h1, h2, h3⟩ := hc k _ hx
    exact ⟨ad, _, r, n', c', rfl, hb, hx, h1, by rw [← add_atR ad (k * 2) (by omega)]; exact h2, h3⟩
theorem lsl_nil (w : World) (B : Nat) : LSl w B none 0 0 [] := ⟨rfl, Nat.le_refl _, by unfold maxLen; omega, fun _ => rfl, fun _ h => by cases h⟩
set_option maxRecDepth 100000 in
set_option maxHeartbeats 2000000 in
theorem recordsOf_any (A : Option Addr) (n c : Nat) (L : List Lf) (w : World) (h : LSl w w.heap.size A n c L) (hn : n ≤ 10000) (hr : (recsOf L).length ≤ 10000) :
    Calls Tryz.prog 16 #[.slice A n c] w (RecO w (recsOf L)) := by
  obtain ⟨i0, hi, hz0, hz1, hz2⟩ := info_parts Tryz.infoRec
  have HS := hid h
  have HN := hid (fun k => Nat.le_trans (recsOf_part L k) hr)
  have hnI : (n : Int) ≤ 10000 := by omega
  clear h hr
  go_enter Tryz.func16, Tryz.ntmps16
  go_wp2
  go_loopw [3, 8] (fun ov iv wr => ∃ k : Nat, k ≤ n ∧ iv = .int .i64 (k : Int) ∧ KRow wr w.heap.size ov (recsOf (L.take k)) ∧ Below w.heap.size w wr) (fun _ iv _ => n - (intOf iv).toNat)
  case atStart => exact ⟨0, Nat.zero_le _, rfl, krow_nil _ _, Below.refl _ _⟩
  case round =>
    obtain ⟨k, hk, rfl, hown, hb⟩ := hrel
    have HB := hid hb
    have HO := hid hown
    by_cases hlt : k < n
    · obtain ⟨ad, x, r, n', c', rfl, _, hx, c0, c1, hrs⟩ := (HS.out.on hb).get hlt
      have HX := hid (recsOf_take hx)
      have HRs := hid hrs
      have HNk := hid (HN.out (k + 1))
      have hki : (k : Int) < n := by omega
      clear hown hb hx hrs
      go_wp2_with (at_builtin; refine wpList_append_own _ rfl _ _ 48 rfl w.heap.size 44 i0 (.agg #[.string ⟨#[]⟩, .string ⟨#[]⟩]) 2 32 Tryz.underlying48 hi hz0 hz1 hz2 rfl (by decide) _ _ _ rfl (World.ownsRow.alloc HO.out _) r n' c' (recC x.2) rfl ?c0 ?c1 ?c2 ?c3 ?c4 ?c5 ?_)
      case c0 => rw [recC_len, HRs.out.len]
      case c1 => exact (HRs.out.on (show Below wr.heap.size wr (wr.alloc (.cells #[.int .i64 x.1, .slice (some r) n' c'] 77)) from (Below.refl _ _).alloc (Nat.le_refl _) _)).cells
      case c2 => exact recC_one _
      case c3 => have h1 := HNk.out; rw [HX.out, List.length_append, HRs.out.len] at h1; unfold maxLen; omega
      case c4 => have h1 := HNk.out; rw [HX.out, List.length_append, HRs.out.len] at h1; omega
      case c5 => have := HB.out.size; simp; omega
      intro v' w2 hown' hgrow _
      have R1 := hid (show KRow w2 w.heap.size v' (recsOf (L.take (k + 1))) from by
        show World.ownsRow _ _ _ _ _ _ _
        rw [HX.out, recC_app, List.length_append, HRs.out.len]
        simpa using hown')
      have R2 := hid (show Below w.heap.size w w2 from (HB.out.alloc HB.out.size _).grown hgrow (by have := HB.out.size; simp; omega) (fun q hq => (World.ownsRow.lt HO.out q hq).1))
      clear hown' hgrow
      go_wp2
      go_roundw
      case rel => exact ⟨k + 1, by omega, by go_num, R1.out, R2.out⟩
      case measure => simp [intOf]; omega
    · have he : recsOf (L.take k) = recsOf L := by rw [List.take_of_length_le (by have := HS.out.len; omega)]
      rw [he] at HO
      clear hown hb
      go_wp2
      go_ret
      exact ⟨_, rfl, HO.out, HB.out⟩
end Go.Proofs.YtkhdgacjgccnnaaGreatDoor
