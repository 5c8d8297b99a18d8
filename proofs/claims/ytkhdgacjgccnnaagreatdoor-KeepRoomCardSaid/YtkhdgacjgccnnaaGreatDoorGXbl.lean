/- Put together out of 4 texts. added over any leaves: what it comes to. -/
import Derived.Test.YtkhdgacjgccnnaaGreatDoorGXbk
import Derived.Test.YtkhdgacjgccnnaaGreatDoorGXbj
namespace Go.Proofs.YtkhdgacjgccnnaaGreatDoor
open Go.RowKit

/-- a part behind leaves: with the last one's, where that has room -/
def joinL (L : List Lf) (p : Int) (q : List Rec) : List Lf :=
  match L.getLast? with
  | some x => if (laidR x.2).length + (laidR q).length ≤ 248 then L.set (L.length - 1) (x.1, x.2 ++ q) else L ++ [(p, q)]
  | none => L ++ [(p, q)]
def addL (L : List Lf) (p : Int) : List (List Rec) → List Lf
  | [] => L
  | q :: ps => addL (joinL L p q) (-1) ps
def pAt (p : Int) (k : Nat) : Int := if k = 0 then p else -1
theorem addL_snoc (ps : List (List Rec)) (q : List Rec) : ∀ (L : List Lf) (p : Int), addL L p (ps ++ [q]) = joinL (addL L p ps) (pAt p ps.length) q := by
  induction ps with
  | nil => intro L p; rfl
  | cons x ps ih =>
    intro L p
    show addL (joinL L p x) (-1) (ps ++ [q]) = _
    rw [ih]
    show joinL (addL (joinL L p x) (-1) ps) (pAt (-1) ps.length) q = joinL (addL (joinL L p x) (-1) ps) (pAt p (ps.length + 1)) q
    have e : pAt (-1) ps.length = -1 := by unfold pAt; split <;> rfl
    have e2 : pAt p (ps.length + 1) = -1 := by unfold pAt; rw [if_neg (by omega)]
    rw [e, e2]
theorem addL_next {P : List (List Rec)} {k : Nat} {q : List Rec} (h : P[k]? = some q) (L : List Lf) (p : Int) : addL L p (P.take (k + 1)) = joinL (addL L p (P.take k)) (pAt p k) q := by
  have hk := (List.getElem?_eq_some_iff.1 h).1
  have e : P.take (k + 1) = P.take k ++ [q] := by rw [List.take_add_one, h]; rfl
  rw [e, addL_snoc, List.length_take, Nat.min_eq_left (by omega)]
/-- leaves that a page has room for -/
def LfOk (L : List Lf) : Prop := ∀ x, x ∈ L → x.2 ≠ [] ∧ (laidR x.2).length ≤ 248
theorem laidR_app (l m : List Rec) : laidR (l ++ m) = laidR l ++ laidR m := by unfold laidR; rw [List.flatMap_append]
theorem joinL_ok {L : List Lf} {p : Int} {q : List Rec} (h : LfOk L) (hq : q ≠ []) (h248 : (laidR q).length ≤ 248) : LfOk (joinL L p q) := by
  have happ : LfOk (L ++ [(p, q)]) := fun x hx => by
    rcases List.mem_append.1 hx with hx | hx
    · exact h x hx
    · simp at hx
      subst hx
      exact ⟨hq, h248⟩
  unfold joinL
  rcases hl : L.getLast? with _ | y
  · exact happ
  · show LfOk (if _ then _ else _)
    split
    · rename_i hle
      intro x hx
      rcases List.mem_or_eq_of_mem_set hx with hx | rfl
      · exact h x hx
      · refine ⟨fun e => hq (List.append_eq_nil_iff.1 e).2, ?_⟩
        show (laidR (y.2 ++ q)).length ≤ 248
        rw [laidR_app, List.length_append]
        exact hle
    · exact happ
theorem recsOf_join (L : List Lf) (p : Int) (q : List Rec) : recsOf (joinL L p q) = recsOf L ++ q := by
  have happ : recsOf (L ++ [(p, q)]) = recsOf L ++ q := by
    unfold recsOf
    rw [List.flatMap_append]
    simp
  unfold joinL
  rcases hl : L.getLast? with _ | y
  · exact happ
  · show recsOf (if _ then _ else _) = _
    split
    · obtain ⟨M, rfl⟩ : ∃ M, L = M ++ [y] := by
        rcases List.eq_nil_or_concat L with rfl | ⟨M, z, rfl⟩
        · simp at hl
        · simp at hl
          subst hl
          exact ⟨M, by simp⟩
      have e : (M ++ [y]).set ((M ++ [y]).length - 1) (y.1, y.2 ++ q) = M ++ [(y.1, y.2 ++ q)] := by
        rw [List.length_append, List.length_singleton, Nat.add_sub_cancel, List.set_append_right _ _ (Nat.le_refl _), Nat.sub_self]
        rfl
      rw [e]
      unfold recsOf
      rw [List.flatMap_append, List.flatMap_append]
      simp
    · exact happ
theorem recsOf_add (P : List (List Rec)) : ∀ (L : List Lf) (p : Int), recsOf (addL L p P) = recsOf L ++ P.flatten := by
  induction P with
  | nil => intro L p; simp [addL]
  | cons q P ih =>
    intro L p
    show recsOf (addL (joinL L p q) (-1) P) = _
    rw [ih, recsOf_join, List.flatten_cons, List.append_assoc]
theorem addL_ok (P : List (List Rec)) : ∀ (L : List Lf) (p : Int), LfOk L → (∀ q, q ∈ P → q ≠ [] ∧ (laidR q).length ≤ 248) → LfOk (addL L p P) := by
  induction P with
  | nil => intro L p h _; exact h
  | cons q P ih =>
    intro L p h hP
    exact ih (joinL L p q) (-1) (joinL_ok h (hP q (by simp)).1 (hP q (by simp)).2) (fun x hx => hP x (by simp [hx]))
theorem joinL_len (L : List Lf) (p : Int) (q : List Rec) : (joinL L p q).length ≤ L.length + 1 := by
  unfold joinL
  rcases hl : L.getLast? with _ | y
  · simp
  · show List.length (if _ then _ else _) ≤ _
    split <;> simp
theorem addL_len (P : List (List Rec)) : ∀ (L : List Lf) (p : Int), (addL L p P).length ≤ L.length + P.length := by
  induction P with
  | nil => intro L p; exact Nat.le_refl _
  | cons q P ih =>
    intro L p
    have h1 := ih (joinL L p q) (-1)
    have h2 := joinL_len L p q
    show (addL (joinL L p q) (-1) P).length ≤ _
    simp only [List.length_cons]
    omega
theorem parts_len {l : List Rec} : ∀ {P : List (List Rec)}, P.flatten = l → (∀ q, q ∈ P → q ≠ []) → P.length ≤ l.length := by
  intro P
  induction P generalizing l with
  | nil => intro _ _; exact Nat.zero_le _
  | cons q P ih =>
    intro h hP
    have h1 := ih (l := P.flatten) rfl (fun x hx => hP x (by simp [hx]))
    have h2 : q.length ≠ 0 := fun e => hP q (by simp) (List.eq_nil_of_length_eq_zero e)
    rw [← h, List.flatten_cons, List.length_append, List.length_cons]
    omega
theorem joinL_last {L : List Lf} {j : Nat} {x : Lf} (hj : L.length = j + 1) (hx : L[j]? = some x) (p : Int) (q : List Rec) : joinL L p q = if (laidR x.2).length + (laidR q).length ≤ 248 then L.set j (x.1, x.2 ++ q) else L ++ [(p, q)] := by
  have e : L.getLast? = some x := by rw [List.getLast?_eq_getElem?, hj]; exact hx
  unfold joinL
  rw [e]
  show (if _ then L.set (L.length - 1) _ else _) = _
  rw [hj]
  rfl
theorem recB_pos (x : Rec) : 1 ≤ (recB x).length := by
  have := laidR_pos (l := [x]) (by simp)
  rwa [laidR_one] at this
theorem laidR_long : ∀ l : List Rec, l.length ≤ (laidR l).length
  | [] => Nat.zero_le _
  | x :: l => by
    have h1 := laidR_long l
    have h2 := recB_pos x
    have e : laidR (x :: l) = recB x ++ laidR l := by simp [laidR]
    rw [e, List.length_append, List.length_cons]
    omega
theorem recsOf_mem {L : List Lf} {x : Lf} {r : Rec} (hx : x ∈ L) (hr : r ∈ x.2) : r ∈ recsOf L := List.mem_flatMap.2 ⟨x, hx, hr⟩
end Go.Proofs.YtkhdgacjgccnnaaGreatDoor
namespace Go.Proofs.YtkhdgacjgccnnaaGreatDoor
open Go.RowKit

/-- a slice of leaves: their pages and their slices of records -/
structure LX (w : World) (B : Nat) (A : Option Addr) (n c : Nat) (xs : List (Int × Value)) : Prop where
  len : xs.length = n
  cap : n ≤ c
  max : c ≤ maxLen
  at_ : ∀ (j : Nat) (x : Int × Value), xs[j]? = some x → ∃ ad r n' c', A = some ad ∧ ad.block < B ∧ x.2 = .slice (some r) n' c' ∧ w.cell? (ad.add (j * 2)) = some (.int .i64 x.1) ∧ w.cell? ⟨(ad.add (j * 2)).block, (ad.add (j * 2)).off + 1, none⟩ = some x.2
theorem LX.below {w w' : World} {B n c : Nat} {A : Option Addr} {xs : List (Int × Value)} (h : LX w B A n c xs) (hb : Below B w w') : LX w' B A n c xs :=
  ⟨h.len, h.cap, h.max, fun j x hx => by
    obtain ⟨ad, r, n', c', e1, e2, e3, e4, e5⟩ := h.at_ j x hx
    have hab : (ad.add (j * 2)).block = ad.block := add_block ad (j * 2)
    exact ⟨ad, r, n', c', e1, e2, e3, (hb.cell (by rw [hab]; exact e2)).trans e4, (hb.cell (p := ⟨(ad.add (j * 2)).block, (ad.add (j * 2)).off + 1, none⟩) (by rw [hab]; exact e2)).trans e5⟩⟩
theorem LX.more {w : World} {B B' n c : Nat} {A : Option Addr} {xs : List (Int × Value)} (h : LX w B A n c xs) (hB : B ≤ B') : LX w B' A n c xs :=
  ⟨h.len, h.cap, h.max, fun j x hx => by
    obtain ⟨ad, r, n', c', e1, e2, e3⟩ := h.at_ j x hx
    exact ⟨ad, r, n', c', e1, Nat.lt_of_lt_of_le e2 hB, e3⟩⟩
theorem LX.on {w w' : World} {n c : Nat} {A : Option Addr} {xs : List (Int × Value)} (h : LX w w.heap.size A n c xs) (hb : Below w.heap.size w w') : LX w' w'.heap.size A n c xs := (h.below hb).more hb.size
/-- what each page has -/
def tbStep (f : Nat → Value) (x : Int × Value) : Nat → Value := fun i => if (i : Int) = x.1 then x.2 else f i
def tbF (xs : List (Int × Value)) : Nat → Value := xs.foldl tbStep (fun _ => nilV)
theorem tbF_next {xs : List (Int × Value)} {k : Nat} {x : Int × Value} (h : xs[k]? = some x) : tbF (xs.take (k + 1)) = tbStep (tbF (xs.take k)) x := by
  have e : xs.take (k + 1) = xs.take k ++ [x] := by rw [List.take_add_one, h]; rfl
  unfold tbF
  rw [e, List.foldl_append]
  rfl
theorem tbStep_none {f : Nat → Value} {x : Int × Value} (h : x.1 = -1) : tbStep f x = f := by
  funext i
  unfold tbStep
  rw [if_neg (by omega)]
theorem tbF_or (xs : List (Int × Value)) : ∀ (f : Nat → Value) (i : Nat), ((∀ x, x ∈ xs → x.1 ≠ (i : Int)) ∧ xs.foldl tbStep f i = f i) ∨ ∃ x, x ∈ xs ∧ x.1 = (i : Int) ∧ xs.foldl tbStep f i = x.2 := by
  induction xs with
  | nil => intro f i; exact .inl ⟨fun x hx => (by cases hx), rfl⟩
  | cons y xs ih =>
    intro f i
    rcases ih (tbStep f y) i with ⟨h0, h⟩ | ⟨x, h1, h2, h3⟩
    · by_cases e : (i : Int) = y.1
      · refine .inr ⟨y, by simp, e.symm, ?_⟩
        show xs.foldl tbStep (tbStep f y) i = _
        rw [h]
        unfold tbStep
        rw [if_pos e]
      · refine .inl ⟨fun x hx => ?_, ?_⟩
        · rcases List.mem_cons.1 hx with rfl | hx
          · exact fun e2 => e e2.symm
          · exact h0 x hx
        · show xs.foldl tbStep (tbStep f y) i = _
          rw [h]
          unfold tbStep
          rw [if_neg e]
    · exact .inr ⟨x, by simp [h1], h2, h3⟩
theorem tbF_one {xs : List (Int × Value)} (h : ∀ x, x ∈ xs → x.2.oneCell' = true) (i : Nat) : (tbF xs i).oneCell' = true := by
  rcases tbF_or xs (fun _ => nilV) i with ⟨_, e⟩ | ⟨x, h1, _, h3⟩
  · unfold tbF; rw [e]; rfl
  · unfold tbF; rw [h3]; exact h x h1
theorem LX.one {w : World} {B n c : Nat} {A : Option Addr} {xs : List (Int × Value)} (h : LX w B A n c xs) : ∀ x, x ∈ xs → x.2.oneCell' = true := fun x hx => by
  obtain ⟨j, hj⟩ := List.getElem?_of_mem hx
  obtain ⟨_, r, n', c', _, _, e, _⟩ := h.at_ j x hj
  rw [e]; rfl
set_option maxRecDepth 100000 in
set_option maxHeartbeats 4000000 in
theorem byPage_any (A : Option Addr) (n c : Nat) (xs : List (Int × Value)) (w : World) (h : LX w w.heap.size A n c xs) (hn : n ≤ 1000) (hp : ∀ x, x ∈ xs → -1 ≤ x.1 ∧ x.1 < 256) :
    Calls Tryz.prog 42 #[.slice A n c] w fun e w' => e = .returned (.agg (arS (tbF xs))) ∧ Below w.heap.size w w' := by
  have hr0 := (Blk.new w 103 (arS (fun _ => nilV))).alloc (.cells (arS (fun _ => nilV)) 103)
  have hq0 := Blk.new (w.alloc (.cells (arS (fun _ => nilV)) 103)) 103 (arS (fun _ => nilV))
  rw [World.size_alloc] at hq0
  have hb0 : Below w.heap.size w ((w.alloc (.cells (arS (fun _ => nilV)) 103)).alloc (.cells (arS (fun _ => nilV)) 103)) := ((Below.refl _ _).alloc (Nat.le_refl _) _).alloc (by simp) _
  have H0 := hid (And.intro hr0 (And.intro hq0 hb0))
  have HX := hid h
  have HP0 := hid hp
  have hnI : (n : Int) ≤ 1000 := by omega
  clear hr0 hq0 hb0 h hp
  go_enter Tryz.func42, Tryz.ntmps42
  go_wp2
  rw [Tryz.zero256]
  go_loopw [8] (fun iv wr => ∃ k : Nat, k ≤ n ∧ iv = .int .i64 (k : Int) ∧ Hid (Blk wr w.heap.size 103 (arS (fun _ => nilV))) ∧ Hid (Below w.heap.size w wr) ∧ Hid (Blk wr (w.heap.size + 1) 103 (arS (tbF (xs.take k))))) (fun iv _ => n - (intOf iv).toNat)
  case atStart => exact ⟨0, Nat.zero_le _, rfl, H0.out.1, H0.out.2.2, H0.out.2.1⟩
  case round =>
    obtain ⟨k, hk, rfl, HR, HB, HP⟩ := hrel
    by_cases hlt : k < n
    · obtain ⟨x, hx⟩ : ∃ x, xs[k]? = some x := ⟨xs[k]'(by rw [HX.out.len]; exact hlt), List.getElem?_eq_getElem _⟩
      obtain ⟨ad, r, n', c', rfl, had, hx2, c0, c1⟩ := (HX.out.below HB.out).at_ k x hx
      obtain ⟨p, v⟩ := x
      have hpp := HP0.out _ (List.mem_of_getElem? hx)
      have HN := hid (tbF_next hx)
      simp only at hx2 c0 c1 hpp
      subst hx2
      have hkI : (k : Int) < n := by omega
      clear hx had
      by_cases hpn : p = -1
      · rw [tbStep_none hpn] at HN
        have g : (p != -1) = false := by simp [hpn]
        have HR1 := hid (HR.out.alloc (.cells #[.int .i64 p, .slice (some r) n' c'] 77))
        have HP1 := hid (HP.out.alloc (.cells #[.int .i64 p, .slice (some r) n' c'] 77))
        have HB1 := hid (HB.out.alloc HB.out.size (.cells #[.int .i64 p, .slice (some r) n' c'] 77))
        clear hpn hpp
        go_wp2
        go_roundw
        case rel => exact ⟨k + 1, by omega, by go_num, HR1, HB1, by rw [HN.out]; exact HP1⟩
        case measure => simp [intOf]; omega
      · have g : (p != -1) = true := by simp [hpn]
        obtain ⟨z, rfl⟩ : ∃ z : Nat, p = (z : Int) := ⟨p.toNat, by omega⟩
        have hz : z < 256 := by omega
        have z1 := arS_cell HP.out hz
        have HR1 := hid ((HR.out.far (p := ⟨w.heap.size + 1, z, none⟩) (by simp) (.slice (some r) n' c')).alloc (.cells #[.int .i64 (z : Int), .slice (some r) n' c'] 77))
        have HP1 := hid (show Blk ((wr.setCell ⟨w.heap.size + 1, z, none⟩ (.slice (some r) n' c')).alloc (.cells #[.int .i64 (z : Int), .slice (some r) n' c'] 77)) (w.heap.size + 1) 103 (arS (tbF (xs.take (k + 1)))) from by
          have h := (HP.out.put z (.slice (some r) n' c')).alloc (.cells #[.int .i64 (z : Int), .slice (some r) n' c'] 77)
          rw [arS_set] at h
          have e : (fun i => if i = z then Value.slice (some r) n' c' else tbF (xs.take k) i) = tbF (xs.take (k + 1)) := by
            rw [HN.out]
            funext i
            unfold tbStep
            by_cases hi : i = z
            · rw [if_pos hi, if_pos (by simp; omega)]
            · rw [if_neg hi, if_neg (by simp; omega)]
          rwa [e] at h)
        have HB1 := hid ((HB.out.setCell (p := ⟨w.heap.size + 1, z, none⟩) (by show w.heap.size ≤ w.heap.size + 1; omega) (.slice (some r) n' c')).alloc (by have := HB.out.size; simp; omega) (.cells #[.int .i64 (z : Int), .slice (some r) n' c'] 77))
        have hzI : (z : Int) < 256 := by omega
        have fz := HP.out.free z
        have hsz := HB.out.size
        have hsp := HP.out.lt
        have hne1 : ¬ wr.heap.size = w.heap.size + 1 := by omega
        generalize tbF (xs.take k) z = vz at z1
        clear hpn hpp g
        have g : ((z : Int) != -1) = true := by rw [bne_iff_ne]; omega
        go_wp2
        go_roundw
        case rel => exact ⟨k + 1, by omega, by go_num, HR1, HB1, HP1⟩
        case measure => simp [intOf]; omega
    · obtain rfl : k = n := by omega
      have HP2 := hid (show Blk wr (w.heap.size + 1) 103 (arS (tbF xs)) from by have := HP.out; rwa [List.take_of_length_le (by rw [HX.out.len]; exact Nat.le_refl _)] at this)
      have HFn := hid (show (wr.setRow w.heap.size (arS (tbF xs))).heap[w.heap.size]? = some (.cells (arS (tbF xs)) 103 (0, 0)) from setRow_heap wr w.heap.size _ _ 103 (0, 0) HR.out)
      have HBf := hid (below_setRow HB.out (Nat.le_refl _) (arS (tbF xs)))
      have hone := hid (arS_one (tbF_one HX.out.one))
      go_wp2_with (first | (refine wpList_load_row rfl 103 (.tmp 3) rfl (w.heap.size + 1) rfl 103 (arS (tbF xs)) (0, 0) _ HP2.out Tryz.underlying103 rfl (by rw [arS_size]; exact Tryz.size256) ?_) | (refine wpList_store_row rfl 103 (.tmp 2) (.tmp 21) rfl w.heap.size (arS (tbF xs)) rfl rfl 103 (arS (fun _ => nilV)) HR.out (by rw [arS_size]; exact Tryz.size256) (by simp only [arS_size]) hone.out ?_))
      exact bodyPost_ret_by (results_cell_row (p := 2) rfl _ _ w.heap.size 103 _ (0, 0) _ rfl HFn.out Tryz.underlying103 rfl (by rw [arS_size]; exact Tryz.size256)) rfl ⟨rfl, HBf.out⟩
end Go.Proofs.YtkhdgacjgccnnaaGreatDoor
namespace Go.Proofs.YtkhdgacjgccnnaaGreatDoor
open Go.RowKit

theorem pig : ∀ (p : Nat) (l : List Int), (∀ z : Nat, z < p → (z : Int) ∈ l) → p ≤ l.length
  | 0, _, _ => Nat.zero_le _
  | p + 1, l, h => by
    have h1 := h p (by omega)
    have h2 := pig p (l.erase (p : Int)) (fun z hz => (List.mem_erase_of_ne (by omega)).2 (h z (by omega)))
    rw [List.length_erase_of_mem h1] at h2
    have h3 : l.length ≠ 0 := fun e => by
      rw [List.eq_nil_of_length_eq_zero e] at h1
      cases h1
    omega
/-- pages: none, or each its own -/
def PgOk (L : List Lf) : Prop := (∀ x, x ∈ L → -1 ≤ x.1 ∧ x.1 < 256) ∧ ∀ (i j : Nat) (x y : Lf), L[i]? = some x → L[j]? = some y → x.1 = y.1 → x.1 ≠ -1 → i = j
theorem PgOk.set {L : List Lf} {i p : Nat} {l : List Rec} (h : PgOk L) (hp : p < 256) (hn : ∀ (j : Nat) (x : Lf), L[j]? = some x → j ≠ i → x.1 ≠ (p : Int)) : PgOk (L.set i ((p : Int), l)) := by
  refine ⟨fun x hx => ?_, fun a b x y ha hb hxy hx => ?_⟩
  · rcases List.mem_or_eq_of_mem_set hx with hx | rfl
    · exact h.1 x hx
    · exact ⟨by show -1 ≤ (p : Int); omega, by show (p : Int) < 256; omega⟩
  · by_cases ea : a = i
    · by_cases eb : b = i
      · omega
      · exfalso
        rw [List.getElem?_set_ne (fun e => eb e.symm)] at hb
        subst ea
        have hl := (List.getElem?_eq_some_iff.1 ha).1
        rw [List.length_set] at hl
        rw [List.getElem?_set_self hl] at ha
        cases ha
        exact hn b y hb eb hxy.symm
    · rw [List.getElem?_set_ne (fun e => ea e.symm)] at ha
      by_cases eb : b = i
      · exfalso
        subst eb
        have hl := (List.getElem?_eq_some_iff.1 hb).1
        rw [List.length_set] at hl
        rw [List.getElem?_set_self hl] at hb
        cases hb
        exact hn a x ha ea hxy
      · rw [List.getElem?_set_ne (fun e => eb e.symm)] at hb
        exact h.2 a b x y ha hb hxy hx
theorem lfC_setP {xs : List (Int × Value)} {j : Nat} {p q : Int} {u : Value} (h : xs[j]? = some (p, u)) : (lfC xs).set (j * 2) (.int .i64 q) = lfC (xs.set j (q, u)) := by
  induction xs generalizing j with
  | nil => simp at h
  | cons y l ih =>
    have e : lfC (y :: l) = .int .i64 y.1 :: y.2 :: lfC l := rfl
    rcases j with _ | j
    · simp at h
      subst h
      rfl
    · simp at h
      rw [e, show (j + 1) * 2 = (j * 2) + 1 + 1 by omega, List.set_cons_succ, List.set_cons_succ, ih h, List.set_cons_succ]
      rfl
/-- a leaf's page is another now -/
theorem LOwn.setP {w : World} {B g n cap j : Nat} {Q : Nat → Prop} {L : List Lf} {p q : Int} {l : List Rec} (h : LOwn w B Q (.slice (some ⟨g, 0, none⟩) n cap) L) (hj : L[j]? = some (p, l)) : LOwn (w.setCell ⟨g, j * 2, none⟩ (.int .i64 q)) B Q (.slice (some ⟨g, 0, none⟩) n cap) (L.set j (q, l)) := by
  obtain ⟨xs, h1, h2, h3⟩ := h
  obtain rfl : n = L.length := by
    rcases h2.2 with ⟨e, _⟩ | ⟨g', cap', cur, e, _⟩
    · cases e
    · cases e; rfl
  obtain ⟨k1, k2⟩ := h2.stored (j * 2) (.int .i64 q)
  obtain ⟨r, m, c, e1, f2, f3, f4⟩ := h3 j (p, l) hj
  have hS : ∀ {a : Addr} {m c : Nat} {q' : List Rec}, RSl w w.heap.size (some a) m c q' → a.block ≠ g → RSl (w.setCell ⟨g, j * 2, none⟩ (.int .i64 q)) (w.setCell ⟨g, j * 2, none⟩ (.int .i64 q)).heap.size (some a) m c q' := fun {a m c q'} hx ha =>
    hx.same (by simp) (fun ad hd h0 => by
      cases hd
      exact k2.block _ (hx.at_ a rfl h0).1 (by simpa using ha))
  refine ⟨xs.set j (q, .slice (some r) m c), by rw [List.length_set, List.length_set, h1], ?_, fun i x hx => ?_⟩
  · rw [List.length_set, ← lfC_setP e1]
    exact k1
  · by_cases e : i = j
    · subst e
      have hi := (List.getElem?_eq_some_iff.1 hj).1
      rw [List.getElem?_set_self hi] at hx
      cases hx
      exact ⟨r, m, c, by rw [List.getElem?_set_self (by rw [h1]; exact hi)], hS f2 (f4 g rfl), f3, f4⟩
    · rw [List.getElem?_set_ne (fun e2 => e e2.symm)] at hx
      obtain ⟨r2, m2, c2, g1, g2, g3, g4⟩ := h3 i x hx
      exact ⟨r2, m2, c2, by rw [List.getElem?_set_ne (fun e2 => e e2.symm)]; exact g1, hS g2 (g4 g rfl), g3, g4⟩
theorem lfC_at {xs : List (Int × Value)} {j : Nat} {x : Int × Value} (h : xs[j]? = some x) : (lfC xs)[j * 2]? = some (.int .i64 x.1) ∧ (lfC xs)[j * 2 + 1]? = some x.2 := by
  induction xs generalizing j with
  | nil => simp at h
  | cons y l ih =>
    have e : lfC (y :: l) = .int .i64 y.1 :: y.2 :: lfC l := rfl
    rcases j with _ | j
    · simp at h
      subst h
      exact ⟨rfl, rfl⟩
    · simp at h
      rw [e, show (j + 1) * 2 = (j * 2) + 1 + 1 by omega, List.getElem?_cons_succ, List.getElem?_cons_succ, List.getElem?_cons_succ, List.getElem?_cons_succ]
      exact ih h
/-- of leaves of one's own: their pages and slices -/
theorem LOwn.lx {w : World} {B g n cap : Nat} {Q : Nat → Prop} {L : List Lf} (h : LOwn w B Q (.slice (some ⟨g, 0, none⟩) n cap) L) : ∃ xs, LX w w.heap.size (some ⟨g, 0, none⟩) n cap xs ∧ n = L.length ∧ ∀ (j : Nat) (x : Lf), L[j]? = some x → ∃ r m c, xs[j]? = some (x.1, .slice (some r) m c) ∧ RSl w w.heap.size (some r) m c x.2 ∧ Q r.block ∧ r.block ≠ g := by
  obtain ⟨xs, h1, h2, h3⟩ := h
  have h2' := h2
  rcases h2.2 with ⟨e, _⟩ | ⟨g', cap', cur, e, hb, hg, hn, hm, _⟩
  · cases e
  · cases e
    have hgl := (World.ownsRow.lt h2' g rfl).2
    refine ⟨xs, ⟨h1, hn, hm, fun j x hx => ?_⟩, rfl, fun j x hx => ?_⟩
    · obtain ⟨y, hy⟩ : ∃ y, L[j]? = some y := ⟨L[j]'(by rw [← h1]; exact (List.getElem?_eq_some_iff.1 hx).1), List.getElem?_eq_getElem _⟩
      obtain ⟨r, m, c, e1, e2, _⟩ := h3 j y hy
      rw [hx] at e1
      cases e1
      obtain ⟨c0, c1⟩ := lfC_at hx
      have d0 := World.ownsRow.cells h2' (g := g) rfl (j * 2) _ c0
      have d1 := World.ownsRow.cells h2' (g := g) rfl (j * 2 + 1) _ c1
      have eA : ∀ z, (⟨g, 0, none⟩ : Addr).add z = ⟨g, z, none⟩ := fun z => by unfold Addr.add; split <;> simp_all
      rw [eA] at d0 d1
      exact ⟨⟨g, 0, none⟩, r, m, c, rfl, hgl, rfl, by rw [eA]; exact d0, by rw [eA]; exact d1⟩
    · obtain ⟨r, m, c, e1, e2, e3, e4⟩ := h3 j x hx
      exact ⟨r, m, c, e1, e2, e3, e4 g rfl⟩
end Go.Proofs.YtkhdgacjgccnnaaGreatDoor
namespace Go.Proofs.YtkhdgacjgccnnaaGreatDoor
open Go.RowKit

theorem addG (g z : Nat) : (⟨g, 0, none⟩ : Addr).add z = ⟨g, z, none⟩ := by unfold Addr.add; split <;> simp_all
/-- whether a page has something is whether it is a leaf's -/
theorem tab_at {w : World} {A : Option Addr} {n c : Nat} {xs : List (Int × Value)} {L : List Lf} (h : LX w w.heap.size A n c xs) (hL : ∀ (j : Nat) (x : Lf), L[j]? = some x → ∃ r m c, xs[j]? = some (x.1, Value.slice (some r) m c) ∧ RSl w w.heap.size (some r) m c x.2) (hl : n = L.length) (hne : ∀ x, x ∈ L → x.2 ≠ []) (z : Nat) :
    (∃ r m c, tbF xs z = .slice (some r) m c ∧ 0 < m ∧ ∃ x, x ∈ L ∧ x.1 = (z : Int)) ∨ (tbF xs z = .slice none 0 0 ∧ ∀ x, x ∈ L → x.1 ≠ (z : Int)) := by
  rcases tbF_or xs (fun _ => nilV) z with ⟨h0, h1⟩ | ⟨x, hx, hz, h1⟩
  · refine .inr ⟨h1, fun x hx e => ?_⟩
    obtain ⟨j, hj⟩ := List.getElem?_of_mem hx
    obtain ⟨r, m, c, e1, _⟩ := hL j x hj
    exact h0 _ (List.mem_of_getElem? e1) e
  · obtain ⟨j, hj⟩ := List.getElem?_of_mem hx
    have hjn : j < L.length := by rw [← hl, ← h.len]; exact (List.getElem?_eq_some_iff.1 hj).1
    obtain ⟨y, hy⟩ : ∃ y, L[j]? = some y := ⟨_, List.getElem?_eq_getElem hjn⟩
    obtain ⟨r, m, c, e1, e2⟩ := hL j y hy
    rw [hj] at e1
    cases e1
    refine .inl ⟨r, m, c, h1, ?_, y, List.mem_of_getElem? hy, hz⟩
    have h2 := e2.len
    rcases Nat.eq_zero_or_pos m with e | e
    · exact absurd (List.eq_nil_of_length_eq_zero (by omega)) (hne y (List.mem_of_getElem? hy))
    · exact e
/-- while numbers are given: the first k leaves have theirs, all below p are given -/
structure Numb (L M : List Lf) (k p : Nat) : Prop where
  recs : M.map (·.2) = L.map (·.2)
  rest : ∀ (j : Nat), k ≤ j → M[j]? = L[j]?
  old : ∀ (j : Nat) (x : Lf), L[j]? = some x → x.1 ≠ -1 → M[j]? = some x
  given : ∀ (j : Nat) (x : Lf), j < k → M[j]? = some x → x.1 ≠ -1
  ok : PgOk M
  all : ∀ z : Nat, z < p → (z : Int) ∈ M.map (·.1)
  news : ∀ (j : Nat) (x y : Lf), L[j]? = some x → x.1 = -1 → j < k → M[j]? = some y → y.1 < (p : Int)
theorem Numb.start {L : List Lf} (h : PgOk L) : Numb L L 0 0 :=
  ⟨rfl, fun _ _ => rfl, fun _ _ h _ => h, fun _ _ h => absurd h (Nat.not_lt_zero _), h, fun _ h => absurd h (Nat.not_lt_zero _), fun _ _ _ _ _ h => absurd h (Nat.not_lt_zero _)⟩
theorem Numb.len {L M : List Lf} {k p : Nat} (h : Numb L M k p) : M.length = L.length := by
  have := congrArg List.length h.recs
  simpa using this
theorem Numb.keep {L M : List Lf} {k p : Nat} {x : Lf} (h : Numb L M k p) (hx : L[k]? = some x) (hn : x.1 ≠ -1) : Numb L M (k + 1) p := by
  have hm := h.old k x hx hn
  refine ⟨h.recs, fun j hj => h.rest j (by omega), h.old, fun j y hj hy => ?_, h.ok, h.all, fun j x' y hx' h1 hj hy => ?_⟩
  · by_cases e : j = k
    · subst e; rw [hm] at hy; cases hy; exact hn
    · exact h.given j y (by omega) hy
  · by_cases e : j = k
    · subst e; rw [hx] at hx'; cases hx'; exact absurd h1 hn
    · exact h.news j x' y hx' h1 (by omega) hy
/-- the next one up is another's -/
theorem Numb.up {L M : List Lf} {k p : Nat} (h : Numb L M k p) (hp : ∃ x, x ∈ L ∧ x.1 = (p : Int)) : Numb L M k (p + 1) := by
  obtain ⟨x, hx, e⟩ := hp
  refine ⟨h.recs, h.rest, h.old, h.given, h.ok, fun z hz => ?_, fun j x' y hx' h1 hj hy => by have := h.news j x' y hx' h1 hj hy; omega⟩
  by_cases ez : z = p
  · subst ez
    obtain ⟨j, hj⟩ := List.getElem?_of_mem hx
    have := h.old j x hj (by omega)
    rw [← e]
    exact List.mem_map.2 ⟨x, List.mem_of_getElem? this, rfl⟩
  · exact h.all z (by omega)
/-- there is always one -/
theorem Numb.room {L M : List Lf} {k p : Nat} {x : Lf} (h : Numb L M k p) (hx : L[k]? = some x) (hn : x.1 = -1) : p + 1 ≤ L.length := by
  have hm : M[k]? = some x := (h.rest k (Nat.le_refl _)).trans hx
  have h1 := pig p ((M.map (·.1)).erase (-1)) (fun z hz => (List.mem_erase_of_ne (by omega)).2 (h.all z hz))
  have h2 : (-1 : Int) ∈ M.map (·.1) := List.mem_map.2 ⟨x, List.mem_of_getElem? hm, hn⟩
  rw [List.length_erase_of_mem h2, List.length_map, h.len] at h1
  have h3 : L.length ≠ 0 := fun e => by
    rw [List.eq_nil_of_length_eq_zero e] at hx
    simp at hx
  omega
theorem Numb.give {L M : List Lf} {k p : Nat} {x : Lf} (h : Numb L M k p) (hx : L[k]? = some x) (hn : x.1 = -1) (hp : ∀ y, y ∈ L → y.1 ≠ (p : Int)) (h256 : p < 256) : Numb L (M.set k ((p : Int), x.2)) (k + 1) (p + 1) := by
  have hm : M[k]? = some x := (h.rest k (Nat.le_refl _)).trans hx
  have hkl := (List.getElem?_eq_some_iff.1 hm).1
  have hnp : ∀ (j : Nat) (y : Lf), M[j]? = some y → j ≠ k → y.1 ≠ (p : Int) := fun j y hy hj e => by
    have hjl := (List.getElem?_eq_some_iff.1 hy).1
    obtain ⟨x', hx'⟩ : ∃ x', L[j]? = some x' := ⟨L[j]'(by rw [← h.len]; exact hjl), List.getElem?_eq_getElem _⟩
    by_cases h1 : x'.1 = -1
    · by_cases hjk : j < k
      · have := h.news j x' y hx' h1 hjk hy; omega
      · rw [h.rest j (by omega), hx'] at hy
        cases hy
        omega
    · have h2 := h.old j x' hx' h1
      rw [h2] at hy
      have e3 : x' = y := Option.some.inj hy
      exact hp y (e3 ▸ List.mem_of_getElem? hx') e
  refine ⟨?_, fun j hj => ?_, fun j y hy h1 => ?_, fun j y hj hy => ?_, h.ok.set h256 hnp, fun z hz => ?_, fun j x' y hx' h1 hj hy => ?_⟩
  · rw [← h.recs]
    apply List.ext_getElem?
    intro j
    rw [List.getElem?_map, List.getElem?_map]
    by_cases e : j = k
    · subst e
      rw [List.getElem?_set_self hkl, hm]
      rfl
    · rw [List.getElem?_set_ne (fun e2 => e e2.symm)]
  · rw [List.getElem?_set_ne (by omega)]
    exact h.rest j (by omega)
  · by_cases e : j = k
    · subst e; rw [hx] at hy; cases hy; exact absurd hn h1
    · rw [List.getElem?_set_ne (fun e2 => e e2.symm)]
      exact h.old j y hy h1
  · by_cases e : j = k
    · subst e
      rw [List.getElem?_set_self hkl] at hy
      cases hy
      show (p : Int) ≠ -1
      omega
    · rw [List.getElem?_set_ne (fun e2 => e e2.symm)] at hy
      exact h.given j y (by omega) hy
  · by_cases e : z = p
    · subst e
      exact List.mem_map.2 ⟨((z : Int), x.2), List.mem_of_getElem? (List.getElem?_set_self hkl), rfl⟩
    · obtain ⟨y, hy, e2⟩ := List.mem_map.1 (h.all z (by omega))
      obtain ⟨j, hj⟩ := List.getElem?_of_mem hy
      have hjk : j ≠ k := fun e3 => by
        subst e3
        rw [hm] at hj
        cases hj
        omega
      exact List.mem_map.2 ⟨y, List.mem_of_getElem? (by rw [List.getElem?_set_ne (fun e3 => hjk e3.symm)]; exact hj), e2⟩
  · by_cases e : j = k
    · subst e
      rw [List.getElem?_set_self hkl] at hy
      cases hy
      show (p : Int) < ((p + 1 : Nat) : Int)
      omega
    · rw [List.getElem?_set_ne (fun e2 => e e2.symm)] at hy
      have := h.news j x' y hx' h1 (by omega) hy
      omega
set_option maxRecDepth 100000 in
set_option maxHeartbeats 4000000 in
theorem numberK_any (B : Nat) (Q : Nat → Prop) (v : Value) (L : List Lf) (w : World) (h : LOwn w B Q v L) (hne : ∀ x, x ∈ L → x.2 ≠ []) (hL0 : L ≠ []) (hl : L.length ≤ 200) (hp : PgOk L) :
    Calls Tryz.prog 29 #[v] w fun e w' => e = .returned (.tuple #[]) ∧ ∃ M p, LOwn w' B Q v M ∧ Numb L M L.length p ∧ Only (fun k => v.ownBlock = some k) w w' := by
  obtain ⟨g, cap, rfl⟩ : ∃ g cap, v = .slice (some ⟨g, 0, none⟩) L.length cap := by
    obtain ⟨xs, h1, h2, _⟩ := h
    rcases h2.2 with ⟨e, h0⟩ | ⟨g, cap, cur, e, _⟩
    · exact absurd (List.eq_nil_of_length_eq_zero h0) hL0
    · exact ⟨g, cap, e⟩
  obtain ⟨n, hn⟩ : ∃ n, L.length = n := ⟨_, rfl⟩
  rw [hn] at h hl ⊢
  obtain ⟨xs, hx, hxn, hat⟩ := h.lx
  have HNn := hid hn
  have HL := hid h
  have HT := hid (fun z => tab_at hx (fun j x hj => by obtain ⟨r, m, c, e1, e2, _⟩ := hat j x hj; exact ⟨r, m, c, e1, e2⟩) hxn hne z)
  have HBy := hid (byPage_any (some ⟨g, 0, none⟩) n cap xs w hx (by omega) (fun x hx' => by
    obtain ⟨j, hj⟩ := List.getElem?_of_mem hx'
    have hjn : j < L.length := by rw [hn, ← hx.len]; exact (List.getElem?_eq_some_iff.1 hj).1
    obtain ⟨y, hy⟩ : ∃ y, L[j]? = some y := ⟨_, List.getElem?_eq_getElem hjn⟩
    obtain ⟨r, m, c, e1, _⟩ := hat j y hy
    rw [hj] at e1
    cases e1
    exact hp.1 y (List.mem_of_getElem? hy)))
  have HS := hid (Numb.start hp)
  have HOne := hid (arS_one (tbF_one hx.one))
  have hgl : g < w.heap.size := (World.ownsRow.lt h.choose_spec.2.1 g rfl).2
  have hnI : (n : Int) ≤ 200 := by omega
  obtain ⟨ad, had⟩ : ∃ ad : Addr, ad = ⟨g, 0, none⟩ := ⟨_, rfl⟩
  have HAd := hid had
  rw [← had] at HBy ⊢
  clear h hne hL0 hp hn hx hxn hat had
  go_enter Tryz.func29, Tryz.ntmps29
  go_upto_region 1 with (first
    | (go_at_call 42; refine HBy.out.mono ?_; rintro e w1 ⟨rfl, hb⟩; have HB := hid hb; clear hb)
    | (refine wpList_store_row rfl 103 (.tmp 2) (.tmp 7) rfl w1.heap.size (arS (tbF xs)) rfl rfl 103 Tryz.zeroCells103 (Blk.new w1 _ _) (by rw [arS_size]; exact Tryz.size256) (by rw [Tryz.zero256]; simp only [arS_size]) HOne.out ?_))
  have hbt : Blk ((w1.alloc (.cells Tryz.zeroCells103 103)).setRow w1.heap.size (arS (tbF xs))) w1.heap.size 103 (arS (tbF xs)) := setRow_heap _ _ _ _ _ _ (Blk.new w1 _ _)
  have hbb : Below w1.heap.size w1 ((w1.alloc (.cells Tryz.zeroCells103 103)).setRow w1.heap.size (arS (tbF xs))) := below_setRow ((Below.refl _ _).alloc (Nat.le_refl _) _) (Nat.le_refl _) _
  generalize ((w1.alloc (.cells Tryz.zeroCells103 103)).setRow w1.heap.size (arS (tbF xs))) = w2 at hbt hbb ⊢
  have HBt := hid hbt
  have HB2 := hid (HB.out.trans (hbb.mono HB.out.size))
  obtain ⟨tb, htb⟩ : ∃ tb, w1.heap.size = tb := ⟨_, rfl⟩
  rw [htb] at HBt ⊢
  have htg : ¬ g = tb := by have := HB.out.size; omega
  have HTb := hid (show w.heap.size ≤ tb from by rw [← htb]; exact HB.out.size)
  clear hbt hbb htb
  go_wp2
  go_loopw [3, 10] (fun pv iv wr => ∃ (k p : Nat), pv = .int .i64 (p : Int) ∧ iv = .int .i64 (k : Int) ∧ k ≤ n ∧ Hid (∃ M, LOwn wr B Q (.slice (some ⟨g, 0, none⟩) n cap) M ∧ Numb L M k p) ∧ Hid (Blk wr tb 103 (arS (tbF xs))) ∧ Hid (Only (fun k => (Value.slice (some ad) n cap).ownBlock = some k) w wr)) (fun _ iv _ => n - (intOf iv).toNat)
  case atStart => exact ⟨0, 0, rfl, rfl, Nat.zero_le _, ⟨L, HL.out.on HB2.out, HS.out⟩, HBt, Only.of_below HB2.out⟩
  case round =>
    obtain ⟨k, p, rfl, rfl, hk, HM, HBk, HO⟩ := hrel
    by_cases hlt : k < n
    · obtain ⟨M, hM, hN⟩ := HM.out
      obtain ⟨x, hx⟩ : ∃ x, L[k]? = some x := ⟨L[k]'(by rw [HNn.out]; exact hlt), List.getElem?_eq_getElem _⟩
      have hMl := hN.len
      rw [HNn.out] at hMl
      obtain ⟨ys, hy, hyn, hyat⟩ := hM.lx
      have hmk : M[k]? = some x := (hN.rest k (Nat.le_refl _)).trans hx
      obtain ⟨r, m, cc, f1, _⟩ := hyat k x hmk
      obtain ⟨ad2, _, _, _, hae, _, _, c0, c1⟩ := hy.at_ k _ f1
      have hMO := hid hM
      have hNO := hid hN
      have HXk := hid hx
      have HMk := hid hmk
      obtain ⟨q, lx⟩ := x
      have hae2 : (⟨g, 0, none⟩ : Addr) = ad2 := Option.some.inj hae
      rw [← hae2, ← HAd.out] at c0 c1
      have hgw : g < wr.heap.size := by
        have := HO.out.size
        omega
      have htw := HBk.out.lt
      have hkI : (k : Int) < n := by omega
      clear hM hN hx hmk hyat hy hyn f1 hae hae2 HM hMl
      by_cases hq : q = -1
      · subst hq
        have HBk2 := hid (HBk.out.alloc (.cells #[.int .i64 (-1), .slice (some r) m cc] 77))
        have HOw := hid (HO.out.then_below ((Below.refl wr.heap.size wr).alloc (Nat.le_refl _) (.cells #[.int .i64 (-1), .slice (some r) m cc] 77)))
        have HMw := hid (hMO.out.on ((Below.refl wr.heap.size wr).alloc (Nat.le_refl _) (.cells #[.int .i64 (-1), .slice (some r) m cc] 77)))
        have c0' := (World.cell?_alloc_lt wr (.cells #[.int .i64 (-1), .slice (some r) m cc] 77) (ad.add (k * 2)) (World.block_lt_of_cell? wr _ c0)).trans c0
        go_wp2
        generalize wr.alloc (.cells #[.int .i64 (-1), .slice (some r) m cc] 77) = W1 at HBk2 HOw HMw c0' ⊢
        go_loopw [3] (fun pv wx => ∃ p2 : Nat, pv = .int .i64 (p2 : Int) ∧ Hid (Numb L M k p2) ∧ wx = W1) (fun pv _ => 300 - (intOf pv).toNat)
        case atStart => exact ⟨p, rfl, hNO, rfl⟩
        case round =>
          obtain ⟨p2, rfl, HN2, rfl⟩ := hrel
          have hrm := HN2.out.room HXk.out rfl
          rw [HNn.out] at hrm
          have hp256 : p2 < 256 := by omega
          have z1 := arS_cell HBk2.out hp256
          rcases HT.out p2 with ⟨r2, m2, cc2, e1, hm2, hex⟩ | ⟨e1, hno⟩
          · rw [e1] at z1
            have HU := hid (HN2.out.up hex)
            have hm20 : ¬ m2 = 0 := by omega
            have hm2d : decide (0 < m2) = true := decide_eq_true hm2
            clear hex e1 hm2 c0' c0 c1
            go_wp2
            go_roundw
            case rel => exact ⟨p2 + 1, by go_num, HU, trivial⟩
            case measure => simp [intOf]; omega
          · rw [e1] at z1
            have HG := hid (HN2.out.give HXk.out rfl hno hp256)
            have hset := HMw.out.setP (q := (p2 : Int)) HMk.out
            rw [← addG, ← HAd.out] at hset
            have HST := hid hset
            have fz : wr.frozen? (ad.add (k * 2)) = false := by
              obtain ⟨xs2, _, h2, _⟩ := HMw.out
              have h3 := h2
              rcases h3.2 with ⟨e, _⟩ | ⟨g2, cap2, cur2, e, _⟩
              · cases e
              · cases e
                rw [HAd.out, addG]
                exact h2.frozenAt (k * 2)
            have hbl : (ad.add (k * 2)).block = g := by rw [HAd.out, addG]
            have HBk3 := hid (HBk2.out.far (p := ad.add (k * 2)) (by rw [hbl]; exact fun e => htg e.symm) (.int .i64 (p2 : Int)))
            have HO3 := hid (Only.put (F := fun z => (Value.slice (some ad) n cap).ownBlock = some z) (p := ad.add (k * 2)) HOw.out (by show (Value.slice (some ad) n cap).ownBlock = some (ad.add (k * 2)).block; rw [hbl, HAd.out]; rfl) (.int .i64 (p2 : Int)))
            clear hno e1 hset hbl
            go_wp2
            refine ⟨⟨k + 1, p2 + 1, by go_num, by go_num, by omega, hid ⟨_, by have h9 := HST.out; rw [HAd.out] at h9 ⊢; exact h9, HG.out⟩, HBk3, HO3⟩, ?_⟩
            simp [intOf]; omega
      · have gq : (q != -1) = true := bne_iff_ne.2 hq
        have HN2 := hid (hNO.out.keep HXk.out hq)
        have HM2 := hid (hMO.out.on ((Below.refl wr.heap.size wr).alloc (Nat.le_refl _) (.cells #[.int .i64 q, .slice (some r) m cc] 77)))
        have HBk2 := hid (HBk.out.alloc (.cells #[.int .i64 q, .slice (some r) m cc] 77))
        have HO2 := hid (HO.out.then_below ((Below.refl wr.heap.size wr).alloc (Nat.le_refl _) (.cells #[.int .i64 q, .slice (some r) m cc] 77)))
        clear hq
        go_wp2
        go_roundw
        case rel => exact ⟨k + 1, p, rfl, by go_num, by omega, ⟨M, HM2.out, HN2.out⟩, HBk2, HO2⟩
        case measure => simp [intOf]; omega
    · obtain rfl : k = n := by omega
      obtain ⟨M, hM, hN⟩ := HM.out
      have HMf := hid hM
      have HNf := hid hN
      clear hM hN
      go_wp2
      go_end0
      exact ⟨rfl, M, p, by rw [HAd.out]; exact HMf.out, HNf.out, HO.out⟩
end Go.Proofs.YtkhdgacjgccnnaaGreatDoor
