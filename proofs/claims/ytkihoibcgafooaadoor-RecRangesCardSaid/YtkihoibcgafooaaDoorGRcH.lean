/- Package rec's Less, and what stands ahead of what. -/
import Derived.Test.YtkihoibcgafooaaDoorGRcF
import Derived.RegionTactic
import Derived.Deep.RegionWith
import Derived.Deep.RegionHeld3
namespace Go.Proofs.YtkihoibcgafooaaDoor
open Go.RowKit

def cmpI (a b : Int) : Int := if a < b then -1 else if b < a then 1 else 0
def cmpT (a b : ByteArray) : Int := if Op.bytesLess a.toList b.toList then -1 else if a.toList == b.toList then 0 else 1
theorem nanI_any (x : Int) (w : World) : Calls Tryd.prog 29 #[.int .i64 x] w fun e w' => e = .returned (.bool false) ∧ w = w' := by
  have h : (x != x) = false := by simp
  go_enter Tryd.func29, Tryd.ntmps29
  go_wp2
  go_ret
  exact ⟨rfl, rfl⟩
theorem nanS_any (x : ByteArray) (w : World) : Calls Tryd.prog 30 #[.string x] w fun e w' => e = .returned (.bool false) ∧ w = w' := by
  have h : (x.toList == x.toList) = true := by simp
  go_enter Tryd.func30, Tryd.ntmps30
  go_wp2
  go_ret
  exact ⟨rfl, rfl⟩
set_option maxHeartbeats 1000000 in
theorem cmpI_any (a b : Int) (w : World) : Calls Tryd.prog 24 #[.int .i64 a, .int .i64 b] w fun e w' => e = .returned (.int .i64 (cmpI a b)) ∧ w = w' := by
  rcases (show (a < b ∧ cmpI a b = -1) ∨ (b ≤ a ∧ b < a ∧ cmpI a b = 1) ∨ (b ≤ a ∧ a ≤ b ∧ cmpI a b = 0) by unfold cmpI; split <;> (try split) <;> omega) with ⟨h1, h⟩ | ⟨h1, h2, h⟩ | ⟨h1, h2, h⟩
  all_goals
    rw [h]
    clear h
    go_enter Tryd.func24, Tryd.ntmps24
    go_wp2_with (go_at_call 29; refine (nanI_any _ _).mono ?_; rintro e w' ⟨rfl, rfl⟩)
    go_ret
    exact ⟨rfl, rfl⟩
set_option maxHeartbeats 1000000 in
theorem cmpT_any (a b : ByteArray) (w : World) : Calls Tryd.prog 25 #[.string a, .string b] w fun e w' => e = .returned (.int .i64 (cmpT a b)) ∧ w = w' := by
  rcases (show (Op.bytesLess a.toList b.toList = true ∧ cmpT a b = -1) ∨ (Op.bytesLess a.toList b.toList = false ∧ (a.toList == b.toList) = true ∧ cmpT a b = 0) ∨ (Op.bytesLess a.toList b.toList = false ∧ (a.toList == b.toList) = false ∧ cmpT a b = 1) by
    unfold cmpT
    rcases Op.bytesLess a.toList b.toList with _ | _ <;> rcases (a.toList == b.toList) with _ | _ <;> simp) with ⟨h1, h⟩ | ⟨h1, h2, h⟩ | ⟨h1, h2, h⟩
  all_goals
    rw [h]
    clear h
    go_enter Tryd.func25, Tryd.ntmps25
    go_wp2_with (go_at_call 30; refine (nanS_any _ _).mono ?_; rintro e w' ⟨rfl, rfl⟩)
    go_ret
    exact ⟨rfl, rfl⟩
/-- the first that is not 0 -/
def orL : List Int → Int
  | [] => 0
  | a :: l => if a ≠ 0 then a else orL l
theorem orL_drop {l : List Int} {k : Nat} {x : Int} (h : l[k]? = some x) : orL (l.drop k) = if x ≠ 0 then x else orL (l.drop (k + 1)) := by
  rw [drop_at h]
  rfl
set_option maxRecDepth 100000 in
set_option maxHeartbeats 1000000 in
theorem or_any (A : Option Addr) (n c : Nat) (l : List Int) (B : Nat) (w : World) (h : Sn w B A n c l) (hn : n ≤ 1000) :
    Calls Tryd.prog 23 #[.slice A n c] w fun e w' => e = .returned (.int .i64 (orL l)) ∧ w = w' := by
  have HS := hid h
  clear h
  go_enter Tryd.func23, Tryd.ntmps23
  go_wp2
  go_loopw [8] (fun i wr => ∃ k : Nat, k ≤ n ∧ i = .int .i64 (k : Int) ∧ orL l = orL (l.drop k) ∧ wr = w) (fun i _ => n - (intOf i).toNat)
  case atStart => exact ⟨0, Nat.zero_le _, rfl, rfl, rfl⟩
  case round =>
    obtain ⟨k, hk, rfl, ht, rfl⟩ := hrel
    have HT := hid ht
    clear ht
    by_cases hlt : k < n
    · obtain ⟨ad, x, rfl, hbl, hx, hc⟩ := HS.out.get hlt
      have HX := hid (orL_drop hx)
      clear hx hbl
      by_cases hxy : x = 0
      · have hb : (x != 0) = false := by simp [hxy]
        have HXY := hid hxy
        clear hxy
        go_wp2
        go_roundw
        case rel => exact ⟨k + 1, by omega, by go_num, by rw [HT.out, HX.out, if_neg (fun h => h HXY.out)], by first | rfl | trivial⟩
        case measure => simp [intOf]; omega
      · have hb : (x != 0) = true := by simp [hxy]
        have HR := hid (show orL l = x from by rw [HT.out, HX.out, if_pos hxy])
        clear hxy
        go_wp2
        go_ret
        rw [HR.out]
        exact ⟨rfl, rfl⟩
    · have HR := hid (show orL l = 0 from by rw [HT.out, List.drop_eq_nil_of_le (by have := HS.out.len; omega)]; rfl)
      go_wp2
      go_ret
      rw [HR.out]
      exact ⟨rfl, rfl⟩
/-- a Place stands ahead of another -/
def lessP (k n i : Int) (s : ByteArray) (k2 n2 i2 : Int) (s2 : ByteArray) : Bool :=
  if k ≠ k2 then decide (k < k2) else if n ≠ n2 then decide (n < n2) else if i ≠ i2 then decide (i < i2) else Op.bytesLess s.toList s2.toList
theorem less_or (k n i : Int) (s : ByteArray) (k2 n2 i2 : Int) (s2 : ByteArray) : decide (orL [cmpI k k2, cmpI n n2, cmpI i i2, cmpT s s2] < 0) = lessP k n i s k2 n2 i2 s2 := by
  have hc : ∀ a b : Int, (a < b ∧ cmpI a b = -1) ∨ (b < a ∧ cmpI a b = 1) ∨ (a = b ∧ cmpI a b = 0) := fun a b => by unfold cmpI; split <;> (try split) <;> omega
  unfold lessP orL
  rcases hc k k2 with ⟨h, e⟩ | ⟨h, e⟩ | ⟨h, e⟩ <;> rw [e]
  · rw [if_pos (by decide), if_pos (by omega)]; simp; omega
  · rw [if_pos (by decide), if_pos (by omega)]; simp; omega
  rw [if_neg (by decide), if_neg (by omega)]
  unfold orL
  rcases hc n n2 with ⟨h, e⟩ | ⟨h, e⟩ | ⟨h, e⟩ <;> rw [e]
  · rw [if_pos (by decide), if_pos (by omega)]; simp; omega
  · rw [if_pos (by decide), if_pos (by omega)]; simp; omega
  rw [if_neg (by decide), if_neg (by omega)]
  unfold orL
  rcases hc i i2 with ⟨h, e⟩ | ⟨h, e⟩ | ⟨h, e⟩ <;> rw [e]
  · rw [if_pos (by decide), if_pos (by omega)]; simp; omega
  · rw [if_pos (by decide), if_pos (by omega)]; simp; omega
  rw [if_neg (by decide), if_neg (by omega)]
  unfold orL orL cmpT
  rcases Op.bytesLess s.toList s2.toList with _ | _ <;> rcases (s.toList == s2.toList) with _ | _ <;> simp
theorem four_sn (w : World) (a b c d : Int) : Sn (w.alloc (.cells #[.int .i64 a, .int .i64 b, .int .i64 c, .int .i64 d] 3)) (w.heap.size + 1) (some ⟨w.heap.size, 0, none⟩) 4 4 [a, b, c, d] := by
  refine ⟨rfl, Nat.le_refl _, by unfold maxLen; omega, (fun h => by cases h), fun ad ha _ => ?_⟩
  cases ha
  refine ⟨Nat.lt_succ_self _, fun j y hy => ?_⟩
  have hb := Blk.new w 3 #[.int .i64 a, .int .i64 b, .int .i64 c, .int .i64 d]
  rcases j with _ | _ | _ | _ | j
  · simp at hy; subst hy; exact hb.cell 0
  · simp at hy; subst hy; exact hb.cell 1
  · simp at hy; subst hy; exact hb.cell 2
  · simp at hy; subst hy; exact hb.cell 3
  · simp at hy
theorem four_snd (w : World) (a b c d : Int) : Sn (w.alloc (.cells #[.int .i64 a, .int .i64 b, .int .i64 c, .int .i64 d] 3)).drew (w.heap.size + 1) (some ⟨w.heap.size, 0, none⟩) 4 4 [a, b, c, d] :=
  (four_sn w a b c d).below (Below.refl _ _).drew
set_option maxRecDepth 100000 in
set_option maxHeartbeats 4000000 in
theorem less_any (k n i : Int) (s : ByteArray) (k2 n2 i2 : Int) (s2 : ByteArray) (w : World) :
    Calls Tryd.prog 13 #[pv k n i s, pv k2 n2 i2 s2] w fun e w' => e = .returned (.bool (lessP k n i s k2 n2 i2 s2)) ∧ Below w.heap.size w w' := by
  rw [← less_or]
  unfold pv
  generalize h1 : cmpI k k2 = c1
  generalize h2 : cmpI n n2 = c2
  generalize h3 : cmpI i i2 = c3
  generalize h4 : cmpT s s2 = c4
  have H1 := hid h1
  have H2 := hid h2
  have H3 := hid h3
  have H4 := hid h4
  clear h1 h2 h3 h4
  go_enter Tryd.func13, Tryd.ntmps13
  go_wp2_with fail
  have hb0 : Below w.heap.size w ((w.alloc (Obj.cells #[.int .i64 k, .int .i64 n, .int .i64 i, .string s] 23)).alloc (Obj.cells #[.int .i64 k2, .int .i64 n2, .int .i64 i2, .string s2] 23)) := ((Below.refl _ _).alloc (Nat.le_refl _) _).alloc (by simp) _
  have hp := (Blk.new w 23 #[.int .i64 k, .int .i64 n, .int .i64 i, .string s]).alloc (Obj.cells #[.int .i64 k2, .int .i64 n2, .int .i64 i2, .string s2] 23)
  have hr := Blk.new (w.alloc (Obj.cells #[.int .i64 k, .int .i64 n, .int .i64 i, .string s] 23)) 23 #[.int .i64 k2, .int .i64 n2, .int .i64 i2, .string s2]
  rw [World.size_alloc] at hr
  have HB := hid hb0.drew
  generalize ((w.alloc (Obj.cells #[.int .i64 k, .int .i64 n, .int .i64 i, .string s] 23)).alloc (Obj.cells #[.int .i64 k2, .int .i64 n2, .int .i64 i2, .string s2] 23)) = w1 at hp hr HB ⊢
  clear hb0
  have k0 : w1.drew.cell? ⟨w.heap.size, 0, none⟩ = some (.int .i64 k) ∧ w1.drew.cell? ⟨w.heap.size, 1, none⟩ = some (.int .i64 n) ∧ w1.drew.cell? ⟨w.heap.size, 2, none⟩ = some (.int .i64 i) ∧ w1.drew.cell? ⟨w.heap.size, 3, none⟩ = some (.string s) ∧
      w1.drew.cell? ⟨w.heap.size + 1, 0, none⟩ = some (.int .i64 k2) ∧ w1.drew.cell? ⟨w.heap.size + 1, 1, none⟩ = some (.int .i64 n2) ∧ w1.drew.cell? ⟨w.heap.size + 1, 2, none⟩ = some (.int .i64 i2) ∧ w1.drew.cell? ⟨w.heap.size + 1, 3, none⟩ = some (.string s2) :=
    ⟨hp.drew.cell 0, hp.drew.cell 1, hp.drew.cell 2, hp.drew.cell 3, hr.drew.cell 0, hr.drew.cell 1, hr.drew.cell 2, hr.drew.cell 3⟩
  have k1 : (w1.alloc (Obj.cells #[.int .i64 c1, .int .i64 c2, .int .i64 c3, .int .i64 c4] 3)).drew.cell? ⟨w.heap.size, 0, none⟩ = some (.int .i64 k) ∧ (w1.alloc (Obj.cells #[.int .i64 c1, .int .i64 c2, .int .i64 c3, .int .i64 c4] 3)).drew.cell? ⟨w.heap.size, 1, none⟩ = some (.int .i64 n) ∧ (w1.alloc (Obj.cells #[.int .i64 c1, .int .i64 c2, .int .i64 c3, .int .i64 c4] 3)).drew.cell? ⟨w.heap.size, 2, none⟩ = some (.int .i64 i) ∧ (w1.alloc (Obj.cells #[.int .i64 c1, .int .i64 c2, .int .i64 c3, .int .i64 c4] 3)).drew.cell? ⟨w.heap.size, 3, none⟩ = some (.string s) ∧
      (w1.alloc (Obj.cells #[.int .i64 c1, .int .i64 c2, .int .i64 c3, .int .i64 c4] 3)).drew.cell? ⟨w.heap.size + 1, 0, none⟩ = some (.int .i64 k2) ∧ (w1.alloc (Obj.cells #[.int .i64 c1, .int .i64 c2, .int .i64 c3, .int .i64 c4] 3)).drew.cell? ⟨w.heap.size + 1, 1, none⟩ = some (.int .i64 n2) ∧ (w1.alloc (Obj.cells #[.int .i64 c1, .int .i64 c2, .int .i64 c3, .int .i64 c4] 3)).drew.cell? ⟨w.heap.size + 1, 2, none⟩ = some (.int .i64 i2) ∧ (w1.alloc (Obj.cells #[.int .i64 c1, .int .i64 c2, .int .i64 c3, .int .i64 c4] 3)).drew.cell? ⟨w.heap.size + 1, 3, none⟩ = some (.string s2) :=
    ⟨(hp.alloc (Obj.cells #[.int .i64 c1, .int .i64 c2, .int .i64 c3, .int .i64 c4] 3)).drew.cell 0, (hp.alloc (Obj.cells #[.int .i64 c1, .int .i64 c2, .int .i64 c3, .int .i64 c4] 3)).drew.cell 1, (hp.alloc (Obj.cells #[.int .i64 c1, .int .i64 c2, .int .i64 c3, .int .i64 c4] 3)).drew.cell 2, (hp.alloc (Obj.cells #[.int .i64 c1, .int .i64 c2, .int .i64 c3, .int .i64 c4] 3)).drew.cell 3, (hr.alloc (Obj.cells #[.int .i64 c1, .int .i64 c2, .int .i64 c3, .int .i64 c4] 3)).drew.cell 0, (hr.alloc (Obj.cells #[.int .i64 c1, .int .i64 c2, .int .i64 c3, .int .i64 c4] 3)).drew.cell 1, (hr.alloc (Obj.cells #[.int .i64 c1, .int .i64 c2, .int .i64 c3, .int .i64 c4] 3)).drew.cell 2, (hr.alloc (Obj.cells #[.int .i64 c1, .int .i64 c2, .int .i64 c3, .int .i64 c4] 3)).drew.cell 3⟩
  have HB1 := hid (show Below w.heap.size w (w1.alloc (Obj.cells #[.int .i64 c1, .int .i64 c2, .int .i64 c3, .int .i64 c4] 3)).drew from (HB.out.alloc HB.out.size _))
  clear hp hr
  go_region_held3 (fun w' => w'.cell? ⟨w.heap.size, 0, none⟩ = some (.int .i64 k) ∧ w'.cell? ⟨w.heap.size, 1, none⟩ = some (.int .i64 n) ∧ w'.cell? ⟨w.heap.size, 2, none⟩ = some (.int .i64 i) ∧ w'.cell? ⟨w.heap.size, 3, none⟩ = some (.string s) ∧
      w'.cell? ⟨w.heap.size + 1, 0, none⟩ = some (.int .i64 k2) ∧ w'.cell? ⟨w.heap.size + 1, 1, none⟩ = some (.int .i64 n2) ∧ w'.cell? ⟨w.heap.size + 1, 2, none⟩ = some (.int .i64 i2) ∧ w'.cell? ⟨w.heap.size + 1, 3, none⟩ = some (.string s2)) (first | exact k0 | exact k1)
    ((first
      | (go_at_call 24; refine (cmpI_any _ _ _).mono ?_; rintro e w2 ⟨rfl, rfl⟩; first | rw [H1.out] | rw [H2.out] | rw [H3.out])
      | (go_at_call 25; refine (cmpT_any _ _ _).mono ?_; rintro e w2 ⟨rfl, rfl⟩; rw [H4.out])
      | (go_at_call 23; refine (or_any _ 4 4 [c1, c2, c3, c4] _ _ (four_snd w1 c1 c2 c3 c4) (by decide)).mono ?_; rintro e w2 ⟨rfl, rfl⟩)))
  go_wp2
  go_ret
  exact ⟨rfl, HB1.out⟩
end Go.Proofs.YtkihoibcgafooaaDoor
