/- WireForms answers true, whatever the two numbers. Conditions: they are int64s; the errors lie in their variables, each a pointer of its own. -/
import Derived.Test.YtfggfdmjmebgfaaDoorS
namespace Go.Proofs.YtfggfdmjmebgfaaDoor
open Go.RowKit

/-- a number's last byte is below 128 -/
theorem encF_last (f u : Nat) (h : u < 128 ^ f * 128) : ∃ (i : List Int) (c : Nat), encF f u = i ++ [(c : Int)] ∧ c < 128 ∧ bent (encF f u) = i ++ [((c + 128 : Nat) : Int), 0] := by
  induction f generalizing u with
  | zero => exact ⟨[], u, rfl, by simpa using h, by simp [encF, bent]; omega⟩
  | succ f ih =>
    by_cases hu : u < 128
    · rw [encF_lt hu]
      exact ⟨[], u, rfl, hu, by simp [bent]; omega⟩
    · rw [encF_ge (by omega)]
      obtain ⟨i, c, h1, h2, h3⟩ := ih (u / 128) (by rw [Nat.pow_succ] at h; omega)
      refine ⟨((u % 128 + 128 : Nat) : Int) :: i, c, by rw [h1]; rfl, h2, ?_⟩
      obtain ⟨d, r, hd⟩ := encF_ne f (u / 128)
      rw [hd] at h3 ⊢
      show _ :: bent (d :: r) = _
      rw [h3]
      rfl
theorem or128_u8 (c : Nat) (h : c < 128) : bits .or .u8 (c : Int) 128 = ((c + 128 : Nat) : Int) := by
  have e : ∀ c : Fin 128, bits .or .u8 ((c.val : Nat) : Int) 128 = ((c.val + 128 : Nat) : Int) := by decide
  exact e ⟨c, h⟩
theorem Own.slot {w : World} {B : Nat} {v : Value} {l : List Int} (h : Own w B v l) (hl : l ≠ []) : ∃ g cap, v = .slice (some ⟨g, 0, none⟩) l.length cap ∧ B ≤ g ∧ g < w.heap.size := by
  have hp : 0 < l.length := by rcases l with _ | ⟨a, l⟩; · exact absurd rfl hl
                               · simp
  obtain ⟨g, cap, hv, hb, hg⟩ := World.ownsRow.form h hp
  exact ⟨g, cap, hv, hb, hg⟩
theorem Own.stored {w : World} {B g cap k : Nat} {i : List Int} {c d : Int} (h : Own w B (.slice (some ⟨g, 0, none⟩) (k + 1) cap) (i ++ [c])) (hk : i.length = k) :
    w.cell? ⟨g, k, none⟩ = some (.int .u8 c) ∧ w.frozen? ⟨g, k, none⟩ = false ∧ Own (w.setCell ⟨g, k, none⟩ (.int .u8 d)) B (.slice (some ⟨g, 0, none⟩) (k + 1) cap) (i ++ [d]) := by
  subst hk
  unfold Own at h ⊢
  rw [List.length_append, List.length_singleton] at h ⊢
  refine ⟨?_, World.ownsRow.frozenAt h _, ?_⟩
  · rw [World.ownsRow.cellAt h i.length (by omega)]
    exact I_get (by simp)
  · have := (World.ownsRow.stored h i.length (.int .u8 d)).1
    have e : (I (i ++ [c])).set i.length (.int .u8 d) = I (i ++ [d]) := by
      rw [I_append, I_append, ← I_len i]
      simp [I]
    rwa [e] at this

set_option maxRecDepth 100000 in
set_option maxHeartbeats 4000000 in
theorem wireForms_any (a b : Int) (S : Nat → Addr) (w : World) (hE : Sent w S) (ha0 : -9223372036854775808 ≤ a) (ha1 : a ≤ 9223372036854775807) (hb0 : -9223372036854775808 ≤ b) (hb1 : b ≤ 9223372036854775807) :
    Calls Tryd.prog 4 #[.int .i64 a, .int .i64 b] w (Yes w) := by
  have HX := hid hE
  have HLa := hid (enc_len a)
  have HLb := hid (enc_len b)
  have HP := hid (show a ≠ b → sameB (enc a) ((enc b).take (enc a).length) = false from fun hne => by
    simp only [sameB, decide_eq_false_iff_not]
    exact fun h => hne (enc_prefix ha0 ha1 hb0 hb1 h))
  clear hE
  go_enter Tryd.func4, Tryd.ntmps4
  go_wp2_with fail
  refine (first_any w).mono ?_
  rintro e w1 ⟨rfl, hb⟩
  have HB := hid hb
  clear hb
  go_wp2_with fail
  refine (put_any none 0 0 a [] _ (Sl.empty _ _) (by omega) ha0 ha1).mono ?_
  rw [List.nil_append]
  rintro e w2 hm
  obtain ⟨A2, m2, c2, rfl, hs2, hb⟩ := hm.get
  have HS2 := hid hs2
  have hm2 : 1 ≤ m2 ∧ m2 ≤ 10 := by have := hs2.len; have := HLa.out; omega
  have HB := hid (HB.out.trans (hb.mono HB.out.size))
  clear hb hs2 hm
  go_wp2_with fail
  refine (put_any none 0 0 b [] _ (Sl.empty _ _) (by omega) hb0 hb1).mono ?_
  rw [List.nil_append]
  rintro e w3 hm
  obtain ⟨A3, m3, c3, rfl, hs3, hb⟩ := hm.get
  have HS3 := hid hs3
  have HS2 := hid (HS2.out.on hb)
  have hm3 : 1 ≤ m3 ∧ m3 ≤ 10 := by have := hs3.len; have := HLb.out; omega
  have HB3 := hid (HB.out.trans (hb.mono HB.out.size))
  clear hb hs3 hm
  obtain ⟨p2, q2⟩ := hm2
  obtain ⟨p3, q3⟩ := hm3
  have z2 : ((m2 : Int) == 0) = false := by rw [beq_eq_false_iff_ne]; omega
  have z3 : ((m3 : Int) == 0) = false := by rw [beq_eq_false_iff_ne]; omega
  have y2 : decide ((10 : Int) < m2) = false := by simp; omega
  have hcap := HS3.out.cap
  have HF := hid (encF_last 9 (zz a) (zz_fit ha0 ha1))
  have HV1 := hid (scan_num_bent ha0 ha1)
  by_cases hne : a = b
  case' pos =>
    have d0 : (a != b) = false := by rw [hne]; simp
    clear hne
    go_wp2_with fail
  case' neg =>
    have d0 : (a != b) = true := by rw [bne_iff_ne]; exact hne
    have HV := hid (HP.out hne)
    clear hne
    rcases Nat.lt_or_ge m3 m2 with hlt | hle
    case' inl =>
      have d1 : decide (m2 ≤ m3) = false := by simp; omega
      go_wp2_with fail
    case' inr =>
      have d1 : decide (m2 ≤ m3) = true := by simp; omega
      have hc2 : (m2 : Int) ≤ c3 := by omega
      have HH := hid (HS3.out.head hle)
      go_wp2_with fail
      refine (same_any A2 A3 m2 c2 m2 c3 (enc a) _ _ _ _ HS2.out HH.out).mono ?_
      rw [← HS2.out.len, HV.out, HS2.out.len]
      rintro e w4 ⟨rfl, k4, rfl⟩
      have HS2 := hid (show Sl (w3.drewN k4) (w3.drewN k4).heap.size A2 m2 c2 (enc a) from HS2.out.drewN k4)
      have HB3 := hid (below_drewN HB3.out k4)
      go_wp2_with fail
  all_goals
    refine (bytes_any A2 m2 c2 (enc a) _ HS2.out (by omega)).mono ?_
    rintro e w5 ⟨v5, rfl, ho, hb⟩
    have HB5 := hid (HB3.out.trans (hb.mono HB3.out.size))
    obtain ⟨i, c, he, hc, hbent⟩ := HF.out
    have hm := hid (show m2 = i.length + 1 by rw [← HS2.out.len]; show (encF 9 (zz a)).length = _; rw [he]; simp)
    rw [show enc a = i ++ [(c : Int)] from he] at ho
    obtain ⟨gz, cap, rfl, hgz, hgz'⟩ := ho.slot (by simp)
    rw [List.length_append, List.length_singleton] at ho ⊢
    generalize hk : i.length = k at ho hm
    obtain ⟨hcell, hfree, hown⟩ := ho.stored (d := bits .or .u8 (c : Int) 128) hk
    have HO := hid hown
    have HC := hid (or128_u8 c hc)
    have HVb := hid (show scan (i ++ [((c + 128 : Nat) : Int), 0]) 0 0 = (1, 0, 0) by rw [← hbent]; exact HV1.out)
    have hc0 : (c : Int) ≤ 127 := by omega
    have hk9 : k ≤ 9 := by have := hm.out; omega
    have HA := hid (show Own ((w5.setCell ⟨gz, k, none⟩ (.int .u8 (bits .or .u8 (c : Int) 128))).alloc (.cells (I [0]).toArray 5)) _ _ _ from World.ownsRow.alloc hown _)
    have hsz : (w5.setCell ⟨gz, k, none⟩ (.int .u8 (bits .or .u8 (c : Int) 128))).heap.size = w5.heap.size := by simp [World.setCell]
    have hlit := Sl.lit (w5.setCell ⟨gz, k, none⟩ (.int .u8 (bits .or .u8 (c : Int) 128))) [0] (by decide)
    rw [hsz] at hlit
    have HLit := hid hlit
    have hgw : w.heap.size ≤ gz := Nat.le_trans HB3.out.size hgz
    have HB6 := hid (show Below w.heap.size w ((w5.setCell ⟨gz, k, none⟩ (.int .u8 (bits .or .u8 (c : Int) 128))).alloc (.cells (I [0]).toArray 5)) from (HB5.out.setCell (p := ⟨gz, k, none⟩) hgw _).alloc (by rw [hsz]; exact HB5.out.size) _)
    have hBs := hid (show w3.heap.size ≤ w5.heap.size from hb.size)
    have hi9 := hid (show (i ++ [bits .or .u8 (c : Int) 128]).length = k + 1 by rw [List.length_append, hk]; rfl)
    have hB3s := hid HB3.out.size
    have hbi := hid (show Byt i from fun y hy => (enc_byt ha0 ha1) y (by show y ∈ encF 9 (zz a); rw [he]; exact List.mem_append_left _ hy))
    clear ho hb he hbent hown hlit hsz hgz
    go_wp2_with (at_builtin; refine wpList_append_sl rfl _ _ rfl _ _ _ _ [0] rfl HA.out _ 1 1 rfl HLit.out ?hlen ?hB ?_)
    case hlen => rw [hi9.out]; omega
    case hB => have := hBs.out; simp [World.setCell]; omega
    intro v6 w6 ho6 hb6
    rw [HC.out] at ho6
    obtain ⟨A6, c6, rfl, hs6, _⟩ := Own.form ho6
    have HB6 := hid (show Below w.heap.size w w6 from HB6.out.trans (hb6.mono hB3s.out))
    have hl6 : (i ++ [((c + 128 : Nat) : Int), 0]).length = k + 2 := by rw [List.length_append, hk]; rfl
    have HS6' : Sl w6 w6.heap.size A6 (k + 2) c6 (i ++ [((c + 128 : Nat) : Int), 0]) := by rw [← hl6]; exact hs6
    have HS6 := hid HS6'
    have hl6' := hid hl6
    have HBy := hid (show Byt (i ++ [((c + 128 : Nat) : Int), 0]) from hbi.out.append (fun y hy => by simp at hy; omega))
    clear ho6 hb6 hs6 hl6 HS6'
    go_wp2_with fail
    refine (newReader_any A6 (k + 2) c6 _ _ HS6.out (by omega)).mono ?_
    rintro e w7 ⟨g, A7, c7, rfl, hg, hr, hb, _⟩
    have HR := hid hr
    have HG := hid (show w.heap.size ≤ g from Nat.le_trans HB6.out.size hg)
    have HB7 := hid (HB6.out.trans (hb.mono HB6.out.size))
    have HX7 := hid (HX.out.on HB7.out)
    clear hr hg hb
    go_wp2_with fail
    refine (num_shape (p := 0) (-9223372036854775808) 9223372036854775807 HR.out HX7.out.errs HBy.out (by omega) (Nat.zero_le _) HVb.out).mono ?_
    rintro e w8 ⟨rfl, hb, hh, hk, hr, hg⟩
    have HR8 := hid hr
    have HK8 := hid hk
    have HB8 := hid (HB7.out.trans (below_only hg HG.out HB7.out.size))
    clear hr hg hh hk
    go_wp2_with fail
    refine (err_any HR8.out).mono ?_
    rintro e w9 ⟨rfl, rfl⟩
    go_wp2_with fail
    refine (placed_any 102 0 _ (by decide)).mono ?_
    rintro e w9 ⟨rfl, hb9⟩
    have HB9 := hid (HB8.out.trans (hb9.mono HB8.out.size))
    have HK9 := hid (HK8.out.below hb9 HK8.out.lt)
    have HR9 := hid (HR8.out.on hb9)
    clear hb9
    go_wp2_with fail
    refine (see_any S 1 hb 0 102 _ (HX.out.on HB9.out) (by decide) HK9.out (by decide)).mono ?_
    rintro e w10 ⟨rfl, hb10⟩
    have HB10 := hid (HB9.out.trans (hb10.mono HB9.out.size))
    have HR10 := hid (HR9.out.on hb10)
    clear hb10
    go_wp2_with fail
    refine (at_any HR10.out).mono ?_
    rintro e w11 ⟨rfl, rfl⟩
    go_wp2
    go_ret
    exact ⟨rfl, HB10.out⟩
end Go.Proofs.YtfggfdmjmebgfaaDoor
