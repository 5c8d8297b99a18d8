/- Package root: Read. -/
import Derived.Test.YthgdofcamjkdpaaDoorGRootE
namespace Go.Proofs.YthgdofcamjkdpaaDoor
open Go.RowKit

/-- the root that bytes are, or the empty one -/
def rootOr (b : List Int) : RSt := (readR b).getD noRoot
theorem rootOr_none {b : List Int} (h : readR b = none) : rootOr b = noRoot := by unfold rootOr; rw [h]; rfl
theorem rootOr_told {b : List Int} (h1 : b.length = 256) (h2 : (told b).code = 0) (h3 : bytesOf (told b) = b) : readR b = some (told b) := by
  unfold readR; rw [if_pos ⟨h1, h2, h3⟩]
theorem read_not {b : List Int} (h : ¬ (b.length = 256 ∧ (told b).code = 0 ∧ bytesOf (told b) = b)) : readR b = none := by
  unfold readR; rw [if_neg h]
theorem told_epoch (b : List Int) : -9223372036854775808 ≤ (told b).epoch := by
  show -9223372036854775808 ≤ ((numOf (b.take 6) : Nat) : Int); omega
theorem told_epoch' {b : List Int} (h : Byt b) : (told b).epoch ≤ 9223372036854775807 := by
  have h1 := numOf_lt (h.take 6)
  have h2 : (b.take 6).length ≤ 6 := by rw [List.length_take]; omega
  have h3 : (256 : Nat) ^ (b.take 6).length ≤ 256 ^ 6 := Nat.pow_le_pow_right (by omega) h2
  have h4 : (256 : Nat) ^ 6 = 281474976710656 := by decide
  show ((numOf (b.take 6) : Nat) : Int) ≤ 9223372036854775807
  omega
/-- what Read answers -/
def ReadR (w : World) (b : List Int) (e : Ending) (w' : World) : Prop := ∃ A n c, e = .returned (.tuple #[rtV (rootOr b).epoch A n c, .bool (readR b).isSome]) ∧ Rf w' w'.heap.size A n c (rootOr b).refs ∧ Below w.heap.size w w' ∧ ∀ ad, A = some ad → w.heap.size ≤ ad.block
/-- a root's box, written over -/
theorem box_put {w : World} {g : Nat} {cs : Array Value} (h : Blk w g 31 cs) (hs : cs.size = 2) (u v : Value) : Blk ((w.setCell ⟨g, 0, none⟩ u).setCell ⟨g, 1, none⟩ v) g 31 #[u, v] := by
  have := (h.put 0 u).put 1 v
  have e : (cs.setIfInBounds 0 u).setIfInBounds 1 v = #[u, v] := by
    rcases cs with ⟨l⟩
    match l, hs with
    | [a, b], _ => rfl
  rwa [e] at this
theorem below_box {B g : Nat} {w0 w : World} (h : Below B w0 w) (hg : B ≤ g) (u v : Value) : Below B w0 ((w.setCell ⟨g, 0, none⟩ u).setCell ⟨g, 1, none⟩ v) := (h.setCell (p := ⟨g, 0, none⟩) hg _).setCell (p := ⟨g, 1, none⟩) hg _
theorem rf_box {w : World} {n c g : Nat} {A : Option Addr} {l : List (Int × Nat)} (h : Rf w w.heap.size A n c l) (hn : ∀ ad, A = some ad → 0 < n → ad.block ≠ g) (u v : Value) : Rf ((w.setCell ⟨g, 0, none⟩ u).setCell ⟨g, 1, none⟩ v) ((w.setCell ⟨g, 0, none⟩ u).setCell ⟨g, 1, none⟩ v).heap.size A n c l :=
  h.same (by simp [World.setCell]) fun ad ha h0 => (Below.heap_setCell _ ⟨g, 1, none⟩ _ ad.block (hn ad ha h0)).trans (Below.heap_setCell _ ⟨g, 0, none⟩ _ ad.block (hn ad ha h0))
set_option maxRecDepth 100000 in
set_option maxHeartbeats 2000000 in
theorem readR_short_any (A : Option Addr) (n c : Nat) (b : List Int) (w : World) (h : Sl w w.heap.size A n c b) (hn : n ≠ 256) :
    Calls Tryd.prog 9 #[.slice A n c] w (ReadR w b) := by
  have hr := read_not (b := b) (fun h1 => hn (by rw [← h.len]; exact h1.1))
  have hq : ((n : Int) != 256) = true := by simp; omega
  have HR := hid hr
  unfold ReadR
  rw [rootOr_none hr, hr]
  have HK1 := hid (Blk.new w 31 #[.int .i64 0, .slice none 0 0])
  have HB1 := hid (show Below w.heap.size w (w.alloc (.cells #[.int .i64 0, .slice none 0 0] 31)) from (Below.refl _ _).alloc (Nat.le_refl _) _)
  have c0 := HK1.out.cell 0
  have c1 := HK1.out.cell 1
  have fr := fun i => HK1.out.free i
  simp at c0 c1
  clear h hr
  go_enter Tryd.func9, Tryd.ntmps9
  go_wp2
  exact bodyPost_ret (v := .tuple #[rtV 0 none 0 0, .bool false]) (by simp [results, Tryd.results9, go_sem]) rfl ⟨none, 0, 0, rfl, Rf.empty _ _, HB1.out, fun _ h => by cases h⟩
set_option maxRecDepth 100000 in
set_option maxHeartbeats 4000000 in
theorem readR_long_any (S : Nat → Addr) (A : Option Addr) (c : Nat) (b : List Int) (w : World) (hS : Sent6 w S) (h : Sl w w.heap.size A 256 c b) (hy : Byt b) :
    Calls Tryd.prog 9 #[.slice A 256 c] w (ReadR w b) := by
  have HS := hid hS
  have HL := hid h
  have HY := hid hy
  have HB1 := hid (show Below w.heap.size w (w.alloc (.cells #[.int .i64 0, .slice none 0 0] 31)) from (Below.refl _ _).alloc (Nat.le_refl _) _)
  have HK1 := hid (Blk.new w 31 #[.int .i64 0, .slice none 0 0])
  clear hS h hy
  go_enter Tryd.func9, Tryd.ntmps9
  go_wp2_with fail
  refine (told_any A c b _ (HL.out.on HB1.out) HY.out).mono ?_
  rintro e w1 ⟨A1, n1, c1, rfl, hrf, hb, hn⟩
  have HR1 := hid hrf
  have HN1 := hid (show ∀ ad, A1 = some ad → w.heap.size < ad.block from fun ad ha => by have := hn ad ha; simp at this; omega)
  have HB2 := hid (HB1.out.trans (hb.mono HB1.out.size))
  have HK2 := hid (HK1.out.below hb HK1.out.lt)
  clear hrf hb hn
  obtain ⟨ep, hep⟩ : ∃ ep, (told b).epoch = ep := ⟨_, rfl⟩
  rw [hep]
  have HEp := hid hep
  clear hep
  have hbA : Below w.heap.size w (w1.alloc (.cells #[.int .i64 ep, .slice A1 n1 c1] 31)) := HB2.out.alloc HB2.out.size _
  have HBA := hid hbA
  have HKA := hid (Blk.new w1 31 #[.int .i64 ep, .slice A1 n1 c1])
  have HKo := hid (HK2.out.alloc (.cells #[.int .i64 ep, .slice A1 n1 c1] 31))
  have HRA := hid (HR1.out.on ((Below.refl _ _).alloc (Nat.le_refl _) (.cells #[.int .i64 ep, .slice A1 n1 c1] 31)))
  have HBy := hid (rootBytes_any S (told b) A1 n1 c1 _ (HS.out.on hbA) HRA.out (told_sums HY.out) (told_epoch b) (told_epoch' HY.out))
  rw [HEp.out] at HBy
  have c0 := HKA.out.cell 0
  have c1' := HKA.out.cell 1
  simp at c0 c1'
  clear hbA
  go_wp2_with fail
  refine HBy.out.mono ?_
  rintro e w2 ⟨ho, hb⟩
  have HB3 := hid (HBA.out.trans (hb.mono HBA.out.size))
  have HK3 := hid (HKA.out.below hb HKA.out.lt)
  have HKo3 := hid (HKo.out.below hb HKo.out.lt)
  have HR3 := hid (HRA.out.on hb)
  have HL3 := hid (HL.out.on HB3.out)
  clear hb c0 c1'
  have c0 := HK3.out.cell 0
  have c1' := HK3.out.cell 1
  have k0 := HKo3.out.cell 0
  have k1 := HKo3.out.cell 1
  have fr := fun i => HKo3.out.free i
  simp at c0 c1' k0 k1
  rcases ho with ⟨hc, A2, c2, rfl, hsl, _⟩ | ⟨hc, v, rfl, hv⟩
  · have HC := hid hc
    have HS2 := hid hsl
    clear hc hsl
    go_wp2_with fail
    refine (bytesEqual_any A2 A 256 c2 256 c _ _ _ _ w2 HS2.out HL3.out (bytesOf_byt _) HY.out).mono ?_
    rintro e w3 ⟨rfl, q, rfl⟩
    have HB4 := hid (below_drewN HB3.out q)
    have HK4 := hid (HK3.out.drewN q)
    have HKo4 := hid (HKo3.out.drewN q)
    have HR4 := hid (Rf.on HR3.out (below_drewN (Below.refl _ _) q))
    clear c0 c1' k0 k1 fr
    generalize w2.drewN q = w4 at *
    have c0 := HK4.out.cell 0
    have c1' := HK4.out.cell 1
    have k0 := HKo4.out.cell 0
    have k1 := HKo4.out.cell 1
    have fr := fun i => HKo4.out.free i
    simp at c0 c1' k0 k1
    by_cases he : bytesOf (told b) = b
    · have hsm : sameB (bytesOf (told b)) b = true := by simp [sameB, he]
      have HE := hid (rootOr_told HL.out.len HC.out he)
      rw [hsm]
      have HKn := box_put HKo4.out rfl (.int .i64 ep) (.slice A1 n1 c1)
      have m0 := HKn.cell 0
      have m1 := HKn.cell 1
      simp at m0 m1
      have HRn := hid (rf_box HR4.out (g := w.heap.size) (fun ad ha _ => by have := HN1.out ad ha; omega) (.int .i64 ep) (.slice A1 n1 c1))
      have HBn := hid (below_box HB4.out (Nat.le_refl _) (.int .i64 ep) (.slice A1 n1 c1))
      clear he hsm HKn
      go_wp2
      refine bodyPost_ret (v := .tuple #[rtV ep A1 n1 c1, .bool true]) (by simp [results, Tryd.results9, go_sem, m0, m1]) rfl ⟨A1, n1, c1, ?_, ?_, HBn.out, fun ad ha => Nat.le_of_lt (HN1.out ad ha)⟩
      · unfold rootOr; rw [HE.out]; simp only [Option.getD_some, Option.isSome_some]; rw [HEp.out]
      · unfold rootOr; rw [HE.out]; exact HRn.out
    · have hsm : sameB (bytesOf (told b)) b = false := by simp [sameB, he]
      have HE := hid (read_not (b := b) (fun h => he h.2.2))
      rw [hsm]
      clear he hsm
      go_wp2
      refine bodyPost_ret (v := .tuple #[rtV 0 none 0 0, .bool false]) (by simp [results, Tryd.results9, go_sem, k0, k1]) rfl ⟨none, 0, 0, ?_, ?_, below_box HB4.out (Nat.le_refl _) _ _, fun _ h => by cases h⟩
      · rw [rootOr_none HE.out, HE.out]; rfl
      · rw [rootOr_none HE.out]; exact Rf.empty _ _
  · have HE := hid (read_not (b := b) (fun h => hc h.2.1))
    obtain ⟨j, rfl⟩ := hv.is hc
    clear hv hc
    go_wp2
    refine bodyPost_ret (v := .tuple #[rtV 0 none 0 0, .bool false]) (by simp [results, Tryd.results9, go_sem, k0, k1]) rfl ⟨none, 0, 0, ?_, ?_, below_box HB3.out (Nat.le_refl _) _ _, fun _ h => by cases h⟩
    · rw [rootOr_none HE.out, HE.out]; rfl
    · rw [rootOr_none HE.out]; exact Rf.empty _ _
theorem read_any (S : Nat → Addr) (A : Option Addr) (n c : Nat) (b : List Int) (w : World) (hS : Sent6 w S) (h : Sl w w.heap.size A n c b) (hy : Byt b) :
    Calls Tryd.prog 9 #[.slice A n c] w (ReadR w b) := by
  by_cases hn : n = 256
  · subst hn; exact readR_long_any S A c b w hS h hy
  · exact readR_short_any A n c b w h hn
end Go.Proofs.YthgdofcamjkdpaaDoor
