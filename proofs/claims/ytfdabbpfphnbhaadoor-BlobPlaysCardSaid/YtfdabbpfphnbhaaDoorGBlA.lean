/- Refs that a law collects; the laws' own openings. -/
import Derived.Test.YtfdabbpfphnbhaaDoorGBlIf
import Derived.Test.YtfdabbpfphnbhaaDoorGBlQ
import Derived.Deep.QuietTactic
import Derived.BigQuiet
import Derived.Deep.Cut
import Derived.Deep.RegionHeld3
import Derived.RegionTactic
namespace Go.Proofs.YtfdabbpfphnbhaaDoor
open Go.RowKit

def cellsB (x : RefS) : List Value := [.int .i64 x.1, .int .u32 (x.2 : Int)]
def refC (l : List RefS) : List Value := l.flatMap cellsB
theorem refC_app (l m : List RefS) : refC (l ++ m) = refC l ++ refC m := by simp [refC]
theorem refC_len (l : List RefS) : (refC l).length = l.length * 2 := by
  induction l with
  | nil => rfl
  | cons x l ih =>
    show (cellsB x ++ refC l).length = _
    rw [List.length_append, ih, List.length_cons]
    show 2 + _ = _
    omega
theorem refC_get {l : List RefS} {k : Nat} {x : RefS} (h : l[k]? = some x) : (refC l)[k * 2]? = some (.int .i64 x.1) ∧ (refC l)[k * 2 + 1]? = some (.int .u32 (x.2 : Int)) := by
  induction l generalizing k with
  | nil => simp at h
  | cons y l ih =>
    have e : refC (y :: l) = .int .i64 y.1 :: .int .u32 (y.2 : Int) :: refC l := rfl
    rcases k with _ | k
    · simp at h
      subst h
      exact ⟨rfl, rfl⟩
    · simp at h
      rw [e, show (k + 1) * 2 = k * 2 + 1 + 1 by omega]
      simpa using ih h
/-- the slice value v is the call's own, from block B on, and holds the refs l -/
def OwnB (w : World) (B : Nat) (v : Value) (l : List RefS) : Prop := w.ownsRow B 36 2 v l.length (refC l)
theorem OwnB.nil (w : World) (B : Nat) : OwnB w B (.slice none 0 0) [] := World.ownsRow_nil _ _ _ _
theorem OwnB.lt {w : World} {B : Nat} {v : Value} {l : List RefS} (h : OwnB w B v l) : ∀ k, v.ownBlock = some k → B ≤ k ∧ k < w.heap.size := World.ownsRow.lt h
theorem addB_at (ad : Addr) (k : Nat) (h : 0 < k) : ad.add k = ⟨ad.block, ad.off + k, none⟩ := by unfold Addr.add; rw [if_neg (by omega)]
theorem OwnB.form {w : World} {B : Nat} {v : Value} {l : List RefS} (h : OwnB w B v l) : ∃ A c, v = .slice A l.length c ∧ RefSl w w.heap.size A l.length c l ∧ (∀ ad, A = some ad → B ≤ ad.block) := by
  have h' := h
  rcases h'.2 with ⟨rfl, h0⟩ | ⟨g, cap, cur, rfl, hb, hg, h1, h2, h3, h4⟩
  · have : l = [] := List.eq_nil_of_length_eq_zero h0
    subst this
    exact ⟨none, 0, rfl, RefSl.empty _ _, fun _ h => by cases h⟩
  · refine ⟨_, _, rfl, ⟨rfl, h1, h2, fun h => (by cases h), fun ad ha hn => ?_⟩, fun ad ha => by cases ha; exact hb⟩
    cases ha
    exact ⟨(World.ownsRow.lt h g rfl).2, fun j x hx => ⟨World.ownsRow.cells h (g := g) rfl (j * 2) _ (refC_get hx).1, World.ownsRow.cells h (g := g) rfl (j * 2 + 1) _ (refC_get hx).2⟩⟩
theorem RefSl.get {w : World} {B n c k : Nat} {A : Option Addr} {l : List RefS} (h : RefSl w B A n c l) (hk : k < n) : ∃ ad x, A = some ad ∧ ad.block < B ∧ l[k]? = some x ∧ w.cell? (ad.add (k * 2)) = some (.int .i64 x.1) ∧ w.cell? ⟨(ad.add (k * 2)).block, (ad.add (k * 2)).off + 1, none⟩ = some (.int .u32 (x.2 : Int)) := by
  rcases A with _ | ad
  · have := h.nil rfl; have := h.cap; omega
  · have hl := h.len
    obtain ⟨hb, hc⟩ := h.at_ ad rfl (by omega)
    have hx : l[k]? = some (l[k]'(by omega)) := List.getElem?_eq_getElem (by omega)
    obtain ⟨h1, h2⟩ := hc k _ hx
    refine ⟨ad, _, rfl, hb, hx, h1, ?_⟩
    rw [← h2]
    congr 1
    rw [← add_add', addB_at (ad.add (k * 2)) 1 (by omega)]
/-- refs of the law's own, carried beside -/
abbrev Lie.refs (B : Nat) (v : Value) (l : List RefS) : Lie := Lie.row B 36 2 v l.length (refC l)
section
variable {Real : World → Nat → DSt → (Nat → Prop) → Prop} {AR : World → Nat → Nat → Nat → ASt → (Nat → Prop) → Prop} {S : Nat → Addr} {w0 w w' : World} {d g n q q' : Nat} {s s' : DSt} {a a' : ASt} {F G : Nat → Prop} {ks : List Lie}
theorem Bk.refs {B : Nat} {v : Value} {l : List RefS} (h : Bk Real AR S w0 w d g s n a q ks) (hK : Lie.refs B v l ∈ ks) : OwnB w B v l := by
  obtain ⟨F, G, h, hk⟩ := h
  exact (hk _ hK).1
set_option maxRecDepth 100000 in
set_option maxHeartbeats 1000000 in
theorem opened9_any (D : DevOk Real) (O : AreaOk Real AR) (n : Nat) (w : World) (hS : Sent w S) (h0 : 300 ≤ n) (h1 : n ≤ 6000) :
    Calls Tryd.prog 9 #[.int .i64 (n : Int), .slice none 0 0] w fun e w' => ∃ g d, e = .returned (.tuple #[.pointer (some ⟨g, 0, none⟩), .pointer (some ⟨d, 0, none⟩)]) ∧ Bk Real AR S w w' d g (DSt.new n) n (openA' n []) 0 [] := by
  have HS := hid hS
  have HD := hid D
  have HO := hid O
  have H0 := hid h0
  have H1 := hid h1
  clear hS D O h0 h1
  go_enter Tryd.func9, Tryd.ntmps9
  go_wp2_with fail
  refine (HD.out.new n _ (by have := H0.out; omega) H1.out).mono ?_
  rintro e w1 ⟨d, F, rfl, hr, hb, hf⟩
  have HR := hid hr
  have HB := hid hb
  have HF := hid hf
  clear hr hb hf
  go_wp2_with fail
  refine (HO.out.open_ S d n 0 (DSt.new n) F none 0 0 [] _ (HS.out.on HB.out) HR.out (up_new H1.out) (by omega) H0.out H1.out (RefSl.empty _ _) (by omega) (fun r h => by cases h)).mono ?_
  rintro e w2 ⟨hb2, (⟨_, g, G, rfl, har, hg⟩ | ⟨hno, _⟩)⟩
  · have HBk := hid (show Bk Real AR S w w2 d g (DSt.new n) n (openA' n []) 0 [] from ⟨F, G,
      ⟨HD.out.kept HR.out (Kept.of_below hb2 (HD.out.lt HR.out)), har, HB.out.trans (hb2.mono HB.out.size), HS.out, HF.out, fun k hk => by have := hg k hk; have := HB.out.size; omega, fun k hk hg' => by have := HD.out.lt HR.out k hk; have := hg k hg'; omega, up_new H1.out, by omega, H0.out, H1.out, ok_open H0.out rfl⟩, fun K hK => by cases hK⟩)
    clear har hb2 hg
    go_wp2
    go_ret2
    exact ⟨g, d, rfl, HBk.out⟩
  · exact absurd hno (by rw [opens_nil]; decide)
end
end Go.Proofs.YtfdabbpfphnbhaaDoor
