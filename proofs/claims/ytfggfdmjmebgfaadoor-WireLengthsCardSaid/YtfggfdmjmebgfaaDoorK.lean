/- Text answers the bytes that are next, or stops where it began. Conditions: as said in each. -/
import Derived.Test.YtfggfdmjmebgfaaDoorJ
import Derived.Laws.BytesArg
namespace Go.Proofs.YtfggfdmjmebgfaaDoor
open Go.RowKit

theorem conv_any {w : World} {B n c : Nat} {A : Option Addr} {l : List Int} (h : Sl w B A n c l) :
    (convert 22 9 (.slice A n c)).run Tryd.prog w = .ok (.string (strOfNums l)) w := by
  rw [run_convert_bytes_string w 22 9 5 _ n c Tryd.underlying22 Tryd.underlying5 Tryd.underlying9]
  rcases A with _ | ad
  · have h0 := h.nil rfl
    have h1 := h.cap
    have h2 := h.len
    have : l = [] := List.eq_nil_of_length_eq_zero (by omega)
    subst this
    simp [Conv.bytesToString, strOfNums]
    rfl
  · have hl : (loadCells ad n).run Tryd.prog w = .ok (l.map (Value.int .u8)).toArray w := by
      have := run_loadCells_list (P := Tryd.prog) w ad (l.map (Value.int .u8)) (fun j v hj => by
        obtain ⟨x, hx, rfl⟩ := I_get' hj
        have hj : j < l.length := (List.getElem?_eq_some_iff.1 hx).1
        exact (h.at_ ad rfl (by have := h.len; omega)).2 j x hx)
      simpa [h.len] using this
    rw [run_bytesToString w _ n c l hl, foldl_push_bytes]
    simp [strOfNums, ByteArray.empty, ByteArray.emptyWithCapacity]
    rfl

def TextOk (w : World) (g : Nat) (A : Option Addr) (n c : Nat) (l : List Int) (p : Nat) (s : ByteArray) (e : Ending) (w' : World) : Prop :=
  e = .returned (.string s) ∧ Rdr w' g A n c l (p : Int) .nilIface ∧ w.grownBy w' (some g)

set_option maxRecDepth 100000 in
set_option maxHeartbeats 1000000 in
theorem text_ok {A : Option Addr} {n c g p u q m : Nat} {l : List Int} {aR aE aS : Addr} {w : World} (most : Int) (h : Rdr w g A n c l (p : Int) .nilIface) (hE : Errs w aR aE aS) (hl : Byt l) (hn : n ≤ 100000)
    (hr : scan (l.drop p) 0 0 = (0, u, q - p)) (hp : p ≤ q) (hu : unzz u = (m : Int)) (h1 : (m : Int) ≤ most) (hm : q + m ≤ n) :
    Calls Tryd.prog 18 #[.pointer (some ⟨g, 0, none⟩), .int .i64 most] w (TextOk w g A n c l (q + m) (strOfNums ((l.drop q).take m))) := by
  obtain ⟨c0, c1, c2⟩ := unpair h
  have hcap : (q : Int) + (m : Int) ≤ (c : Int) := by have := h.sl.cap; omega
  have hcap1 : (q : Int) ≤ (q : Int) + (m : Int) := by omega
  have HH := hid h
  have HR := hid hr
  have HL := hid hl
  have HX := hid hE
  have HU := hid hu
  clear h hr hl hE hu
  go_enter Tryd.func18, Tryd.ntmps18
  go_wp2_with fail
  refine (num_ok 0 most HH.out HX.out HL.out hn HR.out (by omega) (by have := HU.out; omega) (by have := HU.out; omega)).mono ?_
  rintro e w1 ⟨rfl, hr1, hg1⟩
  rw [HU.out]
  rw [show p + (q - p) = q by omega] at hr1
  clear c0 c1 c2
  obtain ⟨c0, c1, c2⟩ := unpair hr1
  have HR1 := hid hr1
  have HG1 := hid hg1
  have f1 := hr1.blk.free 1
  clear hr1 hg1
  go_wp2_with fail
  refine (left_any HR1.out (by omega) hn).mono ?_
  rintro e w2 ⟨rfl, k2, rfl⟩
  have hq : ∀ j, (convert 22 9 (.slice (if c = q then A else A.map (fun x => x.add q)) (((q : Int) + (m : Int)).toNat - q) (c - q))).run Tryd.prog (((w1.drewN k2).setCell ⟨g, 1, none⟩ (.int .i64 ((q : Int) + (m : Int)))).drewN j) = .ok (.string (strOfNums ((l.drop q).take m))) (((w1.drewN k2).setCell ⟨g, 1, none⟩ (.int .i64 ((q : Int) + (m : Int)))).drewN j) := by
    intro j
    have e : ((q : Int) + (m : Int)).toNat - q = m := by omega
    rw [e]
    exact conv_any ((((HR1.out.drewN k2).move _).drewN j).sl.cut (k := q) (by omega) |>.head (k := m) (by omega))
  have HF := fun j => hid (show TextOk w g A n c l (q + m) (strOfNums ((l.drop q).take m)) (.returned (.string (strOfNums ((l.drop q).take m)))) (((w1.drewN k2).setCell ⟨g, 1, none⟩ (.int .i64 ((q : Int) + (m : Int)))).drewN j) from ⟨rfl, ((HR1.out.drewN k2).move ((q + m : Nat) : Int)).drewN j, only_drewN (only_put (only_drewN HG1.out _) _ _) _⟩)
  go_wp2_with fail
  go_quiet (fail)
  generalize (if c = q then A else A.map (fun x => x.add q)) = A'
  go_wp2
  go_ret
  exact (HF _).out

theorem Stopped.behind {w w1 w2 : World} {g n c : Nat} {A : Option Addr} {l : List Int} {p : Int} {er : Addr} (h : Stopped w1 g A n c l p er w2) (hg : w.grownBy w1 (some g)) : Stopped w g A n c l p er w2 := by
  obtain ⟨x, h1, h2, h3, h4⟩ := h
  exact ⟨x, Nat.le_trans hg.size h1, h2, h3, only_trans hg h4⟩

set_option maxRecDepth 100000 in
set_option maxHeartbeats 1000000 in
theorem text_ends {A : Option Addr} {n c g p : Nat} {l : List Int} {aR aE aS : Addr} {w : World} (most : Int) (h : Rdr w g A n c l (p : Int) .nilIface) (hE : Errs w aR aE aS) (hl : Byt l) (hn : n ≤ 100000) (hp : p ≤ n)
    (hr : scan (l.drop p) 0 0 = (2, 0, 0)) :
    Calls Tryd.prog 18 #[.pointer (some ⟨g, 0, none⟩), .int .i64 most] w fun e w' => e = .returned (.string ⟨#[]⟩) ∧ Stopped w g A n c l (p : Int) aE w' := by
  obtain ⟨c0, c1, c2⟩ := unpair h
  have HH := hid h
  have HR := hid hr
  have HL := hid hl
  have HX := hid hE
  clear h hr hl hE
  go_enter Tryd.func18, Tryd.ntmps18
  go_wp2_with fail
  refine (num_ends 0 most HH.out HX.out HL.out hn hp HR.out).mono ?_
  rintro e w1 ⟨rfl, hs⟩
  clear c0 c1 c2
  have HS := hid hs
  obtain ⟨x, _, _, h3, _⟩ := hs
  obtain ⟨_, _, c2⟩ := unpair h3
  clear h3
  go_wp2
  go_ret
  exact ⟨rfl, HS.out⟩

set_option maxRecDepth 100000 in
set_option maxHeartbeats 1000000 in
theorem text_range {A : Option Addr} {n c g p u s : Nat} {l : List Int} {aR aE aS : Addr} {w : World} (most : Int) (h : Rdr w g A n c l (p : Int) .nilIface) (hE : Errs w aR aE aS) (hl : Byt l) (hn : n ≤ 100000) (hp : p ≤ n)
    (hr : scan (l.drop p) 0 0 = (0, u, s)) (hb : unzz u < 0 ∨ most < unzz u) :
    Calls Tryd.prog 18 #[.pointer (some ⟨g, 0, none⟩), .int .i64 most] w fun e w' => e = .returned (.string ⟨#[]⟩) ∧ Stopped w g A n c l (p : Int) aR w' := by
  obtain ⟨c0, c1, c2⟩ := unpair h
  have HH := hid h
  have HR := hid hr
  have HL := hid hl
  have HX := hid hE
  have HB := hid hb
  clear h hr hl hE hb
  go_enter Tryd.func18, Tryd.ntmps18
  go_wp2_with fail
  refine (num_range 0 most HH.out HX.out HL.out hn hp HR.out HB.out).mono ?_
  rintro e w1 ⟨rfl, hs⟩
  clear c0 c1 c2
  have HS := hid hs
  obtain ⟨x, _, _, h3, _⟩ := hs
  obtain ⟨_, _, c2⟩ := unpair h3
  clear h3
  go_wp2
  go_ret
  exact ⟨rfl, HS.out⟩

set_option maxRecDepth 100000 in
set_option maxHeartbeats 1000000 in
theorem text_none {A : Option Addr} {n c g h : Nat} {l : List Int} {p most : Int} {w : World} (hh : Rdr w g A n c l p (.iface 62 (.pointer (some ⟨h, 0, none⟩)))) :
    Calls Tryd.prog 18 #[.pointer (some ⟨g, 0, none⟩), .int .i64 most] w fun e w' => e = .returned (.string ⟨#[]⟩) ∧ w = w' := by
  obtain ⟨_, c1, c2⟩ := unpair hh
  have HH := hid hh
  clear hh
  go_enter Tryd.func18, Tryd.ntmps18
  go_wp2_with fail
  refine (num_none HH.out).mono ?_
  rintro e w1 ⟨rfl, rfl⟩
  go_wp2
  go_ret
  exact ⟨rfl, rfl⟩

set_option maxRecDepth 100000 in
set_option maxHeartbeats 1000000 in
theorem text_short {A : Option Addr} {n c g p u q m : Nat} {l : List Int} {aR aE aS : Addr} {w : World} (most : Int) (h : Rdr w g A n c l (p : Int) .nilIface) (hE : Errs w aR aE aS) (hg : 3 ≤ g) (hl : Byt l) (hn : n ≤ 100000)
    (hr : scan (l.drop p) 0 0 = (0, u, q - p)) (hp : p ≤ q) (hq : q ≤ n) (hu : unzz u = (m : Int)) (h1 : (m : Int) ≤ most) (hm : n < q + m) :
    Calls Tryd.prog 18 #[.pointer (some ⟨g, 0, none⟩), .int .i64 most] w fun e w' => e = .returned (.string ⟨#[]⟩) ∧ Stopped w g A n c l (p : Int) aE w' := by
  obtain ⟨c0, c1, c2⟩ := unpair h
  have hleft : ((n - q : Nat) : Int) < (m : Int) := by omega
  have HH := hid h
  have HR := hid hr
  have HL := hid hl
  have HX := hid hE
  have HU := hid hu
  clear h hr hl hE hu
  go_enter Tryd.func18, Tryd.ntmps18
  go_wp2_with fail
  refine (num_ok 0 most HH.out HX.out HL.out hn HR.out (by omega) (by have := HU.out; omega) (by have := HU.out; omega)).mono ?_
  rintro e w1 ⟨rfl, hr1, hg1⟩
  rw [HU.out]
  rw [show p + (q - p) = q by omega] at hr1
  clear c0 c1 c2
  obtain ⟨c0, c1, c2⟩ := unpair hr1
  have ce : w1.cell? ⟨1, 0, none⟩ = some (.iface 71 (.pointer (some aE))) := hg1.cell HX.out.ends (by simp; omega)
  have HR1 := hid hr1
  have HG1 := hid hg1
  clear hr1 hg1
  go_wp2_with fail
  refine (left_any HR1.out (by omega) hn).mono ?_
  rintro e w2 ⟨rfl, k2, rfl⟩
  go_wp2_with fail
  refine (stop_any (p : Int) (HR1.out.drewN _)).mono ?_
  rintro e w3 ⟨rfl, hs⟩
  have HF := hid (hs.of_drewN.behind HG1.out)
  clear hs
  go_wp2
  go_ret
  exact ⟨rfl, HF.out⟩
end Go.Proofs.YtfggfdmjmebgfaaDoor
