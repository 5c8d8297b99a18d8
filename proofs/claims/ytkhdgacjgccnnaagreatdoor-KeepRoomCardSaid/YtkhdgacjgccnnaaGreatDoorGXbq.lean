/- Put together out of 3 texts. KeepRoom's keys; a keep of them, carried: Put, Commit of what is new, of what is not. -/
import Derived.Test.YtkhdgacjgccnnaaGreatDoorGXbp
import Derived.Test.YtkhdgacjgccnnaaGreatDoorGXbj
import Derived.BigQuiet
import Derived.Deep.OwnRows
import Derived.Test.YtkhdgacjgccnnaaGreatDoorGXbf
import Derived.Test.YtkhdgacjgccnnaaGreatDoorGXak
import Derived.Test.YtkhdgacjgccnnaaGreatDoorGXal
import Derived.Test.YtkhdgacjgccnnaaGreatDoorGXbc
namespace Go.Proofs.YtkhdgacjgccnnaaGreatDoor
open Go.RowKit

def keyR (i : Nat) : List Int := [((i * 7 % 256 : Nat) : Int), ((i % 256 : Nat) : Int), ((i / 256 % 256 : Nat) : Int)]
def valR : List Int := List.replicate 57 0
def recR (i : Nat) : Rec := (strOfNums (keyR i), strOfNums valR)
theorem keyR_byt (i : Nat) : Byt (keyR i) := fun x hx => by
  unfold keyR at hx
  simp only [List.mem_cons, List.not_mem_nil, or_false] at hx
  rcases hx with rfl | rfl | rfl <;> omega
theorem valR_byt : Byt valR := fun x hx => by
  unfold valR at hx
  obtain ⟨_, rfl⟩ := List.mem_replicate.1 hx
  omega
theorem recR_size (i : Nat) : (recR i).1.size = 3 ∧ (recR i).2.size = 57 := ⟨str_size (keyR_byt i), (str_size valR_byt).trans (by unfold valR; simp)⟩
theorem recR_inj {i j : Nat} (hi : i < 600) (hj : j < 600) (h : (recR i).1 = (recR j).1) : i = j := by
  have := strOfNums_inj (keyR_byt i) (keyR_byt j) h
  unfold keyR at this
  simp only [List.cons.injEq, and_true] at this
  omega
/-- some of the keys, rising -/
structure SetR (l : List Rec) (i : Nat) : Prop where
  len : l.length = i
  ris : Ris l
  mem : ∀ r, r ∈ l → ∃ j, j < i ∧ r = recR j
theorem SetR.size {l : List Rec} {i : Nat} (h : SetR l i) : ∀ r, r ∈ l → r.1.size = 3 ∧ r.2.size = 57 := fun r hr => by
  obtain ⟨j, _, rfl⟩ := h.mem r hr
  exact recR_size j
theorem SetR.put {l : List Rec} {i k : Nat} (h : SetR l i) (hi : i < 599) (hk : Low l (recR i).1 k) (hr : Ris (putR l k (recR i))) : SetR (putR l k (recR i)) (i + 1) := by
  have hno : isAt l (recR i).1 k = false := by
    rcases hb : isAt l (recR i).1 k with _ | _
    · rfl
    · obtain ⟨r, h1, h2⟩ := isAt_some hb
      obtain ⟨j, hj, rfl⟩ := h.mem r (List.mem_of_getElem? h1)
      have := recR_inj (by omega) (by omega) h2
      omega
  refine ⟨?_, hr, fun r hm => ?_⟩
  · rw [putR_len hk.le, hno, h.len]; rfl
  · rcases putR_mem hm with rfl | hm
    · exact ⟨i, by omega, rfl⟩
    · obtain ⟨j, hj, e⟩ := h.mem r hm
      exact ⟨j, by omega, e⟩
theorem SetR.diff {l m : List Rec} {i j : Nat} (h : SetR l i) (h' : SetR m j) (hne : i ≠ j) : l ≠ m := fun e => hne (by rw [← h.len, ← h'.len, e])
section
variable {Real : World → Nat → DSt → (Nat → Prop) → Prop} {PR : World → Nat → Nat → Nat → Nat → (Nat → Prop) → Prop} {S : Nat → Addr} {w0 w w' : World} {d g n q kb i m : Nat} {P : PS} {cont : Cont}
theorem LvK.only {F G : Nat → Prop} {lv : Value} {M : List Lf} {l : List Rec} (h : LvK w F lv M l) (ho : Only G w w') (hF : ∀ k, F k → ¬ G k) : LvK w' F lv M l :=
  { h with own := by obtain ⟨B, h1⟩ := h.own; exact ⟨B, h1.only ho (fun k hk => hF k (h.row k hk)) hF⟩ }
set_option maxRecDepth 100000 in
set_option maxHeartbeats 4000000 in
/-- a Commit of what is there already -/
theorem kComSameK_any (b0 kb : Nat) (s lv : Value) (F Fo : Nat → Prop) (M : List Lf) (l : List Rec) (w : World) (h : KpX w b0 kb s lv F l) (hlv : LvK w Fo lv M l) :
    Calls Tryz.prog 8 #[.pointer (some ⟨kb, 0, none⟩)] w fun e w' => e = .returned .nilIface ∧ Below w.heap.size w w' := by
  obtain ⟨v, hbox, hrow, hap⟩ := h.box
  obtain ⟨A, n, c, rfl, hrs⟩ := hrow.rsl
  have hd : Below w.heap.size w w.drew := (Below.refl _ _).drew
  have HRc := hid ((hlv.on hd).recOf h.len)
  have HRs := hid (hrs.on hd)
  have HMc := hid (show ∀ w2, Below w.heap.size w w2 → w2.cell? ⟨kb, 1, none⟩ = some (.slice A n c) ∧ w2.cell? ⟨kb, 2, none⟩ = some lv from fun w2 hb => by
    have h1 := hbox.below hb hbox.lt
    exact ⟨by rw [Blk.cell h1]; rfl, by rw [Blk.cell h1]; rfl⟩)
  have k0 := HMc.out w.drew hd
  clear h hbox hrow hap hrs hlv hd
  go_enter Tryz.func8, Tryz.ntmps8
  go_upto_region 1 with fail
  go_region_held3 (fun w' => w'.cell? ⟨kb, 1, none⟩ = some (.slice A n c) ∧ w'.cell? ⟨kb, 2, none⟩ = some lv) (first | exact k0 | exact k1 | exact k2) (first
    | (go_at_call 16; refine HRc.out.mono ?_; rintro e w1 ⟨v1, rfl, hr1, hb1⟩; have HB1 := hid (show Below w.heap.size w w1 from ((Below.refl w.heap.size w).drew).trans hb1); have k1 := HMc.out w1 HB1.out; obtain ⟨A1, n1, c1, rfl, hs1⟩ := hr1.rsl; have HR1 := hid hs1; have HR0 := hid (HRs.out.on hb1); clear hr1 hb1 hs1)
    | (go_at_call 15; refine (eqRec_yes _ _ _ _ _ _ _ _ _ _ HR0.out HR1.out).mono ?_; rintro e w2 ⟨rfl, q, rfl⟩; have HB2 := hid (below_drewN HB1.out q); have k2 := HMc.out _ HB2.out))
  go_wp2
  go_ret
  exact ⟨rfl, HB2.out⟩
/-- a keep with i of the keys, of which the first m lie in its store -/
def KR (Real : World → Nat → DSt → (Nat → Prop) → Prop) (PR : World → Nat → Nat → Nat → Nat → (Nat → Prop) → Prop) (S : Nat → Addr) (w0 : World) (d g n Qb kb i m : Nat) (w : World) : Prop :=
  ∃ q T s P cont F Fo lv M l l0, q ≤ Qb ∧ Shop Real PR S w0 w d g n q 7 T s P noChg ∧ Keeps s n q P cont ∧ ContL cont M ∧ (m = 0 → s = DSt.new n ∧ P = noPS 0 ∧ q = 0) ∧
    KpX w w0.heap.size kb (.pointer (some ⟨g, 0, none⟩)) lv F l ∧ LvK w Fo lv M l0 ∧ SetR l i ∧ SetR l0 m ∧ m ≤ i ∧ (m = i → l0 = l) ∧ (∀ k, F k → ¬ T k ∧ ¬ Fo k) ∧ (∀ k, Fo k → ¬ T k ∧ k < w.heap.size)
theorem kr_on (D : DevOk Real) (O : PairOk Real PR) {Qb : Nat} (h : KR Real PR S w0 d g n Qb kb i m w) (hb : Below w.heap.size w w') : KR Real PR S w0 d g n Qb kb i m w' := by
  obtain ⟨q, T, s, P, cont, F, Fo, lv, M, l, l0, h1, h2, h3, h4, h5, h6, h7, h8, h9, h10, h11, h12, h13⟩ := h
  exact ⟨q, T, s, P, cont, F, Fo, lv, M, l, l0, h1, h2.on D O hb, h3, h4, h5, h6.on hb, h7.on hb, h8, h9, h10, h11, h12, fun k hk => ⟨(h13 k hk).1, Nat.lt_of_lt_of_le (h13 k hk).2 hb.size⟩⟩
theorem kr_more {Qb Qc : Nat} (h : KR Real PR S w0 d g n Qb kb i m w) (hQ : Qb ≤ Qc) : KR Real PR S w0 d g n Qc kb i m w := by
  obtain ⟨q, T, s, P, cont, F, Fo, lv, M, l, l0, h1, h2⟩ := h
  exact ⟨q, T, s, P, cont, F, Fo, lv, M, l, l0, by omega, h2⟩
theorem kr_put (D : DevOk Real) (O : PairOk Real PR) {Qb : Nat} {A A2 : Option Addr} {c c2 : Nat} (h : KR Real PR S w0 d g n Qb kb i m w) (hi : i < 599) (hk : Sl w w.heap.size A 3 c (keyR i)) (hv : Sl w w.heap.size A2 57 c2 valR) :
    Calls Tryz.prog 7 #[.pointer (some ⟨kb, 0, none⟩), .slice A 3 c, .slice A2 57 c2] w fun e w' => e = .returned .nilIface ∧ KR Real PR S w0 d g n Qb kb (i + 1) m w' := by
  obtain ⟨q, T, s, P, cont, F, Fo, lv, M, l, l0, h1, h2, h3, h4, h5, h6, h7, h8, h9, h10, h11, h12, h13⟩ := h
  have hT := h2.lt D O
  refine (putX_any _ kb _ lv F l A A2 3 c 57 c2 (keyR i) valR w h6 hk hv (keyR_byt i) valR_byt (by omega) (by omega) (by omega) (by rw [h8.len]; omega)).mono ?_
  rintro e w' ⟨i', hl, he, F', k1, k2, k3⟩
  have k1' : KpX w' w0.heap.size kb (.pointer (some ⟨g, 0, none⟩)) lv F' (putR l i' (recR i)) := k1
  refine ⟨he, q, T, s, P, cont, F', Fo, lv, M, _, l0, h1, h2.beside D O k2 (fun k hk hf => (h12 k hf).1 hk) (fun k hk => h6.lo k hk), h3, h4, h5, k1', h7.only k2 (fun k hk hf => (h12 k hf).2 hk), h8.put hi hl k1'.ris, h9, by omega, fun hm => by omega, fun k hk => ?_, fun k hk => ⟨(h13 k hk).1, Nat.lt_of_lt_of_le (h13 k hk).2 k2.size⟩⟩
  rcases k3 k hk with h | h
  · exact h12 k h
  · exact ⟨fun ht => by have := hT k ht; omega, fun ht => by have := (h13 k ht).2; omega⟩
theorem kr_same (D : DevOk Real) (O : PairOk Real PR) {Qb : Nat} (h : KR Real PR S w0 d g n Qb kb i i w) :
    Calls Tryz.prog 8 #[.pointer (some ⟨kb, 0, none⟩)] w fun e w' => e = .returned .nilIface ∧ KR Real PR S w0 d g n Qb kb i i w' := by
  have h' := h
  obtain ⟨q, T, s, P, cont, F, Fo, lv, M, l, l0, h1, h2, h3, h4, h5, h6, h7, h8, h9, h10, h11, h12, h13⟩ := h
  have e := h11 rfl
  subst e
  refine (kComSameK_any _ kb _ lv F Fo M l0 w h6 h7).mono ?_
  rintro e w' ⟨he, hb⟩
  exact ⟨he, kr_on D O h' hb⟩
/-- what a Commit writes is bytes, and no page's too many -/
theorem wrK_ok {L0 M : List Lf} (hF : Fine (halN n) P cont) (hok : LfOk M) (hs : ∀ r, r ∈ recsOf M → r.1.size ≤ 60 ∧ r.2.size ≤ 120) : ∀ k l, wrK P (recAt L0) (recAt M) 256 k = some l → Byt l ∧ l.length ≤ 248 := by
  intro k l hk
  by_cases h256 : 256 ≤ k
  · rw [wrK_off P _ _ 256 k h256] at hk; cases hk
  · rw [wrK_at hF _ _ 256 k (by omega) (Nat.le_refl _)] at hk
    split at hk
    · split at hk
      · cases hk; exact ⟨fun x hx => (by cases hx), by simp⟩
      · cases hk
    · rename_i hne
      split at hk
      · cases hk
      · cases hk
        rcases recAt_or M k with e | ⟨x, hx, _, e⟩
        · exact absurd e hne
        · rw [e]
          exact ⟨laidR_byt (fun r hr => by have := hs r (recsOf_mem hx hr); omega), (hok x hx).2⟩
theorem kr_new (D : DevOk Real) (O : PairOk Real PR) (hS : Sent7 w0 S) {Qb : Nat} (h : KR Real PR S w0 d g n Qb kb i m w) (him : m < i) (hQ : Qb ≤ 600000) (hi : i + 40 ≤ halN n) (h75 : 75 ≤ halN n) (h299 : halN n ≤ 299) :
    Calls Tryz.prog 8 #[.pointer (some ⟨kb, 0, none⟩)] w fun e w' => e = .returned .nilIface ∧ KR Real PR S w0 d g n (Qb + 1000) kb i i w' := by
  obtain ⟨q, T, s, P, cont, F, Fo, lv, M, l, l0, h1, h2, h3, h4, h5, h6, h7, h8, h9, h10, h11, h12, h13⟩ := h
  have hu := h2.pd.1
  have hl := h8.len
  have hl0 := h9.len
  refine (kComNewK_any D O hS _ kb lv F Fo M l0 l h2 h3 h4 (by omega) h6 (Nat.le_refl _) h7 h12 h13 h9.ris (by omega) (by omega) (h8.diff h9 (by omega)) (by intro e; rw [e] at hl; simp at hl; omega) (fun x hx => by have := h8.size x hx; rw [recB_62 this.1 this.2]; omega) (fun R hR => relOk_few hR h8.size (by omega) h75 h299)).mono ?_
  rintro e w' ⟨he, lv', Fo', M', T', k1, k2, k3, k4, k5, k6⟩
  have hs' : ∀ r, r ∈ recsOf M' → r.1.size ≤ 60 ∧ r.2.size ≤ 120 := fun r hr => by rw [k2.recs] at hr; have := h8.size r hr; omega
  have hM' : ∀ x, x ∈ M' → x.1 < 256 := fun x hx => (k2.page.1 x hx).2
  have hch := wrK_ok (L0 := M) h3.fine k2.ok hs'
  have hfit := wrK_fits h3.fine h4 hM' k6
  have hoff : ∀ k, 256 ≤ k → wrK P (recAt M) (recAt M') 256 k = none := fun k hk => wrK_off P _ _ 256 k hk
  obtain ⟨_, _, hk2⟩ := keeps_commit h3 hu (by omega) hch hoff hfit
  exact ⟨he, q + 1000, T', _, _, _, F, Fo', lv', M', l, l, by omega, k3, hk2, wrK_cont h3.fine h4 hM', fun h0 => by omega, k1, k2, h8, h8, Nat.le_refl _, fun _ => rfl, k4, k5⟩
end
end Go.Proofs.YtkhdgacjgccnnaaGreatDoor
namespace Go.Proofs.YtkhdgacjgccnnaaGreatDoor
open Go.RowKit

section
variable {Real : World → Nat → DSt → (Nat → Prop) → Prop} {PR : World → Nat → Nat → Nat → Nat → (Nat → Prop) → Prop} {S : Nat → Addr} {w0 w w' : World} {d g n q kb i m : Nat}
/-- what is opened anew behind the last Commit -/
def ReR (w0 : World) (i : Nat) (e : Ending) (w' : World) : Prop := ∃ kb s lv F b0 l, e = .returned (.pointer (some ⟨kb, 0, none⟩)) ∧ KpX w' b0 kb s lv F l ∧ l.length = i ∧ Below w0.heap.size w0 w'
theorem kr_reopen (D : DevOk Real) (O : PairOk Real PR) (hS : Sent7 w0 S) {aR aE aS : Addr} (hE : Errs w0 aR aE aS) {Qb : Nat} (h : KR Real PR S w0 d g n Qb kb i i w) (hi : i ≤ 599) (hQ : Qb ≤ 600000) :
    Calls Tryz.prog 9 #[.pointer (some ⟨d, 0, none⟩)] w (ReR w0 i) := by
  obtain ⟨q, T, s, P, cont, F, Fo, lv, M, l, l0, h1, h2, h3, h4, h5, h6, h7, h8, h9, h10, h11, h12, h13⟩ := h
  by_cases e : i = 0
  · subst e
    obtain ⟨rfl, rfl, rfl⟩ := h5 rfl
    obtain ⟨p, mm, m1, F', G, Dm, C, k1, _⟩ := h2
    refine (reopenedX_new D O hS w k1.below k1.real k1.fn k1.up (by omega) k1.n0 k1.n1 (keeps_new k1.n0 k1.n1)).mono ?_
    rintro e w' ⟨kb', g', T', rfl, hk, hsh, _⟩
    exact ⟨kb', _, _, _, _, [], rfl, hk, rfl, hsh.below⟩
  · have hl0 := h9.len
    have hr := h7.recs
    refine (reopenedK_any D O hS h2 h3 (by omega) M h4 h7.page h7.has h7.ok (by rw [hr]; exact h9.ris) aR aE aS hE (fun x hx => by rw [hr] at hx; have := h9.size x hx; omega) (by rw [hr]; omega) (fun hM => by rw [hM] at hr; have : recsOf ([] : List Lf) = [] := rfl; rw [this] at hr; rw [← hr] at hl0; simp at hl0; omega)).mono ?_
    rintro e w' ⟨kb', s', lv', F', b0', rfl, hk, hb⟩
    exact ⟨kb', s', lv', F', b0', _, rfl, hk, by rw [hr]; exact hl0, hb⟩
theorem kr_commit (D : DevOk Real) (O : PairOk Real PR) (hS : Sent7 w0 S) {Qb : Nat} (h : KR Real PR S w0 d g n Qb kb i m w) (hQ : Qb ≤ 600000) (hi : i + 40 ≤ halN n) (h75 : 75 ≤ halN n) (h299 : halN n ≤ 299) :
    Calls Tryz.prog 8 #[.pointer (some ⟨kb, 0, none⟩)] w fun e w' => e = .returned .nilIface ∧ KR Real PR S w0 d g n (Qb + 1000) kb i i w' := by
  have hmi : m ≤ i := by
    obtain ⟨q, T, s, P, cont, F, Fo, lv, M, l, l0, h1, h2, h3, h4, h5, h6, h7, h8, h9, h10, _⟩ := h
    exact h10
  by_cases e : m = i
  · subst e
    refine (kr_same D O h).mono ?_
    rintro e w' ⟨he, hk⟩
    exact ⟨he, kr_more hk (by omega)⟩
  · exact kr_new D O hS h (by omega) hQ hi h75 h299
theorem lvK_nil (w : World) (F : Nat → Prop) : LvK w F (.slice none 0 0) [] [] where
  own := ⟨0, lown_nil w 0 F⟩
  row := fun k hk => by cases hk
  recs := rfl
  page := ⟨fun x hx => (by cases hx), fun i j x y hx => (by simp at hx)⟩
  has := fun x hx => by cases hx
  ok := fun x hx => by cases hx
  tight := fun j x y hx => by simp at hx
/-- three bytes in a block of their own -/
theorem sl_tri {w : World} {b : Nat} {x y z : Int} (h : Blk w b 5 #[.int .u8 x, .int .u8 y, .int .u8 z]) : Sl w w.heap.size (some ⟨b, 0, none⟩) 3 3 [x, y, z] := by
  refine ⟨rfl, by omega, by unfold maxLen; omega, (fun h => by cases h), fun ad ha _ => ?_⟩
  cases ha
  refine ⟨h.lt, fun q u hu => ?_⟩
  rw [add0, Blk.cell h]
  rcases q with _ | _ | _ | q
  · simp at hu; subst hu; rfl
  · simp at hu; subst hu; rfl
  · simp at hu; subst hu; rfl
  · simp at hu
theorem sl_arr {w : World} {b : Nat} {l : List Int} (h : Blk w b 5 (l.map fun x => Value.int .u8 x).toArray) (hl : l.length ≤ 1000) : Sl w w.heap.size (some ⟨b, 0, none⟩) l.length l.length l := by
  refine ⟨rfl, Nat.le_refl _, by unfold maxLen; omega, (fun h => by cases h), fun ad ha _ => ?_⟩
  cases ha
  refine ⟨h.lt, fun q u hu => ?_⟩
  rw [add0, Blk.cell h]
  simp [hu]
def zc57 : Array Value := madeCells #[.int .u8 0] 57
theorem zc57_is : zc57 = (valR.map fun x => Value.int .u8 x).toArray := by kernel_rfl
theorem make57 (W : World) : (Instr.makeSlice 29 (.int .i64 57) (.int .i64 57)).run Tryz.prog W = .ok (.slice (some ⟨W.heap.size, 0, none⟩) 57 57) (W.alloc (.cells zc57 5)) :=
  run_make_row' (P := Tryz.prog) 29 5 (.int .u8 0) 1 Tryz.underlying29 Tryz.info5 rfl .i64 .i64 57 (by decide) (by decide) W
theorem keyR_is {i : Nat} (h : i < 600) : keyR i = [(i : Int) * 7 % 256, (i : Int) % 256, (i : Int) / 256] := by
  unfold keyR
  simp only [List.cons.injEq, and_true]
  omega
set_option maxRecDepth 100000 in
set_option maxHeartbeats 16000000 in
theorem keepRoom_any (D : DevOk Real) (O : PairOk Real PR) (S : Nat → Addr) (n0 b0 s0 : Int) (w : World) (hS : SentL [0, 1, 2, 3, 4, 5, 6, 8] w S) :
    Calls Tryz.prog 3 #[.int .i64 n0, .int .i64 b0, .int .i64 s0] w (Yes w) := by
  have hS7 : Sent7 w S := fun i hi => hS i (by
    simp only [List.mem_cons, List.not_mem_nil, or_false] at hi ⊢
    omega)
  obtain ⟨B, hB, hB1⟩ : ∃ B : Nat, b0 % 900 + 300 = (B : Int) ∧ 300 ≤ B ∧ B ≤ 1199 := ⟨(b0 % 900 + 300).toNat, by omega, by omega⟩
  obtain ⟨H, hH, hHb⟩ : ∃ H : Nat, halN B = H ∧ H = B / 4 := ⟨halN B, rfl, by unfold halN; omega⟩
  obtain ⟨N, hN, hN1⟩ : ∃ N : Nat, n0 % ((H : Int) - 39) = (N : Int) ∧ N + 40 ≤ H := ⟨(n0 % ((H : Int) - 39)).toNat, by have := Int.emod_nonneg n0 (show ((H : Int) - 39) ≠ 0 by omega); omega, by have h1 := Int.emod_nonneg n0 (show ((H : Int) - 39) ≠ 0 by omega); have h2 := Int.emod_lt_of_pos n0 (show 0 < ((H : Int) - 39) by omega); omega⟩
  obtain ⟨st, hst, hst1⟩ : ∃ st : Nat, s0 % 40 + 1 = (st : Int) ∧ 1 ≤ st ∧ st ≤ 40 := ⟨(s0 % 40 + 1).toNat, by omega, by omega⟩
  have HF := hid (first8_any D O w hS7)
  have HOp := hid (fun (w' : World) (hb : Below w.heap.size w w') => opened8X_any D O B w' (hS7.on hb) (by omega) (by omega))
  have HD := hid D
  have HO := hid O
  have HS := hid hS7
  have HE := hid (show Errs w (S 2) (S 0) (S 1) from ⟨hS 2 (by decide), hS 0 (by decide), hS 1 (by decide)⟩)
  have HK0 := hid (keeps_new (n := B) (by omega) (by omega))
  have HH := hid (And.intro hH (show 75 ≤ H ∧ H ≤ 299 from by omega))
  have HN := hid hN
  have HN1 := hid hN1
  have HB := hid hB
  have HSt := hid hst
  have hquo : (B : Int).tdiv 4 = (H : Int) := by rw [Int.tdiv_eq_ediv_of_nonneg (by omega)]; omega
  have HHb := hid hHb
  have h39 : (0 : Int) < (H : Int) - 39 := by omega
  have h99 : (H : Int) - 39 ≤ 100000 := by omega
  have HSt1 := hid hst1
  clear D O hS hS7 hH hN hB hst hHb hN1 hst1
  go_enter Tryz.func3, Tryz.ntmps3
  go_wp2_with fail
  refine HF.out.mono ?_
  rintro e w1 ⟨rfl, hb1⟩
  have HB1 := hid hb1
  have HS1 := hid (HS.out.on hb1)
  have HE1 := hid (HE.out.below hb1)
  clear hb1
  obtain ⟨bm, hbm, hbm9⟩ : ∃ bm : Nat, b0 % 900 = (bm : Int) ∧ bm < 900 := ⟨(b0 % 900).toNat, by omega, by omega⟩
  have hBm : ((bm : Int) + 300) = (B : Int) := by rw [← hbm]; exact HB.out
  have HBm := hid hBm
  go_wp2_with fail
  refine (number_any b0 900 _ (by omega) (by omega)).mono ?_
  rw [hbm]
  rintro e w2 ⟨rfl, rfl⟩
  clear hbm hBm
  go_upto_region 5 with fail
  rw [HBm.out]
  clear hbm9
  go_wp2_with fail
  refine (number_any n0 ((H : Int) - 39) _ h39 h99).mono ?_
  rw [HN.out]
  rintro e w2 ⟨rfl, rfl⟩
  obtain ⟨sm, hsm, hsm4⟩ : ∃ sm : Nat, s0 % 40 = (sm : Int) ∧ sm < 40 := ⟨(s0 % 40).toNat, by omega, by omega⟩
  have hSm : ((sm : Int) + 1) = (st : Int) := by rw [← hsm]; exact HSt.out
  have HSm := hid hSm
  go_wp2_with fail
  refine (number_any s0 40 _ (by omega) (by omega)).mono ?_
  rw [hsm]
  rintro e w2 ⟨rfl, rfl⟩
  clear hsm hSm
  go_upto_region 7 with fail
  rw [HSm.out]
  clear hsm4 hquo
  go_wp2_with fail
  refine (HOp.out _ HB1.out).mono ?_
  rintro e w3 ⟨kb, g, d, T3, rfl, hkx, hsh, hnT⟩
  have h3 : KR Real PR S w1 d g B (1000 * 0) kb 0 0 w3 :=
    ⟨0, T3, _, noPS 0, fun _ => none, fun k => k = kb, fun _ => False, .slice none 0 0, [], [], [], Nat.zero_le _, hsh, HK0.out, fun p => by simp [recAt], fun _ => ⟨rfl, rfl, rfl⟩, hkx, lvK_nil _ _, ⟨rfl, List.Pairwise.nil, fun r hr => by cases hr⟩, ⟨rfl, List.Pairwise.nil, fun r hr => by cases hr⟩, Nat.le_refl _, fun _ => rfl, fun k hk => ⟨fun ht => hnT (hk ▸ ht), fun h => h⟩, fun k hk => hk.elim⟩
  have H3 := hid h3
  clear hkx hsh hnT h3
  go_wp2
  go_loopw [10] (fun iv wr => ∃ i m : Nat, i ≤ N ∧ iv = .int .i64 (i : Int) ∧ Hid (KR Real PR S w1 d g B (1000 * i) kb i m wr)) (fun iv _ => N - (RowKit.intOf iv).toNat)
  case atStart => exact ⟨0, 0, Nat.zero_le _, rfl, H3⟩
  case round =>
    rename World => wx
    obtain ⟨i, m, hi, rfl, HKw⟩ := hrel
    by_cases hlt : i < N
    · have hiN : i < 260 := by have := HN1.out; have := HH.out.2; omega
      have hmk := make57
      obtain ⟨W4, hW4⟩ : ∃ W, (wx.alloc (.cells #[.int .u8 ((i : Int) * 7 % 256), .int .u8 ((i : Int) % 256), .int .u8 ((i : Int) / 256)] 5)).alloc (.cells zc57 5) = W := ⟨_, rfl⟩
      have hb4 : Below wx.heap.size wx W4 := by rw [← hW4]; exact ((Below.refl _ _).alloc (Nat.le_refl _) _).alloc (by simp) _
      have hk4 : Sl W4 W4.heap.size (some ⟨wx.heap.size, 0, none⟩) 3 3 (keyR i) := by
        rw [← hW4, keyR_is (by omega)]
        exact sl_tri ((Blk.new wx _ _).alloc _)
      have hv4 : Sl W4 W4.heap.size (some ⟨wx.heap.size + 1, 0, none⟩) 57 57 valR := by
        rw [← hW4]
        have h1 := Blk.new (wx.alloc (.cells #[.int .u8 ((i : Int) * 7 % 256), .int .u8 ((i : Int) % 256), .int .u8 ((i : Int) / 256)] 5)) 5 zc57
        rw [World.size_alloc] at h1
        rw [zc57_is] at h1 ⊢
        exact sl_arr h1 (by decide)
      have HPut := hid (kr_put HD.out HO.out (kr_on HD.out HO.out HKw.out hb4) (by omega) hk4 hv4)
      have HW4 := hid hW4
      clear hb4 hk4 hv4 hW4
      go_wp2_with fail
      rw [HW4.out]
      refine HPut.out.mono ?_
      rintro e w5 ⟨rfl, hk5⟩
      have HK5 := hid hk5
      clear hk5 HPut hmk
      have Htm := hid (show (i : Int) % (st : Int) = ((i % st : Nat) : Int) from (Int.natCast_emod i st).symm)
      have s2 : ¬ st = 0 := by have := HSt1.out; omega
      by_cases h6 : i % st = 0
      · have g3 : (i : Int) % (st : Int) = 0 := by rw [Htm.out]; omega
        have HC := hid (kr_commit HD.out HO.out HS1.out HK5.out (by omega) (by rw [HH.out.1]; have := HN1.out; omega) (by rw [HH.out.1]; exact HH.out.2.1) (by rw [HH.out.1]; exact HH.out.2.2))
        clear h6
        go_wp2_with fail
        refine HC.out.mono ?_
        rintro e w6 ⟨rfl, hk6⟩
        have HN6 := hid (show KR Real PR S w1 d g B (1000 * (i + 1)) kb (i + 1) (i + 1) w6 from kr_more hk6 (by omega))
        clear hk6 HC
        go_wp2
        go_roundw
        case rel => exact ⟨i + 1, i + 1, by omega, by go_num, HN6⟩
        case measure => simp [RowKit.intOf]; omega
      · have g3 : ¬ (i : Int) % (st : Int) = 0 := by rw [Htm.out]; omega
        have HN6 := hid (show KR Real PR S w1 d g B (1000 * (i + 1)) kb (i + 1) m w5 from kr_more HK5.out (by omega))
        clear h6
        go_wp2
        go_roundw
        case rel => exact ⟨i + 1, m, by omega, by go_num, HN6⟩
        case measure => simp [RowKit.intOf]; omega
    · obtain rfl : i = N := by omega
      have HC := hid (kr_commit HD.out HO.out HS1.out HKw.out (by have := HN1.out; have := HH.out.2; omega) (by rw [HH.out.1]; exact HN1.out) (by rw [HH.out.1]; exact HH.out.2.1) (by rw [HH.out.1]; exact HH.out.2.2))
      go_wp2_with fail
      refine HC.out.mono ?_
      rintro e w5 ⟨rfl, hk5⟩
      have HRe := hid (kr_reopen HD.out HO.out HS1.out HE1.out hk5 (by have := HN1.out; have := HH.out.2; omega) (by have := HN1.out; have := HH.out.2; omega))
      clear hk5 HC HKw
      go_wp2_with fail
      refine HRe.out.mono ?_
      rintro e w6 ⟨kb', s', lv', F', b', l', rfl, hk', hl', hb'⟩
      have HL := hid (kpLenK_any b' kb' s' lv' F' l' hk')
      have HB6 := hid (HB1.out.trans (hb'.mono HB1.out.size))
      rw [hl'] at HL
      clear hk' hl' hb' HRe
      go_wp2_with fail
      refine HL.out.mono ?_
      rintro e w7 ⟨rfl, rfl⟩
      go_wp2
      go_ret
      exact ⟨rfl, HB6.out⟩
end
end Go.Proofs.YtkhdgacjgccnnaaGreatDoor
namespace Go.Proofs.YtkhdgacjgccnnaaGreatDoor
open Go.ChangeShapes Go.WideShapes Go.ChangeAt Go.RowKit

theorem keepRoom_all (n b s : Int) (w : World) (_ : (Lit.int .i64 n).wf = true) (_ : (Lit.int .i64 b).wf = true) (_ : (Lit.int .i64 s).wf = true) (hL : laidMetH Tryz.prog laid8 w) :
    Calls Tryz.prog 3 #[.int .i64 n, .int .i64 b, .int .i64 s] w (Yes w) := by
  obtain ⟨S, hS⟩ := sent8_of_laid hL
  exact keepRoom_any dvOk (prOk dvOk) S n b s w hS
end Go.Proofs.YtkhdgacjgccnnaaGreatDoor
