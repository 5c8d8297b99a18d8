/- What package node has to keep, call by call; a table carried along a walk. -/
import Derived.Test.YtklplmldhhlgiaaDoorGNd
import Derived.Test.YtklplmldhhlgiaaDoorGSee
import Derived.Test.YtklplmldhhlgiaaDoorGNumber
namespace Go.Proofs.YtklplmldhhlgiaaDoor
open Go.RowKit Go.Sort

theorem EV.nil {S : Nat → Addr} {v : Value} (h : EV S 0 v) : v = .nilIface := by
  generalize hc : (0 : Int) = c at h
  rcases h with _ | ⟨j, hj⟩
  · rfl
  · omega
theorem EV.one {S : Nat → Addr} {c : Int} {v : Value} (h : EV S c v) (hc : c ≠ 0) : ∃ j : Nat, j < 24 ∧ c = 101 + (j : Int) ∧ v = .iface 104 (.pointer (some (S j))) := by
  rcases h with _ | ⟨j, hj⟩
  · exact absurd rfl hc
  · exact ⟨j, hj, rfl, rfl⟩
/-- what a call that turns the thing leaves, carried -/
theorem Cr.of {R' : World → (Nat → Prop) → Prop} {w0 w w' : World} {ks : List Ly} {F : Nat → Prop} (hb : Below w0.heap.size w0 w) (hF : ∀ k, F k → w0.heap.size ≤ k) (hk : ∀ K, K ∈ ks → K.P w F) (ht : Turned R' w F w') : Cr R' w0 w' ks := by
  obtain ⟨F', r1, ho, hf⟩ := ht
  refine ⟨F', r1, hb.trans (ho.below hb.size hF), fun k hk => ?_, fun K hK => Ly.kept (hk K hK) ho (fun g hlt hn h4 => ?_)⟩
  · rcases hf k hk with h5 | h5
    · exact hF k h5
    · have := hb.size; omega
  · rcases hf g h4 with h5 | h5
    · exact hn h5
    · omega
/-- a row that was made since w, carried -/
theorem Cr.made {R : World → (Nat → Prop) → Prop} {w0 w w' : World} {ks : List Ly} (S : Stays R) (h : Cr R w0 w ks) (hb : Below w.heap.size w w') (B0 : Nat) (t : TypeId) (z : Nat) (v : Value) (m : Nat) (l : List Value) (ho : w'.ownsRow B0 t z v m l) (hB : w.heap.size ≤ B0) : Cr R w0 w' (Ly.row B0 t z v m l :: ks) :=
  h.new S hb (Ly.row B0 t z v m l) ho (fun k hk => ⟨Nat.le_trans hB (World.ownsRow.lt ho k hk).1, (World.ownsRow.lt ho k hk).2⟩)
/-- where a number stands first; behind all, if it doesn't -/
def fndN (L : List Nd) (id : Int) : Nat := L.findIdx (fun e => e.id == id)
def isInN (L : List Nd) (id : Int) : Bool := decide (fndN L id < L.length)
theorem fndN_le (L : List Nd) (id : Int) : fndN L id ≤ L.length := List.findIdx_le_length
theorem fndN_at {L : List Nd} {s : Int} {k : Nat} {e : Nd} (h : L[k]? = some e) (hs : e.id = s) (hb : ∀ (j : Nat) x, j < k → L[j]? = some x → x.id ≠ s) : fndN L s = k := by
  have hk := (List.getElem?_eq_some_iff.1 h).1
  have he := (List.getElem?_eq_some_iff.1 h).2
  refine (List.findIdx_eq hk).2 ⟨by rw [he]; exact beq_iff_eq.2 hs, fun j hj => ?_⟩
  exact beq_eq_false_iff_ne.2 (hb j _ hj (List.getElem?_eq_getElem (by omega)))
theorem fndN_none {L : List Nd} {s : Int} (hb : ∀ (j : Nat) x, L[j]? = some x → x.id ≠ s) : fndN L s = L.length := by
  refine List.findIdx_eq_length.2 fun x hx => ?_
  obtain ⟨j, hj⟩ := List.getElem?_of_mem hx
  exact beq_eq_false_iff_ne.2 (hb j x hj)
theorem fndN_get {L : List Nd} {s : Int} (h : fndN L s < L.length) : ∃ e, L[fndN L s]? = some e ∧ e.id = s := by
  refine ⟨_, List.getElem?_eq_getElem h, ?_⟩
  have := List.findIdx_getElem (p := fun e : Nd => e.id == s) (xs := L) (w := h)
  exact beq_iff_eq.1 this
/-- how many stand ahead of a number -/
def lowN (L : List Nd) (s : Int) : Nat := (L.takeWhile (fun x => decide (x.id < s))).length
theorem lowN_le (L : List Nd) (s : Int) : lowN L s ≤ L.length := (List.takeWhile_sublist _).length_le
theorem lowN_at {D : List Nd} {s : Int} {j : Nat} (hj : j ≤ D.length) (hb : ∀ (i : Nat) x, i < j → D[i]? = some x → x.id < s) (he : ∀ x, D[j]? = some x → ¬ x.id < s) : lowN D s = j := by
  unfold lowN
  induction D generalizing j with
  | nil => simp at hj; simp [hj]
  | cons y D ih =>
    rcases j with _ | j
    · have h := he y rfl
      rw [List.takeWhile_cons_of_neg (by simpa using h)]
      rfl
    · have h := hb 0 y (by omega) rfl
      rw [List.takeWhile_cons_of_pos (by simpa using h), List.length_cons]
      simp at hj
      rw [ih hj (fun i x h1 h2 => hb (i + 1) x (by omega) (by simpa using h2)) (fun x h2 => he x (by simpa using h2))]
/-- does the number stand at i? -/
def isAtN (L : List Nd) (i : Nat) (s : Int) : Bool := match L[i]? with | some x => x.id == s | none => false
/-- one put among them, by numbers -/
def putL (L : List Nd) (e : Nd) : List Nd := L.take (lowN L e.id) ++ e :: L.drop (if isAtN L (lowN L e.id) e.id then lowN L e.id + 1 else lowN L e.id)
theorem putL_len (L : List Nd) (e : Nd) : (putL L e).length ≤ L.length + 1 := by
  unfold putL
  rw [List.length_append, List.length_take, List.length_cons, List.length_drop]
  have := lowN_le L e.id
  split <;> omega
def okK (k : Int) : Bool := decide (1 ≤ k ∧ k ≤ 3)
/-- may a node be? -/
def fitsN (e : Nd) : Bool := decide (1 ≤ e.id ∧ e.id < 16777216 ∧ 1 ≤ e.k ∧ e.k ≤ 3 ∧ 0 ≤ e.ln ∧ e.ln ≤ 16 ∧ 0 ≤ e.sz ∧ e.sz ≤ 16384) && (if e.k = 1 then decide (e.tg = [] ∧ e.pa = 0) else if e.k = 2 then decide (e.sz = 0 ∧ e.tg = [] ∧ 1 ≤ e.pa ∧ e.pa < 16777216) else decide (e.sz = 0 ∧ e.tg ≠ [] ∧ e.tg.length ≤ 88 ∧ e.pa = 0))
/-- a table: its nodes by numbers; the greatest number that ever was -/
structure Tab where
  L : List Nd
  last : Int
def newE (T : Tab) (k : Int) : Int := if okK k = true then (if 512 ≤ T.L.length ∨ 16777215 ≤ T.last then 104 else 0) else 103
def newN (id k : Int) : Nd := ⟨id, k, 0, 0, if k = 3 then [47] else [], if k = 2 then 1 else 0⟩
def newT (T : Tab) (k : Int) : Tab := if newE T k = 0 then ⟨putL T.L (newN (T.last + 1) k), T.last + 1⟩ else T
def putE (T : Tab) (e : Nd) : Int := if fitsN e = true then (if isInN T.L e.id = false ∧ 512 ≤ T.L.length then 104 else 0) else 103
def putT (T : Tab) (e : Nd) : Tab := if putE T e = 0 then ⟨putL T.L e, max T.last e.id⟩ else T
def delL (L : List Nd) (id : Int) : List Nd := if fndN L id < L.length then L.take (fndN L id) ++ L.drop (fndN L id + 1) else L
def delT (T : Tab) (id : Int) : Tab := ⟨delL T.L id, T.last⟩
/-- what a node that comes from outside keeps -/
structure NdOk (e : Nd) : Prop where
  id0 : -9223372036854775808 ≤ e.id
  id1 : e.id ≤ 9223372036854775807
  k0 : -9223372036854775808 ≤ e.k
  k1 : e.k ≤ 9223372036854775807
  l0 : -9223372036854775808 ≤ e.ln
  l1 : e.ln ≤ 9223372036854775807
  s0 : -9223372036854775808 ≤ e.sz
  s1 : e.sz ≤ 9223372036854775807
  t : e.tg.length ≤ 1000000
  p0 : -9223372036854775808 ≤ e.pa
  p1 : e.pa ≤ 9223372036854775807
/-- a number of 64 bits -/
abbrev I64 (n : Int) : Prop := -9223372036854775808 ≤ n ∧ n ≤ 9223372036854775807
/-- the zero value's cells: to be turned to the struct that landed -/
abbrev tabZ : Array Value := #[.map none, .int .i64 0]
/-- what is known of a table's nodes and numbers, of whatever it is in memory -/
structure TabIs (T : Tab) : Prop where
  ris : T.L.Pairwise (fun a b => a.id < b.id)
  fit : ∀ e, e ∈ T.L → fitsN e = true ∧ e.id ≤ T.last
  last : 0 ≤ T.last ∧ T.last ≤ 16777215
  len : T.L.length ≤ 512
/-- the table's calls: 'TR w g T F': at g it is T, in the blocks F -/
structure TabOk (TR : World → Nat → Tab → (Nat → Prop) → Prop) : Prop where
  stays : ∀ g T, Stays (fun w F => TR w g T F)
  is : ∀ {w : World} {g : Nat} {T : Tab} {F : Nat → Prop}, TR w g T F → TabIs T
  zero : ∀ w : World, TR (w.alloc (.cells tabZ 27)) w.heap.size ⟨[], 0⟩ (fun k => k = w.heap.size)
  clone : ∀ {w : World} {g : Nat} {T : Tab} {F : Nat → Prop}, TR w g T F →
    Calls Tryd.prog 7 #[.pointer (some ⟨g, 0, none⟩)] w fun r w' => Below w.heap.size w w' ∧ ∃ q F2, r = .returned (.pointer (some ⟨q, 0, none⟩)) ∧ TR w' q T F2 ∧ ∀ k, F2 k → w.heap.size ≤ k
  len : ∀ {w : World} {g : Nat} {T : Tab} {F : Nat → Prop}, TR w g T F →
    Calls Tryd.prog 8 #[.pointer (some ⟨g, 0, none⟩)] w fun r w' => r = .returned (.int .i64 (T.L.length : Int)) ∧ Below w.heap.size w w'
  new : ∀ (S : Nat → Addr) (k : Int) {w : World} {g : Nat} {T : Tab} {F : Nat → Prop}, Sent w S → TR w g T F →
    Calls Tryd.prog 9 #[.pointer (some ⟨g, 0, none⟩), .int .i64 k] w fun r w' => (∃ v, r = .returned (.tuple #[.int .i64 (if newE T k = 0 then T.last + 1 else 0), v]) ∧ EV S (newE T k) v) ∧ Turned (fun w F => TR w g (newT T k) F) w F w'
  put : ∀ (S : Nat → Addr) (e : Nd) {w : World} {g : Nat} {T : Tab} {F : Nat → Prop}, Sent w S → TR w g T F → NdOk e →
    Calls Tryd.prog 12 #[.pointer (some ⟨g, 0, none⟩), ndV e] w fun r w' => (∃ v, r = .returned v ∧ EV S (putE T e) v) ∧ Turned (fun w F => TR w g (putT T e) F) w F w'
  del : ∀ (id : Int) {w : World} {g : Nat} {T : Tab} {F : Nat → Prop}, TR w g T F → I64 id →
    Calls Tryd.prog 15 #[.pointer (some ⟨g, 0, none⟩), .int .i64 id] w fun r w' => r = .returned (.bool (isInN T.L id)) ∧ Turned (fun w F => TR w g (delT T id) F) w F w'
  get : ∀ (id : Int) {w : World} {g : Nat} {T : Tab} {F : Nat → Prop}, TR w g T F → I64 id →
    Calls Tryd.prog 16 #[.pointer (some ⟨g, 0, none⟩), .int .i64 id] w fun r w' => (∃ x, r = .returned (.tuple #[ndV x, .bool (isInN T.L id)]) ∧ ∀ e, T.L[fndN T.L id]? = some e → x = e) ∧ Below w.heap.size w w'
  all : ∀ {w : World} {g : Nat} {T : Tab} {F : Nat → Prop}, TR w g T F →
    Calls Tryd.prog 17 #[.pointer (some ⟨g, 0, none⟩)] w fun r w' => (∃ v, r = .returned v ∧ OwnN w' w.heap.size v (T.L.map (·.id))) ∧ Below w.heap.size w w'
/-- a second table, beside -/
def Ly.tab {TR : World → Nat → Tab → (Nat → Prop) → Prop} (O : TabOk TR) (q : Nat) (T : Tab) (F : Nat → Prop) : Ly where
  C w := TR w q T F
  B k := F k
  keeps h _ hk := (O.stays q T).kept h hk
abbrev Ly.nds (B : Nat) (v : Value) (L : List Nd) : Ly := Ly.row B 30 6 v L.length (NDC L)
/-- the table at g, carried -/
abbrev Tk (TR : World → Nat → Tab → (Nat → Prop) → Prop) (w0 w : World) (g : Nat) (T : Tab) (ks : List Ly) : Prop := Cr (fun w F => TR w g T F) w0 w ks
section
variable {TR : World → Nat → Tab → (Nat → Prop) → Prop} {w0 w w' : World} {g : Nat} {T : Tab} {ks : List Ly}
theorem Tk.is (O : TabOk TR) (h : Tk TR w0 w g T ks) : TabIs T := by obtain ⟨F, hd, _⟩ := h; exact O.is hd
theorem tk_zero (O : TabOk TR) (hb : Below w0.heap.size w0 w) (hl : ∀ K, K ∈ ks → K.C w ∧ ∀ k, K.B k → k < w.heap.size) : Tk TR w0 (w.alloc (.cells tabZ 27)) w.heap.size ⟨[], 0⟩ ks := by
  refine ⟨fun k => k = w.heap.size, O.zero w, hb.alloc hb.size _, fun k hk => by have := hb.size; omega, fun K hK => ?_⟩
  obtain ⟨h1, h2⟩ := hl K hK
  exact ⟨K.keeps h1 h2 (Kept.of_below ((Below.refl _ _).alloc (Nat.le_refl _) _) h2), fun k hk => ⟨by have := h2 k hk; simp; omega, fun e => by have := h2 k hk; omega⟩⟩
theorem tk_len (O : TabOk TR) (h : Tk TR w0 w g T ks) :
    Calls Tryd.prog 8 #[.pointer (some ⟨g, 0, none⟩)] w fun r w' => r = .returned (.int .i64 (T.L.length : Int)) ∧ Tk TR w0 w' g T ks ∧ Below w.heap.size w w' := by
  have h' := h
  obtain ⟨F, hd, _⟩ := h
  exact (O.len hd).mono fun r w' ⟨he, hb⟩ => ⟨he, h'.on (O.stays g T) hb, hb⟩
theorem tk_lenOther (O : TabOk TR) {q : Nat} {T2 : Tab} {F2 : Nat → Prop} (h : Tk TR w0 w g T ks) (hK : Ly.tab O q T2 F2 ∈ ks) :
    Calls Tryd.prog 8 #[.pointer (some ⟨q, 0, none⟩)] w fun r w' => r = .returned (.int .i64 (T2.L.length : Int)) ∧ Tk TR w0 w' g T ks ∧ Below w.heap.size w w' := by
  have hd : TR w q T2 F2 := h.get hK
  exact (O.len hd).mono fun r w' ⟨he, hb⟩ => ⟨he, h.on (O.stays g T) hb, hb⟩
theorem tk_clone (O : TabOk TR) (h : Tk TR w0 w g T ks) :
    Calls Tryd.prog 7 #[.pointer (some ⟨g, 0, none⟩)] w fun r w' => ∃ q F2, r = .returned (.pointer (some ⟨q, 0, none⟩)) ∧ Tk TR w0 w' g T (Ly.tab O q T F2 :: ks) ∧ Below w.heap.size w w' ∧ ∀ k, F2 k → w.heap.size ≤ k := by
  have h' := h
  obtain ⟨F, hd, _⟩ := h
  refine (O.clone hd).mono fun r w' ⟨hb, q, F2, he, hd2, hf⟩ => ⟨q, F2, he, h'.new (O.stays g T) hb (Ly.tab O q T F2) hd2 (fun k hk => ⟨hf k hk, (O.stays q T).lt hd2 k hk⟩), hb, hf⟩
theorem tk_new (O : TabOk TR) (S : Nat → Addr) (k : Int) (hS : Sent w0 S) (h : Tk TR w0 w g T ks) :
    Calls Tryd.prog 9 #[.pointer (some ⟨g, 0, none⟩), .int .i64 k] w fun r w' => (∃ v, r = .returned (.tuple #[.int .i64 (if newE T k = 0 then T.last + 1 else 0), v]) ∧ EV S (newE T k) v) ∧ Tk TR w0 w' g (newT T k) ks := by
  obtain ⟨F, hd, hb, hF, hk⟩ := h
  exact (O.new S k (hS.on hb) hd).mono fun r w' ⟨hr, ht⟩ => ⟨hr, Cr.of hb hF hk ht⟩
theorem tk_put (O : TabOk TR) (S : Nat → Addr) (e : Nd) (hS : Sent w0 S) (h : Tk TR w0 w g T ks) (he : NdOk e) :
    Calls Tryd.prog 12 #[.pointer (some ⟨g, 0, none⟩), ndV e] w fun r w' => (∃ v, r = .returned v ∧ EV S (putE T e) v) ∧ Tk TR w0 w' g (putT T e) ks := by
  obtain ⟨F, hd, hb, hF, hk⟩ := h
  exact (O.put S e (hS.on hb) hd he).mono fun r w' ⟨hr, ht⟩ => ⟨hr, Cr.of hb hF hk ht⟩
theorem tk_del (O : TabOk TR) (id : Int) (h : Tk TR w0 w g T ks) (hid : I64 id) :
    Calls Tryd.prog 15 #[.pointer (some ⟨g, 0, none⟩), .int .i64 id] w fun r w' => r = .returned (.bool (isInN T.L id)) ∧ Tk TR w0 w' g (delT T id) ks := by
  obtain ⟨F, hd, hb, hF, hk⟩ := h
  exact (O.del id hd hid).mono fun r w' ⟨hr, ht⟩ => ⟨hr, Cr.of hb hF hk ht⟩
theorem tk_get (O : TabOk TR) (id : Int) (h : Tk TR w0 w g T ks) (hid : I64 id) :
    Calls Tryd.prog 16 #[.pointer (some ⟨g, 0, none⟩), .int .i64 id] w fun r w' => (∃ x, r = .returned (.tuple #[ndV x, .bool (isInN T.L id)]) ∧ ∀ e, T.L[fndN T.L id]? = some e → x = e) ∧ Below w.heap.size w w' ∧ Tk TR w0 w' g T ks := by
  have h' := h
  obtain ⟨F, hd, _⟩ := h
  exact (O.get id hd hid).mono fun r w' ⟨hv, hb⟩ => ⟨hv, hb, h'.on (O.stays g T) hb⟩
theorem tk_all (O : TabOk TR) (h : Tk TR w0 w g T ks) :
    Calls Tryd.prog 17 #[.pointer (some ⟨g, 0, none⟩)] w fun r w' => (∃ v, r = .returned v ∧ OwnN w' w.heap.size v (T.L.map (·.id))) ∧ Below w.heap.size w w' ∧ Tk TR w0 w' g T ks := by
  have h' := h
  obtain ⟨F, hd, _⟩ := h
  exact (O.all hd).mono fun r w' ⟨hv, hb⟩ => ⟨hv, hb, h'.on (O.stays g T) hb⟩
end
end Go.Proofs.YtklplmldhhlgiaaDoor
