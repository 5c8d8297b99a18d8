/- The two arrays of a play with pairs: what was written at each place, and its ref. -/
import Derived.Test.YtomhmodgfldlpaaDoorGPairReadsM
namespace Go.Proofs.YtomhmodgfldlpaaDoor
open Go.RowKit

/-- what the array 'have' has at each place: nil, or a slice of these bytes -/
abbrev Hv := Nat → Option (Option Addr × Nat × List Int)
def hval : Option (Option Addr × Nat × List Int) → Value
  | none => .slice none 0 0
  | some (A, c, _) => .slice A 256 c
def HaveIn (w : World) (h : Nat) (hv : Hv) : Prop :=
  ∃ arr : Array Value, Blk w h 29 arr ∧ arr.size = 75 ∧ ∀ n, n < 6 → arr[n]? = some (hval (hv n)) ∧ ∀ A c l, hv n = some (A, c, l) → Sl w w.heap.size A 256 c l ∧ ∀ ad, A = some ad → h + 1 < ad.block
theorem have_new {w : World} {h : Nat} (hb : Blk w h 29 Tryd.zeroCells29) : HaveIn w h (fun _ => none) :=
  ⟨_, hb, by kernel_rfl, fun n hn => ⟨match n, hn with
    | 0, _ => by kernel_rfl
    | 1, _ => by kernel_rfl
    | 2, _ => by kernel_rfl
    | 3, _ => by kernel_rfl
    | 4, _ => by kernel_rfl
    | 5, _ => by kernel_rfl, fun A c l e => by cases e⟩⟩
theorem HaveIn.same {w w' : World} {h : Nat} {hv : Hv} (hi : HaveIn w h hv) (hk : Kept (fun g => g = h ∨ ∃ n A c l ad, n < 6 ∧ hv n = some (A, c, l) ∧ A = some ad ∧ ad.block = g) w w') : HaveIn w' h hv := by
  obtain ⟨arr, h1, h2, h3⟩ := hi
  refine ⟨arr, h1.same (hk.1 h (.inl rfl)), h2, fun n hn => ⟨(h3 n hn).1, fun A c l e => ?_⟩⟩
  obtain ⟨h4, h5⟩ := (h3 n hn).2 A c l e
  exact ⟨(h4.same (fun ad ha => hk.1 ad.block (.inr ⟨n, A, c, l, ad, hn, e, ha, rfl⟩))).more hk.2, h5⟩
def Kd.have_ (h : Nat) (hv : Hv) : Kd where
  C w := HaveIn w h hv
  B g := g = h ∨ ∃ n A c l ad, n < 6 ∧ hv n = some (A, c, l) ∧ A = some ad ∧ ad.block = g
  keeps hc _ hk := hc.same hk
def updH (hv : Hv) (n : Nat) (x : Option Addr × Nat × List Int) : Hv := fun k => if k = n then some x else hv k
theorem HaveIn.set {w : World} {h n c : Nat} {hv : Hv} {A : Option Addr} {l : List Int} (hi : HaveIn w h hv) (hn : n < 6) (hl : Sl w w.heap.size A 256 c l) (hA : ∀ ad, A = some ad → h + 1 < ad.block) : HaveIn (w.setCell ⟨h, n, none⟩ (.slice A 256 c)) h (updH hv n (A, c, l)) := by
  obtain ⟨arr, h1, h2, h3⟩ := hi
  have hs : ∀ {B : Option Addr} {c' : Nat} {l' : List Int}, Sl w w.heap.size B 256 c' l' → (∀ ad, B = some ad → h + 1 < ad.block) → Sl (w.setCell ⟨h, n, none⟩ (.slice A 256 c)) (w.setCell ⟨h, n, none⟩ (.slice A 256 c)).heap.size B 256 c' l' := fun h4 h5 => by
    have := h4.same (w' := w.setCell ⟨h, n, none⟩ (.slice A 256 c)) (fun ad ha => Below.heap_setCell w ⟨h, n, none⟩ _ ad.block (show ad.block ≠ h by have := h5 ad ha; omega))
    exact this.more (by simp)
  refine ⟨arr.setIfInBounds n (.slice A 256 c), h1.put n _, by simpa using h2, fun k hk => ⟨?_, fun B c' l' e => ?_⟩⟩
  · unfold updH
    by_cases e : k = n
    · subst e
      rw [if_pos rfl, Array.getElem?_setIfInBounds_self_of_lt (by omega)]
      rfl
    · rw [if_neg e, Array.getElem?_setIfInBounds_ne (Ne.symm e)]
      exact (h3 k hk).1
  · unfold updH at e
    by_cases e' : k = n
    · rw [if_pos e'] at e
      cases e
      exact ⟨hs hl hA, hA⟩
    · rw [if_neg e'] at e
      obtain ⟨h4, h5⟩ := (h3 k hk).2 B c' l' e
      exact ⟨hs h4 h5, h5⟩
/-- what the array 'refs' has at each place -/
def RefsIn (w : World) (r : Nat) (rf : Nat → Int × Int) : Prop :=
  ∃ arr : Array Value, Blk w r 33 arr ∧ arr.size = 150 ∧ ∀ n, n < 6 → arr[n * 2]? = some (.int .i64 (rf n).1) ∧ arr[n * 2 + 1]? = some (.int .u32 (rf n).2)
theorem refs_new {w : World} {r : Nat} (hb : Blk w r 33 Tryd.zeroCells33) : RefsIn w r (fun _ => (0, 0)) :=
  ⟨_, hb, by kernel_rfl, fun n hn => match n, hn with
    | 0, _ => ⟨by kernel_rfl, by kernel_rfl⟩
    | 1, _ => ⟨by kernel_rfl, by kernel_rfl⟩
    | 2, _ => ⟨by kernel_rfl, by kernel_rfl⟩
    | 3, _ => ⟨by kernel_rfl, by kernel_rfl⟩
    | 4, _ => ⟨by kernel_rfl, by kernel_rfl⟩
    | 5, _ => ⟨by kernel_rfl, by kernel_rfl⟩⟩
def Kd.refs (r : Nat) (rf : Nat → Int × Int) : Kd where
  C w := RefsIn w r rf
  B g := g = r
  keeps := by
    rintro w w' ⟨arr, h1, h2, h3⟩ _ hk
    exact ⟨arr, h1.same (hk.1 r rfl), h2, h3⟩
def updR (rf : Nat → Int × Int) (n : Nat) (x : Int × Int) : Nat → Int × Int := fun k => if k = n then x else rf k
theorem RefsIn.set {w : World} {r n : Nat} {rf : Nat → Int × Int} {a z : Int} (hi : RefsIn w r rf) (hn : n < 6) : RefsIn ((w.setCell ⟨r, n * 2, none⟩ (.int .i64 a)).setCell ⟨r, n * 2 + 1, none⟩ (.int .u32 z)) r (updR rf n (a, z)) := by
  obtain ⟨arr, h1, h2, h3⟩ := hi
  refine ⟨_, (h1.put (n * 2) _).put (n * 2 + 1) _, by simpa using h2, fun k hk => ?_⟩
  unfold updR
  by_cases e : k = n
  · subst e
    rw [if_pos rfl]
    refine ⟨?_, ?_⟩
    · rw [Array.getElem?_setIfInBounds_ne (by omega), Array.getElem?_setIfInBounds_self_of_lt (by omega)]
    · rw [Array.getElem?_setIfInBounds_self_of_lt (by simp; omega)]
  · rw [if_neg e]
    obtain ⟨h4, h5⟩ := h3 k hk
    refine ⟨?_, ?_⟩
    · rw [Array.getElem?_setIfInBounds_ne (by omega), Array.getElem?_setIfInBounds_ne (by omega)]; exact h4
    · rw [Array.getElem?_setIfInBounds_ne (by omega), Array.getElem?_setIfInBounds_ne (by omega)]; exact h5
theorem RefsIn.cells {w : World} {r n : Nat} {rf : Nat → Int × Int} (hi : RefsIn w r rf) (hn : n < 6) : w.cell? ⟨r, n * 2, none⟩ = some (.int .i64 (rf n).1) ∧ w.cell? ⟨r, n * 2 + 1, none⟩ = some (.int .u32 (rf n).2) := by
  obtain ⟨arr, h1, _, h3⟩ := hi
  exact ⟨(h1.cell _).trans (h3 n hn).1, (h1.cell _).trans (h3 n hn).2⟩
theorem HaveIn.cell {w : World} {h n : Nat} {hv : Hv} (hi : HaveIn w h hv) (hn : n < 6) : w.cell? ⟨h, n, none⟩ = some (hval (hv n)) := by
  obtain ⟨arr, h1, _, h3⟩ := hi
  exact (h1.cell _).trans (h3 n hn).1
theorem HaveIn.free {w : World} {h : Nat} {hv : Hv} (hi : HaveIn w h hv) : ∀ i, w.frozen? ⟨h, i, none⟩ = false := by
  obtain ⟨arr, h1, _, _⟩ := hi
  exact fun i => h1.free i
theorem RefsIn.free {w : World} {r : Nat} {rf : Nat → Int × Int} (hi : RefsIn w r rf) : ∀ i, w.frozen? ⟨r, i, none⟩ = false := by
  obtain ⟨arr, h1, _, _⟩ := hi
  exact fun i => h1.free i
/-- any boxed cells -/
def Kd.cells (g : Nat) (t : TypeId) (cs : Array Value) : Kd where
  C w := Blk w g t cs
  B x := x = g
  keeps h _ hk := h.same (hk.1 g rfl)
/-- a store into something that lies beside -/
theorem Pk.stored {Real : World → Nat → DSt → (Nat → Prop) → Prop} {PR : World → Nat → Nat → Nat → Nat → (Nat → Prop) → Prop} {S : Nat → Addr} {w0 w : World} {d p n m q : Nat} {s : DSt} {Ls ks : List Kd} (D : DevOk Real) (P : PairOk Real PR) (h : Pk Real PR S w0 w d p s n m q Ls) (K' : Kd) {g i : Nat} {u : Value}
    (hK : ∃ K, K ∈ Ls ∧ K.B g) (hB : ∀ x, K'.B x → ∃ L, L ∈ Ls ∧ L.B x) (hks : ∀ L, L ∈ ks → L ∈ Ls ∧ ¬ L.B g) (h0 : w0.heap.size ≤ g) (hC : K'.C (w.setCell ⟨g, i, none⟩ u)) : Pk Real PR S w0 (w.setCell ⟨g, i, none⟩ u) d p s n m q (K' :: ks) := by
  obtain ⟨F, G, h, hk⟩ := h
  obtain ⟨K, hKm, hKg⟩ := hK
  obtain ⟨_, hF, hG⟩ := (hk K hKm).2 g hKg
  have hsame : ∀ x, x ≠ g → (w.setCell ⟨g, i, none⟩ u).heap[x]? = w.heap[x]? := fun x hx => Below.heap_setCell w ⟨g, i, none⟩ u x hx
  have hsz : (w.setCell ⟨g, i, none⟩ u).heap.size = w.heap.size := by simp
  refine ⟨F, G, ⟨D.kept h.real ⟨fun x hx => hsame x (fun e => hF (e ▸ hx)), by rw [hsz]; exact Nat.le_refl _⟩, P.kept h.pr ⟨fun x hx => hsame x (fun e => hG (e ▸ hx)), by rw [hsz]; exact Nat.le_refl _⟩, h.below.setCell h0 _, h.sent0, h.fn, h.gn, h.ap, h.up, h.small, h.n0, h.n1⟩, fun L hL => ?_⟩
  rcases List.mem_cons.1 hL with rfl | hL
  · refine ⟨hC, fun x hx => ?_⟩
    obtain ⟨M, hM, hMx⟩ := hB x hx
    obtain ⟨a, b, c⟩ := (hk M hM).2 x hMx
    exact ⟨by rw [hsz]; exact a, b, c⟩
  · obtain ⟨hLs, hLg⟩ := hks L hL
    obtain ⟨a, b⟩ := hk L hLs
    exact ⟨L.keeps a (fun x hx => (b x hx).1) ⟨fun x hx => hsame x (fun e => hLg (e ▸ hx)), by rw [hsz]; exact Nat.le_refl _⟩, fun x hx => ⟨by rw [hsz]; exact (b x hx).1, (b x hx).2⟩⟩
theorem Pk.put {Real : World → Nat → DSt → (Nat → Prop) → Prop} {PR : World → Nat → Nat → Nat → Nat → (Nat → Prop) → Prop} {S : Nat → Addr} {w0 w : World} {d p n m q : Nat} {s : DSt} {ks : List Kd} (D : DevOk Real) (P : PairOk Real PR) (h : Pk Real PR S w0 w d p s n m q ks) (t : TypeId) (cs : Array Value) : Pk Real PR S w0 (w.alloc (.cells cs t)) d p s n m q (Kd.cells w.heap.size t cs :: ks) := by
  obtain ⟨F, G, h, hk⟩ := h
  have hb : Below w.heap.size w (w.alloc (.cells cs t)) := (Below.refl _ _).alloc (Nat.le_refl _) _
  refine ⟨F, G, h.on D P hb, fun K hK => ?_⟩
  rcases List.mem_cons.1 hK with rfl | hK
  · exact ⟨Blk.new w _ _, fun g hg => by
      obtain rfl : g = w.heap.size := hg
      exact ⟨by simp, fun hf => Nat.lt_irrefl _ (D.lt h.real _ hf), fun hf => Nat.lt_irrefl _ (P.lt h.pr _ hf)⟩⟩
  · exact Kd.kept (hk K hK) (Only.of_below hb) (fun g _ h2 h3 => ⟨h2, h3⟩)
/-- another word for what lies in the same blocks -/
theorem Pk.swapKd {Real : World → Nat → DSt → (Nat → Prop) → Prop} {PR : World → Nat → Nat → Nat → Nat → (Nat → Prop) → Prop} {S : Nat → Addr} {w0 w : World} {d p n m q : Nat} {s : DSt} {ks : List Kd} (h : Pk Real PR S w0 w d p s n m q ks) (ls : List Kd) (hl : ∀ L, L ∈ ls → ∃ K, K ∈ ks ∧ (K.C w → L.C w) ∧ ∀ g, L.B g → K.B g) : Pk Real PR S w0 w d p s n m q ls := by
  obtain ⟨F, G, h, hk⟩ := h
  refine ⟨F, G, h, fun L hL => ?_⟩
  obtain ⟨K, hK, h1, h2⟩ := hl L hL
  obtain ⟨a, b⟩ := hk K hK
  exact ⟨h1 a, fun g hg => b g (h2 g hg)⟩
section
variable {Real : World → Nat → DSt → (Nat → Prop) → Prop} {PR : World → Nat → Nat → Nat → Nat → (Nat → Prop) → Prop} {S : Nat → Addr} {w0 w : World} {d p n m q : Nat} {s : DSt} {ks : List Kd}
theorem Pk.at_ {K : Kd} (h : Pk Real PR S w0 w d p s n m q ks) (hK : K ∈ ks) : K.C w := by
  obtain ⟨F, G, h, hk⟩ := h
  exact (hk _ hK).1
theorem Pk.lt_ {K : Kd} (h : Pk Real PR S w0 w d p s n m q ks) (hK : K ∈ ks) {g : Nat} (hg : K.B g) : g < w.heap.size := by
  obtain ⟨F, G, h, hk⟩ := h
  exact ((hk _ hK).2 g hg).1
/-- two stores into one block -/
theorem Pk.stored2 {Ls ks : List Kd} (D : DevOk Real) (P : PairOk Real PR) (h : Pk Real PR S w0 w d p s n m q Ls) (K' : Kd) {g i j : Nat} {u v : Value}
    (hK : ∃ K, K ∈ Ls ∧ K.B g) (hB : ∀ x, K'.B x → ∃ L, L ∈ Ls ∧ L.B x) (hks : ∀ L, L ∈ ks → L ∈ Ls ∧ ¬ L.B g) (h0 : w0.heap.size ≤ g) (hC : K'.C ((w.setCell ⟨g, i, none⟩ u).setCell ⟨g, j, none⟩ v)) : Pk Real PR S w0 ((w.setCell ⟨g, i, none⟩ u).setCell ⟨g, j, none⟩ v) d p s n m q (K' :: ks) := by
  obtain ⟨F, G, h, hk⟩ := h
  obtain ⟨K, hKm, hKg⟩ := hK
  obtain ⟨_, hF, hG⟩ := (hk K hKm).2 g hKg
  have hsame : ∀ x, x ≠ g → ((w.setCell ⟨g, i, none⟩ u).setCell ⟨g, j, none⟩ v).heap[x]? = w.heap[x]? := fun x hx => (Below.heap_setCell _ ⟨g, j, none⟩ v x hx).trans (Below.heap_setCell w ⟨g, i, none⟩ u x hx)
  have hsz : ((w.setCell ⟨g, i, none⟩ u).setCell ⟨g, j, none⟩ v).heap.size = w.heap.size := by simp
  refine ⟨F, G, ⟨D.kept h.real ⟨fun x hx => hsame x (fun e => hF (e ▸ hx)), by rw [hsz]; exact Nat.le_refl _⟩, P.kept h.pr ⟨fun x hx => hsame x (fun e => hG (e ▸ hx)), by rw [hsz]; exact Nat.le_refl _⟩, (h.below.setCell (p := ⟨g, i, none⟩) h0 _).setCell (p := ⟨g, j, none⟩) h0 _, h.sent0, h.fn, h.gn, h.ap, h.up, h.small, h.n0, h.n1⟩, fun L hL => ?_⟩
  rcases List.mem_cons.1 hL with rfl | hL
  · refine ⟨hC, fun x hx => ?_⟩
    obtain ⟨M, hM, hMx⟩ := hB x hx
    obtain ⟨a, b, c⟩ := (hk M hM).2 x hMx
    exact ⟨by rw [hsz]; exact a, b, c⟩
  · obtain ⟨hLs, hLg⟩ := hks L hL
    obtain ⟨a, b⟩ := hk L hLs
    exact ⟨L.keeps a (fun x hx => (b x hx).1) ⟨fun x hx => hsame x (fun e => hLg (e ▸ hx)), by rw [hsz]; exact Nat.le_refl _⟩, fun x hx => ⟨by rw [hsz]; exact (b x hx).1, (b x hx).2⟩⟩
end
theorem upd_map (hv : Hv) (n : Nat) (A : Option Addr) (c : Nat) (l : List Int) : (fun k => (updH hv n (A, c, l) k).map (·.2.2)) = upd (fun k => (hv k).map (·.2.2)) n l := by
  funext k
  unfold updH upd
  by_cases h : k = n
  · rw [if_pos h, if_pos h]; rfl
  · rw [if_neg h, if_neg h]
section
variable {Real : World → Nat → DSt → (Nat → Prop) → Prop} {PR : World → Nat → Nat → Nat → Nat → (Nat → Prop) → Prop} {S : Nat → Addr} {w0 w : World} {d p n m q : Nat} {s : DSt} {ks : List Kd}
theorem pk_blockN (D : DevOk Real) (P : PairOk Real PR) (h : Pk Real PR S w0 w d p s n m q ks) {A : Option Addr} {k c : Nat} {l : List Int} (hl : Sl w w.heap.size A k c l) (hk : k ≤ 256) :
    Calls Tryd.prog 12 #[.slice A k c] w fun e w' => ∃ A' c', e = .returned (.slice A' 256 c') ∧ Pk Real PR S w0 w' d p s n m q (Kd.byt A' 256 c' (padB l) :: ks) ∧ ∀ ad, A' = some ad → w.heap.size ≤ ad.block := by
  refine (block_any A k c l w hl hk).mono ?_
  rintro e w' h1
  obtain ⟨A', c', he, hs, hb, hn, _⟩ := h1.get
  exact ⟨A', c', he, h.more D P hb hs hn, hn⟩
/-- what is written into the array 'have' -/
theorem Pk.setHave (D : DevOk Real) (P : PairOk Real PR) {A : Option Addr} {c i g r : Nat} {l : List Int} {hv : Hv} {rf : Nat → Int × Int} {x z : Int} {g2 : Nat} (hk : Pk Real PR S w0 w d p s n m q ks) (hi : i < 6) (h0 : w0.heap.size ≤ g) (hgr : g + 1 = r) (hg2 : g < g2)
    (k1 : Kd.byt A 256 c l ∈ ks) (k2 : Kd.have_ g hv ∈ ks) (k3 : Kd.ref g2 x z ∈ ks) (k4 : Kd.refs r rf ∈ ks) (hn : ∀ ad, A = some ad → g + 1 < ad.block) :
    Pk Real PR S w0 (w.setCell ⟨g, i, none⟩ (.slice A 256 c)) d p s n m q [Kd.have_ g (updH hv i (A, c, l)), Kd.ref g2 x z, Kd.refs r rf] := by
  refine hk.stored D P (Kd.have_ g (updH hv i (A, c, l))) ⟨_, k2, .inl rfl⟩ (fun y hy => ?_) (fun L hL => ?_) h0 (HaveIn.set (hk.at_ k2) hi (hk.bytes k1) hn)
  · rcases hy with rfl | ⟨i', A', c', l', ad', hi', he, hA', hb⟩
    · exact ⟨_, k2, .inl rfl⟩
    · unfold updH at he
      by_cases hii : i' = i
      · rw [if_pos hii] at he
        cases he
        exact ⟨_, k1, ad', hA', by omega, hb⟩
      · rw [if_neg hii] at he
        exact ⟨_, k2, .inr ⟨i', A', c', l', ad', hi', he, hA', hb⟩⟩
  · simp only [List.mem_cons, List.not_mem_nil, or_false] at hL
    rcases hL with rfl | rfl
    · exact ⟨k3, fun hb => by have : g = g2 := hb; omega⟩
    · exact ⟨k4, fun hb => by have : g = r := hb; omega⟩
/-- .. and into the array 'refs' -/
theorem Pk.setRefs (D : DevOk Real) (P : PairOk Real PR) {i g r : Nat} {hv : Hv} {rf : Nat → Int × Int} {x z : Int} (hk : Pk Real PR S w0 w d p s n m q ks) (hi : i < 6) (h0 : w0.heap.size ≤ g) (hgr : g + 1 = r)
    (k2 : Kd.have_ g hv ∈ ks) (k4 : Kd.refs r rf ∈ ks) :
    Pk Real PR S w0 ((w.setCell ⟨r, i * 2, none⟩ (.int .i64 x)).setCell ⟨r, i * 2 + 1, none⟩ (.int .u32 z)) d p s n m q [Kd.refs r (updR rf i (x, z)), Kd.have_ g hv] := by
  refine hk.stored2 D P (Kd.refs r (updR rf i (x, z))) ⟨_, k4, rfl⟩ (fun y hy => ⟨_, k4, hy⟩) (fun L hL => ?_) (by omega) (RefsIn.set (hk.at_ k4) hi)
  simp only [List.mem_cons, List.not_mem_nil, or_false] at hL
  subst hL
  refine ⟨k2, fun hb => ?_⟩
  have hh : HaveIn w g hv := hk.at_ k2
  obtain ⟨arr, _, _, h3⟩ := hh
  rcases hb with hb | ⟨i', A', c', l', ad', hi', he, hA', hb⟩
  · omega
  · have := ((h3 i' hi').2 A' c' l' he).2 ad' hA'
    omega
/-- what a reading step loads -/
theorem Pk.seen {i g r h : Nat} {hv : Hv} {rf : Nat → Int × Int} {A : Option Addr} {c z : Nat} {l : List Int} {x : Int} {cs : List Value} (hk : Pk Real PR S w0 w d p s n m q ks) (hi : i < 6)
    (k1 : Kd.have_ h hv ∈ ks) (k2 : Kd.refs r rf ∈ ks) (k3 : Kd.cells g 35 (Value.int .i64 x :: cs).toArray ∈ ks) (hx : hv i = some (A, c, l)) (hr : rf i = ((i : Int), (z : Int))) :
    w.cell? ⟨h, i, none⟩ = some (.slice A 256 c) ∧ w.cell? ⟨r, i * 2, none⟩ = some (.int .i64 (i : Int)) ∧ w.cell? ⟨r, i * 2 + 1, none⟩ = some (.int .u32 (z : Int)) ∧ w.cell? ⟨g, 0, none⟩ = some (.int .i64 x) := by
  have h1 : HaveIn w h hv := hk.at_ k1
  have h2 : RefsIn w r rf := hk.at_ k2
  have h3 : Blk w g 35 (Value.int .i64 x :: cs).toArray := hk.at_ k3
  have e1 := h1.cell hi
  rw [hx] at e1
  have e2 := h2.cells hi
  rw [hr] at e2
  exact ⟨e1, e2.1, e2.2, h3.cell 0⟩
/-- the bytes of a place of 'have', by themselves -/
theorem Pk.bring {i h : Nat} {hv : Hv} {A : Option Addr} {c : Nat} {l : List Int} (hk : Pk Real PR S w0 w d p s n m q ks) (hi : i < 6) (k1 : Kd.have_ h hv ∈ ks) (hx : hv i = some (A, c, l)) : Pk Real PR S w0 w d p s n m q (Kd.byt A 256 c l :: ks) := by
  refine hk.swapKd _ (fun L hL => ?_)
  rcases List.mem_cons.1 hL with rfl | hL
  · refine ⟨_, k1, fun hc => ?_, fun y hy => ?_⟩
    · have hc' : HaveIn w h hv := hc
      obtain ⟨arr, _, _, h3⟩ := hc'
      exact ((h3 i hi).2 A c l hx).1
    · obtain ⟨ad, ha, _, hb⟩ := hy
      exact .inr ⟨i, A, c, l, ad, hi, hx, ha, hb⟩
  · exact ⟨L, hL, fun h => h, fun _ h => h⟩
end
end Go.Proofs.YtomhmodgfldlpaaDoor
