/- Package path's Text, the document's, strings.Join and package path's Join. -/
import Derived.Test.YtjoajjndopfbmaaDoorGPaD
namespace Go.Proofs.YtjoajjndopfbmaaDoor
open Go.RowKit Go.Shelf Go.Lib

/-- the parts with slashes between -/
def jn (l : List Nam) : Nam := Lib.join l [47]
theorem jn_nil : jn [] = [] := rfl
theorem jn_one (x : Nam) : jn [x] = x := Lib.join_one x [47]
theorem jn_snoc (l : List Nam) (x : Nam) (h : l ≠ []) : jn (l ++ [x]) = jn l ++ 47 :: x := by
  rcases l with _ | ⟨y, l⟩
  · exact absurd rfl h
  · unfold jn
    rw [List.cons_append, Lib.join_cons, Lib.join_cons]
    simp [Lib.joinTail]
theorem jn_len : ∀ (l : List Nam), (∀ x ∈ l, x.length ≤ 1000) → (jn l).length ≤ 1001 * l.length := by
  intro l
  rcases l with _ | ⟨y, l⟩
  · intro _; exact Nat.zero_le _
  · intro h
    unfold jn
    rw [Lib.join_length]
    have : ∀ m : List Nam, (∀ x ∈ m, x.length ≤ 1000) → Lib.lens m ≤ 1000 * m.length := by
      intro m
      induction m with
      | nil => intro _; exact Nat.le_refl _
      | cons z m ih =>
        intro hm
        have h1 := ih (fun x hx => hm x (by simp [hx]))
        have h2 := hm z (by simp)
        unfold Lib.lens at h1 ⊢
        rw [List.map_cons, List.sum_cons, List.length_cons]
        omega
    have h3 := this (y :: l) h
    simp only [List.length_cons, List.length_nil] at h3 ⊢
    omega
theorem st_addr {w : World} {B n c : Nat} {ad : Addr} {l : List Nam} (h : St w B (some ad) n c l) (hn : 0 < n) : ad = ⟨ad.block, ad.off, none⟩ ∧ ad.block < B := by
  obtain ⟨ad', x, h1, h2, _, h3⟩ := St.at h hn
  cases h1
  have h4 : ad.spot = none := World.cell?_spot (v := encStr x) (by simpa [Addr.add] using h3)
  refine ⟨?_, h2⟩
  cases ad
  simp at h4
  subst h4
  rfl
theorem encStr_of (x : Nam) : encStr x = .string ⟨x.toArray⟩ := rfl
theorem join_any (A : Option Addr) (n c B : Nat) (l : List Nam) (w : World) (h : St w B A n c l) (hB : B ≤ w.heap.size) (hn : n ≤ 1000) (hx : ∀ x ∈ l, x.length ≤ 1000) :
    Calls Tryd.prog 25 #[.slice A n c, .string sl1] w fun e w' => e = .returned (encStr (jn l)) ∧ Below w.heap.size w w' := by
  rcases Nat.eq_zero_or_pos n with rfl | hp
  · obtain rfl : l = [] := List.eq_nil_of_length_eq_zero h.size
    refine (Any.strings_Join_none Tryd.lays156 Tryd.Builder_Extra_156 A c sl1 w).mono fun e w' ⟨he, hw⟩ => ⟨?_, hw ▸ Below.refl _ _⟩
    rw [he]; rfl
  · rcases A with _ | ad
    · have h1 := h.nil rfl
      have h2 := h.cap
      omega
    · obtain ⟨ha, hb⟩ := st_addr h hp
      have hl : (l.map fun x => (⟨x.toArray⟩ : ByteArray)).length = n := by rw [List.length_map]; exact h.size
      have hm : ((l.map fun x => (⟨x.toArray⟩ : ByteArray)).map (·.data.toList)) = l := by rw [List.map_map]; exact List.map_id'' (fun x => by simp) l
      have hj := jn_len l hx
      have hls := h.size
      have := Any.strings_Join Tryd.lays156 Tryd.Builder_Extra_156 ad.block ad.off c (l.map fun x => (⟨x.toArray⟩ : ByteArray)) sl1 w
        (by
          intro j x hj
          rw [List.getElem?_map, Option.map_eq_some_iff] at hj
          obtain ⟨y, hy, rfl⟩ := hj
          have h3 := (h.at_ ad rfl hp).2 j (encStr y) (Tx_get hy)
          rw [ha] at h3
          rcases Nat.eq_zero_or_pos j with rfl | hj0
          · exact h3
          · have e : (⟨ad.block, ad.off, none⟩ : Addr).add j = ⟨ad.block, ad.off + j, none⟩ := by unfold Addr.add; rw [if_neg (by omega)]
            rw [e] at h3
            exact h3)
        (by omega) (by omega) (by rw [hl]; exact h.cap) (by
          rw [hm]
          show (jn l).length ≤ _
          omega)
      rw [hm, hl, ← ha] at this
      exact this

/-- a path's text -/
def txt (l : List Nam) (s : Bool) : Nam := 47 :: (jn l ++ if s then [47] else [])
theorem ba_app (x y : Nam) : (⟨x.toArray⟩ : ByteArray) ++ ⟨y.toArray⟩ = ⟨(x ++ y).toArray⟩ := by
  apply ByteArray.ext
  simp
theorem str_app (x y : Nam) : (Value.string ((⟨x.toArray⟩ : ByteArray) ++ ⟨y.toArray⟩)) = encStr (x ++ y) := congrArg Value.string (ba_app x y)
theorem str_app3 (x y z : Nam) : (Value.string ((⟨x.toArray⟩ : ByteArray) ++ ⟨y.toArray⟩ ++ ⟨z.toArray⟩)) = encStr (x ++ y ++ z) := by
  rw [ba_app, ba_app]
set_option maxHeartbeats 1000000 in
theorem text_any (A : Option Addr) (n c B : Nat) (l : List Nam) (b : Bool) (w : World) (h : St w B A n c l) (hB : B ≤ w.heap.size) (hn : n ≤ 1000) (hx : ∀ x ∈ l, x.length ≤ 1000) :
    Calls Tryd.prog 14 #[.agg #[.slice A n c, .bool b]] w fun e w' => e = .returned (encStr (txt l b)) ∧ Below w.heap.size w w' := by
  have HS := hid h
  have HX := hid hx
  have hj := jn_len l hx
  have hls := h.size
  have hjl : (jn l).length ≤ 2000000 := by omega
  clear h hx hj hls
  go_enter Tryd.func14, Tryd.ntmps14
  go_wp2_with fail
  refine (join_any A n c B l _ (HS.out.alloc hB _) (by simp [World.size_alloc]; omega) hn HX.out).mono ?_
  rintro e w1 ⟨rfl, hb⟩
  have HB := hid hb
  obtain ⟨J, hJ⟩ : ∃ J, jn l = J := ⟨_, rfl⟩
  rw [hJ] at hjl ⊢
  have HJ := hid hJ
  have c1 : w1.cell? ⟨w.heap.size, 1, none⟩ = some (.bool b) := (hb.cell (by simp [World.size_alloc])).trans (World.cell?_alloc_new _ _ _ _)
  clear hb hJ
  have HB2 := hid (show Below w.heap.size w w1 from ((Below.refl _ _).alloc (Nat.le_refl _) _).trans (HB.out.mono (by simp [World.size_alloc])))
  rcases b with _ | _
  · go_wp2
    go_ret
    refine ⟨congrArg Ending.returned ((str_app [47] J).trans ?_), HB2.out⟩
    rw [txt, HJ.out]
    simp
  · go_wp2
    go_ret
    refine ⟨congrArg Ending.returned ((str_app3 [47] J [47]).trans ?_), HB2.out⟩
    rw [txt, HJ.out]
    simp
theorem jn_take {l : List Nam} {k : Nat} {x : Nam} (h : l[k]? = some x) (hk : 0 < k) : jn (l.take (k + 1)) = jn (l.take k) ++ 47 :: x := by
  rw [takeN h]
  apply jn_snoc
  intro h0
  have h1 := (List.getElem?_eq_some_iff.1 h).1
  have := congrArg List.length h0
  rw [List.length_take, List.length_nil] at this
  omega
set_option maxRecDepth 100000 in
set_option maxHeartbeats 1000000 in
theorem refText_any (A : Option Addr) (n c B : Nat) (l : List Nam) (b : Bool) (w : World) (h : St w B A n c l) (hB : B ≤ w.heap.size) (hn : n ≤ 1000) (hx : ∀ x ∈ l, x.length ≤ 1000) :
    Calls Tryd.prog 15 #[.agg #[.slice A n c, .bool b]] w fun e w' => e = .returned (encStr (txt l b)) ∧ Below w.heap.size w w' := by
  have HS := hid (h.alloc hB (.cells #[.slice A n c, .bool b] 30))
  have HX := hid hx
  have HN := hid h.size
  have HB := hid (show Below w.heap.size w (w.alloc (.cells #[.slice A n c, .bool b] 30)) from (Below.refl _ _).alloc (Nat.le_refl _) _)
  clear h hx
  go_enter Tryd.func15, Tryd.ntmps15
  go_wp2
  obtain ⟨w1, hw1⟩ : ∃ w1, w.alloc (.cells #[.slice A n c, .bool b] 30) = w1 := ⟨_, rfl⟩
  have c0 : w1.cell? ⟨w.heap.size, 0, none⟩ = some (.slice A n c) := by rw [← hw1]; exact World.cell?_alloc_new _ _ _ _
  have c1 : w1.cell? ⟨w.heap.size, 1, none⟩ = some (.bool b) := by rw [← hw1]; exact World.cell?_alloc_new _ _ _ _
  rw [hw1] at HS HB ⊢
  clear hw1
  go_loopg [3, 4] n (fun g s3 s4 wr => ∃ i : Nat, i ≤ n ∧ n - i ≤ g ∧ s3 = encStr (47 :: jn (l.take i)) ∧ s4 = .int .i64 (i : Int) ∧ Hid (wr = w1))
  case atStart => exact ⟨0, Nat.zero_le _, Nat.le_refl _, rfl, rfl, rfl⟩
  case round =>
    obtain ⟨i, hi, hig, rfl, rfl, HW⟩ := hrel
    obtain rfl := HW.out
    by_cases hlt : i < n
    · obtain ⟨ad, x, rfl, hbl, hx, hc⟩ := St.at HS.out hlt
      have hxl := HX.out x (List.mem_of_getElem? hx)
      have hjl := jn_len (l.take i) (fun y hy => HX.out y (List.mem_of_mem_take hy))
      rw [List.length_take] at hjl
      have hjl2 : (jn (l.take i)).length ≤ 2000000 := by omega
      clear hjl hbl
      by_cases hi0 : i = 0
      · subst hi0
        have HX1 := hid (show jn (l.take (0 + 1)) = x by rw [takeN hx]; exact jn_one x)
        have hc0 : wr.cell? ad = some (encStr x) := hc
        clear hx hc
        rw [List.take_zero, jn_nil]
        go_wp2
        go_roundg (n - 1)
        case measure => omega
        case rel => exact ⟨1, by omega, Nat.le_refl _, (str_app [47] x).trans (by rw [show jn (l.take 1) = x from HX1.out]; rfl), rfl, rfl⟩
      · have HX1 := hid (jn_take hx (by omega))
        have g0 : decide ((0 : Int) < (i : Int)) = true := decide_eq_true (by omega)
        obtain ⟨J, hJ⟩ : ∃ J, jn (l.take i) = J := ⟨_, rfl⟩
        rw [hJ] at hjl2 HX1 ⊢
        clear hx hJ
        go_wp2
        go_roundg (n - (i + 1))
        case measure => omega
        case rel => exact ⟨i + 1, by omega, Nat.le_refl _, (str_app3 (47 :: J) [47] x).trans (by rw [HX1.out]; simp), by go_num, rfl⟩
    · obtain rfl : i = n := by omega
      have hfull : l.take i = l := List.take_of_length_le (by rw [HN.out]; exact Nat.le_refl _)
      have hj := jn_len l HX.out
      have hjl : (jn l).length ≤ 2000000 := by have := HN.out; omega
      rw [hfull]
      obtain ⟨J, hJ⟩ : ∃ J, jn l = J := ⟨_, rfl⟩
      rw [hJ] at hjl ⊢
      have HJ := hid hJ
      clear hJ hfull hj
      rcases b with _ | _
      · go_wp2
        go_ret
        exact ⟨congrArg Ending.returned (by rw [txt, HJ.out]; simp), HB.out⟩
      · go_wp2
        go_ret
        refine ⟨congrArg Ending.returned ((str_app (47 :: J) [47]).trans ?_), HB.out⟩
        rw [txt, HJ.out]
        simp
end Go.Proofs.YtjoajjndopfbmaaDoor
