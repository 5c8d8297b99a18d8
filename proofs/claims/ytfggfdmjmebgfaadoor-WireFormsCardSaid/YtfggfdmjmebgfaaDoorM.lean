/- WirePuts answers true where its bytes and its text are of a hundred bytes at the most. Conditions: the slice reads, the errors lie in their variables. -/
import Derived.Test.YtfggfdmjmebgfaaDoorL
namespace Go.Proofs.YtfggfdmjmebgfaaDoor
open Go.RowKit

theorem Rdr.lt {w : World} {g n c : Nat} {A : Option Addr} {l : List Int} {p : Int} {ev : Value} (h : Rdr w g A n c l p ev) : g < w.heap.size := h.blk.lt

theorem Made.get {w w' : World} {l : List Int} {e : Ending} (h : Made w l e w') : ∃ A m c, e = .returned (.slice A m c) ∧ Sl w' w'.heap.size A m c l ∧ Below w.heap.size w w' := by
  obtain ⟨A, c, he, _, hs, hb⟩ := h.out
  exact ⟨A, _, c, he, hs, hb⟩

set_option maxRecDepth 100000 in
set_option maxHeartbeats 4000000 in
theorem wirePuts_near (A : Option Addr) (n c : Nat) (x : Int) (s : ByteArray) (l : List Int) (aR aE aS : Addr) (w : World) (h : Sl w w.heap.size A n c l) (hE : Errs w aR aE aS) (h3 : 3 ≤ w.heap.size)
    (hn : n ≤ 100) (hs : s.size ≤ 100) (h0 : -9223372036854775808 ≤ x) (h1 : x ≤ 9223372036854775807) :
    Calls Tryd.prog 3 #[.slice A n c, .int .i64 x, .string s] w (Yes w) := by
  have d0 : decide ((100 : Int) < n) = false := by simp; omega
  have d1 : decide ((100 : Int) < s.size) = false := by simp; omega
  have HX := hid hE
  have HS := hid h
  clear h hE
  go_enter Tryd.func3, Tryd.ntmps3
  go_wp2_with fail
  refine (first_any w).mono ?_
  rintro e w1 ⟨rfl, hb⟩
  have HB := hid hb
  have HS := hid (HS.out.on hb)
  clear hb
  go_wp2_with fail
  refine (bytes_any A n c l _ HS.out (by omega)).mono ?_
  rintro e w2 hm
  obtain ⟨A2, m2, c2, rfl, hs2, hb⟩ := hm.get
  have HS2 := hid hs2
  have HS := hid (HS.out.on hb)
  have HB := hid (HB.out.trans (hb.mono HB.out.size))
  clear hb hs2 hm
  go_wp2_with fail
  refine (put_any A n c x l _ HS.out (by omega) h0 h1).mono ?_
  rintro e w3 hm
  obtain ⟨A3, m3, c3, rfl, hs3, hb⟩ := hm.get
  have HS3 := hid hs3
  have HS2 := hid (HS2.out.on hb)
  have HS := hid (HS.out.on hb)
  have HB := hid (HB.out.trans (hb.mono HB.out.size))
  clear hb hs3 hm
  go_wp2_with fail
  refine (putText_any A n c s l _ HS.out (by omega) (by omega)).mono ?_
  rintro e w4 hm
  obtain ⟨A4, m4, c4, rfl, hs4, hb⟩ := hm.get
  have HS4 := hid hs4
  have HS3 := hid (HS3.out.on hb)
  have HS2 := hid (HS2.out.on hb)
  have HS := hid (HS.out.on hb)
  have HB := hid (HB.out.trans (hb.mono HB.out.size))
  clear hb hs4 hm
  go_wp2_with fail
  refine (put_any none 0 0 x [] _ (Sl.empty _ _) (by omega) h0 h1).mono ?_
  rintro e w5 hm
  obtain ⟨A5, m5, c5, rfl, hs5, hb⟩ := hm.get
  have HS5 := hid hs5
  have HS4 := hid (HS4.out.on hb)
  have HS3 := hid (HS3.out.on hb)
  have HS2 := hid (HS2.out.on hb)
  have HS := hid (HS.out.on hb)
  have HB := hid (HB.out.trans (hb.mono HB.out.size))
  clear hb hs5 hm
  go_wp2_with fail
  refine (putText_any A5 m5 c5 s ([] ++ enc x) _ HS5.out (by have := HS5.out.len; have := enc_len x; simp at *; omega) (by omega)).mono ?_
  rintro e w6 hm
  obtain ⟨A6, m6, c6, rfl, hs6, hb⟩ := hm.get
  have HS6 := hid hs6
  have HS4 := hid (HS4.out.on hb)
  have HS3 := hid (HS3.out.on hb)
  have HS2 := hid (HS2.out.on hb)
  have HS := hid (HS.out.on hb)
  have HB := hid (HB.out.trans (hb.mono HB.out.size))
  clear hb hs6 hm
  go_wp2_with fail
  refine (newReader_any A6 m6 c6 ([] ++ enc x ++ enc s.size ++ str s) _ HS6.out (by have := HS6.out.len; have := enc_len x; have := enc_len (s.size : Int); simp [str_len] at *; omega)).mono ?_
  rintro e w7 ⟨g, A7, c7, rfl, hg, hr, hb, _⟩
  have HR := hid hr
  have HG := hid (show 3 ≤ g by have := HB.out.size; omega)
  have HGw := hid (show w.heap.size ≤ g by have := HB.out.size; omega)
  have HS4 := hid (HS4.out.on hb)
  have HS3 := hid (HS3.out.on hb)
  have HS2 := hid (HS2.out.on hb)
  have HS := hid (HS.out.on hb)
  have HB := hid (HB.out.trans (hb.mono HB.out.size))
  clear hb hg hr
  go_wp2_with fail
  refine (refPut_any A n c x l _ HS.out (by omega) h0 h1).mono ?_
  rintro e w8 hm
  obtain ⟨A8, m8, c8, rfl, hs8, hb⟩ := hm.get
  have HS8 := hid hs8
  have HR := hid (HR.out.on hb)
  have HS4 := hid (HS4.out.on hb)
  have HS3 := hid (HS3.out.on hb)
  have HS2 := hid (HS2.out.on hb)
  have HS := hid (HS.out.on hb)
  have HB := hid (HB.out.trans (hb.mono HB.out.size))
  clear hb hs8 hm
  go_wp2_with fail
  refine (same_any A3 A8 m3 c3 m8 c8 (l ++ enc x) (l ++ enc x) _ _ _ HS3.out HS8.out).mono ?_
  rintro e w9 ⟨rfl, k9, rfl⟩
  rw [same_self]
  go_wp2_with fail
  refine (refPutText_any A n c s l _ (HS.out.drewN k9) (by omega) (by omega)).mono ?_
  rintro e w10 hm
  obtain ⟨A10, m10, c10, rfl, hs10, hb⟩ := hm.get
  have HS10 := hid hs10
  have HR := hid ((HR.out.drewN k9).on hb)
  have HS4 := hid (Sl.on (HS4.out.drewN k9) hb)
  have HS2 := hid (Sl.on (HS2.out.drewN k9) hb)
  have HS := hid (Sl.on (HS.out.drewN k9) hb)
  have HB := hid ((below_drewN HB.out k9).trans (hb.mono HB.out.size))
  clear hb hs10 hm
  go_wp2_with fail
  refine (same_any A4 A10 m4 c4 m10 c10 (l ++ enc s.size ++ str s) (l ++ enc s.size ++ str s) _ _ _ HS4.out HS10.out).mono ?_
  rintro e w11 ⟨rfl, k11, rfl⟩
  rw [same_self]
  go_wp2_with fail
  refine (same_any A A2 n c m2 c2 l l _ _ _ (HS.out.drewN _) (HS2.out.drewN _)).mono ?_
  rintro e w12 ⟨rfl, k12, rfl⟩
  rw [same_self]
  have HL := hid (show Byt ([] ++ enc x ++ enc s.size ++ str s) from ((Byt.nil.append (enc_byt h0 h1)).append (enc_byt (by omega) (by omega))).append (str_byt s))
  have HN := hid (show m6 = (enc x).length + (enc s.size).length + s.size by have := HS6.out.len; simp [str_len] at this; omega)
  have HN6 := hid (show m6 ≤ 100000 by have := HN.out; have := enc_len x; have := enc_len (s.size : Int); omega)
  have HR1 := hid (show scan (List.drop 0 ([] ++ enc x ++ enc s.size ++ str s)) 0 0 = (0, zz x, (enc x).length) by
    have := scan_num h0 h1 (enc s.size ++ str s)
    simpa using this)
  have HR2 := hid (show scan (List.drop (enc x).length ([] ++ enc x ++ enc s.size ++ str s)) 0 0 = (0, zz s.size, ((enc x).length + (enc s.size).length) - (enc x).length) by
    have := scan_num (n := (s.size : Int)) (by omega) (by omega) (str s)
    simpa using this)
  have HR3 := hid (show strOfNums (List.take s.size (List.drop ((enc x).length + (enc s.size).length) ([] ++ enc x ++ enc s.size ++ str s))) = s by
    have e : List.drop ((enc x).length + (enc s.size).length) ([] ++ enc x ++ enc s.size ++ str s) = str s := by simp [List.append_assoc]
    rw [e, List.take_of_length_le (by rw [str_len]; exact Nat.le_refl _), str_of])
  have HX := hid (show Errs w10 aR aE aS from HX.out.on h3 HB.out)
  have hxx : (x == x) = true := by simp
  go_wp2_with fail
  refine (num_ok (p := 0) (aR := aR) (aE := aE) (aS := aS) (-9223372036854775808) 9223372036854775807 (HR.out.drewN _) (HX.out.drewN _) HL.out HN6.out HR1.out (by have := HN.out; omega) (by rw [unzz_zz]; exact h0) (by rw [unzz_zz]; exact h1)).mono ?_
  rw [unzz_zz, Nat.zero_add]
  rintro e w13 ⟨rfl, hr, hg⟩
  have HR := hid hr
  have HX := hid ((HX.out.drewN _).only HG.out hg)
  have HB := hid ((below_drewN HB.out _).trans (below_only hg HGw.out HB.out.size))
  clear hr hg
  go_wp2_with fail
  refine (text_ok (p := (enc x).length) (q := (enc x).length + (enc s.size).length) (m := s.size) 100 HR.out HX.out HL.out HN6.out HR2.out (by omega) (unzz_zz _) (by omega) (by have := HN.out; omega)).mono ?_
  rw [HR3.out]
  rintro e w14 ⟨rfl, hr, hg⟩
  have HR := hid hr
  have HB := hid (HB.out.trans (below_only hg HGw.out HB.out.size))
  clear hr hg
  go_wp2_with fail
  refine (left_any HR.out (by have := HN.out; omega) HN6.out).mono ?_
  rw [show m6 - ((enc x).length + (enc s.size).length + s.size) = 0 by have := HN.out; omega]
  rintro e w15 ⟨rfl, k15, rfl⟩
  go_wp2_with fail
  refine (err_any (HR.out.drewN _)).mono ?_
  rintro e w16 ⟨rfl, rfl⟩
  go_wp2
  go_ret
  exact ⟨rfl, below_drewN HB.out _⟩
end Go.Proofs.YtfggfdmjmebgfaaDoor
