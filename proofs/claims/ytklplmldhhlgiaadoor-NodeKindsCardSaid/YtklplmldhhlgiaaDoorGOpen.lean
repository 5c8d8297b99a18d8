/- Listed errors are pointers of their own. -/
import Derived.Test.YtklplmldhhlgiaaDoorGRow
namespace Go.Proofs.YtklplmldhhlgiaaDoor
open Go.ChangeShapes Go.WideShapes Go.ChangeAt Go.RowKit

theorem Tryd.star : "*" ++ "errors.errorString" = "*errors.errorString" := by decide
theorem Tryd.row71 (u : TypeId) (h : Tryd.prog.typeName? 3 u = some "*errors.errorString") : u = 104 :=
  typeName_ptr_named (nm := "errors.errorString") (by rw [Tryd.star]; kernel_rfl) (by kernel_rfl) (by decide) u (by rw [Tryd.star]; exact h)
theorem Tryd.cells88 : Tryd.prog.cellsOf 120 = 1 := by kernel_rfl
theorem Tryd.cells9 : Tryd.prog.cellsOf 9 = 1 := by kernel_rfl
/-- an error of errors.New's making, under its variable -/
abbrev sentOf (x : String × Nat × List UInt8) : String × DataW Unit := (x.1, .iface "*errors.errorString" (.ptr (.agg [.lit (.string x.2.2)])))
set_option maxRecDepth 100000 in
theorem sents {W : World} : ∀ (L : List (String × Nat × List UInt8)) (ps : List MemPlace), DataW.LaidVars Tryd.prog W (L.map sentOf) ps →
    (∀ x ∈ L, Tryd.prog.globalNamed x.1 = some x.2.1 ∧ (Tryd.prog.globals[x.2.1]?).map (·.type) = some 36) →
    (∀ b off, MemPlace.cell b off ∈ ps → (∃ c t, W.heap[b]? = some (.cells c t (0, 0))) ∧ ∀ u v, W.cell? ⟨b, off, none⟩ = some (.iface u v) → Value.okWide Tryd.prog W .any 0 u v) → ps.Nodup →
    ∃ az : List Addr, az.length = L.length ∧ az.Nodup ∧ (∀ a ∈ az, MemPlace.cell a.block a.off ∈ ps) ∧ ∀ (i : Nat) (x : String × Nat × List UInt8) (a : Addr), L[i]? = some x → az[i]? = some a → W.cell? ⟨x.2.1, 0, none⟩ = some (.iface 104 (.pointer (some a)))
  | [], ps, _, _, _, _ => ⟨[], rfl, List.nodup_nil, (fun a h => by cases h), (fun i x a h => by simp at h)⟩
  | x :: L, ps, hv, hg, hrows, hnd => by
    obtain ⟨g0, t0, cs0, f0, p0, q0, hg0, ht0, hv0, hd0, hq, rfl⟩ := hv
    obtain ⟨hgx, htx⟩ := hg x (List.mem_cons_self)
    obtain rfl := Option.some.inj (hgx.symm.trans hg0)
    obtain rfl := Option.some.inj (htx.symm.trans ht0)
    obtain ⟨l0⟩ := cs0
    have ok0 : ∀ u v, l0 = [.iface u v] → Value.okWide Tryd.prog W .any 0 u v := fun u v e => by
      subst e
      exact (hrows x.2.1 0 (by simp [MemPlace.row])).2 u v (by simpa using World.var?_cell hg0 hv0 0)
    obtain ⟨a0, s0, rfl, _, _, _, rfl⟩ := errorString_of_trod Tryd.underlying36 Tryd.row71 Tryd.underlying104 Tryd.underlying120 rfl rfl Tryd.underlying9 Tryd.cells88 Tryd.cells9 hd0 ok0
    obtain ⟨az, h1, h2, h3, h4⟩ := sents L q0 hq (fun y hy => hg y (List.mem_cons_of_mem _ hy)) (fun b off hm => hrows b off (List.mem_append_right _ hm)) (List.Nodup.sublist (List.sublist_append_right _ _) hnd)
    have hm0 : MemPlace.cell a0.block a0.off ∈ MemPlace.row ⟨x.2.1, 0, none⟩ 1 ++ MemPlace.row a0 1 := by simp [MemPlace.row]
    refine ⟨a0 :: az, by simp [h1], List.nodup_cons.2 ⟨fun hm => ?_, h2⟩, ?_, ?_⟩
    · have := h3 a0 hm
      exact (List.nodup_append.1 hnd).2.2 _ hm0 _ this rfl
    · intro a ha
      rcases List.mem_cons.1 ha with rfl | ha
      · exact List.mem_append_left _ hm0
      · exact List.mem_append_right _ (h3 a ha)
    · intro i y a hy ha
      rcases i with _ | i
      · simp at hy ha
        subst hy ha
        simpa using World.var?_cell hg0 hv0 0
      · simp at hy ha
        exact h4 i y a hy ha

end Go.Proofs.YtklplmldhhlgiaaDoor
