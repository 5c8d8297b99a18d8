/- Package dir keeps what is asked of a directory. -/
import Derived.Test.YtcjiimfgmmgifaaDoorGDrH
import Derived.Test.YtcjiimfgmmgifaaDoorGDrIf
namespace Go.Proofs.YtcjiimfgmmgifaaDoor
open Go.RowKit Go.Shelf Go.Sort

theorem dirOk : DirOk DirR where
  stays := DirR.stays
  zero := fun w => ⟨⟨.slice none 0 0, Blk.new w _ _, EOwn.nil _ _, fun k hk => by cases hk⟩, rfl, fun k hk => by subst hk; simp, List.Pairwise.nil⟩
  clone := fun h hD => dirClone_any h (by omega)
  len := fun h => dirLen_any h
  add := fun S e {_ _ _ _} hS h hD _ => dirAdd_any S e hS h (by omega)
  del := fun s {_ _ _ _} h hD => dirDel_any s h (by omega)
  set := fun s e {_ _ _ _} h hD _ => dirSet_any s e h (by omega)
  all := fun h hD => dirAll_any h (by omega)
  from_ := fun a n {_ _ _ _} h hD _ _ => dirFrom_any a n h (by omega)
  get := fun s {_ _ _ _} h hD => dirGet_any s h (by omega)
end Go.Proofs.YtcjiimfgmmgifaaDoor
