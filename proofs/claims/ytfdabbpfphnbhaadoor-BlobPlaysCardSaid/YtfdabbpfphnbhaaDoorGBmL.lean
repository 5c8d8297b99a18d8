/- Package blob keeps what is asked of it, over whatever device. -/
import Derived.Test.YtfdabbpfphnbhaaDoorGBmK
namespace Go.Proofs.YtfdabbpfphnbhaaDoor
open Go.RowKit

theorem areaOk {Real : World → Nat → DSt → (Nat → Prop) → Prop} (D : DevOk Real) : AreaOk Real AReal where
  kept := AReal.kept
  lt := AReal.lt
  open_ := fun S d n q s F A k c l w hS hr hu hq h0 hn hl hk hi => (bopen_any D S d n q s F A k c l w hS hr hu hq h0 hn hl hk hi).mono (by
    rintro e w' ⟨hb, ⟨ho, g, u, he, ha, hg, hu⟩ | ⟨ho, he⟩⟩
    · exact ⟨hb, .inl ⟨ho, g, ARw g u, he, ⟨u, 0, ha, rfl⟩, fun k hk => hk.elim (fun e => e ▸ hg) (fun e => e ▸ hu)⟩⟩
    · exact ⟨hb, .inr ⟨ho, he⟩⟩)
  put := fun S d g n q s a F G A m c l w0 w h _ hm hl hA hy => by
    obtain ⟨u, nx, ha, rfl⟩ := h.ar
    refine (bput_any D S d g u n nx q s a F A m c l w0 w h ha hm hl hA hy).mono ?_
    rintro e w' (⟨k, hk, he, hb⟩ | ⟨hno, ⟨v, hv, he⟩, hb⟩)
    · exact .inl ⟨k, hk, he, hb.upd h.ap h.ar.lt⟩
    · exact .inr ⟨hno, ⟨_, _, v, hv, he⟩, hb.upd h.ap h.ar.lt⟩
  putLong := fun S d g n q s a F G A m c w0 w h hm hmx => by
    obtain ⟨u, nx, ha, rfl⟩ := h.ar
    refine (bputLong_any D S d g u n nx q s a F A m c w0 w h ha hm hmx).mono ?_
    rintro e w' ⟨⟨v, hv, he⟩, hb⟩
    exact ⟨⟨_, _, v, hv, he⟩, hb.upd h.ap h.ar.lt⟩
  low := fun S d g n q s a F G A m c l below w0 w h _ hm hl hA hy _ _ => by
    obtain ⟨u, nx, ha, rfl⟩ := h.ar
    refine (blow_any D S d g u n nx q s a F A m c l below w0 w h ha hm hl hA hy).mono ?_
    rintro e w' (⟨k, hk, hbl, he, hb⟩ | ⟨hno, he, hb⟩)
    · exact .inl ⟨k, hk, hbl, ⟨_, he, rfl⟩, hb.upd h.ap h.ar.lt⟩
    · exact .inr ⟨hno, ⟨_, he⟩, hb.upd h.ap h.ar.lt⟩
  lowLong := fun S d g n q s a F G A m c below w0 w h hm hmx _ _ => by
    obtain ⟨u, nx, ha, rfl⟩ := h.ar
    refine (blowLong_any D S d g u n nx q s a F A m c below w0 w h ha hm hmx).mono ?_
    rintro e w' ⟨⟨v, hv, he⟩, hb⟩
    exact ⟨⟨_, _, _, v, hv, he⟩, hb.upd h.ap h.ar.lt⟩
  get := fun S d g n q s a F G k z w0 w h hk _ => by
    obtain ⟨u, nx, ha, rfl⟩ := h.ar
    exact bget_any D S d g u n nx q k z s a F w0 w h ha hk
  good := fun S d g n q s a F G k z w0 w h hk _ => by
    obtain ⟨u, nx, ha, rfl⟩ := h.ar
    exact bgood_any D S d g u n nx q k z s a F w0 w h ha hk
  drop := fun S d g n q s a F G k z w0 w h hk _ => by
    obtain ⟨u, nx, ha, rfl⟩ := h.ar
    refine (bdrop_any D S d g u n nx q k z s a F w0 w h ha hk).mono ?_
    rintro e w' ⟨he, hb⟩
    exact ⟨he, hb.upd h.ap h.ar.lt⟩
  done := fun S d g n q s a F G w0 w h => by
    obtain ⟨u, nx, ha, rfl⟩ := h.ar
    refine (bdone_any d g u n nx a w ha h.n1).mono ?_
    rintro e w' ⟨he, ha', ho⟩
    refine ⟨he, (show BwOut Real w d g u n nx s a.done F w' from ⟨F, D.kept h.real (ho.kept (D.lt h.real) (fun i hi e => h.ap i hi (.inr e))), ha', ho.mono (fun i hi => .inl (.inr (.inr hi))), fun i hi => .inl hi⟩).upd h.ap h.ar.lt⟩
  used := fun S d g n q s a F G w0 w h => by
    obtain ⟨u, nx, ha, rfl⟩ := h.ar
    refine (bused_any d g u n nx a w ha h.ok h.n0 h.n1).mono ?_
    rintro e w' ⟨v, rfl, ho, hb⟩
    obtain ⟨A, c, rfl, hs⟩ := ho.form
    refine ⟨hb, A, _, c, rfl, hs, fun ad he => ?_⟩
    subst he
    rcases ho.2 with ⟨hv, _⟩ | ⟨g', cap, cur, hv, hg, _⟩
    · cases hv
    · cases hv; exact hg
  left := fun S d g n q s a F G w0 w h => by
    obtain ⟨u, nx, ha, rfl⟩ := h.ar
    refine (bleft_any d g u n nx a w ha h.n0 h.n1).mono ?_
    rintro e w' ⟨he, rfl⟩
    exact ⟨he, Below.refl _ _⟩
end Go.Proofs.YtfdabbpfphnbhaaDoor
