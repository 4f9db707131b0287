/- Intervals in any form: how they count. -/
import Derived.Test.YtgnngldlgcdnfaaGreatDoorRga
namespace Go.Proofs.YtgnngldlgcdnfaaGreatDoor
open Go Go.RowKit

/-- The struct counts as the interval x; b: it is an interval in normal form. -/
structure ElI (w : World) (r : RI) (x : IV) (b : Bool) : Prop where
  vc : ∀ w', Ext w w' → Calls Tryz.prog 116 #[r.v] w' fun e w'' => e = .returned (.bool b) ∧ Ext w' w''
  cn : b = true → CnI w r x
theorem ElI.ext {w w' : World} {r : RI} {x : IV} {b : Bool} (h : ElI w r x b) (e : Ext w w') : ElI w' r x b := ⟨fun w'' e' => h.vc w'' (e.trans e'), fun q => (h.cn q).ext e⟩
theorem ElI.of {w : World} {r : RI} {x : IV} (h : CnI w r x) : ElI w r x true := by
  refine ⟨fun w' e => ?_, fun _ => h⟩
  have k := h.ext e
  have v1 := fun w'' (z : Ext w' w'') => valid_any x.lo.neg r.lo.A (len x.lo.m) r.lo.c x.lo.den (dg x.lo.m) w'' (k.lo.rd.ext z) (fun i _ => dg_lt _ _) (by have := h.el; omega)
  have v2 := fun w'' (z : Ext w' w'') => valid_any x.hi.neg r.hi.A (len x.hi.m) r.hi.c x.hi.den (dg x.hi.m) w'' (k.hi.rd.ext z) (fun i _ => dg_lt _ _) (by have := h.eh; omega)
  rw [vld_ok h.lo.ok] at v1
  rw [vld_ok h.hi.ok] at v2
  have d1 := k.lo.dy; have d2 := k.hi.dy
  rw [h.lo.neg, h.lo.n, h.lo.den] at d1
  rw [h.hi.neg, h.hi.n, h.hi.den] at d2
  have hh := ivalid_both v1 v2 _ (fun w'' z => cmp_any (d1.ext z) (d2.ext z))
  rw [decide_eq_true ((cmp_le h.lo.ok h.hi.ok).2 h.le)] at hh
  show Calls _ _ #[iv r.lo.neg r.lo.A r.lo.n r.lo.c r.lo.den r.hi.neg r.hi.A r.hi.n r.hi.c r.hi.den] _ _
  rw [h.lo.neg, h.lo.n, h.lo.den, h.hi.neg, h.hi.n, h.hi.den]
  exact hh
end Go.Proofs.YtgnngldlgcdnfaaGreatDoor
