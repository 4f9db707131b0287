/- The law IntervalBounds. -/
import Derived.Test.YtaljininilaemaaDoorIvz
import Derived.Test.YtaljininilaemaaDoorIvf
import Derived.Test.YtaljininilaemaaDoorIvin
import Derived.Test.YtaljininilaemaaDoorIvme
import Derived.Deep.RegionHeld3
import Derived.Deep.DeepCutAuto
namespace Go.Proofs.YtaljininilaemaaDoor
open Go.RowKit
attribute [local go_sem ↓] Go.wp_at_zero Go.wp_at_succ

/-- Six cells. -/
def C6 (w : World) (p : Nat) (a : DV) (A : Option Addr) (c : Nat) (b : DV) (B : Option Addr) (e : Nat) : Prop := w.cell? ⟨p, 0, none⟩ = some (.bool a.neg) ∧ w.cell? ⟨p, 1, none⟩ = some (.slice A (len a.m) c) ∧ w.cell? ⟨p, 2, none⟩ = some (I a.den) ∧ w.cell? ⟨p, 3, none⟩ = some (.bool b.neg) ∧ w.cell? ⟨p, 4, none⟩ = some (.slice B (len b.m) e) ∧ w.cell? ⟨p, 5, none⟩ = some (I b.den)
theorem C6.ext {w w' : World} {p : Nat} {a : DV} {A : Option Addr} {c : Nat} {b : DV} {B : Option Addr} {e : Nat} (h : C6 w p a A c b B e) (x : Ext w w') : C6 w' p a A c b B e := by
  have hl := World.block_lt_of_cell? w _ h.1
  obtain ⟨h0, h1, h2, h3, h4, h5⟩ := h
  exact ⟨(x.old.1 _ _ hl).trans h0, (x.old.1 _ _ hl).trans h1, (x.old.1 _ _ hl).trans h2, (x.old.1 _ _ hl).trans h3, (x.old.1 _ _ hl).trans h4, (x.old.1 _ _ hl).trans h5⟩
theorem two6 {w w1 : World} {u0 u1 u2 u3 u4 u5 v0 v1 v2 v3 v4 v5 : Value} {t t' : TypeId} (hx : Ext ((w.alloc (.cells #[u0, u1, u2, u3, u4, u5] t)).alloc (.cells #[v0, v1, v2, v3, v4, v5] t')) w1) : B6 w1 w.heap.size u0 u1 u2 u3 u4 u5 ∧ B6 w1 (w.heap.size + 1) v0 v1 v2 v3 v4 v5 := by
  have s1 := ((B6.new w u0 u1 u2 u3 u4 u5 t).ext (Ext.alloc _ (.cells #[v0, v1, v2, v3, v4, v5] t'))).ext hx
  have s2 := (B6.new (w.alloc (.cells #[u0, u1, u2, u3, u4, u5] t)) v0 v1 v2 v3 v4 v5 t').ext hx
  rw [show (w.alloc (.cells #[u0, u1, u2, u3, u4, u5] t)).heap.size = w.heap.size + 1 by simp] at s2
  exact ⟨s1, s2⟩
theorem two6d {w w1 : World} {u0 u1 u2 u3 u4 u5 v0 v1 v2 v3 v4 v5 : Value} {t t' : TypeId} (hx : Ext ((w.alloc (.cells #[u0, u1, u2, u3, u4, u5] t)).alloc (.cells #[v0, v1, v2, v3, v4, v5] t')).drew w1) : B6 w1 w.heap.size u0 u1 u2 u3 u4 u5 ∧ B6 w1 (w.heap.size + 1) v0 v1 v2 v3 v4 v5 := two6 ((Ext.drew _).trans hx)
set_option maxHeartbeats 400000 in
theorem is_t' (k : Int) (w : World) : Calls Tryd.prog 37 #[.iface 57 (I k), I k] w fun e w' => e = .returned (.bool true) ∧ w = w' := by
  have ta := run_assert_int (P := Tryd.prog) (xT := 29) (v := I k) (w := w) Tryd.underlying57
  go_enter Tryd.func37, Tryd.ntmps37
  go_wp2
  go_ret
  exact ⟨rfl, rfl⟩

end Go.Proofs.YtaljininilaemaaDoor
