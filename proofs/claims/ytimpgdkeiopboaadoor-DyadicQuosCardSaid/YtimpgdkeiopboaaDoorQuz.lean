/- Quo where the divisor counts as 0, or the denominator is none. -/
import Derived.Test.YtimpgdkeiopboaaDoorDyn
namespace Go.Proofs.YtimpgdkeiopboaaDoor
open Go.RowKit

set_option maxRecDepth 100000 in
set_option maxHeartbeats 1000000 in
theorem quo_err {w : World} {na nb : Bool} {A B : Option Addr} {n c k e : Nat} {da db : Int} (s : Int) (hs : s < 0 ∨ 65536 < s) : Calls Tryd.prog 6 #[dv na A n c da, dv nb B k e db, I s] w (DyErr 3 w) := by
  go_enter Tryd.func6, Tryd.ntmps6
  go_wp2_with (go_at_call 19; refine (isGrid_f _ _ hs).mono ?_; rintro e w' ⟨rfl, rfl⟩)
  exact bodyPost_ret (v := .tuple #[dv false none 0 0 0, .iface 46 (I 3)]) (by simp [results, Tryd.results6, go_sem]) rfl ⟨rfl, by repeat (first | exact ((Ext.alloc _ _).trans (Ext.alloc _ _)).trans (Ext.alloc _ _) | refine Ext.set ?_ (by omega) _)⟩

set_option maxRecDepth 100000 in
set_option maxHeartbeats 1000000 in
theorem quo_zero {w : World} {na nb : Bool} {A B B' : Option Addr} {n c k e e' : Nat} {da db : Int} {b : DV} (g : Nat) (hb' : Dy w nb B k e db b B' e') (hg : g ≤ 65536) (hb0 : b.m = 0) : Calls Tryd.prog 6 #[dv na A n c da, dv nb B k e db, I g] w (DyErr 8 w) := by
  have HB := Lib.hid hb'; clear hb'
  have HZ := Lib.hid (sign_0 hb0)
  clear hb0
  obtain ⟨X0, X1, X2, XE⟩ := three_boxes w (.bool na) (.slice A n c) (I da) (.bool nb) (.slice B k e) (I db) (.bool false) (.slice none 0 0) (I 0) 24 24 24
  have HX2 := Lib.hid X2; have HXE := Lib.hid XE
  clear X0 X1 X2 XE
  go_enter Tryd.func6, Tryd.ntmps6
  go_wp2_with (first
    | (go_at_call 19; refine (isGrid_t _ _ (by omega) (by omega)).mono ?_; rintro e w' ⟨rfl, rfl⟩)
    | (go_at_call 11; (with_reducible refine (sign_any (HB.out.ext HXE.out)).mono ?_); rw [HZ.out]; rintro e w2 ⟨rfl, hx⟩; obtain ⟨⟨r0, r1, r2⟩, rz⟩ := HX2.out.ext hx; have HX := Lib.hid (HXE.out.trans hx); clear hx))
  exact bodyPost_ret (v := .tuple #[dv false none 0 0 0, .iface 46 (I 8)]) (by simp [results, Tryd.results6, go_sem, r0, r1, r2]) rfl ⟨rfl, ext_set3 HX.out (by omega) _ _ _⟩

end Go.Proofs.YtimpgdkeiopboaaDoor
