/- The reference of layer 11: the value of a scalar. -/
import Derived.Test.YtkocmdpfknoiaaaDoorDgcd
import Derived.Test.YtkocmdpfknoiaaaDoorRefmo
import Derived.Test.YtkocmdpfknoiaaaDoorRefhj
namespace Go.Proofs.YtkocmdpfknoiaaaDoor
open Go Go.RowKit

set_option maxRecDepth 100000 in
set_option maxHeartbeats 1000000 in
theorem rvalue_any (n e : Int) (w : World) (h1 : -2147483648 < n) (h2 : n < 2147483648) (h3 : -62 ≤ e) (h4 : e ≤ 30) :
    Calls Tryd.prog 10 #[.agg #[I n, I e]] w (DyRes (nmS n e) w) := by
  obtain ⟨X0, X2, XE⟩ := num_boxes w (I n) (I e) (.bool false) (.slice none 0 0) (I 0) 23 37
  have HX0 := Lib.hid X0; have HX2 := Lib.hid X2; have HXE := Lib.hid XE; have XE2 := Lib.hid (XE.trans (Ext.drew _))
  clear X0 X2 XE
  obtain ⟨⟨k0, k1⟩, kf⟩ := HX0.out
  obtain ⟨d', hd'⟩ : ∃ d', nmS n e = d' := ⟨_, rfl⟩
  obtain ⟨l1, l2⟩ := nmS_len h1 h2 h4
  have wf' := nmS_ok n e
  rw [hd'] at l2 wf' ⊢
  have HL := Lib.hid l1; have HL2 := Lib.hid l2; have HW := Lib.hid (ofI_ok n 0); have HW2 := Lib.hid wf'
  have HD' := Lib.hid hd'
  clear hd' l1 l2 wf'
  have hn2 : ¬ w.heap.size + 1 = w.heap.size := by omega
  have hn3 : ¬ w.heap.size = w.heap.size + 1 := by omega
  go_enter Tryd.func10, Tryd.ntmps10
  go_upto_region 1 with fail
  go_region_held3 (fun w' => w'.cell? ⟨w.heap.size, 0, none⟩ = some (I n) ∧ w'.cell? ⟨w.heap.size, 1, none⟩ = some (I e)) (go_keep)
    (first
      | (go_at_call 20; refine (rof_any n _ (by omega) (by omega)).mono ?_; rintro e5 w5 ⟨A5, c5, rfl, hon5, hx5⟩; obtain ⟨⟨q0, q1⟩, _⟩ := HX0.out.ext (w' := w5) ((Ext.drew _).trans hx5); have HDN := Lib.hid (dy_of_on hon5 HW.out HL.out (Ext.refl _)); clear hon5)
      | (go_at_call 18; refine (rshift_any2 e HDN.out (by omega) (by omega)).mono ?_; rw [show shiftD (ofI n 0) e = d' from HD'.out]; rintro e6 w6 ⟨A6, c6, rfl, hon6, hx6⟩; obtain ⟨⟨p0, p1⟩, _⟩ := HX0.out.ext (w' := w6) (((Ext.drew _).trans hx5).trans hx6); have gz := (HX2.out.ext (w' := w6) (((Ext.drew _).trans hx5).trans hx6)).2; obtain ⟨z0, z1, z2⟩ := (HX2.out.ext (w' := w6) (((Ext.drew _).trans hx5).trans hx6)).1; have HO6 := Lib.hid hon6; clear hon6))
  all_goals
    have HXF := Lib.hid (((HXE.out.trans (Ext.drew _)).trans hx5).trans hx6)
    have hsz5 := (XE2.out.trans hx5).size
    have hlt := (HX2.out.ext (w' := w5) ((Ext.drew _).trans hx5)).lt
    go_wp2_with fail
    refine bodyPost_ret (v := dv d'.neg A6 (len d'.m) c6 d'.den) (by simp [results, Tryd.results10, go_sem, z0, z1, z2]) rfl ⟨A6, c6, rfl, ?_, ?_⟩
    · exact (HO6.out.set3 hlt _ _ _).mono hsz5
    · exact ext_set3 HXF.out (by omega) _ _ _
end Go.Proofs.YtkocmdpfknoiaaaDoor
