/- Diagrams: Order, Delays, Uses by the code. -/
import Derived.Test.YtgajibdmihdkcaaDoorDgl
namespace Go.Proofs.YtgajibdmihdkcaaDoor
open Go Go.RowKit

/-- A list in new memory, without an error. -/
def LsE (L : List Nat) (w : World) (e : Ending) (w' : World) : Prop := ∃ A c, e = .returned (.tuple #[.slice A L.length c, .nilIface]) ∧ OwL w' w.heap.size A c L ∧ Ext w w'
section
variable {w : World} {D : Dia} {p : Pl}
set_option maxRecDepth 100000 in
set_option maxHeartbeats 1000000 in
theorem Order_err (d : Dm w D p) (hT : Tabs w) (h : chk D ≠ 0) : Calls Tryd.prog 16 #[dgv D p] w fun e w' => e = .returned (.tuple #[.slice none 0 0, .iface 46 (I (chk D))]) ∧ Ext w w' := by
  have HC : Hid (∀ w', Ext w w' → Calls Tryd.prog 15 #[dgv D p] w' fun e w'' => e = .returned (.iface 46 (I (chk D))) ∧ Ext w' w'') := fun w' e => by rw [← errv_n h]; exact check_any (d.ext e) (hT.ext e)
  clear d hT h
  generalize chk D = k at *
  go_enter Tryd.func16, Tryd.ntmps16
  go_wp2_with (go_at_call 15; (with_reducible refine (HC.out _ (Ext.alloc _ _)).mono ?_); rintro e w1 ⟨rfl, hb1⟩)
  go_ret2
  exact ⟨rfl, (Ext.alloc _ _).trans hb1⟩
set_option maxRecDepth 100000 in
set_option maxHeartbeats 1000000 in
theorem Delays_err (d : Dm w D p) (hT : Tabs w) (h : chk D ≠ 0) : Calls Tryd.prog 17 #[dgv D p] w fun e w' => e = .returned (.tuple #[.slice none 0 0, .iface 46 (I (chk D))]) ∧ Ext w w' := by
  have HC : Hid (∀ w', Ext w w' → Calls Tryd.prog 15 #[dgv D p] w' fun e w'' => e = .returned (.iface 46 (I (chk D))) ∧ Ext w' w'') := fun w' e => by rw [← errv_n h]; exact check_any (d.ext e) (hT.ext e)
  clear d hT h
  generalize chk D = k at *
  go_enter Tryd.func17, Tryd.ntmps17
  go_wp2_with (go_at_call 15; (with_reducible refine (HC.out _ (Ext.alloc _ _)).mono ?_); rintro e w1 ⟨rfl, hb1⟩)
  go_ret2
  exact ⟨rfl, (Ext.alloc _ _).trans hb1⟩
set_option maxRecDepth 100000 in
set_option maxHeartbeats 1000000 in
theorem Uses_err (i : Int) (d : Dm w D p) (hT : Tabs w) (h : chk D ≠ 0) : Calls Tryd.prog 18 #[dgv D p, I i] w fun e w' => e = .returned (.tuple #[.slice none 0 0, .iface 46 (I (chk D))]) ∧ Ext w w' := by
  have HC : Hid (∀ w', Ext w w' → Calls Tryd.prog 15 #[dgv D p] w' fun e w'' => e = .returned (.iface 46 (I (chk D))) ∧ Ext w' w'') := fun w' e => by rw [← errv_n h]; exact check_any (d.ext e) (hT.ext e)
  clear d hT h
  generalize chk D = k at *
  go_enter Tryd.func18, Tryd.ntmps18
  go_wp2_with (go_at_call 15; (with_reducible refine (HC.out _ (Ext.alloc _ _)).mono ?_); rintro e w1 ⟨rfl, hb1⟩)
  go_ret2
  exact ⟨rfl, (Ext.alloc _ _).trans hb1⟩
set_option maxRecDepth 100000 in
set_option maxHeartbeats 1000000 in
theorem Order_ok (d : Dm w D p) (hT : Tabs w) (h : chk D = 0) : Calls Tryd.prog 16 #[dgv D p] w (LsE (ordL D) w) := by
  have HC : Hid (∀ w', Ext w w' → Calls Tryd.prog 15 #[dgv D p] w' fun e w'' => e = .returned .nilIface ∧ Ext w' w'') := fun w' e => by
    have := check_any (d.ext e) (hT.ext e); rw [h, errv_z] at this; exact this
  have HO : Hid (∀ w', Ext w w' → Calls Tryd.prog 36 #[dgv D p] w' (LsR (ordL D) w')) := fun w' e => order_any (d.ext e) (chk_ok h).toWF
  have HB := Lib.hid (Bd.new w D p 26)
  clear d hT h
  generalize ordL D = L at *
  go_enter Tryd.func16, Tryd.ntmps16
  go_wp2_with (first
    | (go_at_call 15; (with_reducible refine (HC.out _ (Ext.alloc _ _)).mono ?_); rintro e w1 ⟨rfl, hb1⟩; obtain ⟨c0, c1, c2⟩ := HB.out.ext hb1; have hz := hb1.size; simp at hz)
    | (go_at_call 36; (with_reducible refine (HO.out _ ((Ext.alloc _ _).trans hb1)).mono ?_); rintro e w2 ⟨A, k, rfl, o2, x2⟩; have O2 := Lib.hid o2; have X2 := Lib.hid x2; clear o2 x2))
  go_ret2
  exact ⟨A, k, rfl, O2.out.mono (by omega), ((Ext.alloc _ _).trans hb1).trans X2.out⟩
set_option maxRecDepth 100000 in
set_option maxHeartbeats 1000000 in
theorem Delays_ok (d : Dm w D p) (hT : Tabs w) (h : chk D = 0) : Calls Tryd.prog 17 #[dgv D p] w (LsE (delL D) w) := by
  have HC : Hid (∀ w', Ext w w' → Calls Tryd.prog 15 #[dgv D p] w' fun e w'' => e = .returned .nilIface ∧ Ext w' w'') := fun w' e => by
    have := check_any (d.ext e) (hT.ext e); rw [h, errv_z] at this; exact this
  have HO : Hid (∀ w', Ext w w' → Calls Tryd.prog 37 #[dgv D p] w' (LsR (delL D) w')) := fun w' e => delays_any (d.ext e) (by have := (chk_ok h).nb; omega)
  have HB := Lib.hid (Bd.new w D p 26)
  clear d hT h
  generalize delL D = L at *
  go_enter Tryd.func17, Tryd.ntmps17
  go_wp2_with (first
    | (go_at_call 15; (with_reducible refine (HC.out _ (Ext.alloc _ _)).mono ?_); rintro e w1 ⟨rfl, hb1⟩; obtain ⟨c0, c1, c2⟩ := HB.out.ext hb1; have hz := hb1.size; simp at hz)
    | (go_at_call 37; (with_reducible refine (HO.out _ ((Ext.alloc _ _).trans hb1)).mono ?_); rintro e w2 ⟨A, k, rfl, o2, x2⟩; have O2 := Lib.hid o2; have X2 := Lib.hid x2; clear o2 x2))
  go_ret2
  exact ⟨A, k, rfl, O2.out.mono (by omega), ((Ext.alloc _ _).trans hb1).trans X2.out⟩
set_option maxRecDepth 100000 in
set_option maxHeartbeats 1000000 in
theorem Uses_idx (i : Int) (d : Dm w D p) (hT : Tabs w) (h : chk D = 0) (hi : ¬ (0 ≤ i ∧ i < D.nb)) : Calls Tryd.prog 18 #[dgv D p, I i] w fun e w' => e = .returned (.tuple #[.slice none 0 0, .iface 46 (I 10)]) ∧ Ext w w' := by
  have HC : Hid (∀ w', Ext w w' → Calls Tryd.prog 15 #[dgv D p] w' fun e w'' => e = .returned .nilIface ∧ Ext w' w'') := fun w' e => by
    have := check_any (d.ext e) (hT.ext e); rw [h, errv_z] at this; exact this
  have HI := Lib.hid (isIndex_any i D.nb)
  rw [show (inE (D.nb : Int) i == 0) = false by unfold inE; rw [if_neg hi]; rfl] at HI
  have HB := Lib.hid (Bd.new w D p 26)
  clear d hT h hi
  go_enter Tryd.func18, Tryd.ntmps18
  go_wp2_with (first
    | (go_at_call 15; (with_reducible refine (HC.out _ (Ext.alloc _ _)).mono ?_); rintro e w1 ⟨rfl, hb1⟩; obtain ⟨c0, c1, c2⟩ := HB.out.ext hb1; have hz := hb1.size; simp at hz)
    | (go_at_call 38; (with_reducible refine (HI.out _).mono ?_); rintro e w2 ⟨rfl, hb2⟩))
  go_ret2
  exact ⟨rfl, ((Ext.alloc _ _).trans hb1).trans hb2⟩
set_option maxRecDepth 100000 in
set_option maxHeartbeats 1000000 in
theorem Uses_ok (i : Nat) (d : Dm w D p) (hT : Tabs w) (h : chk D = 0) (hi : i < D.nb) : Calls Tryd.prog 18 #[dgv D p, I i] w (LsE (mkL D.nb (useR D i)) w) := by
  have HC : Hid (∀ w', Ext w w' → Calls Tryd.prog 15 #[dgv D p] w' fun e w'' => e = .returned .nilIface ∧ Ext w' w'') := fun w' e => by
    have := check_any (d.ext e) (hT.ext e); rw [h, errv_z] at this; exact this
  have HI := Lib.hid (isIndex_any i D.nb)
  rw [show (inE (D.nb : Int) i == 0) = true by unfold inE; rw [if_pos (by omega)]; rfl] at HI
  have HO : Hid (∀ w', Ext w w' → Calls Tryd.prog 39 #[dgv D p, I i] w' (LsR (mkL D.nb (useR D i)) w')) := fun w' e => withinTick_any (d.ext e) (chk_ok h).toWF i hi
  have HB := Lib.hid (Bd.new w D p 26)
  clear d hT h hi
  generalize mkL D.nb (useR D i) = L at *
  go_enter Tryd.func18, Tryd.ntmps18
  go_wp2_with (first
    | (go_at_call 15; (with_reducible refine (HC.out _ (Ext.alloc _ _)).mono ?_); rintro e w1 ⟨rfl, hb1⟩; obtain ⟨c0, c1, c2⟩ := HB.out.ext hb1; have hz := hb1.size; simp at hz)
    | (go_at_call 38; (with_reducible refine (HI.out _).mono ?_); rintro e w2 ⟨rfl, hb2⟩; obtain ⟨q0, q1, q2⟩ := HB.out.ext (hb1.trans hb2); have hz2 := hb2.size)
    | (go_at_call 39; (with_reducible refine (HO.out _ (((Ext.alloc _ _).trans hb1).trans hb2)).mono ?_); rintro e w3 ⟨A, k, rfl, o2, x2⟩; have O2 := Lib.hid o2; have X2 := Lib.hid x2; clear o2 x2))
  go_ret2
  exact ⟨A, k, rfl, O2.out.mono (by omega), (((Ext.alloc _ _).trans hb1).trans hb2).trans X2.out⟩
end
end Go.Proofs.YtgajibdmihdkcaaDoor
