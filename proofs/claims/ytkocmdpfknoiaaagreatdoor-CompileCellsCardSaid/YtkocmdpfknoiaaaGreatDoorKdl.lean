/- The fixed-point machine: Start by the code; what is asked of the sizes; errors of all. -/
import Derived.Test.YtkocmdpfknoiaaaGreatDoorKdh
namespace Go.Proofs.YtkocmdpfknoiaaaGreatDoor
open Go Go.RowKit

def StP (G : Pgm) (w : World) (e : Ending) (w' : World) : Prop := ∃ B k, e = .returned (.tuple #[.slice B G.nc k, .nilIface]) ∧ Ri w' B G.nc G.C ∧ (B = none → k = 0) ∧ (∀ b o, B = some ⟨b, o, none⟩ → w.heap.size ≤ b) ∧ Ext w w'
set_option maxRecDepth 100000 in
set_option maxHeartbeats 1000000 in
theorem Start_err {w : World} {G : Pgm} {p : Pp} (d : Pm w G p) (h : chP G ≠ 0) :
    Calls Tryz.prog 18 #[pgv G p] w fun e w' => e = .returned (.tuple #[.slice none 0 0, .iface 94 (I (chP G))]) ∧ Ext w w' := by
  have HC : Hid (∀ w', Ext w w' → Calls Tryz.prog 14 #[pgv G p] w' fun e w'' => e = .returned (errv (chP G)) ∧ Ext w' w'') := fun w' e => Check_any (d.ext e)
  rw [errv_n h] at HC
  generalize chP G = ec at *
  clear d h
  go_enter Tryz.func18, Tryz.ntmps18
  go_wp2_with (go_at_call 14; (with_reducible refine (HC.out _ (Ext.alloc _ _)).mono ?_); rintro e w1 ⟨rfl, hb1⟩)
  go_ret2
  exact ⟨rfl, (Ext.alloc _ _).trans hb1⟩
set_option maxRecDepth 100000 in
set_option maxHeartbeats 1000000 in
theorem Start_ok {w : World} {G : Pgm} {p : Pp} (d : Pm w G p) (h : chP G = 0) : Calls Tryz.prog 18 #[pgv G p] w (StP G w) := by
  have HC : Hid (∀ w', Ext w w' → Calls Tryz.prog 14 #[pgv G p] w' fun e w'' => e = .returned (errv (chP G)) ∧ Ext w' w'') := fun w' e => Check_any (d.ext e)
  have ok := chP_ok h
  have HCL : Hid (∀ w', Ext w w' → Calls Tryz.prog 39 #[.slice p.AC G.nc p.cC] w' (ClR G.C G.nc w')) := fun w' e => cloneZ_any (d.init.ext e) d.nC (by have := ok.nc; omega)
  rw [h, errv_z] at HC
  have HBD := Lib.hid (Px.new w G p 31)
  have HE : Hid (Ext w (w.alloc (.cells #[.slice p.AP G.np p.cP, .slice p.AC G.nc p.cC, .slice p.AX G.ni p.cX, .slice p.AO G.no p.cO] 31))) := Ext.alloc _ _
  obtain ⟨W1, hW1⟩ : ∃ W1, W1 = w.alloc (.cells #[.slice p.AP G.np p.cP, .slice p.AC G.nc p.cC, .slice p.AX G.ni p.cX, .slice p.AO G.no p.cO] 31) := ⟨_, rfl⟩
  rw [← hW1] at HBD HE
  obtain ⟨c0, c1, c2, c3⟩ := HBD.out
  clear d h ok
  go_enter Tryz.func18, Tryz.ntmps18
  go_upto_region 1 with fail
  rw [← hW1]; clear hW1
  go_upto_region 4 with (go_at_call 14; (with_reducible refine (HC.out _ HE.out).mono ?_); rintro e w1 ⟨rfl, hb1⟩)
  clear c0 c1 c2 c3
  obtain ⟨c0, c1, c2, c3⟩ := HBD.out.ext hb1
  have HX := Lib.hid (HE.out.trans hb1)
  go_wp2_with (go_at_call 39; (with_reducible refine (HCL.out _ HX.out).mono ?_); rintro e w2 ⟨D, kD, rfl, hO, hx2⟩)
  go_ret2
  exact ⟨D, kD, rfl, hO.ri, hO.nz, fun b o hD => Nat.le_trans HX.out.size (hO.blk b o hD).1, HX.out.trans hx2⟩
/-- Are a program's lists short enough to be looked at? -/
def litP (G : Pgm) : Bool := decide (G.np ≤ 40) && (decide (G.nc ≤ 200) && (decide (G.ni ≤ 300) && decide (G.no ≤ 40)))
end Go.Proofs.YtkocmdpfknoiaaaGreatDoor
