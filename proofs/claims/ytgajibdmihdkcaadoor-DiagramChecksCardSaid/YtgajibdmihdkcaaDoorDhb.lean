/- The law DiagramChecks: it returns true. -/
import Derived.Test.YtgajibdmihdkcaaDoorDha
namespace Go.Proofs.YtgajibdmihdkcaaDoor
open Go Go.RowKit

abbrev nilD : Value := .agg #[.slice none 0 0, .slice none 0 0, .slice none 0 0]
def noD : Dia := ⟨0, fun _ => ⟨0, 0, 0⟩, 0, fun _ => ⟨0, 0, fun _ => 0, 0, 0, 0, 0⟩, 0, fun _ => 0⟩
def noP : Pl := ⟨none, 0, none, 0, none, 0, fun _ => none, fun _ => 0⟩
theorem noM (w : World) : Dm w noD noP where
  ports := fun h => by cases h
  blocks := fun h => by cases h
  args := fun i hi => by cases hi
  outs := fun h => by cases h
  li := Nat.zero_le _
  lb := Nat.zero_le _
  lo := Nat.zero_le _
  nA := fun i hi => by cases hi
  nO := fun _ => rfl
  nI := fun _ => rfl
set_option maxRecDepth 100000 in
theorem same_nil (w : World) : Calls Tryd.prog 21 #[nilD, nilD] w fun e w' => e = .returned (.bool true) ∧ Ext w w' := by
  have h := same_true (noM w) (noM w)
  rw [show dgv noD noP = nilD from rfl] at h
  exact h

set_option maxRecDepth 100000 in
set_option maxHeartbeats 8000000 in
theorem checks_any {w : World} {D : Dia} {p : Pl} (d : Dm w D p) (hT : Tabs w) (i : Int) : Calls Tryd.prog 3 #[dgv D p, I i] w fun e w' => e = .returned (.bool true) ∧ Ext w w' := by
  obtain ⟨W1, hW1⟩ : ∃ W1, W1 = w.alloc (.cells #[.slice p.AI D.ni p.cI, .slice p.AB D.nb p.cB, .slice p.AO D.no p.cO] 26) := ⟨_, rfl⟩
  have hE : Ext w W1 := by rw [hW1]; exact Ext.alloc _ _
  have HBD : Hid (Bd W1 w.heap.size D p) := by show Bd _ _ _ _; rw [hW1]; exact Bd.new _ _ _ _
  have HBX : Hid (∀ w', Ext W1 w' → w'.cell? ⟨w.heap.size, 0, none⟩ = some (.slice p.AI D.ni p.cI) ∧ w'.cell? ⟨w.heap.size, 1, none⟩ = some (.slice p.AB D.nb p.cB) ∧ w'.cell? ⟨w.heap.size, 2, none⟩ = some (.slice p.AO D.no p.cO)) := fun w' e => by
    have a := HBD.out.ext e; exact ⟨a.c0, a.c1, a.c2⟩
  have HA : Hid (∀ w', Ext W1 w' → Calls Tryd.prog 11 #[] w' fun e w'' => e = .returned (.bool true) ∧ Ext w' w'') := fun w' e => awake_any w' (hT.ext (hE.trans e))
  have HL : Hid (∀ w', Ext W1 w' → Calls Tryd.prog 12 #[dgv D p] w' fun e w'' => e = .returned (.bool (litB D)) ∧ Ext w' w'') := fun w' e => light_any (d.ext (hE.trans e))
  have HRC : Hid (∀ w', Ext W1 w' → Calls Tryd.prog 13 #[dgv D p] w' fun e w'' => e = .returned (I (chk D)) ∧ Ext w' w'') := fun w' e => rcheck_any (d.ext (hE.trans e)) (hT.ext (hE.trans e))
  have HC : Hid (∀ w', Ext W1 w' → Calls Tryd.prog 15 #[dgv D p] w' fun e w'' => e = .returned (errv (chk D)) ∧ Ext w' w'') := fun w' e => check_any (d.ext (hE.trans e)) (hT.ext (hE.trans e))
  have HN := Lib.hid (num_any (chk D))
  have HE := Lib.hid hE
  have hx : Ext W1 W1 := Ext.refl _
  obtain ⟨c0, c1, c2⟩ := HBX.out _ hx
  by_cases hk : chk D = 0
  · rw [hk] at HRC HN
    rw [hk, errv_z] at HC
    rw [errv_z] at HN
    clear d hT hE hk HBD
    generalize litB D = lt at *
    rw [hW1] at c0 c1 c2
    have hx2 := hx
    cases lt
    all_goals
      go_enter Tryd.func3, Tryd.ntmps3
      go_upto_region 1 with fail
      rw [← hW1] at c0 c1 c2
      rw [← hW1]
      clear hW1
      go_wp2_with (first
        | (go_at_call 11; (with_reducible refine (HA.out _ hx).mono ?_); rintro e1 w1 ⟨rfl, h1⟩; replace hx := hx.trans h1; clear h1 c0 c1 c2; obtain ⟨c0, c1, c2⟩ := HBX.out _ hx)
        | (go_at_call 12; (with_reducible refine (HL.out _ hx).mono ?_); rintro e1 w1 ⟨rfl, h1⟩; replace hx := hx.trans h1; clear h1 c0 c1 c2; obtain ⟨c0, c1, c2⟩ := HBX.out _ hx)
        | (go_at_call 13; (with_reducible refine (HRC.out _ hx).mono ?_); rintro e1 w1 ⟨rfl, h1⟩; replace hx := hx.trans h1; clear h1 c0 c1 c2; obtain ⟨c0, c1, c2⟩ := HBX.out _ hx)
        | (go_at_call 15; (with_reducible refine (HC.out _ hx).mono ?_); rintro e1 w1 ⟨rfl, h1⟩; replace hx := hx.trans h1; clear h1 c0 c1 c2; obtain ⟨c0, c1, c2⟩ := HBX.out _ hx)
        | (go_at_call 14; (with_reducible refine (HN.out _).mono ?_); rintro e1 w1 ⟨rfl, h1⟩; replace hx := hx.trans h1; clear h1 c0 c1 c2; obtain ⟨c0, c1, c2⟩ := HBX.out _ hx))
      go_ret
      exact ⟨rfl, HE.out.trans hx⟩
  · have HO : Hid (∀ w', Ext W1 w' → Calls Tryd.prog 16 #[dgv D p] w' fun e w'' => e = .returned (.tuple #[.slice none 0 0, .iface 46 (I (chk D))]) ∧ Ext w' w'') := fun w' e => Order_err (d.ext (hE.trans e)) (hT.ext (hE.trans e)) hk
    have HDl : Hid (∀ w', Ext W1 w' → Calls Tryd.prog 17 #[dgv D p] w' fun e w'' => e = .returned (.tuple #[.slice none 0 0, .iface 46 (I (chk D))]) ∧ Ext w' w'') := fun w' e => Delays_err (d.ext (hE.trans e)) (hT.ext (hE.trans e)) hk
    have HU : Hid (∀ w', Ext W1 w' → Calls Tryd.prog 18 #[dgv D p, I i] w' fun e w'' => e = .returned (.tuple #[.slice none 0 0, .iface 46 (I (chk D))]) ∧ Ext w' w'') := fun w' e => Uses_err i (d.ext (hE.trans e)) (hT.ext (hE.trans e)) hk
    have HF : Hid (∀ w', Ext W1 w' → Calls Tryd.prog 19 #[dgv D p] w' fun e w'' => e = .returned (.tuple #[.bool false, .iface 46 (I (chk D))]) ∧ Ext w' w'') := fun w' e => Affine_err (d.ext (hE.trans e)) (hT.ext (hE.trans e)) hk
    have HP : Hid (∀ w', Ext W1 w' → Calls Tryd.prog 20 #[dgv D p] w' fun e w'' => e = .returned (.tuple #[nilD, .slice none 0 0, .iface 46 (I (chk D))]) ∧ Ext w' w'') := fun w' e => Prune_err (d.ext (hE.trans e)) (hT.ext (hE.trans e)) hk
    have HM := Lib.hid same_nil
    rw [errv_n hk] at HC HN
    have hk' : (chk D == 0) = false := by simpa using hk
    clear d hT hE hk HBD
    generalize litB D = lt at *
    generalize chk D = k at *
    rw [hW1] at c0 c1 c2
    cases lt
    all_goals
      go_enter Tryd.func3, Tryd.ntmps3
      go_upto_region 1 with fail
      rw [← hW1] at c0 c1 c2
      rw [← hW1]
      clear hW1
      go_wp2_with (first
        | (have hg := HBP; clear hg; go_at_call 14; (with_reducible refine (HN.out _).mono ?_); rintro e1 w1 ⟨rfl, h1⟩; (first | replace hx3 := hx3.trans h1 | (have hx3 := h1)); clear h1; (try clear p0 p1 p2); obtain ⟨p0, p1, p2⟩ := HBP.out _ hx3)
        | (go_at_call 11; (with_reducible refine (HA.out _ hx).mono ?_); rintro e1 w1 ⟨rfl, h1⟩; replace hx := hx.trans h1; clear h1 c0 c1 c2; obtain ⟨c0, c1, c2⟩ := HBX.out _ hx)
        | (go_at_call 12; (with_reducible refine (HL.out _ hx).mono ?_); rintro e1 w1 ⟨rfl, h1⟩; replace hx := hx.trans h1; clear h1 c0 c1 c2; obtain ⟨c0, c1, c2⟩ := HBX.out _ hx)
        | (go_at_call 13; (with_reducible refine (HRC.out _ hx).mono ?_); rintro e1 w1 ⟨rfl, h1⟩; replace hx := hx.trans h1; clear h1 c0 c1 c2; obtain ⟨c0, c1, c2⟩ := HBX.out _ hx)
        | (go_at_call 15; (with_reducible refine (HC.out _ hx).mono ?_); rintro e1 w1 ⟨rfl, h1⟩; replace hx := hx.trans h1; clear h1 c0 c1 c2; obtain ⟨c0, c1, c2⟩ := HBX.out _ hx)
        | (go_at_call 14; (with_reducible refine (HN.out _).mono ?_); rintro e1 w1 ⟨rfl, h1⟩; replace hx := hx.trans h1; clear h1 c0 c1 c2; obtain ⟨c0, c1, c2⟩ := HBX.out _ hx)
        | (go_at_call 16; (with_reducible refine (HO.out _ hx).mono ?_); rintro e1 w1 ⟨rfl, h1⟩; replace hx := hx.trans h1; clear h1 c0 c1 c2; obtain ⟨c0, c1, c2⟩ := HBX.out _ hx)
        | (go_at_call 17; (with_reducible refine (HDl.out _ hx).mono ?_); rintro e1 w1 ⟨rfl, h1⟩; replace hx := hx.trans h1; clear h1 c0 c1 c2; obtain ⟨c0, c1, c2⟩ := HBX.out _ hx)
        | (go_at_call 18; (with_reducible refine (HU.out _ hx).mono ?_); rintro e1 w1 ⟨rfl, h1⟩; replace hx := hx.trans h1; clear h1 c0 c1 c2; obtain ⟨c0, c1, c2⟩ := HBX.out _ hx)
        | (go_at_call 19; (with_reducible refine (HF.out _ hx).mono ?_); rintro e1 w1 ⟨rfl, h1⟩; replace hx := hx.trans h1; clear h1 c0 c1 c2; obtain ⟨c0, c1, c2⟩ := HBX.out _ hx)
        | (go_at_call 20; (with_reducible refine (HP.out _ hx).mono ?_); rintro e1 w20 ⟨rfl, h1⟩; replace hx := hx.trans h1; clear h1 c0 c1 c2; have HBP : Hid (∀ w', Ext (w20.alloc (.cells #[.slice none 0 0, .slice none 0 0, .slice none 0 0] 26)) w' → w'.cell? ⟨w20.heap.size, 0, none⟩ = some (.slice none 0 0) ∧ w'.cell? ⟨w20.heap.size, 1, none⟩ = some (.slice none 0 0) ∧ w'.cell? ⟨w20.heap.size, 2, none⟩ = some (.slice none 0 0)) := fun w' e => (by obtain ⟨a, b, c, _⟩ := box3 e; exact ⟨a, b, c⟩))
        | (go_at_call 21; (with_reducible refine (HM.out _).mono ?_); rintro e1 w9 ⟨rfl, h9⟩))
      go_ret
      (first | exact ⟨rfl, HE.out.trans hx⟩ | exact ⟨rfl, HE.out.trans (hx.trans ((Ext.alloc _ _).trans (hx3.trans h9)))⟩)
end Go.Proofs.YtgajibdmihdkcaaDoor
