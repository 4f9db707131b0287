/- The fixed-point machine: Writes by the code and by the reference. -/
import Derived.Test.YtkocmdpfknoiaaaGreatDoorKdn
import Derived.Test.YtkocmdpfknoiaaaGreatDoorKdi
namespace Go.Proofs.YtkocmdpfknoiaaaGreatDoor
open Go Go.RowKit

/-- The cells that a program writes, ascending. -/
def wrL (G : Pgm) : List Nat := mkL G.nc (wrB G.ni G.X)
def wrF (G : Pgm) (i : Nat) : Int := ((wrL G).getD i 0 : Nat)
theorem mkL_pre (P : Nat → Bool) (j : Nat) : ∀ d, ∃ R, mkL (j + d) P = mkL j P ++ R
  | 0 => ⟨[], by simp⟩
  | d + 1 => by
    obtain ⟨R, h⟩ := mkL_pre P j d
    refine ⟨R ++ (if P (j + d) = true then [j + d] else []), ?_⟩
    rw [← List.append_assoc, ← h]; rfl
theorem wrF_at {G : Pgm} {j : Nat} (hj : j < G.nc) (h : wrB G.ni G.X j = true) : wrF G (cnt j (wrB G.ni G.X)) = j := by
  obtain ⟨R, hR⟩ := mkL_pre (wrB G.ni G.X) (j + 1) (G.nc - (j + 1))
  rw [show j + 1 + (G.nc - (j + 1)) = G.nc by omega] at hR
  have h1 : mkL (j + 1) (wrB G.ni G.X) = mkL j (wrB G.ni G.X) ++ [j] := by show mkL j _ ++ _ = _; rw [if_pos h]
  unfold wrF wrL
  rw [hR, h1, List.append_assoc, ← mkL_len]
  simp [List.getD]
theorem wrL_le (G : Pgm) : (wrL G).length ≤ G.nc := by unfold wrL; rw [mkL_len]; exact cnt_le _ _
def WrP (G : Pgm) (w : World) (e : Ending) (w' : World) : Prop := ∃ B k, e = .returned (.tuple #[.slice B (wrL G).length k, .nilIface]) ∧ Ri w' B (wrL G).length (wrF G) ∧ Ext w w'
set_option maxRecDepth 100000 in
set_option maxHeartbeats 1000000 in
theorem Writes_err {w : World} {G : Pgm} {p : Pp} (d : Pm w G p) (h : chP G ≠ 0) :
    Calls Tryz.prog 31 #[pgv G p] w fun e w' => e = .returned (.tuple #[.slice none 0 0, .iface 94 (I (chP G))]) ∧ Ext w w' := by
  have HC : Hid (∀ w', Ext w w' → Calls Tryz.prog 14 #[pgv G p] w' fun e w'' => e = .returned (errv (chP G)) ∧ Ext w' w'') := fun w' e => Check_any (d.ext e)
  rw [errv_n h] at HC
  generalize chP G = ec at *
  clear d h
  go_enter Tryz.func31, Tryz.ntmps31
  go_wp2_with (go_at_call 14; (with_reducible refine (HC.out _ (Ext.alloc _ _)).mono ?_); rintro e w1 ⟨rfl, hb1⟩)
  go_ret2
  exact ⟨rfl, (Ext.alloc _ _).trans hb1⟩
set_option maxRecDepth 100000 in
set_option maxHeartbeats 1000000 in
theorem Writes_ok {w : World} {G : Pgm} {p : Pp} (d : Pm w G p) (h : chP G = 0) : Calls Tryz.prog 31 #[pgv G p] w (WrP G w) := by
  have HC : Hid (∀ w', Ext w w' → Calls Tryz.prog 14 #[pgv G p] w' fun e w'' => e = .returned (errv (chP G)) ∧ Ext w' w'') := fun w' e => Check_any (d.ext e)
  have ok := chP_ok h
  have n3 := ok.ni
  rw [h, errv_z] at HC
  have HDS := Lib.hid (dsL_sort (ni := G.ni) (nc := G.nc) (X := G.X) (fun j hj => (insE_ok (ok.ins j hj)).dst))
  have HBD := Lib.hid (Px.new w G p 31)
  have HE : Hid (Ext w (w.alloc (.cells #[.slice p.AP G.np p.cP, .slice p.AC G.nc p.cC, .slice p.AX G.ni p.cX, .slice p.AO G.no p.cO] 31))) := Ext.alloc _ _
  obtain ⟨W1, hW1⟩ : ∃ W1, W1 = w.alloc (.cells #[.slice p.AP G.np p.cP, .slice p.AC G.nc p.cC, .slice p.AX G.ni p.cX, .slice p.AO G.no p.cO] 31) := ⟨_, rfl⟩
  rw [← hW1] at HBD HE
  obtain ⟨c0, c1, c2, c3⟩ := HBD.out
  have HX := Lib.hid d.code
  clear d h ok
  go_enter Tryz.func31, Tryz.ntmps31
  go_upto_region 1 with fail
  rw [← hW1]; clear hW1
  go_upto_region 4 with (go_at_call 14; (with_reducible refine (HC.out _ HE.out).mono ?_); rintro e W ⟨rfl, hb1⟩)
  clear c0 c1 c2 c3
  obtain ⟨c0, c1, c2, c3⟩ := HBD.out.ext hb1
  have HEW := Lib.hid (HE.out.trans hb1)
  clear hb1
  go_wp2_with fail
  clear c0 c1 c2 c3
  go_loopw [5, 16] (fun s5 s wr => ∃ (j : Nat) (A : Option Addr) (c : Nat), j ≤ G.ni ∧ s = I j ∧ s5 = .slice A j c ∧ Hid (OwI wr W.heap.size A c (fun i => (G.X i).dst) j ∧ Ext W wr)) (fun _ s _ => G.ni - (intOf s).toNat)
  case atStart => exact ⟨0, none, 0, Nat.zero_le _, rfl, rfl, OwI.nil _ _ _, Ext.refl _⟩
  case round =>
    obtain ⟨j, A, c, hj, rfl, rfl, H⟩ := hrel
    by_cases hlt : j < G.ni
    · have hlt' : (j : Int) < (G.ni : Int) := by omega
      obtain ⟨b, o, ha, hba, hc⟩ := (HX.out.ext (HEW.out.trans H.out.2)) (by omega)
      obtain ⟨x0, x1, x2, x3, x4, x5, x6⟩ := hc j hlt
      obtain ⟨v, hv⟩ : ∃ v, (G.X j).dst = v := ⟨_, rfl⟩
      rw [hv] at x1
      have HV : Hid ((G.X j).dst = v) := hv
      have hsz := H.out.2.size
      clear hc hv
      go_wp2_with (at_builtin; refine appI rfl _ _ rfl W.heap.size A c (fun i => (G.X i).dst) j rfl (H.out.1.ext (by (with_reducible (repeat (first | exact Ext.refl _ | assumption | (refine Ext.toSet ?_ (by omega)) | refine Ext.toAlloc ?_ | refine Ext.toDrew ?_ | refine Ext.toDrewN ?_ | refine Ext.trans ?_ (by assumption)))); (first | done | fail "no"))) _ _ rfl (by show _ = some (I (G.X j).dst); rw [HV.out]; go_simp) (by omega) (by simp; omega) ?_; intro g cap w3 hown hgrow hat hltg; have HN := Lib.hid hown; have HG := Lib.hid (growI_ext (H.out.2.trans (show Ext wr _ from (by (with_reducible (repeat (first | exact Ext.refl _ | assumption | (refine Ext.toSet ?_ (by omega)) | refine Ext.toAlloc ?_ | refine Ext.toDrew ?_ | refine Ext.toDrewN ?_ | refine Ext.trans ?_ (by assumption)))); (first | done | fail "no")))) (H.out.1.ext (show Ext wr _ from (by (with_reducible (repeat (first | exact Ext.refl _ | assumption | (refine Ext.toSet ?_ (by omega)) | refine Ext.toAlloc ?_ | refine Ext.toDrew ?_ | refine Ext.toDrewN ?_ | refine Ext.trans ?_ (by assumption)))); (first | done | fail "no")))) (Nat.le_refl _) hgrow); clear hown hgrow hat hltg)
      (try rw [← ha])
      go_roundw
      case rel => exact ⟨j + 1, _, _, by omega, by go_num, rfl, HN.out, HG.out⟩
      case measure => simp [intOf]; omega
    · obtain rfl : j = G.ni := by omega
      have HZ := Lib.hid H.out.1.owZ
      have hlen : ((List.range G.ni).map fun i => (G.X i).dst).length = G.ni := by simp
      have hlen2 := List.length_mergeSort (le := fun x y : Int => decide (x ≤ y)) ((List.range G.ni).map fun i => (G.X i).dst)
      rw [hlen] at hlen2
      have HSO : Hid (Calls Tryz.prog 79 #[.slice A G.ni c] wr fun e w' => e = .returned (.tuple #[]) ∧ OwZ w' W.heap.size A c (((List.range G.ni).map fun i => (G.X i).dst).mergeSort fun x y => decide (x ≤ y)) ∧ wr.grownBy w' (Value.slice A G.ni c).ownBlock) := by
        have := sortZ_any HZ.out (by omega)
        rwa [hlen] at this
      have HLT := Lib.hid H.out.1.lt
      go_upto_region 11 with (go_at_call 79; (with_reducible refine HSO.out.mono ?_); rintro e w4 ⟨rfl, hz4, hg4⟩)
      have HX4 := Lib.hid (Below.grown H.out.2 hg4 H.out.2.size (fun r hr => (HLT.out r hr).1))
      have HCO : Hid (Calls Tryz.prog 80 #[.slice A G.ni c] w4 fun e w' => e = .returned (.slice A (wrL G).length c) ∧ Ri w' A (wrL G).length (wrF G) ∧ w4.grownBy w' (Value.slice A G.ni c).ownBlock) := by
        have hcz := compactZ_any hz4 (by omega)
        rw [hlen2] at hcz
        have hds : Lib.compact (((List.range G.ni).map fun i => (G.X i).dst).mergeSort fun x y => decide (x ≤ y)) = (wrL G).map (fun (i : Nat) => (i : Int)) := HDS.out
        rw [hds] at hcz
        refine hcz.mono fun e w' ⟨h1, h2, h3⟩ => ?_
        rw [List.length_map] at h1 h2
        exact ⟨h1, h2.congr fun i hi => by unfold wrF; simp [List.getD, List.getElem?_eq_getElem hi], h3⟩
      clear hz4 hg4 HSO HZ
      go_wp2_with (go_at_call 80; (with_reducible refine HCO.out.mono ?_); rintro e w5 ⟨rfl, hr5, hg5⟩)
      go_ret2
      exact ⟨A, c, rfl, hr5, HEW.out.trans (Below.grown HX4.out hg5 HX4.out.size (fun r hr => (HLT.out r hr).1))⟩
/-! ### by the reference -/
end Go.Proofs.YtkocmdpfknoiaaaGreatDoor
