/- The fixed-point machine: Writes by the code and by the reference. -/
import Derived.Test.YtommlhdiefoocaaKdn
import Derived.Test.YtommlhdiefoocaaKdi
namespace Go.Proofs.Ytommlhdiefoocaa
open Go Go.RowKit

/-- The cells that a program writes, ascending. -/
def wrL (G : Pgm) : List Nat := mkL G.nc (wrB G.ni G.X)
def wrF (G : Pgm) (i : Nat) : Int := ((wrL G).getD i 0 : Nat)
theorem mkL_pre (P : Nat → Bool) (j : Nat) : ∀ d, ∃ R, mkL (j + d) P = mkL j P ++ R
  | 0 => ⟨[], by simp⟩
  | d + 1 => by
    obtain ⟨R, h⟩ := mkL_pre P j d
    refine ⟨R ++ (if P (j + d) = true then [j + d] else []), ?_⟩
    rw [← List.append_assoc, ← h]; rfl
theorem wrF_at {G : Pgm} {j : Nat} (hj : j < G.nc) (h : wrB G.ni G.X j = true) : wrF G (cnt j (wrB G.ni G.X)) = j := by
  obtain ⟨R, hR⟩ := mkL_pre (wrB G.ni G.X) (j + 1) (G.nc - (j + 1))
  rw [show j + 1 + (G.nc - (j + 1)) = G.nc by omega] at hR
  have h1 : mkL (j + 1) (wrB G.ni G.X) = mkL j (wrB G.ni G.X) ++ [j] := by show mkL j _ ++ _ = _; rw [if_pos h]
  unfold wrF wrL
  rw [hR, h1, List.append_assoc, ← mkL_len]
  simp [List.getD]
theorem wrL_le (G : Pgm) : (wrL G).length ≤ G.nc := by unfold wrL; rw [mkL_len]; exact cnt_le _ _
def WrP (G : Pgm) (w : World) (e : Ending) (w' : World) : Prop := ∃ B k, e = .returned (.tuple #[.slice B (wrL G).length k, .nilIface]) ∧ Ri w' B (wrL G).length (wrF G) ∧ Ext w w'
set_option maxRecDepth 100000 in
set_option maxHeartbeats 1000000 in
theorem Writes_err {w : World} {G : Pgm} {p : Pp} (d : Pm w G p) (h : chP G ≠ 0) :
    Calls Try.prog 14 #[pgv G p] w fun e w' => e = .returned (.tuple #[.slice none 0 0, .iface 72 (I (chP G))]) ∧ Ext w w' := by
  have HC : Hid (∀ w', Ext w w' → Calls Try.prog 17 #[pgv G p] w' fun e w'' => e = .returned (errv (chP G)) ∧ Ext w' w'') := fun w' e => Check_any (d.ext e)
  rw [errv_n h] at HC
  generalize chP G = ec at *
  clear d h
  go_enter Try.func14, Try.ntmps14
  go_wp2_with (go_at_call 17; (with_reducible refine (HC.out _ (Ext.alloc _ _)).mono ?_); rintro e w1 ⟨rfl, hb1⟩)
  go_ret2
  exact ⟨rfl, (Ext.alloc _ _).trans hb1⟩
set_option maxRecDepth 100000 in
set_option maxHeartbeats 1000000 in
theorem Writes_ok {w : World} {G : Pgm} {p : Pp} (d : Pm w G p) (h : chP G = 0) : Calls Try.prog 14 #[pgv G p] w (WrP G w) := by
  have HC : Hid (∀ w', Ext w w' → Calls Try.prog 17 #[pgv G p] w' fun e w'' => e = .returned (errv (chP G)) ∧ Ext w' w'') := fun w' e => Check_any (d.ext e)
  have ok := chP_ok h
  have n3 := ok.ni
  rw [h, errv_z] at HC
  have HDS := Lib.hid (dsL_sort (ni := G.ni) (nc := G.nc) (X := G.X) (fun j hj => (insE_ok (ok.ins j hj)).dst))
  have HBD := Lib.hid (Px.new w G p 26)
  have HE : Hid (Ext w (w.alloc (.cells #[.slice p.AP G.np p.cP, .slice p.AC G.nc p.cC, .slice p.AX G.ni p.cX, .slice p.AO G.no p.cO] 26))) := Ext.alloc _ _
  obtain ⟨W1, hW1⟩ : ∃ W1, W1 = w.alloc (.cells #[.slice p.AP G.np p.cP, .slice p.AC G.nc p.cC, .slice p.AX G.ni p.cX, .slice p.AO G.no p.cO] 26) := ⟨_, rfl⟩
  rw [← hW1] at HBD HE
  obtain ⟨c0, c1, c2, c3⟩ := HBD.out
  have HX := Lib.hid d.code
  clear d h ok
  go_enter Try.func14, Try.ntmps14
  go_upto_region 1 with fail
  rw [← hW1]; clear hW1
  go_upto_region 4 with (go_at_call 17; (with_reducible refine (HC.out _ HE.out).mono ?_); rintro e W ⟨rfl, hb1⟩)
  clear c0 c1 c2 c3
  obtain ⟨c0, c1, c2, c3⟩ := HBD.out.ext hb1
  have HEW := Lib.hid (HE.out.trans hb1)
  clear hb1
  go_wp2_with fail
  clear c0 c1 c2 c3
  go_loopw [5, 16] (fun s5 s wr => ∃ (j : Nat) (A : Option Addr) (c : Nat), j ≤ G.ni ∧ s = I j ∧ s5 = .slice A j c ∧ Hid (OwI wr W.heap.size A c (fun i => (G.X i).dst) j ∧ Ext W wr)) (fun _ s _ => G.ni - (intOf s).toNat)
  case atStart => exact ⟨0, none, 0, Nat.zero_le _, rfl, rfl, OwI.nil _ _ _, Ext.refl _⟩
  case round =>
    obtain ⟨j, A, c, hj, rfl, rfl, H⟩ := hrel
    by_cases hlt : j < G.ni
    · have hlt' : (j : Int) < (G.ni : Int) := by omega
      obtain ⟨b, o, ha, hba, hc⟩ := (HX.out.ext (HEW.out.trans H.out.2)) (by omega)
      obtain ⟨x0, x1, x2, x3, x4, x5, x6⟩ := hc j hlt
      obtain ⟨v, hv⟩ : ∃ v, (G.X j).dst = v := ⟨_, rfl⟩
      rw [hv] at x1
      have HV : Hid ((G.X j).dst = v) := hv
      have hsz := H.out.2.size
      clear hc hv
      go_wp2_with (at_builtin; refine appI rfl _ _ rfl W.heap.size A c (fun i => (G.X i).dst) j rfl (H.out.1.ext (by (with_reducible (repeat (first | exact Ext.refl _ | assumption | (refine Ext.toSet ?_ (by omega)) | refine Ext.toAlloc ?_ | refine Ext.toDrew ?_ | refine Ext.toDrewN ?_ | refine Ext.trans ?_ (by assumption)))); (first | done | fail "no"))) _ _ rfl (by show _ = some (I (G.X j).dst); rw [HV.out]; go_simp) (by omega) (by simp; omega) ?_; intro g cap w3 hown hgrow hat hltg; have HN := Lib.hid hown; have HG := Lib.hid (growI_ext (H.out.2.trans (show Ext wr _ from (by (with_reducible (repeat (first | exact Ext.refl _ | assumption | (refine Ext.toSet ?_ (by omega)) | refine Ext.toAlloc ?_ | refine Ext.toDrew ?_ | refine Ext.toDrewN ?_ | refine Ext.trans ?_ (by assumption)))); (first | done | fail "no")))) (H.out.1.ext (show Ext wr _ from (by (with_reducible (repeat (first | exact Ext.refl _ | assumption | (refine Ext.toSet ?_ (by omega)) | refine Ext.toAlloc ?_ | refine Ext.toDrew ?_ | refine Ext.toDrewN ?_ | refine Ext.trans ?_ (by assumption)))); (first | done | fail "no")))) (Nat.le_refl _) hgrow); clear hown hgrow hat hltg)
      (try rw [← ha])
      go_roundw
      case rel => exact ⟨j + 1, _, _, by omega, by go_num, rfl, HN.out, HG.out⟩
      case measure => simp [intOf]; omega
    · obtain rfl : j = G.ni := by omega
      have HZ := Lib.hid H.out.1.owZ
      have hlen : ((List.range G.ni).map fun i => (G.X i).dst).length = G.ni := by simp
      have hlen2 := List.length_mergeSort (le := fun x y : Int => decide (x ≤ y)) ((List.range G.ni).map fun i => (G.X i).dst)
      rw [hlen] at hlen2
      have HSO : Hid (Calls Try.prog 29 #[.slice A G.ni c] wr fun e w' => e = .returned (.tuple #[]) ∧ OwZ w' W.heap.size A c (((List.range G.ni).map fun i => (G.X i).dst).mergeSort fun x y => decide (x ≤ y)) ∧ wr.grownBy w' (Value.slice A G.ni c).ownBlock) := by
        have := sortZ_any HZ.out (by omega)
        rwa [hlen] at this
      have HLT := Lib.hid H.out.1.lt
      go_upto_region 11 with (go_at_call 29; (with_reducible refine HSO.out.mono ?_); rintro e w4 ⟨rfl, hz4, hg4⟩)
      have HX4 := Lib.hid (Below.grown H.out.2 hg4 H.out.2.size (fun r hr => (HLT.out r hr).1))
      have HCO : Hid (Calls Try.prog 30 #[.slice A G.ni c] w4 fun e w' => e = .returned (.slice A (wrL G).length c) ∧ Ri w' A (wrL G).length (wrF G) ∧ w4.grownBy w' (Value.slice A G.ni c).ownBlock) := by
        have hcz := compactZ_any hz4 (by omega)
        rw [hlen2] at hcz
        have hds : Lib.compact (((List.range G.ni).map fun i => (G.X i).dst).mergeSort fun x y => decide (x ≤ y)) = (wrL G).map (fun (i : Nat) => (i : Int)) := HDS.out
        rw [hds] at hcz
        refine hcz.mono fun e w' ⟨h1, h2, h3⟩ => ?_
        rw [List.length_map] at h1 h2
        exact ⟨h1, h2.congr fun i hi => by unfold wrF; simp [List.getD, List.getElem?_eq_getElem hi], h3⟩
      clear hz4 hg4 HSO HZ
      go_wp2_with (go_at_call 30; (with_reducible refine HCO.out.mono ?_); rintro e w5 ⟨rfl, hr5, hg5⟩)
      go_ret2
      exact ⟨A, c, rfl, hr5, HEW.out.trans (Below.grown HX4.out hg5 HX4.out.size (fun r hr => (HLT.out r hr).1))⟩
/-! ### by the reference -/
set_option maxRecDepth 100000 in
set_option maxHeartbeats 1000000 in
theorem RWrites_any {w : World} {G : Pgm} {p : Pp} (d : Pm w G p) (h : chP G = 0) :
    Calls Try.prog 20 #[pgv G p] w fun e w' => ∃ B k, e = .returned (.slice B (wrL G).length k) ∧ Ri w' B (wrL G).length (wrF G) ∧ Ext w w' := by
  have ok := chP_ok h
  have n2 := ok.nc
  have n3 := ok.ni
  have HBD := Lib.hid (Px.new w G p 26)
  have HE : Hid (Ext w (w.alloc (.cells #[.slice p.AP G.np p.cP, .slice p.AC G.nc p.cC, .slice p.AX G.ni p.cX, .slice p.AO G.no p.cO] 26))) := Ext.alloc _ _
  obtain ⟨W1, hW1⟩ : ∃ W1, W1 = w.alloc (.cells #[.slice p.AP G.np p.cP, .slice p.AC G.nc p.cC, .slice p.AX G.ni p.cX, .slice p.AO G.no p.cO] 26) := ⟨_, rfl⟩
  rw [← hW1] at HBD HE
  obtain ⟨c0, c1, c2, c3⟩ := HBD.out
  have HX := Lib.hid d.code
  have HLEN := Lib.hid (mkL_len G.nc (wrB G.ni G.X))
  clear d h ok
  go_enter Try.func20, Try.ntmps20
  go_upto_region 1 with fail
  rw [← hW1]; clear hW1
  go_wp2_with fail
  clear c0 c1 c2 c3
  go_loopw [3, 10] (fun s3 s wr => ∃ (i : Nat) (A : Option Addr) (c : Nat), i ≤ G.nc ∧ s = I i ∧ s3 = .slice A (cnt i (wrB G.ni G.X)) c ∧ Hid (OwI wr W1.heap.size A c (wrF G) (cnt i (wrB G.ni G.X)) ∧ Ext W1 wr)) (fun _ s _ => G.nc - (intOf s).toNat)
  case atStart => exact ⟨0, none, 0, Nat.zero_le _, rfl, rfl, OwI.nil _ _ _, Ext.refl _⟩
  case round =>
    obtain ⟨i, A, c, hi, rfl, rfl, H⟩ := hrel
    by_cases hlt : i < G.nc
    · have hlt' : (i : Int) < (G.nc : Int) := by omega
      obtain ⟨wo, hwo⟩ : ∃ wo, wo = wr := ⟨_, rfl⟩
      subst hwo
      have HO := H
      clear H
      have hcn := cnt_le i (wrB G.ni G.X)
      have HCN : Hid (cnt (i + 1) (wrB G.ni G.X) = cnt i (wrB G.ni G.X) + if wrB G.ni G.X i = true then 1 else 0) := rfl
      have HAT := Lib.hid (fun hh => wrF_at (G := G) hlt hh)
      generalize hM : cnt i (wrB G.ni G.X) = M at *
      clear hM
      obtain ⟨c0, c1, c2, c3⟩ := HBD.out.ext HO.out.2
      go_wp2_with fail
      clear c0 c1 c2 c3
      go_loopw [3, 16] (fun s3 s wr => ∃ (j : Nat), j ≤ G.ni ∧ s = I j ∧ s3 = .slice A M c ∧ Hid (Ext wo wr ∧ ∀ k, k < j → (G.X k).dst ≠ i)) (fun _ s _ => G.ni - (intOf s).toNat)
      case atStart => exact ⟨0, Nat.zero_le _, rfl, rfl, Ext.refl _, fun k hk => by omega⟩
      case round =>
        obtain ⟨j, hj, rfl, rfl, H⟩ := hrel
        by_cases hjl : j < G.ni
        · have hjl' : (j : Int) < (G.ni : Int) := by omega
          obtain ⟨b, o, ha, hba, hc⟩ := (HX.out.ext (HE.out.trans (HO.out.2.trans H.out.1))) (by omega)
          obtain ⟨x0, x1, x2, x3, x4, x5, x6⟩ := hc j hjl
          have HA := Lib.hid ha
          clear hc
          by_cases hdi : (G.X j).dst = i
          · have HT : Hid (wrB G.ni G.X i = true) := wrB_iff.2 ⟨j, hjl, hdi⟩
            rw [hdi] at x1
            have hsz := H.out.1.size
            have hso := HO.out.2.size
            have HF := Lib.hid (HAT.out HT.out)
            clear hdi
            go_wp2_with (at_builtin; refine appI rfl _ _ rfl W1.heap.size A c (wrF G) M rfl (HO.out.1.ext (H.out.1.trans (by (with_reducible (repeat (first | exact Ext.refl _ | assumption | (refine Ext.toSet ?_ (by omega)) | refine Ext.toAlloc ?_ | refine Ext.toDrew ?_ | refine Ext.toDrewN ?_ | refine Ext.trans ?_ (by assumption)))); (first | done | fail "no")))) _ _ rfl (by rw [HF.out]; go_simp) (by omega) (by simp; omega) ?_; intro g cap w3 hown hgrow hat hltg; have HN := Lib.hid hown; have HG := Lib.hid (growI_ext (HO.out.2.trans (H.out.1.trans (show Ext wr _ from (by (with_reducible (repeat (first | exact Ext.refl _ | assumption | (refine Ext.toSet ?_ (by omega)) | refine Ext.toAlloc ?_ | refine Ext.toDrew ?_ | refine Ext.toDrewN ?_ | refine Ext.trans ?_ (by assumption)))); (first | done | fail "no"))))) (HO.out.1.ext (H.out.1.trans (show Ext wr _ from (by (with_reducible (repeat (first | exact Ext.refl _ | assumption | (refine Ext.toSet ?_ (by omega)) | refine Ext.toAlloc ?_ | refine Ext.toDrew ?_ | refine Ext.toDrewN ?_ | refine Ext.trans ?_ (by assumption)))); (first | done | fail "no"))))) (Nat.le_refl _) hgrow); clear hown hgrow hat hltg)
            (try rw [← HA.out])
            have e1 : cnt (i + 1) (wrB G.ni G.X) = M + 1 := by rw [HCN.out, HT.out]; rfl
            exact ⟨⟨i + 1, some ⟨g, 0, none⟩, cap, by omega, by go_num, by rw [e1], by rw [e1]; exact ⟨HN.out, HG.out⟩⟩, by simp [intOf]; omega⟩
          · have hne : ((G.X j).dst == (i : Int)) = false := by simpa using hdi
            have HN : Hid (∀ k, k < j + 1 → (G.X k).dst ≠ i) := fun k hk => by
              by_cases q : k = j
              · subst q; exact hdi
              · exact H.out.2 k (by omega)
            go_wp2_with fail
            (try rw [← HA.out])
            go_roundw
            case rel => exact ⟨j + 1, by omega, by go_num, rfl, H.out.1.trans (Ext.alloc _ _), HN.out⟩
            case measure => simp [intOf]; omega
        · obtain rfl : j = G.ni := by omega
          have HFA : Hid (wrB G.ni G.X i = false) := by
            cases hb : wrB G.ni G.X i
            · rfl
            · obtain ⟨k, hk, e⟩ := wrB_iff.1 hb
              exact absurd e (H.out.2 k hk)
          go_wp2_with fail
          have e1 : cnt (i + 1) (wrB G.ni G.X) = M := by rw [HCN.out, HFA.out]; rfl
          exact ⟨⟨i + 1, A, c, by omega, by go_num, by rw [e1], by rw [e1]; exact ⟨HO.out.1.ext H.out.1, HO.out.2.trans H.out.1⟩⟩, by simp [intOf]; omega⟩
    · obtain rfl : i = G.nc := by omega
      go_wp2_with fail
      go_ret
      exact ⟨A, c, by show _ = Ending.returned (.slice A (mkL G.nc (wrB G.ni G.X)).length c); rw [HLEN.out]; rfl, by show Ri _ A (mkL G.nc (wrB G.ni G.X)).length _; rw [HLEN.out]; exact H.out.1.ri, HE.out.trans H.out.2⟩
end Go.Proofs.Ytommlhdiefoocaa
