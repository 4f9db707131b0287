/- The fixed-point machine: law CodeChecks. -/
import Derived.Test.YtommlhdiefoocaaKdo
import Derived.Test.YtommlhdiefoocaaKdj
import Derived.Test.YtommlhdiefoocaaKdk
namespace Go.Proofs.Ytommlhdiefoocaa
open Go Go.RowKit

set_option maxRecDepth 100000 in
set_option maxHeartbeats 1000000 in
theorem same_none (w : World) : Calls Try.prog 18 #[.agg #[.slice none 0 0, .slice none 0 0, .bool false], .agg #[.slice none 0 0, .slice none 0 0, .bool false]] w fun e w' => e = .returned (.bool true) ∧ Ext w w' := by
  have HI : Hid (∀ w', Calls Try.prog 19 #[.slice none 0 0, .slice none 0 0] w' fun e w'' => e = .returned (.bool true) ∧ Ext w' w'') := fun w' => ints_true (n := 0) (X := fun _ => 0) (by omega) Ri.none_ Ri.none_
  obtain ⟨W1, hW1⟩ : ∃ W1, W1 = (w.alloc (.cells #[.slice none 0 0, .slice none 0 0, .bool false] 35)).alloc (.cells #[.slice none 0 0, .slice none 0 0, .bool false] 35) := ⟨_, rfl⟩
  have HE : Hid (Ext w W1) := by rw [hW1]; exact (Ext.alloc _ _).trans (Ext.alloc _ _)
  have b1 : W1.rowIs w.heap.size 35 3 (b3 (.slice none 0 0) (.slice none 0 0) (.bool false)) := by rw [hW1]; exact (box3r w _ _ _ _).ext (Ext.alloc _ _)
  have b2 : W1.rowIs (w.heap.size + 1) 35 3 (b3 (.slice none 0 0) (.slice none 0 0) (.bool false)) := by
    have := box3r (w.alloc (.cells #[.slice none 0 0, .slice none 0 0, .bool false] 35)) (.slice none 0 0) (.slice none 0 0) (.bool false) 35
    rw [hW1]; rwa [show (w.alloc (.cells #[.slice none 0 0, .slice none 0 0, .bool false] 35)).heap.size = w.heap.size + 1 by simp] at this
  have HB1 := Lib.hid b1
  have HB2 := Lib.hid b2
  have hx := Ext.refl W1
  have a0 : W1.cell? ⟨w.heap.size, 0, none⟩ = some (.slice none 0 0) := b1.cell (by omega)
  have a1 : W1.cell? ⟨w.heap.size, 1, none⟩ = some (.slice none 0 0) := b1.cell (by omega)
  have a2 : W1.cell? ⟨w.heap.size, 2, none⟩ = some (.bool false) := b1.cell (by omega)
  have d0 : W1.cell? ⟨w.heap.size + 1, 0, none⟩ = some (.slice none 0 0) := b2.cell (by omega)
  have d1 : W1.cell? ⟨w.heap.size + 1, 1, none⟩ = some (.slice none 0 0) := b2.cell (by omega)
  have d2 : W1.cell? ⟨w.heap.size + 1, 2, none⟩ = some (.bool false) := b2.cell (by omega)
  clear b1 b2
  go_enter Try.func18, Try.ntmps18
  go_upto_region 1 with fail
  rw [← hW1]; clear hW1
  go_wp2_with (go_at_call 19; (with_reducible refine (HI.out _).mono ?_); rintro e w1 ⟨rfl, hb1⟩; replace hx := hx.trans hb1; clear hb1 a0 a1 a2 d0 d1 d2; have a0 : w1.cell? ⟨w.heap.size, 0, none⟩ = some (.slice none 0 0) := (HB1.out.ext hx).cell (by omega); have a1 : w1.cell? ⟨w.heap.size, 1, none⟩ = some (.slice none 0 0) := (HB1.out.ext hx).cell (by omega); have a2 : w1.cell? ⟨w.heap.size, 2, none⟩ = some (.bool false) := (HB1.out.ext hx).cell (by omega); have d0 : w1.cell? ⟨w.heap.size + 1, 0, none⟩ = some (.slice none 0 0) := (HB2.out.ext hx).cell (by omega); have d1 : w1.cell? ⟨w.heap.size + 1, 1, none⟩ = some (.slice none 0 0) := (HB2.out.ext hx).cell (by omega); have d2 : w1.cell? ⟨w.heap.size + 1, 2, none⟩ = some (.bool false) := (HB2.out.ext hx).cell (by omega))
  go_ret
  exact ⟨rfl, HE.out.trans hx⟩
/-- A run whose result is not looked at. -/
def RuA (w : World) (e : Ending) (w' : World) : Prop := ∃ (v0 v1 : Value) (A B : Option Addr) (n k m l : Nat) (ov : Bool), v0 = .agg #[.slice A n k, .slice B m l, .bool ov] ∧ e = .returned (.tuple #[.agg #[.slice A n k, .slice B m l, .bool ov], v1]) ∧ Ext w w'
theorem run_some {w : World} {G : Pgm} {p : Pp} (d : Pm w G p) (h : chP G = 0) : Calls Try.prog 15 #[pgv G p, .slice p.AC G.nc p.cC, .slice none 0 0] w (RuA w) := by
  by_cases hd : daE G G.nc G.C 0 (fun _ => 0) = 0
  · exact (Run_ok d h d.init Ri.none_ d.nC hd).mono fun e w' ⟨A, k, B, l, he, _, _, _, _, _, _, _, hx⟩ => ⟨_, _, A, B, _, k, _, l, _, rfl, he, hx⟩
  · exact (Run_err2 d h d.init Ri.none_ d.lc (by unfold maxLen; omega) hd).mono fun e w' ⟨he, hx⟩ => ⟨_, _, none, none, 0, 0, 0, 0, false, rfl, he, hx⟩

set_option maxRecDepth 100000 in
set_option maxHeartbeats 8000000 in
theorem checks_any {W : World} {G : Pgm} {p : Pp} (d : Pm W G p) : Calls Try.prog 3 #[pgv G p] W fun e w' => e = .returned (.bool true) ∧ Ext W w' := by
  have HW := Lib.hid awakeP_any
  have HLI : Hid (∀ w', Ext W w' → Calls Try.prog 11 #[pgv G p] w' fun e w'' => e = .returned (.bool (litP G)) ∧ Ext w' w'') := fun w' e => lightP_any (d.ext e)
  obtain ⟨W1, hW1⟩ : ∃ W1, W1 = W.alloc (.cells #[.slice p.AP G.np p.cP, .slice p.AC G.nc p.cC, .slice p.AX G.ni p.cX, .slice p.AO G.no p.cO] 26) := ⟨_, rfl⟩
  have HC : Hid (∀ w', Ext W1 w' → Px w' W.heap.size G p) := fun w' e => (hW1 ▸ Px.new W G p _ : Px W1 W.heap.size G p).ext e
  have HE : Hid (Ext W W1) := (hW1 ▸ Ext.alloc _ _ : Ext W W1)
  obtain ⟨p0, p1, p2, p3⟩ := HC.out _ (Ext.refl _)
  have hx := Ext.refl W1
  have HD := Lib.hid d
  have HCK : Hid (∀ w', Ext W w' → Calls Try.prog 12 #[pgv G p] w' fun e w'' => e = .returned (I (chP G)) ∧ Ext w' w'') := fun w' e => RCheck_any (d.ext e)
  have HCC : Hid (∀ w', Ext W w' → Calls Try.prog 17 #[pgv G p] w' fun e w'' => e = .returned (errv (chP G)) ∧ Ext w' w'') := fun w' e => Check_any (d.ext e)
  go_enter Try.func3, Try.ntmps3
  go_upto_region 1 with fail
  rw [← hW1]; clear hW1
  cases hL : litP G
  · rw [hL] at HLI
    clear d
    go_wp2_with (first | (go_at_call 10; (with_reducible refine (HW.out _).mono ?_); rintro e1 w1 ⟨rfl, hb1⟩; replace hx := hx.trans hb1; clear hb1; (try clear p0 p1 p2 p3); obtain ⟨p0, p1, p2, p3⟩ := HC.out _ hx) | (go_at_call 11; (with_reducible refine (HLI.out _ (HE.out.trans hx)).mono ?_); rintro e1 w1 ⟨rfl, hb1⟩; replace hx := hx.trans hb1; clear hb1; (try clear p0 p1 p2 p3); obtain ⟨p0, p1, p2, p3⟩ := HC.out _ hx))
    go_ret
    exact ⟨rfl, HE.out.trans hx⟩
  · rw [hL] at HLI
    by_cases hc : chP G = 0
    · have HST : Hid (∀ w', Ext W w' → Calls Try.prog 13 #[pgv G p] w' (StP G w')) := fun w' e => Start_ok (d.ext e) hc
      have HWR : Hid (∀ w', Ext W w' → Calls Try.prog 14 #[pgv G p] w' (WrP G w')) := fun w' e => Writes_ok (d.ext e) hc
      have HRU : Hid (∀ w', Ext W w' → Calls Try.prog 15 #[pgv G p, .slice p.AC G.nc p.cC, .slice none 0 0] w' (RuA w')) := fun w' e => run_some (d.ext e) hc
      have HRW : Hid (∀ w', Ext W w' → Calls Try.prog 20 #[pgv G p] w' fun e w'' => ∃ B k, e = .returned (.slice B (wrL G).length k) ∧ Ri w'' B (wrL G).length (wrF G) ∧ Ext w' w'') := fun w' e => RWrites_any (d.ext e) hc
      rw [hc] at HCK HCC
      rw [errv_z] at HCC
      have HN0 := Lib.hid num_nil
      have hwl := wrL_le G
      have hnc := (chP_ok hc).nc
      clear d hc hL
      go_upto_region 4 with (first | (go_at_call 10; (with_reducible refine (HW.out _).mono ?_); rintro e1 w1 ⟨rfl, hb1⟩; replace hx := hx.trans hb1; clear hb1; (try clear p0 p1 p2 p3); obtain ⟨p0, p1, p2, p3⟩ := HC.out _ hx) | (go_at_call 11; (with_reducible refine (HLI.out _ (HE.out.trans hx)).mono ?_); rintro e1 w1 ⟨rfl, hb1⟩; replace hx := hx.trans hb1; clear hb1; (try clear p0 p1 p2 p3); obtain ⟨p0, p1, p2, p3⟩ := HC.out _ hx) | (go_at_call 12; (with_reducible refine (HCK.out _ (HE.out.trans hx)).mono ?_); rintro e1 w1 ⟨rfl, hb1⟩; replace hx := hx.trans hb1; clear hb1; (try clear p0 p1 p2 p3); obtain ⟨p0, p1, p2, p3⟩ := HC.out _ hx))
      go_upto_region 5 with (go_at_call 13; (with_reducible refine (HST.out _ (HE.out.trans hx)).mono ?_); rintro e1 w3 ⟨S, kS, rfl, rS, _, _, hx3⟩; replace hx := hx.trans hx3; (try clear p0 p1 p2 p3); obtain ⟨p0, p1, p2, p3⟩ := HC.out _ hx)
      go_upto_region 6 with (go_at_call 14; (with_reducible refine (HWR.out _ (HE.out.trans hx)).mono ?_); rintro e1 w4 ⟨Z, kZ, rfl, rZ, hx4⟩; replace hx := hx.trans hx4; (try clear p0 p1 p2 p3); obtain ⟨p0, p1, p2, p3⟩ := HC.out _ hx)
      have RS := Lib.hid (rS.ext hx4)
      have RZ := Lib.hid rZ
      clear rS rZ hx3 hx4
      go_upto_region 7 with (go_at_call 15; (with_reducible refine (HRU.out _ (HE.out.trans hx)).mono ?_); rintro e1 w5 ⟨v0, v1, A5, B5, n5, k5, m5, l5, o5, hv0, rfl, hx5⟩; clear hv0)
      have HX7 := Lib.hid (hx5.toAlloc (o := .cells #[.slice A5 n5 k5, .slice B5 m5 l5, .bool o5] 35))
      obtain ⟨W7, hW7⟩ : ∃ W7, W7 = w5.alloc (.cells #[.slice A5 n5 k5, .slice B5 m5 l5, .bool o5] 35) := ⟨_, rfl⟩
      rw [← hW7] at HX7 ⊢
      clear hW7 hx5
      replace hx := hx.trans HX7.out
      have HXB := Lib.hid hx
      (try clear p0 p1 p2 p3)
      obtain ⟨p0, p1, p2, p3⟩ := HC.out _ hx
      have hy := Ext.refl W7
      go_upto_region 11 with (first | (go_at_call 17; (with_reducible refine (HCC.out _ (HE.out.trans hx)).mono ?_); rintro e1 w1 ⟨rfl, hb1⟩; replace hx := hx.trans hb1; replace hy := hy.trans hb1; clear hb1; (try clear p0 p1 p2 p3); obtain ⟨p0, p1, p2, p3⟩ := HC.out _ hx) | (go_at_call 16; (with_reducible refine (HN0.out _).mono ?_); rintro e1 w1 ⟨rfl, hb1⟩; replace hx := hx.trans hb1; replace hy := hy.trans hb1; clear hb1; (try clear p0 p1 p2 p3); obtain ⟨p0, p1, p2, p3⟩ := HC.out _ hx))
      have HI1 : Hid (∀ w', Ext W7 w' → Calls Try.prog 19 #[.slice S G.nc kS, .slice p.AC G.nc p.cC] w' fun e w'' => e = .returned (.bool true) ∧ Ext w' w'') := fun w' e => ints_true (by omega) (RS.out.ext (HX7.out.trans e)) (HD.out.init.ext (HE.out.trans ((HXB.out).trans e)))
      have HI2 : Hid (∀ (B : Option Addr) (k : Nat) w', Ext W7 w' → Ri w' B (wrL G).length (wrF G) → Calls Try.prog 19 #[.slice Z (wrL G).length kZ, .slice B (wrL G).length k] w' fun e w'' => e = .returned (.bool true) ∧ Ext w' w'') := fun B k w' e r => ints_true (by omega) (RZ.out.ext (HX7.out.trans e)) r
      generalize (wrL G).length = lw at *
      go_wp2_with (first | (go_at_call 19; (with_reducible refine (HI1.out _ hy).mono ?_); rintro e1 w8 ⟨rfl, hb8⟩; replace hy := hy.trans hb8; replace hx := hx.trans hb8; clear hb8; (try clear p0 p1 p2 p3); obtain ⟨p0, p1, p2, p3⟩ := HC.out _ hx) | (go_at_call 20; (with_reducible refine (HRW.out _ (HE.out.trans hx)).mono ?_); rintro e1 w9 ⟨B9, k9, rfl, r9, hb9⟩; replace hy := hy.trans hb9; replace hx := hx.trans hb9; clear hb9) | (go_at_call 19; (with_reducible refine (HI2.out _ _ _ hy r9).mono ?_); rintro e1 w8 ⟨rfl, hb8⟩; replace hx := hx.trans hb8; clear hb8))
      go_ret
      exact ⟨rfl, HE.out.trans hx⟩
    · have hce : (chP G != 0) = true := by simpa using hc
      have HST : Hid (∀ w', Ext W w' → Calls Try.prog 13 #[pgv G p] w' fun e w'' => e = .returned (.tuple #[.slice none 0 0, .iface 72 (I (chP G))]) ∧ Ext w' w'') := fun w' e => Start_err (d.ext e) hc
      have HWR : Hid (∀ w', Ext W w' → Calls Try.prog 14 #[pgv G p] w' fun e w'' => e = .returned (.tuple #[.slice none 0 0, .iface 72 (I (chP G))]) ∧ Ext w' w'') := fun w' e => Writes_err (d.ext e) hc
      have HRU : Hid (∀ w', Ext W w' → Calls Try.prog 15 #[pgv G p, .slice p.AC G.nc p.cC, .slice none 0 0] w' fun e w'' => e = .returned (.tuple #[.agg #[.slice none 0 0, .slice none 0 0, .bool false], .iface 72 (I (chP G))]) ∧ Ext w' w'') := fun w' e => Run_err1 (d.ext e) hc
      rw [errv_n hc] at HCC
      generalize chP G = ec at *
      have HNE := Lib.hid (num_err ec)
      have HSA := Lib.hid same_none
      clear d hc hL
      go_upto_region 7 with (first | (go_at_call 10; (with_reducible refine (HW.out _).mono ?_); rintro e1 w1 ⟨rfl, hb1⟩; replace hx := hx.trans hb1; clear hb1; (try clear p0 p1 p2 p3); obtain ⟨p0, p1, p2, p3⟩ := HC.out _ hx) | (go_at_call 11; (with_reducible refine (HLI.out _ (HE.out.trans hx)).mono ?_); rintro e1 w1 ⟨rfl, hb1⟩; replace hx := hx.trans hb1; clear hb1; (try clear p0 p1 p2 p3); obtain ⟨p0, p1, p2, p3⟩ := HC.out _ hx) | (go_at_call 12; (with_reducible refine (HCK.out _ (HE.out.trans hx)).mono ?_); rintro e1 w1 ⟨rfl, hb1⟩; replace hx := hx.trans hb1; clear hb1; (try clear p0 p1 p2 p3); obtain ⟨p0, p1, p2, p3⟩ := HC.out _ hx) | (go_at_call 13; (with_reducible refine (HST.out _ (HE.out.trans hx)).mono ?_); rintro e1 w1 ⟨rfl, hb1⟩; replace hx := hx.trans hb1; clear hb1; (try clear p0 p1 p2 p3); obtain ⟨p0, p1, p2, p3⟩ := HC.out _ hx) | (go_at_call 14; (with_reducible refine (HWR.out _ (HE.out.trans hx)).mono ?_); rintro e1 w1 ⟨rfl, hb1⟩; replace hx := hx.trans hb1; clear hb1; (try clear p0 p1 p2 p3); obtain ⟨p0, p1, p2, p3⟩ := HC.out _ hx) | (go_at_call 15; (with_reducible refine (HRU.out _ (HE.out.trans hx)).mono ?_); rintro e1 w1 ⟨rfl, hb1⟩; replace hx := hx.trans hb1; clear hb1; (try clear p0 p1 p2 p3); obtain ⟨p0, p1, p2, p3⟩ := HC.out _ hx))
      have HB7 := Lib.hid (box3r w1 (.slice none 0 0) (.slice none 0 0) (.bool false) 35)
      have HX7 := Lib.hid (Ext.alloc w1 (.cells #[.slice none 0 0, .slice none 0 0, .bool false] 35))
      obtain ⟨W7, hW7⟩ : ∃ W7, W7 = w1.alloc (.cells #[.slice none 0 0, .slice none 0 0, .bool false] 35) := ⟨_, rfl⟩
      rw [← hW7] at HX7 HB7 ⊢
      clear hW7
      replace hx := hx.trans HX7.out
      (try clear p0 p1 p2 p3)
      obtain ⟨p0, p1, p2, p3⟩ := HC.out _ hx
      generalize w1.heap.size = gr at *
      have hy := Ext.refl W7
      have r0 : W7.cell? ⟨gr, 0, none⟩ = some (.slice none 0 0) := HB7.out.cell (by omega)
      have r1 : W7.cell? ⟨gr, 1, none⟩ = some (.slice none 0 0) := HB7.out.cell (by omega)
      have r2 : W7.cell? ⟨gr, 2, none⟩ = some (.bool false) := HB7.out.cell (by omega)
      go_wp2_with (first | (go_at_call 17; (with_reducible refine (HCC.out _ (HE.out.trans hx)).mono ?_); rintro e1 w1 ⟨rfl, hb1⟩; replace hx := hx.trans hb1; replace hy := hy.trans hb1; clear hb1; (try clear p0 p1 p2 p3); obtain ⟨p0, p1, p2, p3⟩ := HC.out _ hx; clear r0 r1 r2; have r0 : w1.cell? ⟨gr, 0, none⟩ = some (.slice none 0 0) := (HB7.out.ext hy).cell (by omega); have r1 : w1.cell? ⟨gr, 1, none⟩ = some (.slice none 0 0) := (HB7.out.ext hy).cell (by omega); have r2 : w1.cell? ⟨gr, 2, none⟩ = some (.bool false) := (HB7.out.ext hy).cell (by omega)) | (go_at_call 16; (with_reducible refine (HNE.out _).mono ?_); rintro e1 w1 ⟨rfl, hb1⟩; replace hx := hx.trans hb1; replace hy := hy.trans hb1; clear hb1; (try clear p0 p1 p2 p3); obtain ⟨p0, p1, p2, p3⟩ := HC.out _ hx; clear r0 r1 r2; have r0 : w1.cell? ⟨gr, 0, none⟩ = some (.slice none 0 0) := (HB7.out.ext hy).cell (by omega); have r1 : w1.cell? ⟨gr, 1, none⟩ = some (.slice none 0 0) := (HB7.out.ext hy).cell (by omega); have r2 : w1.cell? ⟨gr, 2, none⟩ = some (.bool false) := (HB7.out.ext hy).cell (by omega)) | (go_at_call 18; (with_reducible refine (HSA.out _).mono ?_); rintro e1 w1 ⟨rfl, hb1⟩; replace hx := hx.trans hb1; replace hy := hy.trans hb1; clear hb1; (try clear p0 p1 p2 p3); obtain ⟨p0, p1, p2, p3⟩ := HC.out _ hx; clear r0 r1 r2; have r0 : w1.cell? ⟨gr, 0, none⟩ = some (.slice none 0 0) := (HB7.out.ext hy).cell (by omega); have r1 : w1.cell? ⟨gr, 1, none⟩ = some (.slice none 0 0) := (HB7.out.ext hy).cell (by omega); have r2 : w1.cell? ⟨gr, 2, none⟩ = some (.bool false) := (HB7.out.ext hy).cell (by omega)))
      go_ret
      exact ⟨rfl, HE.out.trans hx⟩
end Go.Proofs.Ytommlhdiefoocaa
