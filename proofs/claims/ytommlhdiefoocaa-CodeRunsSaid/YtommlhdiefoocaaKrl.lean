/- The fixed-point machine: law CodeRuns. -/
import Derived.Test.YtommlhdiefoocaaKru
import Derived.Test.YtommlhdiefoocaaKdl
import Derived.Test.YtommlhdiefoocaaKdk
set_option linter.unusedVariables false
namespace Go.Proofs.Ytommlhdiefoocaa
open Go Go.RowKit

set_option maxRecDepth 100000 in
set_option maxHeartbeats 1000000 in
theorem same_any {w : World} {A A' B B' : Option Addr} {n k c1 c2 c3 c4 : Nat} {F E : Nat → Int} {ov : Bool} (hn : n ≤ 1000) (hk : k ≤ 1000) (a1 : Ri w A n F) (a2 : Ri w A' n F) (e1 : Ri w B k E) (e2 : Ri w B' k E) :
    Calls Try.prog 18 #[.agg #[.slice A n c1, .slice B k c2, .bool ov], .agg #[.slice A' n c3, .slice B' k c4, .bool ov]] w fun e w' => e = .returned (.bool true) ∧ Ext w w' := by
  obtain ⟨W1, hW1⟩ : ∃ W1, W1 = (w.alloc (.cells #[.slice A n c1, .slice B k c2, .bool ov] 35)).alloc (.cells #[.slice A' n c3, .slice B' k c4, .bool ov] 35) := ⟨_, rfl⟩
  have HE : Hid (Ext w W1) := by rw [hW1]; exact (Ext.alloc _ _).trans (Ext.alloc _ _)
  have HI1 : Hid (∀ w', Ext W1 w' → Calls Try.prog 19 #[.slice A n c1, .slice A' n c3] w' fun e w'' => e = .returned (.bool true) ∧ Ext w' w'') := fun w' e => ints_true hn (a1.ext (HE.out.trans e)) (a2.ext (HE.out.trans e))
  have HI2 : Hid (∀ w', Ext W1 w' → Calls Try.prog 19 #[.slice B k c2, .slice B' k c4] w' fun e w'' => e = .returned (.bool true) ∧ Ext w' w'') := fun w' e => ints_true hk (e1.ext (HE.out.trans e)) (e2.ext (HE.out.trans e))
  have b1 : W1.rowIs w.heap.size 35 3 (b3 (.slice A n c1) (.slice B k c2) (.bool ov)) := by rw [hW1]; exact (box3r w _ _ _ _).ext (Ext.alloc _ _)
  have b2 : W1.rowIs (w.heap.size + 1) 35 3 (b3 (.slice A' n c3) (.slice B' k c4) (.bool ov)) := by
    have := box3r (w.alloc (.cells #[.slice A n c1, .slice B k c2, .bool ov] 35)) (.slice A' n c3) (.slice B' k c4) (.bool ov) 35
    rw [hW1]; rwa [show (w.alloc (.cells #[.slice A n c1, .slice B k c2, .bool ov] 35)).heap.size = w.heap.size + 1 by simp] at this
  have HB1 := Lib.hid b1
  have HB2 := Lib.hid b2
  have hx := Ext.refl W1
  have x0 : W1.cell? ⟨w.heap.size, 0, none⟩ = some (.slice A n c1) := (HB1.out.ext hx).cell (by omega)
  have x1 : W1.cell? ⟨w.heap.size, 1, none⟩ = some (.slice B k c2) := (HB1.out.ext hx).cell (by omega)
  have x2 : W1.cell? ⟨w.heap.size, 2, none⟩ = some (.bool ov) := (HB1.out.ext hx).cell (by omega)
  have d0 : W1.cell? ⟨w.heap.size + 1, 0, none⟩ = some (.slice A' n c3) := (HB2.out.ext hx).cell (by omega)
  have d1 : W1.cell? ⟨w.heap.size + 1, 1, none⟩ = some (.slice B' k c4) := (HB2.out.ext hx).cell (by omega)
  have d2 : W1.cell? ⟨w.heap.size + 1, 2, none⟩ = some (.bool ov) := (HB2.out.ext hx).cell (by omega)
  clear b1 b2 a1 a2 e1 e2
  go_enter Try.func18, Try.ntmps18
  go_upto_region 1 with fail
  rw [← hW1]; clear hW1
  cases ov
  all_goals
    go_wp2_with (first | (go_at_call 19; (with_reducible refine (HI1.out _ hx).mono ?_); rintro e w1 ⟨rfl, hb1⟩; replace hx := hx.trans hb1; clear hb1 x0 x1 x2 d0 d1 d2; have x0 : w1.cell? ⟨w.heap.size, 0, none⟩ = some (.slice A n c1) := (HB1.out.ext hx).cell (by omega); have x1 : w1.cell? ⟨w.heap.size, 1, none⟩ = some (.slice B k c2) := (HB1.out.ext hx).cell (by omega); have x2 : w1.cell? ⟨w.heap.size, 2, none⟩ = some (.bool _) := (HB1.out.ext hx).cell (by omega); have d0 : w1.cell? ⟨w.heap.size + 1, 0, none⟩ = some (.slice A' n c3) := (HB2.out.ext hx).cell (by omega); have d1 : w1.cell? ⟨w.heap.size + 1, 1, none⟩ = some (.slice B' k c4) := (HB2.out.ext hx).cell (by omega); have d2 : w1.cell? ⟨w.heap.size + 1, 2, none⟩ = some (.bool _) := (HB2.out.ext hx).cell (by omega)) | (go_at_call 19; (with_reducible refine (HI2.out _ hx).mono ?_); rintro e w1 ⟨rfl, hb1⟩; replace hx := hx.trans hb1; clear hb1 x0 x1 x2 d0 d1 d2; have x0 : w1.cell? ⟨w.heap.size, 0, none⟩ = some (.slice A n c1) := (HB1.out.ext hx).cell (by omega); have x1 : w1.cell? ⟨w.heap.size, 1, none⟩ = some (.slice B k c2) := (HB1.out.ext hx).cell (by omega); have x2 : w1.cell? ⟨w.heap.size, 2, none⟩ = some (.bool _) := (HB1.out.ext hx).cell (by omega); have d0 : w1.cell? ⟨w.heap.size + 1, 0, none⟩ = some (.slice A' n c3) := (HB2.out.ext hx).cell (by omega); have d1 : w1.cell? ⟨w.heap.size + 1, 1, none⟩ = some (.slice B' k c4) := (HB2.out.ext hx).cell (by omega); have d2 : w1.cell? ⟨w.heap.size + 1, 2, none⟩ = some (.bool _) := (HB2.out.ext hx).cell (by omega)))
    go_ret
    exact ⟨rfl, HE.out.trans hx⟩
theorem RRun_err {w : World} {G : Pgm} {p : Pp} {A B : Option Addr} {n cA m cB : Nat} {c IN : Nat → Int} (d : Pm w G p) (ra : Ri w A n c) (rb : Ri w B m IN) (hn : n ≤ maxLen) (hm : m ≤ maxLen) (h2 : daE G n c m IN ≠ 0) :
    Calls Try.prog 21 #[pgv G p, .slice A n cA, .slice B m cB] w fun e w' => e = .returned (.tuple #[.agg #[.slice none 0 0, .slice none 0 0, .bool false], I (daE G n c m IN)]) ∧ Ext w w' := by
  by_cases k1 : n = G.nc
  · by_cases k2 : wdE n c = 0
    · by_cases k3 : m = G.np
      · have e : daE G n c m IN = rnE G.np G.P IN := by unfold daE; rw [if_neg (by simpa using k1), if_neg (by simpa using k2), if_neg (by simpa using k3)]
        rw [e] at h2 ⊢
        rcases rnE_cases G.np G.P IN with ⟨q, _⟩ | q
        · exact absurd q h2
        · have := RRun_d (cA := cA) (cB := cB) d ra rb hn hm k1 k2 k3 h2
          rw [q]; exact this
      · have e : daE G n c m IN = 11 := by unfold daE; rw [if_neg (by simpa using k1), if_neg (by simpa using k2), if_pos (by simpa using k3)]
        rw [e]; exact RRun_c d ra rb hn hm k1 k2 k3
    · have e : daE G n c m IN = 3 := by unfold daE; rw [if_neg (by simpa using k1), if_pos (by simpa using k2)]
      rw [e]; exact RRun_b d ra rb hn hm k1 k2
  · have e : daE G n c m IN = 11 := by unfold daE; rw [if_pos (by simpa using k1)]
    rw [e]; exact RRun_a d ra rb hn hm k1
theorem kr_boxes (w : World) (G : Pgm) (p : Pp) (v0 v1 : Value) (t t' : TypeId) {W1 : World} (h : W1 = (w.alloc (.cells #[.slice p.AP G.np p.cP, .slice p.AC G.nc p.cC, .slice p.AX G.ni p.cX, .slice p.AO G.no p.cO] t)).alloc (.cells #[v0, v1] t')) :
    Px W1 w.heap.size G p ∧ W1.rowIs (w.heap.size + 1) t' 2 (b3 v0 v1 (.bool false)) ∧ Ext w W1 := by
  subst h
  refine ⟨(Px.new w G p t).ext (Ext.alloc _ _), ?_, (Ext.alloc _ _).trans (Ext.alloc _ _)⟩
  have := World.rowIs_alloc (w.alloc (.cells #[.slice p.AP G.np p.cP, .slice p.AC G.nc p.cC, .slice p.AX G.ni p.cX, .slice p.AO G.no p.cO] t)) #[v0, v1] t' (b3 v0 v1 (.bool false)) (fun i hi => by
    have : i = 0 ∨ i = 1 := by simp at hi; omega
    rcases this with h | h <;> subst h <;> rfl)
  rwa [show (w.alloc (.cells #[.slice p.AP G.np p.cP, .slice p.AC G.nc p.cC, .slice p.AX G.ni p.cX, .slice p.AO G.no p.cO] t)).heap.size = w.heap.size + 1 by simp] at this
set_option maxRecDepth 100000 in
set_option maxHeartbeats 8000000 in
theorem runs_any {W : World} {G : Pgm} {p : Pp} {A B : Option Addr} {n c m e : Nat} {F E : Nat → Int} (d : Pm W G p) (hn : n ≤ maxLen) (hm : m ≤ maxLen) (ra : Ri W A n F) (rb : Ri W B m E) (hA : A = none → c = 0) :
    Calls Try.prog 4 #[pgv G p, .agg #[.slice A n c, .slice B m e]] W fun e w' => e = .returned (.bool true) ∧ Ext W w' := by
  have HMN := Lib.hid hn; have HMM := Lib.hid hm
  unfold maxLen at hn hm
  have HW := Lib.hid awakeP_any
  have HLI : Hid (∀ w', Ext W w' → Calls Try.prog 11 #[pgv G p] w' fun e w'' => e = .returned (.bool (litP G)) ∧ Ext w' w'') := fun w' e => lightP_any (d.ext e)
  have HCK : Hid (∀ w', Ext W w' → Calls Try.prog 12 #[pgv G p] w' fun e w'' => e = .returned (I (chP G)) ∧ Ext w' w'') := fun w' e => RCheck_any (d.ext e)
  obtain ⟨W1, hW1⟩ : ∃ W1, W1 = (W.alloc (.cells #[.slice p.AP G.np p.cP, .slice p.AC G.nc p.cC, .slice p.AX G.ni p.cX, .slice p.AO G.no p.cO] 26)).alloc (.cells #[.slice A n c, .slice B m e] 44) := ⟨_, rfl⟩
  obtain ⟨b1, b2, b3'⟩ := kr_boxes W G p _ _ _ _ hW1
  have HC : Hid (∀ w', Ext W1 w' → Px w' W.heap.size G p) := fun w' e => b1.ext e
  have HX := Lib.hid b2
  have HE := Lib.hid b3'
  have l0 : W1.cell? ⟨W.heap.size + 1, 0, none⟩ = some (.slice A n c) := b2.cell (by omega)
  have l1 : W1.cell? ⟨W.heap.size + 1, 1, none⟩ = some (.slice B m e) := b2.cell (by omega)
  obtain ⟨p0, p1, p2, p3⟩ := b1
  have hx := Ext.refl W1
  clear b2 b3'
  have HD := Lib.hid d
  have HRa := Lib.hid ra
  have HRb := Lib.hid rb
  have HNA := Lib.hid hA
  clear d ra rb hA
  have HN0 := Lib.hid num_nil
  have HNE := Lib.hid num_err
  have HSA : Hid (∀ w', Calls Try.prog 18 #[.agg #[.slice none 0 0, .slice none 0 0, .bool false], .agg #[.slice none 0 0, .slice none 0 0, .bool false]] w' fun e w'' => e = .returned (.bool true) ∧ Ext w' w'') := fun w' => same_any (n := 0) (k := 0) (F := fun _ => 0) (E := fun _ => 0) (by omega) (by omega) Ri.none_ Ri.none_ Ri.none_ Ri.none_
  go_enter Try.func4, Try.ntmps4
  go_upto_region 1 with fail
  rw [← hW1]; clear hW1
  cases hL : litP G
  · rw [hL] at HLI
    go_wp2_with (first | (go_at_call 10; (with_reducible refine (HW.out _).mono ?_); rintro e1 w1 ⟨rfl, hb1⟩; replace hx := hx.trans hb1; clear hb1; clear p0 p1 p2 p3 l0 l1; obtain ⟨p0, p1, p2, p3⟩ := HC.out _ hx; have l0 : w1.cell? ⟨W.heap.size + 1, 0, none⟩ = some (.slice A n c) := (HX.out.ext hx).cell (by omega); have l1 : w1.cell? ⟨W.heap.size + 1, 1, none⟩ = some (.slice B m e) := (HX.out.ext hx).cell (by omega)) | (go_at_call 11; (with_reducible refine (HLI.out _ (HE.out.trans hx)).mono ?_); rintro e1 w1 ⟨rfl, hb1⟩; replace hx := hx.trans hb1; clear hb1; clear p0 p1 p2 p3 l0 l1; obtain ⟨p0, p1, p2, p3⟩ := HC.out _ hx; have l0 : w1.cell? ⟨W.heap.size + 1, 0, none⟩ = some (.slice A n c) := (HX.out.ext hx).cell (by omega); have l1 : w1.cell? ⟨W.heap.size + 1, 1, none⟩ = some (.slice B m e) := (HX.out.ext hx).cell (by omega)))
    go_ret
    exact ⟨rfl, HE.out.trans hx⟩
  · rw [hL] at HLI
    by_cases hn3 : 300 < n
    · have hn3' : (300 : Int) < (n : Int) := by omega
      go_wp2_with (first | (go_at_call 10; (with_reducible refine (HW.out _).mono ?_); rintro e1 w1 ⟨rfl, hb1⟩; replace hx := hx.trans hb1; clear hb1; clear p0 p1 p2 p3 l0 l1; obtain ⟨p0, p1, p2, p3⟩ := HC.out _ hx; have l0 : w1.cell? ⟨W.heap.size + 1, 0, none⟩ = some (.slice A n c) := (HX.out.ext hx).cell (by omega); have l1 : w1.cell? ⟨W.heap.size + 1, 1, none⟩ = some (.slice B m e) := (HX.out.ext hx).cell (by omega)) | (go_at_call 11; (with_reducible refine (HLI.out _ (HE.out.trans hx)).mono ?_); rintro e1 w1 ⟨rfl, hb1⟩; replace hx := hx.trans hb1; clear hb1; clear p0 p1 p2 p3 l0 l1; obtain ⟨p0, p1, p2, p3⟩ := HC.out _ hx; have l0 : w1.cell? ⟨W.heap.size + 1, 0, none⟩ = some (.slice A n c) := (HX.out.ext hx).cell (by omega); have l1 : w1.cell? ⟨W.heap.size + 1, 1, none⟩ = some (.slice B m e) := (HX.out.ext hx).cell (by omega)))
      go_ret
      exact ⟨rfl, HE.out.trans hx⟩
    · have hn3' : ¬ (300 : Int) < (n : Int) := by omega
      by_cases hm6 : 60 < m
      · have hm6' : (60 : Int) < (m : Int) := by omega
        go_wp2_with (first | (go_at_call 10; (with_reducible refine (HW.out _).mono ?_); rintro e1 w1 ⟨rfl, hb1⟩; replace hx := hx.trans hb1; clear hb1; clear p0 p1 p2 p3 l0 l1; obtain ⟨p0, p1, p2, p3⟩ := HC.out _ hx; have l0 : w1.cell? ⟨W.heap.size + 1, 0, none⟩ = some (.slice A n c) := (HX.out.ext hx).cell (by omega); have l1 : w1.cell? ⟨W.heap.size + 1, 1, none⟩ = some (.slice B m e) := (HX.out.ext hx).cell (by omega)) | (go_at_call 11; (with_reducible refine (HLI.out _ (HE.out.trans hx)).mono ?_); rintro e1 w1 ⟨rfl, hb1⟩; replace hx := hx.trans hb1; clear hb1; clear p0 p1 p2 p3 l0 l1; obtain ⟨p0, p1, p2, p3⟩ := HC.out _ hx; have l0 : w1.cell? ⟨W.heap.size + 1, 0, none⟩ = some (.slice A n c) := (HX.out.ext hx).cell (by omega); have l1 : w1.cell? ⟨W.heap.size + 1, 1, none⟩ = some (.slice B m e) := (HX.out.ext hx).cell (by omega)))
        go_ret
        exact ⟨rfl, HE.out.trans hx⟩
      · have hm6' : ¬ (60 : Int) < (m : Int) := by omega
        by_cases hc : chP G = 0
        · rw [hc] at HCK
          by_cases hd : daE G n F m E = 0
          · have hnn := (daE_0 hd).1
            subst hnn
            have HRU : Hid (∀ w', Ext W w' → Calls Try.prog 15 #[pgv G p, .slice A G.nc c, .slice B m e] w' (RunR G F E w')) := fun w' e => Run_ok (HD.out.ext e) hc (HRa.out.ext e) (HRb.out.ext e) HNA.out hd
            have HRR : Hid (∀ w', Ext W w' → Calls Try.prog 21 #[pgv G p, .slice A G.nc c, .slice B m e] w' (RRunR G F E w')) := fun w' e => RRun_ok (HD.out.ext e) hc (HRa.out.ext e) (HRb.out.ext e) HNA.out hd
            have n2 := (chP_ok hc).nc
            have n4 := (chP_ok hc).no
            unfold RunR at HRU
            unfold RRunR at HRR
            generalize (runC G.X E F G.ni).2 = ov at *
            clear hd hc hL
            go_upto_region 4 with (first | (go_at_call 10; (with_reducible refine (HW.out _).mono ?_); rintro e1 w1 ⟨rfl, hb1⟩; replace hx := hx.trans hb1; clear hb1; clear p0 p1 p2 p3 l0 l1; obtain ⟨p0, p1, p2, p3⟩ := HC.out _ hx; have l0 : w1.cell? ⟨W.heap.size + 1, 0, none⟩ = some (.slice A G.nc c) := (HX.out.ext hx).cell (by omega); have l1 : w1.cell? ⟨W.heap.size + 1, 1, none⟩ = some (.slice B m e) := (HX.out.ext hx).cell (by omega)) | (go_at_call 11; (with_reducible refine (HLI.out _ (HE.out.trans hx)).mono ?_); rintro e1 w1 ⟨rfl, hb1⟩; replace hx := hx.trans hb1; clear hb1; clear p0 p1 p2 p3 l0 l1; obtain ⟨p0, p1, p2, p3⟩ := HC.out _ hx; have l0 : w1.cell? ⟨W.heap.size + 1, 0, none⟩ = some (.slice A G.nc c) := (HX.out.ext hx).cell (by omega); have l1 : w1.cell? ⟨W.heap.size + 1, 1, none⟩ = some (.slice B m e) := (HX.out.ext hx).cell (by omega)) | (go_at_call 15; (with_reducible refine (HRU.out _ (HE.out.trans hx)).mono ?_); rintro e1 w1 ⟨A1, k1, B1, j1, rfl, m1, m2, _, _, _, _, _, hb1⟩; have M1 := Lib.hid m1; have M2 := Lib.hid m2; clear m1 m2; replace hx := hx.trans hb1; clear hb1; clear p0 p1 p2 p3 l0 l1; obtain ⟨p0, p1, p2, p3⟩ := HC.out _ hx; have l0 : w1.cell? ⟨W.heap.size + 1, 0, none⟩ = some (.slice A G.nc c) := (HX.out.ext hx).cell (by omega); have l1 : w1.cell? ⟨W.heap.size + 1, 1, none⟩ = some (.slice B m e) := (HX.out.ext hx).cell (by omega)))
            have Hr := Lib.hid (box3r w1 (.slice A1 G.nc k1) (.slice B1 G.no j1) (.bool ov) 35)
            have HAr := Lib.hid (Ext.alloc w1 (.cells #[.slice A1 G.nc k1, .slice B1 G.no j1, .bool ov] 35))
            obtain ⟨Wr, hWr⟩ : ∃ Wr, Wr = w1.alloc (.cells #[.slice A1 G.nc k1, .slice B1 G.no j1, .bool ov] 35) := ⟨_, rfl⟩
            rw [← hWr] at Hr HAr ⊢
            clear hWr
            replace hx := hx.trans HAr.out
            clear p0 p1 p2 p3 l0 l1
            obtain ⟨p0, p1, p2, p3⟩ := HC.out _ hx
            have l0 : Wr.cell? ⟨W.heap.size + 1, 0, none⟩ = some (.slice A G.nc c) := (HX.out.ext hx).cell (by omega)
            have l1 : Wr.cell? ⟨W.heap.size + 1, 1, none⟩ = some (.slice B m e) := (HX.out.ext hx).cell (by omega)
            generalize w1.heap.size = gr at *
            have hy := Ext.refl Wr
            have r0 : Wr.cell? ⟨gr, 0, none⟩ = some (.slice A1 G.nc k1) := (Hr.out.ext hy).cell (by omega)
            have r1 : Wr.cell? ⟨gr, 1, none⟩ = some (.slice B1 G.no j1) := (Hr.out.ext hy).cell (by omega)
            have r2 : Wr.cell? ⟨gr, 2, none⟩ = some (.bool ov) := (Hr.out.ext hy).cell (by omega)
            go_upto_region 8 with (first | (go_at_call 12; (with_reducible refine (HCK.out _ (HE.out.trans hx)).mono ?_); rintro e1 w1 ⟨rfl, hb1⟩; replace hx := hx.trans hb1; replace hy := hy.trans hb1; clear hb1; clear p0 p1 p2 p3 l0 l1; obtain ⟨p0, p1, p2, p3⟩ := HC.out _ hx; have l0 : w1.cell? ⟨W.heap.size + 1, 0, none⟩ = some (.slice A G.nc c) := (HX.out.ext hx).cell (by omega); have l1 : w1.cell? ⟨W.heap.size + 1, 1, none⟩ = some (.slice B m e) := (HX.out.ext hx).cell (by omega); clear r0 r1 r2; have r0 : w1.cell? ⟨gr, 0, none⟩ = some (.slice A1 G.nc k1) := (Hr.out.ext hy).cell (by omega); have r1 : w1.cell? ⟨gr, 1, none⟩ = some (.slice B1 G.no j1) := (Hr.out.ext hy).cell (by omega); have r2 : w1.cell? ⟨gr, 2, none⟩ = some (.bool ov) := (Hr.out.ext hy).cell (by omega)) | (go_at_call 21; (with_reducible refine (HRR.out _ (HE.out.trans hx)).mono ?_); rintro e1 w1 ⟨A2, k2, B2, j2, rfl, m1, m2, hb1⟩; have M3 := Lib.hid m1; have M4 := Lib.hid m2; clear m1 m2; replace hx := hx.trans hb1; replace hy := hy.trans hb1; clear hb1; clear p0 p1 p2 p3 l0 l1; obtain ⟨p0, p1, p2, p3⟩ := HC.out _ hx; have l0 : w1.cell? ⟨W.heap.size + 1, 0, none⟩ = some (.slice A G.nc c) := (HX.out.ext hx).cell (by omega); have l1 : w1.cell? ⟨W.heap.size + 1, 1, none⟩ = some (.slice B m e) := (HX.out.ext hx).cell (by omega); clear r0 r1 r2; have r0 : w1.cell? ⟨gr, 0, none⟩ = some (.slice A1 G.nc k1) := (Hr.out.ext hy).cell (by omega); have r1 : w1.cell? ⟨gr, 1, none⟩ = some (.slice B1 G.no j1) := (Hr.out.ext hy).cell (by omega); have r2 : w1.cell? ⟨gr, 2, none⟩ = some (.bool ov) := (Hr.out.ext hy).cell (by omega)))
            have Hq := Lib.hid (box3r w1 (.slice A2 G.nc k2) (.slice B2 G.no j2) (.bool ov) 35)
            have HAq := Lib.hid (Ext.alloc w1 (.cells #[.slice A2 G.nc k2, .slice B2 G.no j2, .bool ov] 35))
            obtain ⟨Wq, hWq⟩ : ∃ Wq, Wq = w1.alloc (.cells #[.slice A2 G.nc k2, .slice B2 G.no j2, .bool ov] 35) := ⟨_, rfl⟩
            rw [← hWq] at Hq HAq ⊢
            clear hWq
            replace hx := hx.trans HAq.out
            clear p0 p1 p2 p3 l0 l1
            obtain ⟨p0, p1, p2, p3⟩ := HC.out _ hx
            have l0 : Wq.cell? ⟨W.heap.size + 1, 0, none⟩ = some (.slice A G.nc c) := (HX.out.ext hx).cell (by omega)
            have l1 : Wq.cell? ⟨W.heap.size + 1, 1, none⟩ = some (.slice B m e) := (HX.out.ext hx).cell (by omega)
            generalize w1.heap.size = gq at *
            have hz := Ext.refl Wq
            have q0 : Wq.cell? ⟨gq, 0, none⟩ = some (.slice A2 G.nc k2) := (Hq.out.ext hz).cell (by omega)
            have q1 : Wq.cell? ⟨gq, 1, none⟩ = some (.slice B2 G.no j2) := (Hq.out.ext hz).cell (by omega)
            have q2 : Wq.cell? ⟨gq, 2, none⟩ = some (.bool ov) := (Hq.out.ext hz).cell (by omega)
            have HYQ := Lib.hid (HAr.out.trans (hy.trans HAq.out))
            replace hy := hy.trans HAq.out
            clear r0 r1 r2
            have r0 : Wq.cell? ⟨gr, 0, none⟩ = some (.slice A1 G.nc k1) := (Hr.out.ext hy).cell (by omega)
            have r1 : Wq.cell? ⟨gr, 1, none⟩ = some (.slice B1 G.no j1) := (Hr.out.ext hy).cell (by omega)
            have r2 : Wq.cell? ⟨gr, 2, none⟩ = some (.bool ov) := (Hr.out.ext hy).cell (by omega)
            have HSC : Hid (∀ w', Ext Wq w' → Calls Try.prog 18 #[.agg #[.slice A1 G.nc k1, .slice B1 G.no j1, .bool ov], .agg #[.slice A2 G.nc k2, .slice B2 G.no j2, .bool ov]] w' fun e w'' => e = .returned (.bool true) ∧ Ext w' w'') := fun w' e => same_any (by omega) (by omega) (M1.out.ext (HYQ.out.trans e)) (M3.out.ext (HAq.out.trans e)) (M2.out.ext (HYQ.out.trans e)) (M4.out.ext (HAq.out.trans e))
            go_wp2_with (first | (go_at_call 16; (with_reducible refine (HN0.out _).mono ?_); rintro e1 w1 ⟨rfl, hb1⟩; replace hx := hx.trans hb1; replace hy := hy.trans hb1; replace hz := hz.trans hb1; clear hb1; clear p0 p1 p2 p3 l0 l1; obtain ⟨p0, p1, p2, p3⟩ := HC.out _ hx; have l0 : w1.cell? ⟨W.heap.size + 1, 0, none⟩ = some (.slice A G.nc c) := (HX.out.ext hx).cell (by omega); have l1 : w1.cell? ⟨W.heap.size + 1, 1, none⟩ = some (.slice B m e) := (HX.out.ext hx).cell (by omega); clear r0 r1 r2; have r0 : w1.cell? ⟨gr, 0, none⟩ = some (.slice A1 G.nc k1) := (Hr.out.ext hy).cell (by omega); have r1 : w1.cell? ⟨gr, 1, none⟩ = some (.slice B1 G.no j1) := (Hr.out.ext hy).cell (by omega); have r2 : w1.cell? ⟨gr, 2, none⟩ = some (.bool ov) := (Hr.out.ext hy).cell (by omega); clear q0 q1 q2; have q0 : w1.cell? ⟨gq, 0, none⟩ = some (.slice A2 G.nc k2) := (Hq.out.ext hz).cell (by omega); have q1 : w1.cell? ⟨gq, 1, none⟩ = some (.slice B2 G.no j2) := (Hq.out.ext hz).cell (by omega); have q2 : w1.cell? ⟨gq, 2, none⟩ = some (.bool ov) := (Hq.out.ext hz).cell (by omega)) | (go_at_call 18; (with_reducible refine (HSC.out _ hz).mono ?_); rintro e1 w1 ⟨rfl, hb1⟩; replace hx := hx.trans hb1; replace hy := hy.trans hb1; replace hz := hz.trans hb1; clear hb1; clear p0 p1 p2 p3 l0 l1; obtain ⟨p0, p1, p2, p3⟩ := HC.out _ hx; have l0 : w1.cell? ⟨W.heap.size + 1, 0, none⟩ = some (.slice A G.nc c) := (HX.out.ext hx).cell (by omega); have l1 : w1.cell? ⟨W.heap.size + 1, 1, none⟩ = some (.slice B m e) := (HX.out.ext hx).cell (by omega); clear r0 r1 r2; have r0 : w1.cell? ⟨gr, 0, none⟩ = some (.slice A1 G.nc k1) := (Hr.out.ext hy).cell (by omega); have r1 : w1.cell? ⟨gr, 1, none⟩ = some (.slice B1 G.no j1) := (Hr.out.ext hy).cell (by omega); have r2 : w1.cell? ⟨gr, 2, none⟩ = some (.bool ov) := (Hr.out.ext hy).cell (by omega); clear q0 q1 q2; have q0 : w1.cell? ⟨gq, 0, none⟩ = some (.slice A2 G.nc k2) := (Hq.out.ext hz).cell (by omega); have q1 : w1.cell? ⟨gq, 1, none⟩ = some (.slice B2 G.no j2) := (Hq.out.ext hz).cell (by omega); have q2 : w1.cell? ⟨gq, 2, none⟩ = some (.bool ov) := (Hq.out.ext hz).cell (by omega)))
            go_ret
            exact ⟨rfl, HE.out.trans hx⟩
          · have HRU : Hid (∀ w', Ext W w' → Calls Try.prog 15 #[pgv G p, .slice A n c, .slice B m e] w' fun e w'' => e = .returned (.tuple #[.agg #[.slice none 0 0, .slice none 0 0, .bool false], .iface 72 (I (daE G n F m E))]) ∧ Ext w' w'') := fun w' e => Run_err2 (HD.out.ext e) hc (HRa.out.ext e) (HRb.out.ext e) HMN.out HMM.out hd
            have HRR : Hid (∀ w', Ext W w' → Calls Try.prog 21 #[pgv G p, .slice A n c, .slice B m e] w' fun e w'' => e = .returned (.tuple #[.agg #[.slice none 0 0, .slice none 0 0, .bool false], I (daE G n F m E)]) ∧ Ext w' w'') := fun w' e => RRun_err (HD.out.ext e) (HRa.out.ext e) (HRb.out.ext e) HMN.out HMM.out hd
            generalize daE G n F m E = ec at *
            clear hd hc hL
            go_upto_region 4 with (first | (go_at_call 10; (with_reducible refine (HW.out _).mono ?_); rintro e1 w1 ⟨rfl, hb1⟩; replace hx := hx.trans hb1; clear hb1; clear p0 p1 p2 p3 l0 l1; obtain ⟨p0, p1, p2, p3⟩ := HC.out _ hx; have l0 : w1.cell? ⟨W.heap.size + 1, 0, none⟩ = some (.slice A n c) := (HX.out.ext hx).cell (by omega); have l1 : w1.cell? ⟨W.heap.size + 1, 1, none⟩ = some (.slice B m e) := (HX.out.ext hx).cell (by omega)) | (go_at_call 11; (with_reducible refine (HLI.out _ (HE.out.trans hx)).mono ?_); rintro e1 w1 ⟨rfl, hb1⟩; replace hx := hx.trans hb1; clear hb1; clear p0 p1 p2 p3 l0 l1; obtain ⟨p0, p1, p2, p3⟩ := HC.out _ hx; have l0 : w1.cell? ⟨W.heap.size + 1, 0, none⟩ = some (.slice A n c) := (HX.out.ext hx).cell (by omega); have l1 : w1.cell? ⟨W.heap.size + 1, 1, none⟩ = some (.slice B m e) := (HX.out.ext hx).cell (by omega)) | (go_at_call 15; (with_reducible refine (HRU.out _ (HE.out.trans hx)).mono ?_); rintro e1 w1 ⟨rfl, hb1⟩; replace hx := hx.trans hb1; clear hb1; clear p0 p1 p2 p3 l0 l1; obtain ⟨p0, p1, p2, p3⟩ := HC.out _ hx; have l0 : w1.cell? ⟨W.heap.size + 1, 0, none⟩ = some (.slice A n c) := (HX.out.ext hx).cell (by omega); have l1 : w1.cell? ⟨W.heap.size + 1, 1, none⟩ = some (.slice B m e) := (HX.out.ext hx).cell (by omega)))
            have Hr := Lib.hid (box3r w1 (.slice none 0 0) (.slice none 0 0) (.bool false) 35)
            have HAr := Lib.hid (Ext.alloc w1 (.cells #[.slice none 0 0, .slice none 0 0, .bool false] 35))
            obtain ⟨Wr, hWr⟩ : ∃ Wr, Wr = w1.alloc (.cells #[.slice none 0 0, .slice none 0 0, .bool false] 35) := ⟨_, rfl⟩
            rw [← hWr] at Hr HAr ⊢
            clear hWr
            replace hx := hx.trans HAr.out
            clear p0 p1 p2 p3 l0 l1
            obtain ⟨p0, p1, p2, p3⟩ := HC.out _ hx
            have l0 : Wr.cell? ⟨W.heap.size + 1, 0, none⟩ = some (.slice A n c) := (HX.out.ext hx).cell (by omega)
            have l1 : Wr.cell? ⟨W.heap.size + 1, 1, none⟩ = some (.slice B m e) := (HX.out.ext hx).cell (by omega)
            generalize w1.heap.size = gr at *
            have hy := Ext.refl Wr
            have r0 : Wr.cell? ⟨gr, 0, none⟩ = some (.slice none 0 0) := (Hr.out.ext hy).cell (by omega)
            have r1 : Wr.cell? ⟨gr, 1, none⟩ = some (.slice none 0 0) := (Hr.out.ext hy).cell (by omega)
            have r2 : Wr.cell? ⟨gr, 2, none⟩ = some (.bool false) := (Hr.out.ext hy).cell (by omega)
            go_upto_region 8 with (first | (go_at_call 12; (with_reducible refine (HCK.out _ (HE.out.trans hx)).mono ?_); rintro e1 w1 ⟨rfl, hb1⟩; replace hx := hx.trans hb1; replace hy := hy.trans hb1; clear hb1; clear p0 p1 p2 p3 l0 l1; obtain ⟨p0, p1, p2, p3⟩ := HC.out _ hx; have l0 : w1.cell? ⟨W.heap.size + 1, 0, none⟩ = some (.slice A n c) := (HX.out.ext hx).cell (by omega); have l1 : w1.cell? ⟨W.heap.size + 1, 1, none⟩ = some (.slice B m e) := (HX.out.ext hx).cell (by omega); clear r0 r1 r2; have r0 : w1.cell? ⟨gr, 0, none⟩ = some (.slice none 0 0) := (Hr.out.ext hy).cell (by omega); have r1 : w1.cell? ⟨gr, 1, none⟩ = some (.slice none 0 0) := (Hr.out.ext hy).cell (by omega); have r2 : w1.cell? ⟨gr, 2, none⟩ = some (.bool false) := (Hr.out.ext hy).cell (by omega)) | (go_at_call 21; (with_reducible refine (HRR.out _ (HE.out.trans hx)).mono ?_); rintro e1 w1 ⟨rfl, hb1⟩; replace hx := hx.trans hb1; replace hy := hy.trans hb1; clear hb1; clear p0 p1 p2 p3 l0 l1; obtain ⟨p0, p1, p2, p3⟩ := HC.out _ hx; have l0 : w1.cell? ⟨W.heap.size + 1, 0, none⟩ = some (.slice A n c) := (HX.out.ext hx).cell (by omega); have l1 : w1.cell? ⟨W.heap.size + 1, 1, none⟩ = some (.slice B m e) := (HX.out.ext hx).cell (by omega); clear r0 r1 r2; have r0 : w1.cell? ⟨gr, 0, none⟩ = some (.slice none 0 0) := (Hr.out.ext hy).cell (by omega); have r1 : w1.cell? ⟨gr, 1, none⟩ = some (.slice none 0 0) := (Hr.out.ext hy).cell (by omega); have r2 : w1.cell? ⟨gr, 2, none⟩ = some (.bool false) := (Hr.out.ext hy).cell (by omega)))
            have Hq := Lib.hid (box3r w1 (.slice none 0 0) (.slice none 0 0) (.bool false) 35)
            have HAq := Lib.hid (Ext.alloc w1 (.cells #[.slice none 0 0, .slice none 0 0, .bool false] 35))
            obtain ⟨Wq, hWq⟩ : ∃ Wq, Wq = w1.alloc (.cells #[.slice none 0 0, .slice none 0 0, .bool false] 35) := ⟨_, rfl⟩
            rw [← hWq] at Hq HAq ⊢
            clear hWq
            replace hx := hx.trans HAq.out
            clear p0 p1 p2 p3 l0 l1
            obtain ⟨p0, p1, p2, p3⟩ := HC.out _ hx
            have l0 : Wq.cell? ⟨W.heap.size + 1, 0, none⟩ = some (.slice A n c) := (HX.out.ext hx).cell (by omega)
            have l1 : Wq.cell? ⟨W.heap.size + 1, 1, none⟩ = some (.slice B m e) := (HX.out.ext hx).cell (by omega)
            generalize w1.heap.size = gq at *
            have hz := Ext.refl Wq
            have q0 : Wq.cell? ⟨gq, 0, none⟩ = some (.slice none 0 0) := (Hq.out.ext hz).cell (by omega)
            have q1 : Wq.cell? ⟨gq, 1, none⟩ = some (.slice none 0 0) := (Hq.out.ext hz).cell (by omega)
            have q2 : Wq.cell? ⟨gq, 2, none⟩ = some (.bool false) := (Hq.out.ext hz).cell (by omega)
            replace hy := hy.trans HAq.out
            clear r0 r1 r2
            have r0 : Wq.cell? ⟨gr, 0, none⟩ = some (.slice none 0 0) := (Hr.out.ext hy).cell (by omega)
            have r1 : Wq.cell? ⟨gr, 1, none⟩ = some (.slice none 0 0) := (Hr.out.ext hy).cell (by omega)
            have r2 : Wq.cell? ⟨gr, 2, none⟩ = some (.bool false) := (Hr.out.ext hy).cell (by omega)
            go_wp2_with (first | (go_at_call 16; (with_reducible refine (HNE.out _ _).mono ?_); rintro e1 w1 ⟨rfl, hb1⟩; replace hx := hx.trans hb1; replace hy := hy.trans hb1; replace hz := hz.trans hb1; clear hb1; clear p0 p1 p2 p3 l0 l1; obtain ⟨p0, p1, p2, p3⟩ := HC.out _ hx; have l0 : w1.cell? ⟨W.heap.size + 1, 0, none⟩ = some (.slice A n c) := (HX.out.ext hx).cell (by omega); have l1 : w1.cell? ⟨W.heap.size + 1, 1, none⟩ = some (.slice B m e) := (HX.out.ext hx).cell (by omega); clear r0 r1 r2; have r0 : w1.cell? ⟨gr, 0, none⟩ = some (.slice none 0 0) := (Hr.out.ext hy).cell (by omega); have r1 : w1.cell? ⟨gr, 1, none⟩ = some (.slice none 0 0) := (Hr.out.ext hy).cell (by omega); have r2 : w1.cell? ⟨gr, 2, none⟩ = some (.bool false) := (Hr.out.ext hy).cell (by omega); clear q0 q1 q2; have q0 : w1.cell? ⟨gq, 0, none⟩ = some (.slice none 0 0) := (Hq.out.ext hz).cell (by omega); have q1 : w1.cell? ⟨gq, 1, none⟩ = some (.slice none 0 0) := (Hq.out.ext hz).cell (by omega); have q2 : w1.cell? ⟨gq, 2, none⟩ = some (.bool false) := (Hq.out.ext hz).cell (by omega)) | (go_at_call 18; (with_reducible refine (HSA.out _).mono ?_); rintro e1 w1 ⟨rfl, hb1⟩; replace hx := hx.trans hb1; replace hy := hy.trans hb1; replace hz := hz.trans hb1; clear hb1; clear p0 p1 p2 p3 l0 l1; obtain ⟨p0, p1, p2, p3⟩ := HC.out _ hx; have l0 : w1.cell? ⟨W.heap.size + 1, 0, none⟩ = some (.slice A n c) := (HX.out.ext hx).cell (by omega); have l1 : w1.cell? ⟨W.heap.size + 1, 1, none⟩ = some (.slice B m e) := (HX.out.ext hx).cell (by omega); clear r0 r1 r2; have r0 : w1.cell? ⟨gr, 0, none⟩ = some (.slice none 0 0) := (Hr.out.ext hy).cell (by omega); have r1 : w1.cell? ⟨gr, 1, none⟩ = some (.slice none 0 0) := (Hr.out.ext hy).cell (by omega); have r2 : w1.cell? ⟨gr, 2, none⟩ = some (.bool false) := (Hr.out.ext hy).cell (by omega); clear q0 q1 q2; have q0 : w1.cell? ⟨gq, 0, none⟩ = some (.slice none 0 0) := (Hq.out.ext hz).cell (by omega); have q1 : w1.cell? ⟨gq, 1, none⟩ = some (.slice none 0 0) := (Hq.out.ext hz).cell (by omega); have q2 : w1.cell? ⟨gq, 2, none⟩ = some (.bool false) := (Hq.out.ext hz).cell (by omega)))
            go_ret
            exact ⟨rfl, HE.out.trans hx⟩
        · have hce : (chP G != 0) = true := by simpa using hc
          have HRU : Hid (∀ w', Ext W w' → Calls Try.prog 15 #[pgv G p, .slice A n c, .slice B m e] w' fun e w'' => e = .returned (.tuple #[.agg #[.slice none 0 0, .slice none 0 0, .bool false], .iface 72 (I (chP G))]) ∧ Ext w' w'') := fun w' e => Run_err1 (HD.out.ext e) hc
          generalize chP G = ec at *
          clear hc hL
          go_upto_region 4 with (first | (go_at_call 10; (with_reducible refine (HW.out _).mono ?_); rintro e1 w1 ⟨rfl, hb1⟩; replace hx := hx.trans hb1; clear hb1; clear p0 p1 p2 p3 l0 l1; obtain ⟨p0, p1, p2, p3⟩ := HC.out _ hx; have l0 : w1.cell? ⟨W.heap.size + 1, 0, none⟩ = some (.slice A n c) := (HX.out.ext hx).cell (by omega); have l1 : w1.cell? ⟨W.heap.size + 1, 1, none⟩ = some (.slice B m e) := (HX.out.ext hx).cell (by omega)) | (go_at_call 11; (with_reducible refine (HLI.out _ (HE.out.trans hx)).mono ?_); rintro e1 w1 ⟨rfl, hb1⟩; replace hx := hx.trans hb1; clear hb1; clear p0 p1 p2 p3 l0 l1; obtain ⟨p0, p1, p2, p3⟩ := HC.out _ hx; have l0 : w1.cell? ⟨W.heap.size + 1, 0, none⟩ = some (.slice A n c) := (HX.out.ext hx).cell (by omega); have l1 : w1.cell? ⟨W.heap.size + 1, 1, none⟩ = some (.slice B m e) := (HX.out.ext hx).cell (by omega)) | (go_at_call 15; (with_reducible refine (HRU.out _ (HE.out.trans hx)).mono ?_); rintro e1 w1 ⟨rfl, hb1⟩; replace hx := hx.trans hb1; clear hb1; clear p0 p1 p2 p3 l0 l1; obtain ⟨p0, p1, p2, p3⟩ := HC.out _ hx; have l0 : w1.cell? ⟨W.heap.size + 1, 0, none⟩ = some (.slice A n c) := (HX.out.ext hx).cell (by omega); have l1 : w1.cell? ⟨W.heap.size + 1, 1, none⟩ = some (.slice B m e) := (HX.out.ext hx).cell (by omega)))
          have Hr := Lib.hid (box3r w1 (.slice none 0 0) (.slice none 0 0) (.bool false) 35)
          have HAr := Lib.hid (Ext.alloc w1 (.cells #[.slice none 0 0, .slice none 0 0, .bool false] 35))
          obtain ⟨Wr, hWr⟩ : ∃ Wr, Wr = w1.alloc (.cells #[.slice none 0 0, .slice none 0 0, .bool false] 35) := ⟨_, rfl⟩
          rw [← hWr] at Hr HAr ⊢
          clear hWr
          replace hx := hx.trans HAr.out
          clear p0 p1 p2 p3 l0 l1
          obtain ⟨p0, p1, p2, p3⟩ := HC.out _ hx
          have l0 : Wr.cell? ⟨W.heap.size + 1, 0, none⟩ = some (.slice A n c) := (HX.out.ext hx).cell (by omega)
          have l1 : Wr.cell? ⟨W.heap.size + 1, 1, none⟩ = some (.slice B m e) := (HX.out.ext hx).cell (by omega)
          generalize w1.heap.size = gr at *
          have hy := Ext.refl Wr
          have r0 : Wr.cell? ⟨gr, 0, none⟩ = some (.slice none 0 0) := (Hr.out.ext hy).cell (by omega)
          have r1 : Wr.cell? ⟨gr, 1, none⟩ = some (.slice none 0 0) := (Hr.out.ext hy).cell (by omega)
          have r2 : Wr.cell? ⟨gr, 2, none⟩ = some (.bool false) := (Hr.out.ext hy).cell (by omega)
          go_wp2_with (first | (go_at_call 12; (with_reducible refine (HCK.out _ (HE.out.trans hx)).mono ?_); rintro e1 w1 ⟨rfl, hb1⟩; replace hx := hx.trans hb1; replace hy := hy.trans hb1; clear hb1; clear p0 p1 p2 p3 l0 l1; obtain ⟨p0, p1, p2, p3⟩ := HC.out _ hx; have l0 : w1.cell? ⟨W.heap.size + 1, 0, none⟩ = some (.slice A n c) := (HX.out.ext hx).cell (by omega); have l1 : w1.cell? ⟨W.heap.size + 1, 1, none⟩ = some (.slice B m e) := (HX.out.ext hx).cell (by omega); clear r0 r1 r2; have r0 : w1.cell? ⟨gr, 0, none⟩ = some (.slice none 0 0) := (Hr.out.ext hy).cell (by omega); have r1 : w1.cell? ⟨gr, 1, none⟩ = some (.slice none 0 0) := (Hr.out.ext hy).cell (by omega); have r2 : w1.cell? ⟨gr, 2, none⟩ = some (.bool false) := (Hr.out.ext hy).cell (by omega)) | (go_at_call 16; (with_reducible refine (HNE.out _ _).mono ?_); rintro e1 w1 ⟨rfl, hb1⟩; replace hx := hx.trans hb1; replace hy := hy.trans hb1; clear hb1; clear p0 p1 p2 p3 l0 l1; obtain ⟨p0, p1, p2, p3⟩ := HC.out _ hx; have l0 : w1.cell? ⟨W.heap.size + 1, 0, none⟩ = some (.slice A n c) := (HX.out.ext hx).cell (by omega); have l1 : w1.cell? ⟨W.heap.size + 1, 1, none⟩ = some (.slice B m e) := (HX.out.ext hx).cell (by omega); clear r0 r1 r2; have r0 : w1.cell? ⟨gr, 0, none⟩ = some (.slice none 0 0) := (Hr.out.ext hy).cell (by omega); have r1 : w1.cell? ⟨gr, 1, none⟩ = some (.slice none 0 0) := (Hr.out.ext hy).cell (by omega); have r2 : w1.cell? ⟨gr, 2, none⟩ = some (.bool false) := (Hr.out.ext hy).cell (by omega)) | (go_at_call 18; (with_reducible refine (HSA.out _).mono ?_); rintro e1 w1 ⟨rfl, hb1⟩; replace hx := hx.trans hb1; replace hy := hy.trans hb1; clear hb1; clear p0 p1 p2 p3 l0 l1; obtain ⟨p0, p1, p2, p3⟩ := HC.out _ hx; have l0 : w1.cell? ⟨W.heap.size + 1, 0, none⟩ = some (.slice A n c) := (HX.out.ext hx).cell (by omega); have l1 : w1.cell? ⟨W.heap.size + 1, 1, none⟩ = some (.slice B m e) := (HX.out.ext hx).cell (by omega); clear r0 r1 r2; have r0 : w1.cell? ⟨gr, 0, none⟩ = some (.slice none 0 0) := (Hr.out.ext hy).cell (by omega); have r1 : w1.cell? ⟨gr, 1, none⟩ = some (.slice none 0 0) := (Hr.out.ext hy).cell (by omega); have r2 : w1.cell? ⟨gr, 2, none⟩ = some (.bool false) := (Hr.out.ext hy).cell (by omega)))
          go_ret
          exact ⟨rfl, HE.out.trans hx⟩
end Go.Proofs.Ytommlhdiefoocaa
