/- The fixed-point machine: Run by the reference: what is wrong with the data. -/
import Derived.Test.YtommlhdiefoocaaKdh
import Derived.Test.YtommlhdiefoocaaKdj
set_option linter.unusedVariables false
namespace Go.Proofs.Ytommlhdiefoocaa
open Go Go.RowKit
set_option maxRecDepth 100000 in
set_option maxHeartbeats 1000000 in
theorem RRun_a {w : World} {G : Pgm} {p : Pp} {A B : Option Addr} {n cA m cB : Nat} {c IN : Nat → Int} (d : Pm w G p) (ra : Ri w A n c) (rb : Ri w B m IN) (hn : n ≤ maxLen) (hm : m ≤ maxLen) (h : n ≠ G.nc) :
    Calls Try.prog 21 #[pgv G p, .slice A n cA, .slice B m cB] w fun e w' => e = .returned (.tuple #[.agg #[.slice none 0 0, .slice none 0 0, .bool false], I 11]) ∧ Ext w w' := by
  have h1' : ((n : Int) != (G.nc : Int)) = true := by simp; omega
  have HLC : G.nc ≤ 2 ^ 63 - 1 := d.lc
  unfold maxLen at hn hm
  clear d ra rb h
  obtain ⟨W1, hW1⟩ : ∃ W1, W1 = (w.alloc (.cells #[.slice p.AP G.np p.cP, .slice p.AC G.nc p.cC, .slice p.AX G.ni p.cX, .slice p.AO G.no p.cO] 26)).alloc (.cells #[.slice none 0 0, .slice none 0 0, .bool false] 35) := ⟨_, rfl⟩
  obtain ⟨b1, b2, b3, b4⟩ := run_boxes w G p _ _ hW1
  have HB := Lib.hid b1
  obtain ⟨c0, c1, c2, c3⟩ := b1
  have HF := Lib.hid b4
  have HE := Lib.hid b3
  have HZ := Lib.hid b2
  clear b4 b3 b2
  go_enter Try.func21, Try.ntmps21
  go_upto_region 1 with fail
  rw [← hW1]; clear hW1
  have hr := HF.out.ext (Ext.refl W1)
  have f0 := hr.frozen
  have r0 : W1.cell? ⟨w.heap.size + 1, 0, none⟩ = some (.slice none 0 0) := hr.cell (by omega)
  have r1 : W1.cell? ⟨w.heap.size + 1, 1, none⟩ = some (.slice none 0 0) := hr.cell (by omega)
  have r2 : W1.cell? ⟨w.heap.size + 1, 2, none⟩ = some (.bool false) := hr.cell (by omega)
  have HQ := Lib.hid (ret_box hr (.slice none 0 0) (.slice none 0 0) (.bool false))
  clear hr
  have HL : Hid (w.heap.size ≤ w.heap.size + 1) := Nat.le_succ _
  have HX := Lib.hid (HE.out.trans (Ext.refl W1))
  go_wp2_with fail
  exact bodyPost_ret (v := .tuple #[.agg #[.slice none 0 0, .slice none 0 0, .bool false], I 11]) (by simp [results, Try.results21, go_sem, HQ.out.1, HQ.out.2.1, HQ.out.2.2]) rfl ⟨rfl, ((HX.out.toSet HL.out).toSet HL.out).toSet HL.out⟩
set_option maxRecDepth 100000 in
set_option maxHeartbeats 1000000 in
theorem RRun_b {w : World} {G : Pgm} {p : Pp} {A B : Option Addr} {n cA m cB : Nat} {c IN : Nat → Int} (d : Pm w G p) (ra : Ri w A n c) (rb : Ri w B m IN) (hn : n ≤ maxLen) (hm : m ≤ maxLen) (h : n = G.nc) (h2 : wdE n c ≠ 0) :
    Calls Try.prog 21 #[pgv G p, .slice A n cA, .slice B m cB] w fun e w' => e = .returned (.tuple #[.agg #[.slice none 0 0, .slice none 0 0, .bool false], I 3]) ∧ Ext w w' := by
  have h1' : ((n : Int) != (G.nc : Int)) = false := by simp [h]
  have HLC : G.nc ≤ 2 ^ 63 - 1 := d.lc
  obtain ⟨j0, hj0, hbad, hgood⟩ : ∃ j, j < n ∧ wdB (c j) = false ∧ ∀ i, i < j → wdB (c i) = true := by
    rcases wdE_cases n c with ⟨q, _⟩ | ⟨_, q⟩
    · exact absurd q h2
    · exact q
  have HBAD := Lib.hid hbad; have HGOOD := Lib.hid hgood
  have HA := Lib.hid ra
  unfold maxLen at hn hm
  clear d ra rb h h2 hbad hgood
  obtain ⟨W1, hW1⟩ : ∃ W1, W1 = (w.alloc (.cells #[.slice p.AP G.np p.cP, .slice p.AC G.nc p.cC, .slice p.AX G.ni p.cX, .slice p.AO G.no p.cO] 26)).alloc (.cells #[.slice none 0 0, .slice none 0 0, .bool false] 35) := ⟨_, rfl⟩
  obtain ⟨b1, b2, b3, b4⟩ := run_boxes w G p _ _ hW1
  have HB := Lib.hid b1
  obtain ⟨c0, c1, c2, c3⟩ := b1
  have HF := Lib.hid b4
  have HE := Lib.hid b3
  have HZ := Lib.hid b2
  clear b4 b3 b2
  go_enter Try.func21, Try.ntmps21
  go_upto_region 1 with fail
  rw [← hW1]; clear hW1
  go_wp2_with fail
  clear c0 c1 c2 c3
  go_loopw [28] (fun s wr => ∃ j : Nat, j ≤ j0 ∧ s = I j ∧ Hid (Ext W1 wr)) (fun s _ => n - (intOf s).toNat)
  case atStart => exact ⟨0, Nat.zero_le _, rfl, Lib.hid (Ext.refl _)⟩
  case round =>
    obtain ⟨j, hj, rfl, HX0⟩ := hrel
    have hlt : j < n := by omega
    have hlt' : (j : Int) < (n : Int) := by omega
    obtain ⟨b, o, ha, hba, hc⟩ := (HA.out.ext (HE.out.trans HX0.out)) (by omega)
    have xi := hc j hlt
    clear hc
    subst ha
    by_cases hb : j = j0
    · subst hb
      have HW : Hid (∀ w', Calls Try.prog 26 #[I (c j)] w' fun e w'' => e = .returned (.bool (wdB (c j))) ∧ Ext w' w'') := fun w' => Word_any _ w'
      rw [HBAD.out] at HW
      generalize c j = v at *
      go_upto_region 7 with (go_at_call 26; (with_reducible refine (HW.out _).mono ?_); rintro e w1 ⟨rfl, hb1⟩)
      have HX1 := HX0.out.trans hb1
      have hr := HF.out.ext HX1
      have f0 := hr.frozen
      have r0 : w1.cell? ⟨w.heap.size + 1, 0, none⟩ = some (.slice none 0 0) := hr.cell (by omega)
      have r1 : w1.cell? ⟨w.heap.size + 1, 1, none⟩ = some (.slice none 0 0) := hr.cell (by omega)
      have r2 : w1.cell? ⟨w.heap.size + 1, 2, none⟩ = some (.bool false) := hr.cell (by omega)
      have HQ := Lib.hid (ret_box hr (.slice none 0 0) (.slice none 0 0) (.bool false))
      clear hr
      have HL : Hid (w.heap.size ≤ w.heap.size + 1) := Nat.le_succ _
      have HX := Lib.hid (HE.out.trans HX1)
      go_wp2_with fail
      exact bodyPost_ret (v := .tuple #[.agg #[.slice none 0 0, .slice none 0 0, .bool false], I 3]) (by simp [results, Try.results21, go_sem, HQ.out.1, HQ.out.2.1, HQ.out.2.2]) rfl ⟨rfl, ((HX.out.toSet HL.out).toSet HL.out).toSet HL.out⟩
    · have HW : Hid (∀ w', Calls Try.prog 26 #[I (c j)] w' fun e w'' => e = .returned (.bool (wdB (c j))) ∧ Ext w' w'') := fun w' => Word_any _ w'
      rw [HGOOD.out j (by omega)] at HW
      generalize c j = v at *
      go_wp2_with (go_at_call 26; (with_reducible refine (HW.out _).mono ?_); rintro e w1 ⟨rfl, hb1⟩)
      go_roundw
      case rel => exact ⟨j + 1, by omega, by go_num, Lib.hid (HX0.out.trans hb1)⟩
      case measure => simp [intOf]; omega
set_option maxRecDepth 100000 in
set_option maxHeartbeats 1000000 in
theorem RRun_c {w : World} {G : Pgm} {p : Pp} {A B : Option Addr} {n cA m cB : Nat} {c IN : Nat → Int} (d : Pm w G p) (ra : Ri w A n c) (rb : Ri w B m IN) (hn : n ≤ maxLen) (hm : m ≤ maxLen) (h : n = G.nc) (h2 : wdE n c = 0) (h3 : m ≠ G.np) :
    Calls Try.prog 21 #[pgv G p, .slice A n cA, .slice B m cB] w fun e w' => e = .returned (.tuple #[.agg #[.slice none 0 0, .slice none 0 0, .bool false], I 11]) ∧ Ext w w' := by
  have h1' : ((n : Int) != (G.nc : Int)) = false := by simp [h]
  have HLC : G.nc ≤ 2 ^ 63 - 1 := d.lc
  have HLP : G.np ≤ 2 ^ 63 - 1 := d.lp
  have HGOOD := Lib.hid (wdE_0.1 h2)
  have HA := Lib.hid ra
  have HI := Lib.hid rb
  have HP := Lib.hid d.ports
  unfold maxLen at hn hm
  have h3' : ((m : Int) != (G.np : Int)) = true := by simp; omega
  clear d ra rb h h2 h3
  obtain ⟨W1, hW1⟩ : ∃ W1, W1 = (w.alloc (.cells #[.slice p.AP G.np p.cP, .slice p.AC G.nc p.cC, .slice p.AX G.ni p.cX, .slice p.AO G.no p.cO] 26)).alloc (.cells #[.slice none 0 0, .slice none 0 0, .bool false] 35) := ⟨_, rfl⟩
  obtain ⟨b1, b2, b3, b4⟩ := run_boxes w G p _ _ hW1
  have HB := Lib.hid b1
  obtain ⟨c0, c1, c2, c3⟩ := b1
  have HF := Lib.hid b4
  have HE := Lib.hid b3
  have HZ := Lib.hid b2
  clear b4 b3 b2
  go_enter Try.func21, Try.ntmps21
  go_upto_region 1 with fail
  rw [← hW1]; clear hW1
  go_wp2_with fail
  clear c0 c1 c2 c3
  go_loopw [28] (fun s wr => ∃ j : Nat, j ≤ n ∧ s = I j ∧ Hid (Ext W1 wr)) (fun s _ => n - (intOf s).toNat)
  case atStart => exact ⟨0, Nat.zero_le _, rfl, Lib.hid (Ext.refl _)⟩
  case round =>
    obtain ⟨j, hj, rfl, HX0⟩ := hrel
    by_cases hlt : j < n
    · have hlt' : (j : Int) < (n : Int) := by omega
      obtain ⟨b, o, ha, hba, hc⟩ := (HA.out.ext (HE.out.trans HX0.out)) (by omega)
      have xi := hc j hlt
      clear hc
      have HW : Hid (∀ w', Calls Try.prog 26 #[I (c j)] w' fun e w'' => e = .returned (.bool (wdB (c j))) ∧ Ext w' w'') := fun w' => Word_any _ w'
      rw [HGOOD.out j hlt] at HW
      generalize c j = v at *
      subst ha
      go_wp2_with (go_at_call 26; (with_reducible refine (HW.out _).mono ?_); rintro e w1 ⟨rfl, hb1⟩)
      go_roundw
      case rel => exact ⟨j + 1, by omega, by go_num, Lib.hid (HX0.out.trans hb1)⟩
      case measure => simp [intOf]; omega
    · obtain rfl : j = n := by omega
      have hlt' : ¬ ((j : Int) < (j : Int)) := by omega
      obtain ⟨c0, c1, c2, c3⟩ := HB.out.ext HX0.out
      have hr := HF.out.ext HX0.out
      have f0 := hr.frozen
      have r0 : wr.cell? ⟨w.heap.size + 1, 0, none⟩ = some (.slice none 0 0) := hr.cell (by omega)
      have r1 : wr.cell? ⟨w.heap.size + 1, 1, none⟩ = some (.slice none 0 0) := hr.cell (by omega)
      have r2 : wr.cell? ⟨w.heap.size + 1, 2, none⟩ = some (.bool false) := hr.cell (by omega)
      have HQ := Lib.hid (ret_box hr (.slice none 0 0) (.slice none 0 0) (.bool false))
      clear hr
      have HL : Hid (w.heap.size ≤ w.heap.size + 1) := Nat.le_succ _
      have HX := Lib.hid (HE.out.trans HX0.out)
      go_wp2_with fail
      exact bodyPost_ret (v := .tuple #[.agg #[.slice none 0 0, .slice none 0 0, .bool false], I 11]) (by simp [results, Try.results21, go_sem, HQ.out.1, HQ.out.2.1, HQ.out.2.2]) rfl ⟨rfl, ((HX.out.toSet HL.out).toSet HL.out).toSet HL.out⟩
set_option maxRecDepth 100000 in
set_option maxHeartbeats 1000000 in
theorem RRun_d {w : World} {G : Pgm} {p : Pp} {A B : Option Addr} {n cA m cB : Nat} {c IN : Nat → Int} (d : Pm w G p) (ra : Ri w A n c) (rb : Ri w B m IN) (hn : n ≤ maxLen) (hm : m ≤ maxLen) (h : n = G.nc) (h2 : wdE n c = 0) (h3 : m = G.np) (h4 : rnE G.np G.P IN ≠ 0) :
    Calls Try.prog 21 #[pgv G p, .slice A n cA, .slice B m cB] w fun e w' => e = .returned (.tuple #[.agg #[.slice none 0 0, .slice none 0 0, .bool false], I 3]) ∧ Ext w w' := by
  have h1' : ((n : Int) != (G.nc : Int)) = false := by simp [h]
  have HLC : G.nc ≤ 2 ^ 63 - 1 := d.lc
  have HLP : G.np ≤ 2 ^ 63 - 1 := d.lp
  have HGOOD := Lib.hid (wdE_0.1 h2)
  have HA := Lib.hid ra
  have HI := Lib.hid rb
  have HP := Lib.hid d.ports
  unfold maxLen at hn hm
  have h3' : ((m : Int) != (G.np : Int)) = false := by simp [h3]
  obtain ⟨j0, hj0, hbad, hgood⟩ : ∃ j, j < G.np ∧ ¬ ((G.P j).lo ≤ IN j ∧ IN j ≤ (G.P j).hi) ∧ ∀ i, i < j → (G.P i).lo ≤ IN i ∧ IN i ≤ (G.P i).hi := by
    rcases fstI_cases G.np (fun i => !decide ((G.P i).lo ≤ IN i ∧ IN i ≤ (G.P i).hi)) with ⟨_, q⟩ | ⟨j, hj, _, hq, hl⟩
    · exact absurd (by rcases rnE_cases G.np G.P IN with ⟨r, _⟩ | r; exact r; exfalso; exact h4 (rnE_0.2 fun i hi => by have := q i hi; simpa using this)) h4
    · exact ⟨j, hj, by simp at hq; omega, fun i hi => by have := hl i hi; simpa using this⟩
  have HBAD := Lib.hid hbad; have HGD := Lib.hid hgood; have HM := Lib.hid h3
  clear d ra rb h h2 h3 h4 hbad hgood
  obtain ⟨W1, hW1⟩ : ∃ W1, W1 = (w.alloc (.cells #[.slice p.AP G.np p.cP, .slice p.AC G.nc p.cC, .slice p.AX G.ni p.cX, .slice p.AO G.no p.cO] 26)).alloc (.cells #[.slice none 0 0, .slice none 0 0, .bool false] 35) := ⟨_, rfl⟩
  obtain ⟨b1, b2, b3, b4⟩ := run_boxes w G p _ _ hW1
  have HB := Lib.hid b1
  obtain ⟨c0, c1, c2, c3⟩ := b1
  have HF := Lib.hid b4
  have HE := Lib.hid b3
  have HZ := Lib.hid b2
  clear b4 b3 b2
  go_enter Try.func21, Try.ntmps21
  go_upto_region 1 with fail
  rw [← hW1]; clear hW1
  go_wp2_with fail
  clear c0 c1 c2 c3
  go_loopw [28] (fun s wr => ∃ j : Nat, j ≤ n ∧ s = I j ∧ Hid (Ext W1 wr)) (fun s _ => n - (intOf s).toNat)
  case atStart => exact ⟨0, Nat.zero_le _, rfl, Lib.hid (Ext.refl _)⟩
  case round =>
    obtain ⟨j, hj, rfl, HX0⟩ := hrel
    by_cases hlt : j < n
    · have hlt' : (j : Int) < (n : Int) := by omega
      obtain ⟨b, o, ha, hba, hc⟩ := (HA.out.ext (HE.out.trans HX0.out)) (by omega)
      have xi := hc j hlt
      clear hc
      have HW : Hid (∀ w', Calls Try.prog 26 #[I (c j)] w' fun e w'' => e = .returned (.bool (wdB (c j))) ∧ Ext w' w'') := fun w' => Word_any _ w'
      rw [HGOOD.out j hlt] at HW
      generalize c j = v at *
      subst ha
      go_wp2_with (go_at_call 26; (with_reducible refine (HW.out _).mono ?_); rintro e w1 ⟨rfl, hb1⟩)
      go_roundw
      case rel => exact ⟨j + 1, by omega, by go_num, Lib.hid (HX0.out.trans hb1)⟩
      case measure => simp [intOf]; omega
    · obtain rfl : j = n := by omega
      have hlt' : ¬ ((j : Int) < (j : Int)) := by omega
      obtain ⟨c0, c1, c2, c3⟩ := HB.out.ext HX0.out
      go_wp2_with fail
      clear c0 c1 c2 c3
      obtain ⟨wq, rfl⟩ : ∃ wq, wq = wr := ⟨_, rfl⟩
      go_loopw [47] (fun s wr => ∃ j : Nat, j ≤ j0 ∧ s = I j ∧ Hid (Ext W1 wr)) (fun s _ => G.np - (intOf s).toNat)
      case atStart => exact ⟨0, Nat.zero_le _, rfl, HX0⟩
      clear HX0
      case round =>
        obtain ⟨j, hj, rfl, HX0⟩ := hrel
        have hlt : j < G.np := by omega
        have hlm : j < m := by have := HM.out; omega
        by_cases hb : j = j0
        · subst hb
          have hres : (decide ((G.P j).lo ≤ IN j) && decide (IN j ≤ (G.P j).hi)) = false := by have := HBAD.out; simp; omega
          obtain ⟨b, o, ha, hba, hc⟩ := (HP.out.ext (HE.out.trans HX0.out)) (by omega)
          obtain ⟨x0, x1, x2⟩ := hc j hlt
          obtain ⟨b', o', eb, hbb, hcb⟩ := (HI.out.ext (HE.out.trans HX0.out)) (by omega)
          have xi := hcb j hlm
          have hlt' : (j : Int) < (G.np : Int) := by omega
          have hlm' : (j : Int) < (m : Int) := by omega
          clear hc hcb
          subst eb
          have HWI : Hid (∀ w', Calls Try.prog 25 #[I (IN j), I (G.P j).lo, I (G.P j).hi] w' fun e w'' => e = .returned (.bool (decide ((G.P j).lo ≤ IN j) && decide (IN j ≤ (G.P j).hi))) ∧ Ext w' w'') := fun w' => within_any _ _ _ _
          rw [hres] at HWI
          clear hres
          generalize (G.P j).lo = lo at *
          generalize (G.P j).hi = hi at *
          generalize (G.P j).fr = fr at *
          generalize IN j = v at *
          obtain ⟨W5, hW5⟩ : ∃ W5, W5 = wr.alloc (.cells #[I lo, I hi, I fr] 62) := ⟨_, rfl⟩
          have hE5 : Ext wr W5 := by rw [hW5]; exact Ext.alloc _ _
          go_upto_region 14 with fail
          (try rw [← hW5])
          have z0 : W5.cell? ⟨wr.heap.size, 0, none⟩ = some (I lo) := by rw [hW5]; go_simp
          have z1 : W5.cell? ⟨wr.heap.size, 1, none⟩ = some (I hi) := by rw [hW5]; go_simp
          have zi := (hE5.old.1 b' (o' + j) hbb).trans xi
          have lz : wr.heap.size < W5.heap.size := by rw [hW5]; simp
          have lb : b' < W5.heap.size := Nat.lt_of_lt_of_le hbb hE5.size
          clear hW5 x0 x1 x2 xi
          have hb := Ext.refl W5
          have hL := fun (x : Later _) => (Ext.trans hb x.ext).old.1
          refine wp_region_later (by kernel_rfl) (by kernel_rfl) ?_
          repeat (go_big_quiet_step (first | (go_at_call 25; exact Calls.later (HWI.out _))))
          refine wpQuiet_nil ?_
          intro w2 hw2
          replace hb := Ext.trans hb (Later.of hw2)
          clear hw2 hL z0 z1 zi
          have HX1 := HX0.out.trans (hE5.trans hb)
          have hr := HF.out.ext HX1
          have f0 := hr.frozen
          have r0 : w2.cell? ⟨w.heap.size + 1, 0, none⟩ = some (.slice none 0 0) := hr.cell (by omega)
          have r1 : w2.cell? ⟨w.heap.size + 1, 1, none⟩ = some (.slice none 0 0) := hr.cell (by omega)
          have r2 : w2.cell? ⟨w.heap.size + 1, 2, none⟩ = some (.bool false) := hr.cell (by omega)
          have HQ := Lib.hid (ret_box hr (.slice none 0 0) (.slice none 0 0) (.bool false))
          clear hr
          have HL : Hid (w.heap.size ≤ w.heap.size + 1) := Nat.le_succ _
          have HX := Lib.hid (HE.out.trans HX1)
          go_wp2_with fail
          exact bodyPost_ret (v := .tuple #[.agg #[.slice none 0 0, .slice none 0 0, .bool false], I 3]) (by simp [results, Try.results21, go_sem, HQ.out.1, HQ.out.2.1, HQ.out.2.2]) rfl ⟨rfl, ((HX.out.toSet HL.out).toSet HL.out).toSet HL.out⟩
        · have hres : (decide ((G.P j).lo ≤ IN j) && decide (IN j ≤ (G.P j).hi)) = true := by have := HGD.out j (by omega); simp; omega
          obtain ⟨b, o, ha, hba, hc⟩ := (HP.out.ext (HE.out.trans HX0.out)) (by omega)
          obtain ⟨x0, x1, x2⟩ := hc j hlt
          obtain ⟨b', o', eb, hbb, hcb⟩ := (HI.out.ext (HE.out.trans HX0.out)) (by omega)
          have xi := hcb j hlm
          have hlt' : (j : Int) < (G.np : Int) := by omega
          have hlm' : (j : Int) < (m : Int) := by omega
          clear hc hcb
          subst eb
          have HWI : Hid (∀ w', Calls Try.prog 25 #[I (IN j), I (G.P j).lo, I (G.P j).hi] w' fun e w'' => e = .returned (.bool (decide ((G.P j).lo ≤ IN j) && decide (IN j ≤ (G.P j).hi))) ∧ Ext w' w'') := fun w' => within_any _ _ _ _
          rw [hres] at HWI
          clear hres
          generalize (G.P j).lo = lo at *
          generalize (G.P j).hi = hi at *
          generalize (G.P j).fr = fr at *
          generalize IN j = v at *
          obtain ⟨W5, hW5⟩ : ∃ W5, W5 = wr.alloc (.cells #[I lo, I hi, I fr] 62) := ⟨_, rfl⟩
          have hE5 : Ext wr W5 := by rw [hW5]; exact Ext.alloc _ _
          go_upto_region 14 with fail
          (try rw [← hW5])
          have z0 : W5.cell? ⟨wr.heap.size, 0, none⟩ = some (I lo) := by rw [hW5]; go_simp
          have z1 : W5.cell? ⟨wr.heap.size, 1, none⟩ = some (I hi) := by rw [hW5]; go_simp
          have zi := (hE5.old.1 b' (o' + j) hbb).trans xi
          have lz : wr.heap.size < W5.heap.size := by rw [hW5]; simp
          have lb : b' < W5.heap.size := Nat.lt_of_lt_of_le hbb hE5.size
          clear hW5 x0 x1 x2 xi
          have hb := Ext.refl W5
          have hL := fun (x : Later _) => (Ext.trans hb x.ext).old.1
          refine wp_region_later (by kernel_rfl) (by kernel_rfl) ?_
          repeat (go_big_quiet_step (first | (go_at_call 25; exact Calls.later (HWI.out _))))
          refine wpQuiet_nil ?_
          intro w2 hw2
          replace hb := Ext.trans hb (Later.of hw2)
          clear hw2 hL z0 z1 zi
          have HX1 := HX0.out.trans (hE5.trans hb)
          go_wp2_with fail
          go_roundw
          case rel => exact ⟨j + 1, by omega, by go_num, Lib.hid HX1⟩
          case measure => simp [intOf]; omega
end Go.Proofs.Ytommlhdiefoocaa
