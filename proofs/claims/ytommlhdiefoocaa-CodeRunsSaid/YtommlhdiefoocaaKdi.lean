/- The fixed-point machine: what is wrong with an instruction, by the reference. -/
import Derived.Test.YtommlhdiefoocaaKdd
namespace Go.Proofs.Ytommlhdiefoocaa
open Go Go.RowKit

set_option maxHeartbeats 400000 in
theorem within_any (n lo hi : Int) (w : World) : Calls Try.prog 25 #[I n, I lo, I hi] w fun e w' => e = .returned (.bool (decide (lo ≤ n) && decide (n ≤ hi))) ∧ Ext w w' := by
  by_cases h1 : lo ≤ n
  · have H := Lib.hid (show (decide (lo ≤ n) && decide (n ≤ hi)) = decide (n ≤ hi) by simp [h1])
    rw [H.out]
    go_enter Try.func25, Try.ntmps25
    go_wp2
    go_ret
    exact ⟨rfl, Ext.refl _⟩
  · have H := Lib.hid (show (decide (lo ≤ n) && decide (n ≤ hi)) = false by simp [h1])
    rw [H.out]
    go_enter Try.func25, Try.ntmps25
    go_wp2
    go_ret
    exact ⟨rfl, Ext.refl _⟩
theorem within_ix {c : Nat} (i : Int) (w : World) : Calls Try.prog 25 #[I i, I 0, I ((c : Int) - 1)] w fun e w' => e = .returned (.bool (ixB c i)) ∧ Ext w w' := by
  have e : ixB c i = (decide (0 ≤ i) && decide (i ≤ (c : Int) - 1)) := by unfold ixB; congr 1; simp only [decide_eq_decide]; omega
  rw [e]; exact within_any _ _ _ _
theorem within_sh (i : Int) (w : World) : Calls Try.prog 25 #[I i, I (-62), I 30] w fun e w' => e = .returned (.bool (shB i)) ∧ Ext w w' := within_any _ _ _ _
set_option maxHeartbeats 400000 in
theorem Word_any (n : Int) (w : World) : Calls Try.prog 26 #[I n] w fun e w' => e = .returned (.bool (wdB n)) ∧ Ext w w' := by
  have H : Hid (∀ w', Calls Try.prog 25 #[I n, I (-2147483648), I 2147483647] w' fun e w'' => e = .returned (.bool (wdB n)) ∧ Ext w' w'') := fun w' => within_any _ _ _ _
  go_enter Try.func26, Try.ntmps26
  go_wp2_with (go_at_call 25; (with_reducible refine (H.out _).mono ?_); rintro e w1 ⟨rfl, hb1⟩)
  go_ret
  exact ⟨rfl, hb1⟩
set_option maxRecDepth 100000 in
set_option maxHeartbeats 1000000 in
theorem Uses_any (k : Int) (w : World) : Calls Try.prog 40 #[I k] w fun e w' => e = .returned (.tuple #[.bool (usA k), .bool (usB k), .bool (usA k), .bool (usT k), .bool (usI k), .bool (isO k)]) ∧ Ext w w' := by
  by_cases h : 0 ≤ k ∧ k ≤ 10
  · obtain rfl | rfl | rfl | rfl | rfl | rfl | rfl | rfl | rfl | rfl | rfl : k = 0 ∨ k = 1 ∨ k = 2 ∨ k = 3 ∨ k = 4 ∨ k = 5 ∨ k = 6 ∨ k = 7 ∨ k = 8 ∨ k = 9 ∨ k = 10 := by omega
    all_goals
      clear h
      go_enter Try.func40, Try.ntmps40
      go_wp2_with fail
      exact bodyPost_ret (by simp [results, Try.results40, go_sem]; decide) rfl ⟨rfl, Ext.refl _⟩
  · have h0 : ¬ k = 0 := by omega
    have h1 : ¬ k = 1 := by omega
    have h2 : ¬ k = 2 := by omega
    have h3 : ¬ k = 3 := by omega
    have h4 : ¬ k = 4 := by omega
    have h5 : ¬ k = 5 := by omega
    have h6 : ¬ k = 6 := by omega
    have h7 : ¬ k = 7 := by omega
    have h8 : ¬ k = 8 := by omega
    have h9 : ¬ k = 9 := by omega
    have h10 : ¬ k = 10 := by omega
    have HV := Lib.hid (show usA k = false ∧ usB k = false ∧ usT k = false ∧ usI k = false ∧ isO k = false by
      refine ⟨?_, ?_, ?_, ?_, ?_⟩ <;> simp only [usA, usB, usT, usI, isO, decide_eq_false_iff_not] <;> omega)
    rw [HV.out.1, HV.out.2.1, HV.out.2.2.1, HV.out.2.2.2.1, HV.out.2.2.2.2]
    clear h HV
    go_enter Try.func40, Try.ntmps40
    go_wp2_with fail
    exact bodyPost_ret (by simp [results, Try.results40, go_sem]) rfl ⟨rfl, Ext.refl _⟩

set_option maxRecDepth 100000 in
set_option maxHeartbeats 1000000 in
theorem instr_in {w : World} {G : Pgm} {p : Pp} {x : Ins} (n1 : G.np ≤ 16) (n2 : G.nc ≤ 192) (hk : x.op = 0) :
    Calls Try.prog 27 #[pgv G p, insV x] w fun e w' => e = .returned (I (insE G.np G.nc x)) ∧ Ext w w' := by
  have HV := Lib.hid (insE_F G.np G.nc x)
  have hO : isO x.op = true := by simp only [isO, decide_eq_true_eq]; omega
  have hUA : usA x.op = true := by simp only [usA, decide_eq_true_eq]; omega
  have hUB : usB x.op = false := by simp only [usB, decide_eq_false_iff_not]; omega
  have hUT : usT x.op = false := by simp only [usT, decide_eq_false_iff_not]; omega
  have hUI : usI x.op = false := by simp only [usI, decide_eq_false_iff_not]; omega
  have HO : Hid (∀ w', Calls Try.prog 40 #[I x.op] w' fun e w'' => e = .returned (.tuple #[.bool true, .bool false, .bool true, .bool false, .bool false, .bool true]) ∧ Ext w' w'') := fun w' => by have := Uses_any x.op w'; rwa [hUA, hUB, hUT, hUI, hO] at this
  rw [HV.out, hUA, hUB, hUT, hUI, hO]
  clear HV hUA hUB hUT hUI hO
  have HD : Hid (∀ w', Calls Try.prog 25 #[I x.dst, I 0, I ((G.nc : Int) - 1)] w' fun e w'' => e = .returned (.bool (ixB G.nc x.dst)) ∧ Ext w' w'') := within_ix _
  have hsr : srcN G.np G.nc x.op = G.np := by unfold srcN; rw [if_pos hk]
  rw [hsr]
  have HA : Hid (∀ w', Calls Try.prog 25 #[I x.a, I 0, I ((G.np : Int) - 1)] w' fun e w'' => e = .returned (.bool (ixB G.np x.a)) ∧ Ext w' w'') := within_ix _
  have HB : Hid (∀ w', Calls Try.prog 25 #[I x.b, I 0, I ((G.nc : Int) - 1)] w' fun e w'' => e = .returned (.bool (ixB G.nc x.b)) ∧ Ext w' w'') := within_ix _
  have HSa : Hid (∀ w', Calls Try.prog 25 #[I x.sa, I (-62), I 30] w' fun e w'' => e = .returned (.bool (shB x.sa)) ∧ Ext w' w'') := within_sh _
  have HSb : Hid (∀ w', Calls Try.prog 25 #[I x.sb, I (-62), I 30] w' fun e w'' => e = .returned (.bool (shB x.sb)) ∧ Ext w' w'') := within_sh _
  have HI : Hid (∀ w', Calls Try.prog 26 #[I x.im] w' fun e w'' => e = .returned (.bool (wdB x.im)) ∧ Ext w' w'') := Word_any _
  have hw1 : IntKind.i64.wrap ((G.nc : Int) - 1) = (G.nc : Int) - 1 := IntWalk.i64_in _ (by omega)
  have hw2 : IntKind.i64.wrap ((G.np : Int) - 1) = (G.np : Int) - 1 := IntWalk.i64_in _ (by omega)
  generalize ixB G.nc x.dst = bd at *
  generalize ixB G.np x.a = ba at *
  generalize ixB G.nc x.b = bb at *
  generalize shB x.sa = sA at *
  generalize shB x.sb = sB at *
  generalize wdB x.im = wi at *
  obtain ⟨W1, hW1⟩ : ∃ W1, W1 = (w.alloc (.cells #[.slice p.AP G.np p.cP, .slice p.AC G.nc p.cC, .slice p.AX G.ni p.cX, .slice p.AO G.no p.cO] 26)).alloc (.cells #[I x.op, I x.dst, I x.a, I x.b, I x.sa, I x.sb, I x.im] 52) := ⟨_, rfl⟩
  obtain ⟨b1, b2, b3⟩ := two_ins7 w G p x _ _ hW1
  have HC0 := Lib.hid b1; have HX0 := Lib.hid b2; have HE := Lib.hid b3
  obtain ⟨c0, c1, c2, c3, c4, c5, c6⟩ := b2
  clear b1 b3
  have k0 : (x.op == 0) = true := by rw [hk]; rfl
  clear hk hsr n2 n1
  go_enter Try.func27, Try.ntmps27
  go_upto_region 1 with fail
  rw [← hW1]; clear hW1
  go_upto_region 2 with (go_at_call 40; (with_reducible refine (HO.out _).mono ?_); rintro e w2 ⟨rfl, h2⟩)
  have HC : Hid (∀ w', Ext w2 w' → Px w' w.heap.size G p) := fun w' e => (HC0.out.ext h2).ext e
  have HX : Hid (∀ w', Ext w2 w' → BI7 w' (w.heap.size + 1) x) := fun w' e => (HX0.out.ext h2).ext e
  replace HE : Hid (Ext w w2) := HE.out.trans h2
  clear h2 HC0 HX0 HO c0 c1 c2 c3 c4 c5 c6
  have hx := Ext.refl w2
  obtain ⟨p0, p1, p2, p3⟩ := HC.out _ hx
  obtain ⟨c0, c1, c2, c3, c4, c5, c6⟩ := HX.out _ hx
  cases bd
  · go_wp2_with (first | (go_at_call 25; (with_reducible refine (HD.out _).mono ?_); rintro e w1 ⟨rfl, hb1⟩; replace hx := hx.trans hb1; clear hb1; clear p0 p1 p2 p3 c0 c1 c2 c3 c4 c5 c6; obtain ⟨p0, p1, p2, p3⟩ := HC.out _ hx; obtain ⟨c0, c1, c2, c3, c4, c5, c6⟩ := HX.out _ hx) | (go_at_call 25; (with_reducible refine (HA.out _).mono ?_); rintro e w1 ⟨rfl, hb1⟩; replace hx := hx.trans hb1; clear hb1; clear p0 p1 p2 p3 c0 c1 c2 c3 c4 c5 c6; obtain ⟨p0, p1, p2, p3⟩ := HC.out _ hx; obtain ⟨c0, c1, c2, c3, c4, c5, c6⟩ := HX.out _ hx) | (go_at_call 25; (with_reducible refine (HB.out _).mono ?_); rintro e w1 ⟨rfl, hb1⟩; replace hx := hx.trans hb1; clear hb1; clear p0 p1 p2 p3 c0 c1 c2 c3 c4 c5 c6; obtain ⟨p0, p1, p2, p3⟩ := HC.out _ hx; obtain ⟨c0, c1, c2, c3, c4, c5, c6⟩ := HX.out _ hx) | (go_at_call 25; (with_reducible refine (HSa.out _).mono ?_); rintro e w1 ⟨rfl, hb1⟩; replace hx := hx.trans hb1; clear hb1; clear p0 p1 p2 p3 c0 c1 c2 c3 c4 c5 c6; obtain ⟨p0, p1, p2, p3⟩ := HC.out _ hx; obtain ⟨c0, c1, c2, c3, c4, c5, c6⟩ := HX.out _ hx) | (go_at_call 25; (with_reducible refine (HSb.out _).mono ?_); rintro e w1 ⟨rfl, hb1⟩; replace hx := hx.trans hb1; clear hb1; clear p0 p1 p2 p3 c0 c1 c2 c3 c4 c5 c6; obtain ⟨p0, p1, p2, p3⟩ := HC.out _ hx; obtain ⟨c0, c1, c2, c3, c4, c5, c6⟩ := HX.out _ hx) | (go_at_call 26; (with_reducible refine (HI.out _).mono ?_); rintro e w1 ⟨rfl, hb1⟩; replace hx := hx.trans hb1; clear hb1; clear p0 p1 p2 p3 c0 c1 c2 c3 c4 c5 c6; obtain ⟨p0, p1, p2, p3⟩ := HC.out _ hx; obtain ⟨c0, c1, c2, c3, c4, c5, c6⟩ := HX.out _ hx))
    go_ret
    exact ⟨rfl, HE.out.trans hx⟩
  · cases ba
    · go_wp2_with (first | (go_at_call 25; (with_reducible refine (HD.out _).mono ?_); rintro e w1 ⟨rfl, hb1⟩; replace hx := hx.trans hb1; clear hb1; clear p0 p1 p2 p3 c0 c1 c2 c3 c4 c5 c6; obtain ⟨p0, p1, p2, p3⟩ := HC.out _ hx; obtain ⟨c0, c1, c2, c3, c4, c5, c6⟩ := HX.out _ hx) | (go_at_call 25; (with_reducible refine (HA.out _).mono ?_); rintro e w1 ⟨rfl, hb1⟩; replace hx := hx.trans hb1; clear hb1; clear p0 p1 p2 p3 c0 c1 c2 c3 c4 c5 c6; obtain ⟨p0, p1, p2, p3⟩ := HC.out _ hx; obtain ⟨c0, c1, c2, c3, c4, c5, c6⟩ := HX.out _ hx) | (go_at_call 25; (with_reducible refine (HB.out _).mono ?_); rintro e w1 ⟨rfl, hb1⟩; replace hx := hx.trans hb1; clear hb1; clear p0 p1 p2 p3 c0 c1 c2 c3 c4 c5 c6; obtain ⟨p0, p1, p2, p3⟩ := HC.out _ hx; obtain ⟨c0, c1, c2, c3, c4, c5, c6⟩ := HX.out _ hx) | (go_at_call 25; (with_reducible refine (HSa.out _).mono ?_); rintro e w1 ⟨rfl, hb1⟩; replace hx := hx.trans hb1; clear hb1; clear p0 p1 p2 p3 c0 c1 c2 c3 c4 c5 c6; obtain ⟨p0, p1, p2, p3⟩ := HC.out _ hx; obtain ⟨c0, c1, c2, c3, c4, c5, c6⟩ := HX.out _ hx) | (go_at_call 25; (with_reducible refine (HSb.out _).mono ?_); rintro e w1 ⟨rfl, hb1⟩; replace hx := hx.trans hb1; clear hb1; clear p0 p1 p2 p3 c0 c1 c2 c3 c4 c5 c6; obtain ⟨p0, p1, p2, p3⟩ := HC.out _ hx; obtain ⟨c0, c1, c2, c3, c4, c5, c6⟩ := HX.out _ hx) | (go_at_call 26; (with_reducible refine (HI.out _).mono ?_); rintro e w1 ⟨rfl, hb1⟩; replace hx := hx.trans hb1; clear hb1; clear p0 p1 p2 p3 c0 c1 c2 c3 c4 c5 c6; obtain ⟨p0, p1, p2, p3⟩ := HC.out _ hx; obtain ⟨c0, c1, c2, c3, c4, c5, c6⟩ := HX.out _ hx))
      go_ret
      exact ⟨rfl, HE.out.trans hx⟩
    · cases sA
      · go_wp2_with (first | (go_at_call 25; (with_reducible refine (HD.out _).mono ?_); rintro e w1 ⟨rfl, hb1⟩; replace hx := hx.trans hb1; clear hb1; clear p0 p1 p2 p3 c0 c1 c2 c3 c4 c5 c6; obtain ⟨p0, p1, p2, p3⟩ := HC.out _ hx; obtain ⟨c0, c1, c2, c3, c4, c5, c6⟩ := HX.out _ hx) | (go_at_call 25; (with_reducible refine (HA.out _).mono ?_); rintro e w1 ⟨rfl, hb1⟩; replace hx := hx.trans hb1; clear hb1; clear p0 p1 p2 p3 c0 c1 c2 c3 c4 c5 c6; obtain ⟨p0, p1, p2, p3⟩ := HC.out _ hx; obtain ⟨c0, c1, c2, c3, c4, c5, c6⟩ := HX.out _ hx) | (go_at_call 25; (with_reducible refine (HB.out _).mono ?_); rintro e w1 ⟨rfl, hb1⟩; replace hx := hx.trans hb1; clear hb1; clear p0 p1 p2 p3 c0 c1 c2 c3 c4 c5 c6; obtain ⟨p0, p1, p2, p3⟩ := HC.out _ hx; obtain ⟨c0, c1, c2, c3, c4, c5, c6⟩ := HX.out _ hx) | (go_at_call 25; (with_reducible refine (HSa.out _).mono ?_); rintro e w1 ⟨rfl, hb1⟩; replace hx := hx.trans hb1; clear hb1; clear p0 p1 p2 p3 c0 c1 c2 c3 c4 c5 c6; obtain ⟨p0, p1, p2, p3⟩ := HC.out _ hx; obtain ⟨c0, c1, c2, c3, c4, c5, c6⟩ := HX.out _ hx) | (go_at_call 25; (with_reducible refine (HSb.out _).mono ?_); rintro e w1 ⟨rfl, hb1⟩; replace hx := hx.trans hb1; clear hb1; clear p0 p1 p2 p3 c0 c1 c2 c3 c4 c5 c6; obtain ⟨p0, p1, p2, p3⟩ := HC.out _ hx; obtain ⟨c0, c1, c2, c3, c4, c5, c6⟩ := HX.out _ hx) | (go_at_call 26; (with_reducible refine (HI.out _).mono ?_); rintro e w1 ⟨rfl, hb1⟩; replace hx := hx.trans hb1; clear hb1; clear p0 p1 p2 p3 c0 c1 c2 c3 c4 c5 c6; obtain ⟨p0, p1, p2, p3⟩ := HC.out _ hx; obtain ⟨c0, c1, c2, c3, c4, c5, c6⟩ := HX.out _ hx))
        go_ret
        exact ⟨rfl, HE.out.trans hx⟩
      · cases zb : (x.b == 0)
        · have nb : (x.b != 0) = true := by simp only [bne, zb]; rfl
          go_wp2_with (first | (go_at_call 25; (with_reducible refine (HD.out _).mono ?_); rintro e w1 ⟨rfl, hb1⟩; replace hx := hx.trans hb1; clear hb1; clear p0 p1 p2 p3 c0 c1 c2 c3 c4 c5 c6; obtain ⟨p0, p1, p2, p3⟩ := HC.out _ hx; obtain ⟨c0, c1, c2, c3, c4, c5, c6⟩ := HX.out _ hx) | (go_at_call 25; (with_reducible refine (HA.out _).mono ?_); rintro e w1 ⟨rfl, hb1⟩; replace hx := hx.trans hb1; clear hb1; clear p0 p1 p2 p3 c0 c1 c2 c3 c4 c5 c6; obtain ⟨p0, p1, p2, p3⟩ := HC.out _ hx; obtain ⟨c0, c1, c2, c3, c4, c5, c6⟩ := HX.out _ hx) | (go_at_call 25; (with_reducible refine (HB.out _).mono ?_); rintro e w1 ⟨rfl, hb1⟩; replace hx := hx.trans hb1; clear hb1; clear p0 p1 p2 p3 c0 c1 c2 c3 c4 c5 c6; obtain ⟨p0, p1, p2, p3⟩ := HC.out _ hx; obtain ⟨c0, c1, c2, c3, c4, c5, c6⟩ := HX.out _ hx) | (go_at_call 25; (with_reducible refine (HSa.out _).mono ?_); rintro e w1 ⟨rfl, hb1⟩; replace hx := hx.trans hb1; clear hb1; clear p0 p1 p2 p3 c0 c1 c2 c3 c4 c5 c6; obtain ⟨p0, p1, p2, p3⟩ := HC.out _ hx; obtain ⟨c0, c1, c2, c3, c4, c5, c6⟩ := HX.out _ hx) | (go_at_call 25; (with_reducible refine (HSb.out _).mono ?_); rintro e w1 ⟨rfl, hb1⟩; replace hx := hx.trans hb1; clear hb1; clear p0 p1 p2 p3 c0 c1 c2 c3 c4 c5 c6; obtain ⟨p0, p1, p2, p3⟩ := HC.out _ hx; obtain ⟨c0, c1, c2, c3, c4, c5, c6⟩ := HX.out _ hx) | (go_at_call 26; (with_reducible refine (HI.out _).mono ?_); rintro e w1 ⟨rfl, hb1⟩; replace hx := hx.trans hb1; clear hb1; clear p0 p1 p2 p3 c0 c1 c2 c3 c4 c5 c6; obtain ⟨p0, p1, p2, p3⟩ := HC.out _ hx; obtain ⟨c0, c1, c2, c3, c4, c5, c6⟩ := HX.out _ hx))
          go_ret
          exact ⟨by simp only [zb]; rfl, HE.out.trans hx⟩
        · have nb : (x.b != 0) = false := by simp only [bne, zb]; rfl
          cases zsb : (x.sb == 0)
          · have nsb : (x.sb != 0) = true := by simp only [bne, zsb]; rfl
            go_wp2_with (first | (go_at_call 25; (with_reducible refine (HD.out _).mono ?_); rintro e w1 ⟨rfl, hb1⟩; replace hx := hx.trans hb1; clear hb1; clear p0 p1 p2 p3 c0 c1 c2 c3 c4 c5 c6; obtain ⟨p0, p1, p2, p3⟩ := HC.out _ hx; obtain ⟨c0, c1, c2, c3, c4, c5, c6⟩ := HX.out _ hx) | (go_at_call 25; (with_reducible refine (HA.out _).mono ?_); rintro e w1 ⟨rfl, hb1⟩; replace hx := hx.trans hb1; clear hb1; clear p0 p1 p2 p3 c0 c1 c2 c3 c4 c5 c6; obtain ⟨p0, p1, p2, p3⟩ := HC.out _ hx; obtain ⟨c0, c1, c2, c3, c4, c5, c6⟩ := HX.out _ hx) | (go_at_call 25; (with_reducible refine (HB.out _).mono ?_); rintro e w1 ⟨rfl, hb1⟩; replace hx := hx.trans hb1; clear hb1; clear p0 p1 p2 p3 c0 c1 c2 c3 c4 c5 c6; obtain ⟨p0, p1, p2, p3⟩ := HC.out _ hx; obtain ⟨c0, c1, c2, c3, c4, c5, c6⟩ := HX.out _ hx) | (go_at_call 25; (with_reducible refine (HSa.out _).mono ?_); rintro e w1 ⟨rfl, hb1⟩; replace hx := hx.trans hb1; clear hb1; clear p0 p1 p2 p3 c0 c1 c2 c3 c4 c5 c6; obtain ⟨p0, p1, p2, p3⟩ := HC.out _ hx; obtain ⟨c0, c1, c2, c3, c4, c5, c6⟩ := HX.out _ hx) | (go_at_call 25; (with_reducible refine (HSb.out _).mono ?_); rintro e w1 ⟨rfl, hb1⟩; replace hx := hx.trans hb1; clear hb1; clear p0 p1 p2 p3 c0 c1 c2 c3 c4 c5 c6; obtain ⟨p0, p1, p2, p3⟩ := HC.out _ hx; obtain ⟨c0, c1, c2, c3, c4, c5, c6⟩ := HX.out _ hx) | (go_at_call 26; (with_reducible refine (HI.out _).mono ?_); rintro e w1 ⟨rfl, hb1⟩; replace hx := hx.trans hb1; clear hb1; clear p0 p1 p2 p3 c0 c1 c2 c3 c4 c5 c6; obtain ⟨p0, p1, p2, p3⟩ := HC.out _ hx; obtain ⟨c0, c1, c2, c3, c4, c5, c6⟩ := HX.out _ hx))
            go_ret
            exact ⟨by simp only [zb, zsb]; rfl, HE.out.trans hx⟩
          · have nsb : (x.sb != 0) = false := by simp only [bne, zsb]; rfl
            cases zim : (x.im == 0)
            · have nim : (x.im != 0) = true := by simp only [bne, zim]; rfl
              go_wp2_with (first | (go_at_call 25; (with_reducible refine (HD.out _).mono ?_); rintro e w1 ⟨rfl, hb1⟩; replace hx := hx.trans hb1; clear hb1; clear p0 p1 p2 p3 c0 c1 c2 c3 c4 c5 c6; obtain ⟨p0, p1, p2, p3⟩ := HC.out _ hx; obtain ⟨c0, c1, c2, c3, c4, c5, c6⟩ := HX.out _ hx) | (go_at_call 25; (with_reducible refine (HA.out _).mono ?_); rintro e w1 ⟨rfl, hb1⟩; replace hx := hx.trans hb1; clear hb1; clear p0 p1 p2 p3 c0 c1 c2 c3 c4 c5 c6; obtain ⟨p0, p1, p2, p3⟩ := HC.out _ hx; obtain ⟨c0, c1, c2, c3, c4, c5, c6⟩ := HX.out _ hx) | (go_at_call 25; (with_reducible refine (HB.out _).mono ?_); rintro e w1 ⟨rfl, hb1⟩; replace hx := hx.trans hb1; clear hb1; clear p0 p1 p2 p3 c0 c1 c2 c3 c4 c5 c6; obtain ⟨p0, p1, p2, p3⟩ := HC.out _ hx; obtain ⟨c0, c1, c2, c3, c4, c5, c6⟩ := HX.out _ hx) | (go_at_call 25; (with_reducible refine (HSa.out _).mono ?_); rintro e w1 ⟨rfl, hb1⟩; replace hx := hx.trans hb1; clear hb1; clear p0 p1 p2 p3 c0 c1 c2 c3 c4 c5 c6; obtain ⟨p0, p1, p2, p3⟩ := HC.out _ hx; obtain ⟨c0, c1, c2, c3, c4, c5, c6⟩ := HX.out _ hx) | (go_at_call 25; (with_reducible refine (HSb.out _).mono ?_); rintro e w1 ⟨rfl, hb1⟩; replace hx := hx.trans hb1; clear hb1; clear p0 p1 p2 p3 c0 c1 c2 c3 c4 c5 c6; obtain ⟨p0, p1, p2, p3⟩ := HC.out _ hx; obtain ⟨c0, c1, c2, c3, c4, c5, c6⟩ := HX.out _ hx) | (go_at_call 26; (with_reducible refine (HI.out _).mono ?_); rintro e w1 ⟨rfl, hb1⟩; replace hx := hx.trans hb1; clear hb1; clear p0 p1 p2 p3 c0 c1 c2 c3 c4 c5 c6; obtain ⟨p0, p1, p2, p3⟩ := HC.out _ hx; obtain ⟨c0, c1, c2, c3, c4, c5, c6⟩ := HX.out _ hx))
              go_ret
              exact ⟨by simp only [zb, zsb, zim]; rfl, HE.out.trans hx⟩
            · have nim : (x.im != 0) = false := by simp only [bne, zim]; rfl
              go_wp2_with (first | (go_at_call 25; (with_reducible refine (HD.out _).mono ?_); rintro e w1 ⟨rfl, hb1⟩; replace hx := hx.trans hb1; clear hb1; clear p0 p1 p2 p3 c0 c1 c2 c3 c4 c5 c6; obtain ⟨p0, p1, p2, p3⟩ := HC.out _ hx; obtain ⟨c0, c1, c2, c3, c4, c5, c6⟩ := HX.out _ hx) | (go_at_call 25; (with_reducible refine (HA.out _).mono ?_); rintro e w1 ⟨rfl, hb1⟩; replace hx := hx.trans hb1; clear hb1; clear p0 p1 p2 p3 c0 c1 c2 c3 c4 c5 c6; obtain ⟨p0, p1, p2, p3⟩ := HC.out _ hx; obtain ⟨c0, c1, c2, c3, c4, c5, c6⟩ := HX.out _ hx) | (go_at_call 25; (with_reducible refine (HB.out _).mono ?_); rintro e w1 ⟨rfl, hb1⟩; replace hx := hx.trans hb1; clear hb1; clear p0 p1 p2 p3 c0 c1 c2 c3 c4 c5 c6; obtain ⟨p0, p1, p2, p3⟩ := HC.out _ hx; obtain ⟨c0, c1, c2, c3, c4, c5, c6⟩ := HX.out _ hx) | (go_at_call 25; (with_reducible refine (HSa.out _).mono ?_); rintro e w1 ⟨rfl, hb1⟩; replace hx := hx.trans hb1; clear hb1; clear p0 p1 p2 p3 c0 c1 c2 c3 c4 c5 c6; obtain ⟨p0, p1, p2, p3⟩ := HC.out _ hx; obtain ⟨c0, c1, c2, c3, c4, c5, c6⟩ := HX.out _ hx) | (go_at_call 25; (with_reducible refine (HSb.out _).mono ?_); rintro e w1 ⟨rfl, hb1⟩; replace hx := hx.trans hb1; clear hb1; clear p0 p1 p2 p3 c0 c1 c2 c3 c4 c5 c6; obtain ⟨p0, p1, p2, p3⟩ := HC.out _ hx; obtain ⟨c0, c1, c2, c3, c4, c5, c6⟩ := HX.out _ hx) | (go_at_call 26; (with_reducible refine (HI.out _).mono ?_); rintro e w1 ⟨rfl, hb1⟩; replace hx := hx.trans hb1; clear hb1; clear p0 p1 p2 p3 c0 c1 c2 c3 c4 c5 c6; obtain ⟨p0, p1, p2, p3⟩ := HC.out _ hx; obtain ⟨c0, c1, c2, c3, c4, c5, c6⟩ := HX.out _ hx))
              go_ret
              exact ⟨by simp only [zb, zsb, zim]; rfl, HE.out.trans hx⟩
set_option maxRecDepth 100000 in
set_option maxHeartbeats 1000000 in
theorem instr_one {w : World} {G : Pgm} {p : Pp} {x : Ins} (n2 : G.nc ≤ 192) (hk : x.op = 2 ∨ x.op = 5 ∨ x.op = 10) :
    Calls Try.prog 27 #[pgv G p, insV x] w fun e w' => e = .returned (I (insE G.np G.nc x)) ∧ Ext w w' := by
  have HV := Lib.hid (insE_F G.np G.nc x)
  have hO : isO x.op = true := by simp only [isO, decide_eq_true_eq]; omega
  have hUA : usA x.op = true := by simp only [usA, decide_eq_true_eq]; omega
  have hUB : usB x.op = false := by simp only [usB, decide_eq_false_iff_not]; omega
  have hUT : usT x.op = false := by simp only [usT, decide_eq_false_iff_not]; omega
  have hUI : usI x.op = false := by simp only [usI, decide_eq_false_iff_not]; omega
  have HO : Hid (∀ w', Calls Try.prog 40 #[I x.op] w' fun e w'' => e = .returned (.tuple #[.bool true, .bool false, .bool true, .bool false, .bool false, .bool true]) ∧ Ext w' w'') := fun w' => by have := Uses_any x.op w'; rwa [hUA, hUB, hUT, hUI, hO] at this
  rw [HV.out, hUA, hUB, hUT, hUI, hO]
  clear HV hUA hUB hUT hUI hO
  have HD : Hid (∀ w', Calls Try.prog 25 #[I x.dst, I 0, I ((G.nc : Int) - 1)] w' fun e w'' => e = .returned (.bool (ixB G.nc x.dst)) ∧ Ext w' w'') := within_ix _
  have hsr : srcN G.np G.nc x.op = G.nc := by unfold srcN; rw [if_neg (by omega)]
  rw [hsr]
  have HA : Hid (∀ w', Calls Try.prog 25 #[I x.a, I 0, I ((G.nc : Int) - 1)] w' fun e w'' => e = .returned (.bool (ixB G.nc x.a)) ∧ Ext w' w'') := within_ix _
  have HB : Hid (∀ w', Calls Try.prog 25 #[I x.b, I 0, I ((G.nc : Int) - 1)] w' fun e w'' => e = .returned (.bool (ixB G.nc x.b)) ∧ Ext w' w'') := within_ix _
  have HSa : Hid (∀ w', Calls Try.prog 25 #[I x.sa, I (-62), I 30] w' fun e w'' => e = .returned (.bool (shB x.sa)) ∧ Ext w' w'') := within_sh _
  have HSb : Hid (∀ w', Calls Try.prog 25 #[I x.sb, I (-62), I 30] w' fun e w'' => e = .returned (.bool (shB x.sb)) ∧ Ext w' w'') := within_sh _
  have HI : Hid (∀ w', Calls Try.prog 26 #[I x.im] w' fun e w'' => e = .returned (.bool (wdB x.im)) ∧ Ext w' w'') := Word_any _
  have hw1 : IntKind.i64.wrap ((G.nc : Int) - 1) = (G.nc : Int) - 1 := IntWalk.i64_in _ (by omega)
  generalize ixB G.nc x.dst = bd at *
  generalize ixB G.nc x.a = ba at *
  generalize ixB G.nc x.b = bb at *
  generalize shB x.sa = sA at *
  generalize shB x.sb = sB at *
  generalize wdB x.im = wi at *
  obtain ⟨W1, hW1⟩ : ∃ W1, W1 = (w.alloc (.cells #[.slice p.AP G.np p.cP, .slice p.AC G.nc p.cC, .slice p.AX G.ni p.cX, .slice p.AO G.no p.cO] 26)).alloc (.cells #[I x.op, I x.dst, I x.a, I x.b, I x.sa, I x.sb, I x.im] 52) := ⟨_, rfl⟩
  obtain ⟨b1, b2, b3⟩ := two_ins7 w G p x _ _ hW1
  have HC0 := Lib.hid b1; have HX0 := Lib.hid b2; have HE := Lib.hid b3
  obtain ⟨c0, c1, c2, c3, c4, c5, c6⟩ := b2
  clear b1 b3
  have k0 : (x.op == 0) = false := by simp; omega
  clear hk hsr n2
  go_enter Try.func27, Try.ntmps27
  go_upto_region 1 with fail
  rw [← hW1]; clear hW1
  go_upto_region 2 with (go_at_call 40; (with_reducible refine (HO.out _).mono ?_); rintro e w2 ⟨rfl, h2⟩)
  have HC : Hid (∀ w', Ext w2 w' → Px w' w.heap.size G p) := fun w' e => (HC0.out.ext h2).ext e
  have HX : Hid (∀ w', Ext w2 w' → BI7 w' (w.heap.size + 1) x) := fun w' e => (HX0.out.ext h2).ext e
  replace HE : Hid (Ext w w2) := HE.out.trans h2
  clear h2 HC0 HX0 HO c0 c1 c2 c3 c4 c5 c6
  have hx := Ext.refl w2
  obtain ⟨p0, p1, p2, p3⟩ := HC.out _ hx
  obtain ⟨c0, c1, c2, c3, c4, c5, c6⟩ := HX.out _ hx
  cases bd
  · go_wp2_with (first | (go_at_call 25; (with_reducible refine (HD.out _).mono ?_); rintro e w1 ⟨rfl, hb1⟩; replace hx := hx.trans hb1; clear hb1; clear p0 p1 p2 p3 c0 c1 c2 c3 c4 c5 c6; obtain ⟨p0, p1, p2, p3⟩ := HC.out _ hx; obtain ⟨c0, c1, c2, c3, c4, c5, c6⟩ := HX.out _ hx) | (go_at_call 25; (with_reducible refine (HA.out _).mono ?_); rintro e w1 ⟨rfl, hb1⟩; replace hx := hx.trans hb1; clear hb1; clear p0 p1 p2 p3 c0 c1 c2 c3 c4 c5 c6; obtain ⟨p0, p1, p2, p3⟩ := HC.out _ hx; obtain ⟨c0, c1, c2, c3, c4, c5, c6⟩ := HX.out _ hx) | (go_at_call 25; (with_reducible refine (HB.out _).mono ?_); rintro e w1 ⟨rfl, hb1⟩; replace hx := hx.trans hb1; clear hb1; clear p0 p1 p2 p3 c0 c1 c2 c3 c4 c5 c6; obtain ⟨p0, p1, p2, p3⟩ := HC.out _ hx; obtain ⟨c0, c1, c2, c3, c4, c5, c6⟩ := HX.out _ hx) | (go_at_call 25; (with_reducible refine (HSa.out _).mono ?_); rintro e w1 ⟨rfl, hb1⟩; replace hx := hx.trans hb1; clear hb1; clear p0 p1 p2 p3 c0 c1 c2 c3 c4 c5 c6; obtain ⟨p0, p1, p2, p3⟩ := HC.out _ hx; obtain ⟨c0, c1, c2, c3, c4, c5, c6⟩ := HX.out _ hx) | (go_at_call 25; (with_reducible refine (HSb.out _).mono ?_); rintro e w1 ⟨rfl, hb1⟩; replace hx := hx.trans hb1; clear hb1; clear p0 p1 p2 p3 c0 c1 c2 c3 c4 c5 c6; obtain ⟨p0, p1, p2, p3⟩ := HC.out _ hx; obtain ⟨c0, c1, c2, c3, c4, c5, c6⟩ := HX.out _ hx) | (go_at_call 26; (with_reducible refine (HI.out _).mono ?_); rintro e w1 ⟨rfl, hb1⟩; replace hx := hx.trans hb1; clear hb1; clear p0 p1 p2 p3 c0 c1 c2 c3 c4 c5 c6; obtain ⟨p0, p1, p2, p3⟩ := HC.out _ hx; obtain ⟨c0, c1, c2, c3, c4, c5, c6⟩ := HX.out _ hx))
    go_ret
    exact ⟨rfl, HE.out.trans hx⟩
  · cases ba
    · go_wp2_with (first | (go_at_call 25; (with_reducible refine (HD.out _).mono ?_); rintro e w1 ⟨rfl, hb1⟩; replace hx := hx.trans hb1; clear hb1; clear p0 p1 p2 p3 c0 c1 c2 c3 c4 c5 c6; obtain ⟨p0, p1, p2, p3⟩ := HC.out _ hx; obtain ⟨c0, c1, c2, c3, c4, c5, c6⟩ := HX.out _ hx) | (go_at_call 25; (with_reducible refine (HA.out _).mono ?_); rintro e w1 ⟨rfl, hb1⟩; replace hx := hx.trans hb1; clear hb1; clear p0 p1 p2 p3 c0 c1 c2 c3 c4 c5 c6; obtain ⟨p0, p1, p2, p3⟩ := HC.out _ hx; obtain ⟨c0, c1, c2, c3, c4, c5, c6⟩ := HX.out _ hx) | (go_at_call 25; (with_reducible refine (HB.out _).mono ?_); rintro e w1 ⟨rfl, hb1⟩; replace hx := hx.trans hb1; clear hb1; clear p0 p1 p2 p3 c0 c1 c2 c3 c4 c5 c6; obtain ⟨p0, p1, p2, p3⟩ := HC.out _ hx; obtain ⟨c0, c1, c2, c3, c4, c5, c6⟩ := HX.out _ hx) | (go_at_call 25; (with_reducible refine (HSa.out _).mono ?_); rintro e w1 ⟨rfl, hb1⟩; replace hx := hx.trans hb1; clear hb1; clear p0 p1 p2 p3 c0 c1 c2 c3 c4 c5 c6; obtain ⟨p0, p1, p2, p3⟩ := HC.out _ hx; obtain ⟨c0, c1, c2, c3, c4, c5, c6⟩ := HX.out _ hx) | (go_at_call 25; (with_reducible refine (HSb.out _).mono ?_); rintro e w1 ⟨rfl, hb1⟩; replace hx := hx.trans hb1; clear hb1; clear p0 p1 p2 p3 c0 c1 c2 c3 c4 c5 c6; obtain ⟨p0, p1, p2, p3⟩ := HC.out _ hx; obtain ⟨c0, c1, c2, c3, c4, c5, c6⟩ := HX.out _ hx) | (go_at_call 26; (with_reducible refine (HI.out _).mono ?_); rintro e w1 ⟨rfl, hb1⟩; replace hx := hx.trans hb1; clear hb1; clear p0 p1 p2 p3 c0 c1 c2 c3 c4 c5 c6; obtain ⟨p0, p1, p2, p3⟩ := HC.out _ hx; obtain ⟨c0, c1, c2, c3, c4, c5, c6⟩ := HX.out _ hx))
      go_ret
      exact ⟨rfl, HE.out.trans hx⟩
    · cases sA
      · go_wp2_with (first | (go_at_call 25; (with_reducible refine (HD.out _).mono ?_); rintro e w1 ⟨rfl, hb1⟩; replace hx := hx.trans hb1; clear hb1; clear p0 p1 p2 p3 c0 c1 c2 c3 c4 c5 c6; obtain ⟨p0, p1, p2, p3⟩ := HC.out _ hx; obtain ⟨c0, c1, c2, c3, c4, c5, c6⟩ := HX.out _ hx) | (go_at_call 25; (with_reducible refine (HA.out _).mono ?_); rintro e w1 ⟨rfl, hb1⟩; replace hx := hx.trans hb1; clear hb1; clear p0 p1 p2 p3 c0 c1 c2 c3 c4 c5 c6; obtain ⟨p0, p1, p2, p3⟩ := HC.out _ hx; obtain ⟨c0, c1, c2, c3, c4, c5, c6⟩ := HX.out _ hx) | (go_at_call 25; (with_reducible refine (HB.out _).mono ?_); rintro e w1 ⟨rfl, hb1⟩; replace hx := hx.trans hb1; clear hb1; clear p0 p1 p2 p3 c0 c1 c2 c3 c4 c5 c6; obtain ⟨p0, p1, p2, p3⟩ := HC.out _ hx; obtain ⟨c0, c1, c2, c3, c4, c5, c6⟩ := HX.out _ hx) | (go_at_call 25; (with_reducible refine (HSa.out _).mono ?_); rintro e w1 ⟨rfl, hb1⟩; replace hx := hx.trans hb1; clear hb1; clear p0 p1 p2 p3 c0 c1 c2 c3 c4 c5 c6; obtain ⟨p0, p1, p2, p3⟩ := HC.out _ hx; obtain ⟨c0, c1, c2, c3, c4, c5, c6⟩ := HX.out _ hx) | (go_at_call 25; (with_reducible refine (HSb.out _).mono ?_); rintro e w1 ⟨rfl, hb1⟩; replace hx := hx.trans hb1; clear hb1; clear p0 p1 p2 p3 c0 c1 c2 c3 c4 c5 c6; obtain ⟨p0, p1, p2, p3⟩ := HC.out _ hx; obtain ⟨c0, c1, c2, c3, c4, c5, c6⟩ := HX.out _ hx) | (go_at_call 26; (with_reducible refine (HI.out _).mono ?_); rintro e w1 ⟨rfl, hb1⟩; replace hx := hx.trans hb1; clear hb1; clear p0 p1 p2 p3 c0 c1 c2 c3 c4 c5 c6; obtain ⟨p0, p1, p2, p3⟩ := HC.out _ hx; obtain ⟨c0, c1, c2, c3, c4, c5, c6⟩ := HX.out _ hx))
        go_ret
        exact ⟨rfl, HE.out.trans hx⟩
      · cases zb : (x.b == 0)
        · have nb : (x.b != 0) = true := by simp only [bne, zb]; rfl
          go_wp2_with (first | (go_at_call 25; (with_reducible refine (HD.out _).mono ?_); rintro e w1 ⟨rfl, hb1⟩; replace hx := hx.trans hb1; clear hb1; clear p0 p1 p2 p3 c0 c1 c2 c3 c4 c5 c6; obtain ⟨p0, p1, p2, p3⟩ := HC.out _ hx; obtain ⟨c0, c1, c2, c3, c4, c5, c6⟩ := HX.out _ hx) | (go_at_call 25; (with_reducible refine (HA.out _).mono ?_); rintro e w1 ⟨rfl, hb1⟩; replace hx := hx.trans hb1; clear hb1; clear p0 p1 p2 p3 c0 c1 c2 c3 c4 c5 c6; obtain ⟨p0, p1, p2, p3⟩ := HC.out _ hx; obtain ⟨c0, c1, c2, c3, c4, c5, c6⟩ := HX.out _ hx) | (go_at_call 25; (with_reducible refine (HB.out _).mono ?_); rintro e w1 ⟨rfl, hb1⟩; replace hx := hx.trans hb1; clear hb1; clear p0 p1 p2 p3 c0 c1 c2 c3 c4 c5 c6; obtain ⟨p0, p1, p2, p3⟩ := HC.out _ hx; obtain ⟨c0, c1, c2, c3, c4, c5, c6⟩ := HX.out _ hx) | (go_at_call 25; (with_reducible refine (HSa.out _).mono ?_); rintro e w1 ⟨rfl, hb1⟩; replace hx := hx.trans hb1; clear hb1; clear p0 p1 p2 p3 c0 c1 c2 c3 c4 c5 c6; obtain ⟨p0, p1, p2, p3⟩ := HC.out _ hx; obtain ⟨c0, c1, c2, c3, c4, c5, c6⟩ := HX.out _ hx) | (go_at_call 25; (with_reducible refine (HSb.out _).mono ?_); rintro e w1 ⟨rfl, hb1⟩; replace hx := hx.trans hb1; clear hb1; clear p0 p1 p2 p3 c0 c1 c2 c3 c4 c5 c6; obtain ⟨p0, p1, p2, p3⟩ := HC.out _ hx; obtain ⟨c0, c1, c2, c3, c4, c5, c6⟩ := HX.out _ hx) | (go_at_call 26; (with_reducible refine (HI.out _).mono ?_); rintro e w1 ⟨rfl, hb1⟩; replace hx := hx.trans hb1; clear hb1; clear p0 p1 p2 p3 c0 c1 c2 c3 c4 c5 c6; obtain ⟨p0, p1, p2, p3⟩ := HC.out _ hx; obtain ⟨c0, c1, c2, c3, c4, c5, c6⟩ := HX.out _ hx))
          go_ret
          exact ⟨by simp only [zb]; rfl, HE.out.trans hx⟩
        · have nb : (x.b != 0) = false := by simp only [bne, zb]; rfl
          cases zsb : (x.sb == 0)
          · have nsb : (x.sb != 0) = true := by simp only [bne, zsb]; rfl
            go_wp2_with (first | (go_at_call 25; (with_reducible refine (HD.out _).mono ?_); rintro e w1 ⟨rfl, hb1⟩; replace hx := hx.trans hb1; clear hb1; clear p0 p1 p2 p3 c0 c1 c2 c3 c4 c5 c6; obtain ⟨p0, p1, p2, p3⟩ := HC.out _ hx; obtain ⟨c0, c1, c2, c3, c4, c5, c6⟩ := HX.out _ hx) | (go_at_call 25; (with_reducible refine (HA.out _).mono ?_); rintro e w1 ⟨rfl, hb1⟩; replace hx := hx.trans hb1; clear hb1; clear p0 p1 p2 p3 c0 c1 c2 c3 c4 c5 c6; obtain ⟨p0, p1, p2, p3⟩ := HC.out _ hx; obtain ⟨c0, c1, c2, c3, c4, c5, c6⟩ := HX.out _ hx) | (go_at_call 25; (with_reducible refine (HB.out _).mono ?_); rintro e w1 ⟨rfl, hb1⟩; replace hx := hx.trans hb1; clear hb1; clear p0 p1 p2 p3 c0 c1 c2 c3 c4 c5 c6; obtain ⟨p0, p1, p2, p3⟩ := HC.out _ hx; obtain ⟨c0, c1, c2, c3, c4, c5, c6⟩ := HX.out _ hx) | (go_at_call 25; (with_reducible refine (HSa.out _).mono ?_); rintro e w1 ⟨rfl, hb1⟩; replace hx := hx.trans hb1; clear hb1; clear p0 p1 p2 p3 c0 c1 c2 c3 c4 c5 c6; obtain ⟨p0, p1, p2, p3⟩ := HC.out _ hx; obtain ⟨c0, c1, c2, c3, c4, c5, c6⟩ := HX.out _ hx) | (go_at_call 25; (with_reducible refine (HSb.out _).mono ?_); rintro e w1 ⟨rfl, hb1⟩; replace hx := hx.trans hb1; clear hb1; clear p0 p1 p2 p3 c0 c1 c2 c3 c4 c5 c6; obtain ⟨p0, p1, p2, p3⟩ := HC.out _ hx; obtain ⟨c0, c1, c2, c3, c4, c5, c6⟩ := HX.out _ hx) | (go_at_call 26; (with_reducible refine (HI.out _).mono ?_); rintro e w1 ⟨rfl, hb1⟩; replace hx := hx.trans hb1; clear hb1; clear p0 p1 p2 p3 c0 c1 c2 c3 c4 c5 c6; obtain ⟨p0, p1, p2, p3⟩ := HC.out _ hx; obtain ⟨c0, c1, c2, c3, c4, c5, c6⟩ := HX.out _ hx))
            go_ret
            exact ⟨by simp only [zb, zsb]; rfl, HE.out.trans hx⟩
          · have nsb : (x.sb != 0) = false := by simp only [bne, zsb]; rfl
            cases zim : (x.im == 0)
            · have nim : (x.im != 0) = true := by simp only [bne, zim]; rfl
              go_wp2_with (first | (go_at_call 25; (with_reducible refine (HD.out _).mono ?_); rintro e w1 ⟨rfl, hb1⟩; replace hx := hx.trans hb1; clear hb1; clear p0 p1 p2 p3 c0 c1 c2 c3 c4 c5 c6; obtain ⟨p0, p1, p2, p3⟩ := HC.out _ hx; obtain ⟨c0, c1, c2, c3, c4, c5, c6⟩ := HX.out _ hx) | (go_at_call 25; (with_reducible refine (HA.out _).mono ?_); rintro e w1 ⟨rfl, hb1⟩; replace hx := hx.trans hb1; clear hb1; clear p0 p1 p2 p3 c0 c1 c2 c3 c4 c5 c6; obtain ⟨p0, p1, p2, p3⟩ := HC.out _ hx; obtain ⟨c0, c1, c2, c3, c4, c5, c6⟩ := HX.out _ hx) | (go_at_call 25; (with_reducible refine (HB.out _).mono ?_); rintro e w1 ⟨rfl, hb1⟩; replace hx := hx.trans hb1; clear hb1; clear p0 p1 p2 p3 c0 c1 c2 c3 c4 c5 c6; obtain ⟨p0, p1, p2, p3⟩ := HC.out _ hx; obtain ⟨c0, c1, c2, c3, c4, c5, c6⟩ := HX.out _ hx) | (go_at_call 25; (with_reducible refine (HSa.out _).mono ?_); rintro e w1 ⟨rfl, hb1⟩; replace hx := hx.trans hb1; clear hb1; clear p0 p1 p2 p3 c0 c1 c2 c3 c4 c5 c6; obtain ⟨p0, p1, p2, p3⟩ := HC.out _ hx; obtain ⟨c0, c1, c2, c3, c4, c5, c6⟩ := HX.out _ hx) | (go_at_call 25; (with_reducible refine (HSb.out _).mono ?_); rintro e w1 ⟨rfl, hb1⟩; replace hx := hx.trans hb1; clear hb1; clear p0 p1 p2 p3 c0 c1 c2 c3 c4 c5 c6; obtain ⟨p0, p1, p2, p3⟩ := HC.out _ hx; obtain ⟨c0, c1, c2, c3, c4, c5, c6⟩ := HX.out _ hx) | (go_at_call 26; (with_reducible refine (HI.out _).mono ?_); rintro e w1 ⟨rfl, hb1⟩; replace hx := hx.trans hb1; clear hb1; clear p0 p1 p2 p3 c0 c1 c2 c3 c4 c5 c6; obtain ⟨p0, p1, p2, p3⟩ := HC.out _ hx; obtain ⟨c0, c1, c2, c3, c4, c5, c6⟩ := HX.out _ hx))
              go_ret
              exact ⟨by simp only [zb, zsb, zim]; rfl, HE.out.trans hx⟩
            · have nim : (x.im != 0) = false := by simp only [bne, zim]; rfl
              go_wp2_with (first | (go_at_call 25; (with_reducible refine (HD.out _).mono ?_); rintro e w1 ⟨rfl, hb1⟩; replace hx := hx.trans hb1; clear hb1; clear p0 p1 p2 p3 c0 c1 c2 c3 c4 c5 c6; obtain ⟨p0, p1, p2, p3⟩ := HC.out _ hx; obtain ⟨c0, c1, c2, c3, c4, c5, c6⟩ := HX.out _ hx) | (go_at_call 25; (with_reducible refine (HA.out _).mono ?_); rintro e w1 ⟨rfl, hb1⟩; replace hx := hx.trans hb1; clear hb1; clear p0 p1 p2 p3 c0 c1 c2 c3 c4 c5 c6; obtain ⟨p0, p1, p2, p3⟩ := HC.out _ hx; obtain ⟨c0, c1, c2, c3, c4, c5, c6⟩ := HX.out _ hx) | (go_at_call 25; (with_reducible refine (HB.out _).mono ?_); rintro e w1 ⟨rfl, hb1⟩; replace hx := hx.trans hb1; clear hb1; clear p0 p1 p2 p3 c0 c1 c2 c3 c4 c5 c6; obtain ⟨p0, p1, p2, p3⟩ := HC.out _ hx; obtain ⟨c0, c1, c2, c3, c4, c5, c6⟩ := HX.out _ hx) | (go_at_call 25; (with_reducible refine (HSa.out _).mono ?_); rintro e w1 ⟨rfl, hb1⟩; replace hx := hx.trans hb1; clear hb1; clear p0 p1 p2 p3 c0 c1 c2 c3 c4 c5 c6; obtain ⟨p0, p1, p2, p3⟩ := HC.out _ hx; obtain ⟨c0, c1, c2, c3, c4, c5, c6⟩ := HX.out _ hx) | (go_at_call 25; (with_reducible refine (HSb.out _).mono ?_); rintro e w1 ⟨rfl, hb1⟩; replace hx := hx.trans hb1; clear hb1; clear p0 p1 p2 p3 c0 c1 c2 c3 c4 c5 c6; obtain ⟨p0, p1, p2, p3⟩ := HC.out _ hx; obtain ⟨c0, c1, c2, c3, c4, c5, c6⟩ := HX.out _ hx) | (go_at_call 26; (with_reducible refine (HI.out _).mono ?_); rintro e w1 ⟨rfl, hb1⟩; replace hx := hx.trans hb1; clear hb1; clear p0 p1 p2 p3 c0 c1 c2 c3 c4 c5 c6; obtain ⟨p0, p1, p2, p3⟩ := HC.out _ hx; obtain ⟨c0, c1, c2, c3, c4, c5, c6⟩ := HX.out _ hx))
              go_ret
              exact ⟨by simp only [zb, zsb, zim]; rfl, HE.out.trans hx⟩
set_option maxRecDepth 100000 in
set_option maxHeartbeats 1000000 in
theorem instr_con {w : World} {G : Pgm} {p : Pp} {x : Ins} (n2 : G.nc ≤ 192) (hk : x.op = 1) :
    Calls Try.prog 27 #[pgv G p, insV x] w fun e w' => e = .returned (I (insE G.np G.nc x)) ∧ Ext w w' := by
  have HV := Lib.hid (insE_F G.np G.nc x)
  have hO : isO x.op = true := by simp only [isO, decide_eq_true_eq]; omega
  have hUA : usA x.op = false := by simp only [usA, decide_eq_false_iff_not]; omega
  have hUB : usB x.op = false := by simp only [usB, decide_eq_false_iff_not]; omega
  have hUT : usT x.op = false := by simp only [usT, decide_eq_false_iff_not]; omega
  have hUI : usI x.op = true := by simp only [usI, decide_eq_true_eq]; omega
  have HO : Hid (∀ w', Calls Try.prog 40 #[I x.op] w' fun e w'' => e = .returned (.tuple #[.bool false, .bool false, .bool false, .bool false, .bool true, .bool true]) ∧ Ext w' w'') := fun w' => by have := Uses_any x.op w'; rwa [hUA, hUB, hUT, hUI, hO] at this
  rw [HV.out, hUA, hUB, hUT, hUI, hO]
  clear HV hUA hUB hUT hUI hO
  have HD : Hid (∀ w', Calls Try.prog 25 #[I x.dst, I 0, I ((G.nc : Int) - 1)] w' fun e w'' => e = .returned (.bool (ixB G.nc x.dst)) ∧ Ext w' w'') := within_ix _
  have hsr : srcN G.np G.nc x.op = G.nc := by unfold srcN; rw [if_neg (by omega)]
  rw [hsr]
  have HA : Hid (∀ w', Calls Try.prog 25 #[I x.a, I 0, I ((G.nc : Int) - 1)] w' fun e w'' => e = .returned (.bool (ixB G.nc x.a)) ∧ Ext w' w'') := within_ix _
  have HB : Hid (∀ w', Calls Try.prog 25 #[I x.b, I 0, I ((G.nc : Int) - 1)] w' fun e w'' => e = .returned (.bool (ixB G.nc x.b)) ∧ Ext w' w'') := within_ix _
  have HSa : Hid (∀ w', Calls Try.prog 25 #[I x.sa, I (-62), I 30] w' fun e w'' => e = .returned (.bool (shB x.sa)) ∧ Ext w' w'') := within_sh _
  have HSb : Hid (∀ w', Calls Try.prog 25 #[I x.sb, I (-62), I 30] w' fun e w'' => e = .returned (.bool (shB x.sb)) ∧ Ext w' w'') := within_sh _
  have HI : Hid (∀ w', Calls Try.prog 26 #[I x.im] w' fun e w'' => e = .returned (.bool (wdB x.im)) ∧ Ext w' w'') := Word_any _
  have hw1 : IntKind.i64.wrap ((G.nc : Int) - 1) = (G.nc : Int) - 1 := IntWalk.i64_in _ (by omega)
  generalize ixB G.nc x.dst = bd at *
  generalize ixB G.nc x.a = ba at *
  generalize ixB G.nc x.b = bb at *
  generalize shB x.sa = sA at *
  generalize shB x.sb = sB at *
  generalize wdB x.im = wi at *
  obtain ⟨W1, hW1⟩ : ∃ W1, W1 = (w.alloc (.cells #[.slice p.AP G.np p.cP, .slice p.AC G.nc p.cC, .slice p.AX G.ni p.cX, .slice p.AO G.no p.cO] 26)).alloc (.cells #[I x.op, I x.dst, I x.a, I x.b, I x.sa, I x.sb, I x.im] 52) := ⟨_, rfl⟩
  obtain ⟨b1, b2, b3⟩ := two_ins7 w G p x _ _ hW1
  have HC0 := Lib.hid b1; have HX0 := Lib.hid b2; have HE := Lib.hid b3
  obtain ⟨c0, c1, c2, c3, c4, c5, c6⟩ := b2
  clear b1 b3
  have k0 : (x.op == 0) = false := by simp; omega
  clear hk hsr n2
  go_enter Try.func27, Try.ntmps27
  go_upto_region 1 with fail
  rw [← hW1]; clear hW1
  go_upto_region 2 with (go_at_call 40; (with_reducible refine (HO.out _).mono ?_); rintro e w2 ⟨rfl, h2⟩)
  have HC : Hid (∀ w', Ext w2 w' → Px w' w.heap.size G p) := fun w' e => (HC0.out.ext h2).ext e
  have HX : Hid (∀ w', Ext w2 w' → BI7 w' (w.heap.size + 1) x) := fun w' e => (HX0.out.ext h2).ext e
  replace HE : Hid (Ext w w2) := HE.out.trans h2
  clear h2 HC0 HX0 HO c0 c1 c2 c3 c4 c5 c6
  have hx := Ext.refl w2
  obtain ⟨p0, p1, p2, p3⟩ := HC.out _ hx
  obtain ⟨c0, c1, c2, c3, c4, c5, c6⟩ := HX.out _ hx
  cases bd
  · go_wp2_with (first | (go_at_call 25; (with_reducible refine (HD.out _).mono ?_); rintro e w1 ⟨rfl, hb1⟩; replace hx := hx.trans hb1; clear hb1; clear p0 p1 p2 p3 c0 c1 c2 c3 c4 c5 c6; obtain ⟨p0, p1, p2, p3⟩ := HC.out _ hx; obtain ⟨c0, c1, c2, c3, c4, c5, c6⟩ := HX.out _ hx) | (go_at_call 25; (with_reducible refine (HA.out _).mono ?_); rintro e w1 ⟨rfl, hb1⟩; replace hx := hx.trans hb1; clear hb1; clear p0 p1 p2 p3 c0 c1 c2 c3 c4 c5 c6; obtain ⟨p0, p1, p2, p3⟩ := HC.out _ hx; obtain ⟨c0, c1, c2, c3, c4, c5, c6⟩ := HX.out _ hx) | (go_at_call 25; (with_reducible refine (HB.out _).mono ?_); rintro e w1 ⟨rfl, hb1⟩; replace hx := hx.trans hb1; clear hb1; clear p0 p1 p2 p3 c0 c1 c2 c3 c4 c5 c6; obtain ⟨p0, p1, p2, p3⟩ := HC.out _ hx; obtain ⟨c0, c1, c2, c3, c4, c5, c6⟩ := HX.out _ hx) | (go_at_call 25; (with_reducible refine (HSa.out _).mono ?_); rintro e w1 ⟨rfl, hb1⟩; replace hx := hx.trans hb1; clear hb1; clear p0 p1 p2 p3 c0 c1 c2 c3 c4 c5 c6; obtain ⟨p0, p1, p2, p3⟩ := HC.out _ hx; obtain ⟨c0, c1, c2, c3, c4, c5, c6⟩ := HX.out _ hx) | (go_at_call 25; (with_reducible refine (HSb.out _).mono ?_); rintro e w1 ⟨rfl, hb1⟩; replace hx := hx.trans hb1; clear hb1; clear p0 p1 p2 p3 c0 c1 c2 c3 c4 c5 c6; obtain ⟨p0, p1, p2, p3⟩ := HC.out _ hx; obtain ⟨c0, c1, c2, c3, c4, c5, c6⟩ := HX.out _ hx) | (go_at_call 26; (with_reducible refine (HI.out _).mono ?_); rintro e w1 ⟨rfl, hb1⟩; replace hx := hx.trans hb1; clear hb1; clear p0 p1 p2 p3 c0 c1 c2 c3 c4 c5 c6; obtain ⟨p0, p1, p2, p3⟩ := HC.out _ hx; obtain ⟨c0, c1, c2, c3, c4, c5, c6⟩ := HX.out _ hx))
    go_ret
    exact ⟨rfl, HE.out.trans hx⟩
  · cases wi
    · go_wp2_with (first | (go_at_call 25; (with_reducible refine (HD.out _).mono ?_); rintro e w1 ⟨rfl, hb1⟩; replace hx := hx.trans hb1; clear hb1; clear p0 p1 p2 p3 c0 c1 c2 c3 c4 c5 c6; obtain ⟨p0, p1, p2, p3⟩ := HC.out _ hx; obtain ⟨c0, c1, c2, c3, c4, c5, c6⟩ := HX.out _ hx) | (go_at_call 25; (with_reducible refine (HA.out _).mono ?_); rintro e w1 ⟨rfl, hb1⟩; replace hx := hx.trans hb1; clear hb1; clear p0 p1 p2 p3 c0 c1 c2 c3 c4 c5 c6; obtain ⟨p0, p1, p2, p3⟩ := HC.out _ hx; obtain ⟨c0, c1, c2, c3, c4, c5, c6⟩ := HX.out _ hx) | (go_at_call 25; (with_reducible refine (HB.out _).mono ?_); rintro e w1 ⟨rfl, hb1⟩; replace hx := hx.trans hb1; clear hb1; clear p0 p1 p2 p3 c0 c1 c2 c3 c4 c5 c6; obtain ⟨p0, p1, p2, p3⟩ := HC.out _ hx; obtain ⟨c0, c1, c2, c3, c4, c5, c6⟩ := HX.out _ hx) | (go_at_call 25; (with_reducible refine (HSa.out _).mono ?_); rintro e w1 ⟨rfl, hb1⟩; replace hx := hx.trans hb1; clear hb1; clear p0 p1 p2 p3 c0 c1 c2 c3 c4 c5 c6; obtain ⟨p0, p1, p2, p3⟩ := HC.out _ hx; obtain ⟨c0, c1, c2, c3, c4, c5, c6⟩ := HX.out _ hx) | (go_at_call 25; (with_reducible refine (HSb.out _).mono ?_); rintro e w1 ⟨rfl, hb1⟩; replace hx := hx.trans hb1; clear hb1; clear p0 p1 p2 p3 c0 c1 c2 c3 c4 c5 c6; obtain ⟨p0, p1, p2, p3⟩ := HC.out _ hx; obtain ⟨c0, c1, c2, c3, c4, c5, c6⟩ := HX.out _ hx) | (go_at_call 26; (with_reducible refine (HI.out _).mono ?_); rintro e w1 ⟨rfl, hb1⟩; replace hx := hx.trans hb1; clear hb1; clear p0 p1 p2 p3 c0 c1 c2 c3 c4 c5 c6; obtain ⟨p0, p1, p2, p3⟩ := HC.out _ hx; obtain ⟨c0, c1, c2, c3, c4, c5, c6⟩ := HX.out _ hx))
      go_ret
      exact ⟨rfl, HE.out.trans hx⟩
    · cases za : (x.a == 0)
      · have na : (x.a != 0) = true := by simp only [bne, za]; rfl
        go_wp2_with (first | (go_at_call 25; (with_reducible refine (HD.out _).mono ?_); rintro e w1 ⟨rfl, hb1⟩; replace hx := hx.trans hb1; clear hb1; clear p0 p1 p2 p3 c0 c1 c2 c3 c4 c5 c6; obtain ⟨p0, p1, p2, p3⟩ := HC.out _ hx; obtain ⟨c0, c1, c2, c3, c4, c5, c6⟩ := HX.out _ hx) | (go_at_call 25; (with_reducible refine (HA.out _).mono ?_); rintro e w1 ⟨rfl, hb1⟩; replace hx := hx.trans hb1; clear hb1; clear p0 p1 p2 p3 c0 c1 c2 c3 c4 c5 c6; obtain ⟨p0, p1, p2, p3⟩ := HC.out _ hx; obtain ⟨c0, c1, c2, c3, c4, c5, c6⟩ := HX.out _ hx) | (go_at_call 25; (with_reducible refine (HB.out _).mono ?_); rintro e w1 ⟨rfl, hb1⟩; replace hx := hx.trans hb1; clear hb1; clear p0 p1 p2 p3 c0 c1 c2 c3 c4 c5 c6; obtain ⟨p0, p1, p2, p3⟩ := HC.out _ hx; obtain ⟨c0, c1, c2, c3, c4, c5, c6⟩ := HX.out _ hx) | (go_at_call 25; (with_reducible refine (HSa.out _).mono ?_); rintro e w1 ⟨rfl, hb1⟩; replace hx := hx.trans hb1; clear hb1; clear p0 p1 p2 p3 c0 c1 c2 c3 c4 c5 c6; obtain ⟨p0, p1, p2, p3⟩ := HC.out _ hx; obtain ⟨c0, c1, c2, c3, c4, c5, c6⟩ := HX.out _ hx) | (go_at_call 25; (with_reducible refine (HSb.out _).mono ?_); rintro e w1 ⟨rfl, hb1⟩; replace hx := hx.trans hb1; clear hb1; clear p0 p1 p2 p3 c0 c1 c2 c3 c4 c5 c6; obtain ⟨p0, p1, p2, p3⟩ := HC.out _ hx; obtain ⟨c0, c1, c2, c3, c4, c5, c6⟩ := HX.out _ hx) | (go_at_call 26; (with_reducible refine (HI.out _).mono ?_); rintro e w1 ⟨rfl, hb1⟩; replace hx := hx.trans hb1; clear hb1; clear p0 p1 p2 p3 c0 c1 c2 c3 c4 c5 c6; obtain ⟨p0, p1, p2, p3⟩ := HC.out _ hx; obtain ⟨c0, c1, c2, c3, c4, c5, c6⟩ := HX.out _ hx))
        go_ret
        exact ⟨by simp only [za]; rfl, HE.out.trans hx⟩
      · have na : (x.a != 0) = false := by simp only [bne, za]; rfl
        cases zb : (x.b == 0)
        · have nb : (x.b != 0) = true := by simp only [bne, zb]; rfl
          go_wp2_with (first | (go_at_call 25; (with_reducible refine (HD.out _).mono ?_); rintro e w1 ⟨rfl, hb1⟩; replace hx := hx.trans hb1; clear hb1; clear p0 p1 p2 p3 c0 c1 c2 c3 c4 c5 c6; obtain ⟨p0, p1, p2, p3⟩ := HC.out _ hx; obtain ⟨c0, c1, c2, c3, c4, c5, c6⟩ := HX.out _ hx) | (go_at_call 25; (with_reducible refine (HA.out _).mono ?_); rintro e w1 ⟨rfl, hb1⟩; replace hx := hx.trans hb1; clear hb1; clear p0 p1 p2 p3 c0 c1 c2 c3 c4 c5 c6; obtain ⟨p0, p1, p2, p3⟩ := HC.out _ hx; obtain ⟨c0, c1, c2, c3, c4, c5, c6⟩ := HX.out _ hx) | (go_at_call 25; (with_reducible refine (HB.out _).mono ?_); rintro e w1 ⟨rfl, hb1⟩; replace hx := hx.trans hb1; clear hb1; clear p0 p1 p2 p3 c0 c1 c2 c3 c4 c5 c6; obtain ⟨p0, p1, p2, p3⟩ := HC.out _ hx; obtain ⟨c0, c1, c2, c3, c4, c5, c6⟩ := HX.out _ hx) | (go_at_call 25; (with_reducible refine (HSa.out _).mono ?_); rintro e w1 ⟨rfl, hb1⟩; replace hx := hx.trans hb1; clear hb1; clear p0 p1 p2 p3 c0 c1 c2 c3 c4 c5 c6; obtain ⟨p0, p1, p2, p3⟩ := HC.out _ hx; obtain ⟨c0, c1, c2, c3, c4, c5, c6⟩ := HX.out _ hx) | (go_at_call 25; (with_reducible refine (HSb.out _).mono ?_); rintro e w1 ⟨rfl, hb1⟩; replace hx := hx.trans hb1; clear hb1; clear p0 p1 p2 p3 c0 c1 c2 c3 c4 c5 c6; obtain ⟨p0, p1, p2, p3⟩ := HC.out _ hx; obtain ⟨c0, c1, c2, c3, c4, c5, c6⟩ := HX.out _ hx) | (go_at_call 26; (with_reducible refine (HI.out _).mono ?_); rintro e w1 ⟨rfl, hb1⟩; replace hx := hx.trans hb1; clear hb1; clear p0 p1 p2 p3 c0 c1 c2 c3 c4 c5 c6; obtain ⟨p0, p1, p2, p3⟩ := HC.out _ hx; obtain ⟨c0, c1, c2, c3, c4, c5, c6⟩ := HX.out _ hx))
          go_ret
          exact ⟨by simp only [za, zb]; rfl, HE.out.trans hx⟩
        · have nb : (x.b != 0) = false := by simp only [bne, zb]; rfl
          cases zsa : (x.sa == 0)
          · have nsa : (x.sa != 0) = true := by simp only [bne, zsa]; rfl
            go_wp2_with (first | (go_at_call 25; (with_reducible refine (HD.out _).mono ?_); rintro e w1 ⟨rfl, hb1⟩; replace hx := hx.trans hb1; clear hb1; clear p0 p1 p2 p3 c0 c1 c2 c3 c4 c5 c6; obtain ⟨p0, p1, p2, p3⟩ := HC.out _ hx; obtain ⟨c0, c1, c2, c3, c4, c5, c6⟩ := HX.out _ hx) | (go_at_call 25; (with_reducible refine (HA.out _).mono ?_); rintro e w1 ⟨rfl, hb1⟩; replace hx := hx.trans hb1; clear hb1; clear p0 p1 p2 p3 c0 c1 c2 c3 c4 c5 c6; obtain ⟨p0, p1, p2, p3⟩ := HC.out _ hx; obtain ⟨c0, c1, c2, c3, c4, c5, c6⟩ := HX.out _ hx) | (go_at_call 25; (with_reducible refine (HB.out _).mono ?_); rintro e w1 ⟨rfl, hb1⟩; replace hx := hx.trans hb1; clear hb1; clear p0 p1 p2 p3 c0 c1 c2 c3 c4 c5 c6; obtain ⟨p0, p1, p2, p3⟩ := HC.out _ hx; obtain ⟨c0, c1, c2, c3, c4, c5, c6⟩ := HX.out _ hx) | (go_at_call 25; (with_reducible refine (HSa.out _).mono ?_); rintro e w1 ⟨rfl, hb1⟩; replace hx := hx.trans hb1; clear hb1; clear p0 p1 p2 p3 c0 c1 c2 c3 c4 c5 c6; obtain ⟨p0, p1, p2, p3⟩ := HC.out _ hx; obtain ⟨c0, c1, c2, c3, c4, c5, c6⟩ := HX.out _ hx) | (go_at_call 25; (with_reducible refine (HSb.out _).mono ?_); rintro e w1 ⟨rfl, hb1⟩; replace hx := hx.trans hb1; clear hb1; clear p0 p1 p2 p3 c0 c1 c2 c3 c4 c5 c6; obtain ⟨p0, p1, p2, p3⟩ := HC.out _ hx; obtain ⟨c0, c1, c2, c3, c4, c5, c6⟩ := HX.out _ hx) | (go_at_call 26; (with_reducible refine (HI.out _).mono ?_); rintro e w1 ⟨rfl, hb1⟩; replace hx := hx.trans hb1; clear hb1; clear p0 p1 p2 p3 c0 c1 c2 c3 c4 c5 c6; obtain ⟨p0, p1, p2, p3⟩ := HC.out _ hx; obtain ⟨c0, c1, c2, c3, c4, c5, c6⟩ := HX.out _ hx))
            go_ret
            exact ⟨by simp only [za, zb, zsa]; rfl, HE.out.trans hx⟩
          · have nsa : (x.sa != 0) = false := by simp only [bne, zsa]; rfl
            cases zsb : (x.sb == 0)
            · have nsb : (x.sb != 0) = true := by simp only [bne, zsb]; rfl
              go_wp2_with (first | (go_at_call 25; (with_reducible refine (HD.out _).mono ?_); rintro e w1 ⟨rfl, hb1⟩; replace hx := hx.trans hb1; clear hb1; clear p0 p1 p2 p3 c0 c1 c2 c3 c4 c5 c6; obtain ⟨p0, p1, p2, p3⟩ := HC.out _ hx; obtain ⟨c0, c1, c2, c3, c4, c5, c6⟩ := HX.out _ hx) | (go_at_call 25; (with_reducible refine (HA.out _).mono ?_); rintro e w1 ⟨rfl, hb1⟩; replace hx := hx.trans hb1; clear hb1; clear p0 p1 p2 p3 c0 c1 c2 c3 c4 c5 c6; obtain ⟨p0, p1, p2, p3⟩ := HC.out _ hx; obtain ⟨c0, c1, c2, c3, c4, c5, c6⟩ := HX.out _ hx) | (go_at_call 25; (with_reducible refine (HB.out _).mono ?_); rintro e w1 ⟨rfl, hb1⟩; replace hx := hx.trans hb1; clear hb1; clear p0 p1 p2 p3 c0 c1 c2 c3 c4 c5 c6; obtain ⟨p0, p1, p2, p3⟩ := HC.out _ hx; obtain ⟨c0, c1, c2, c3, c4, c5, c6⟩ := HX.out _ hx) | (go_at_call 25; (with_reducible refine (HSa.out _).mono ?_); rintro e w1 ⟨rfl, hb1⟩; replace hx := hx.trans hb1; clear hb1; clear p0 p1 p2 p3 c0 c1 c2 c3 c4 c5 c6; obtain ⟨p0, p1, p2, p3⟩ := HC.out _ hx; obtain ⟨c0, c1, c2, c3, c4, c5, c6⟩ := HX.out _ hx) | (go_at_call 25; (with_reducible refine (HSb.out _).mono ?_); rintro e w1 ⟨rfl, hb1⟩; replace hx := hx.trans hb1; clear hb1; clear p0 p1 p2 p3 c0 c1 c2 c3 c4 c5 c6; obtain ⟨p0, p1, p2, p3⟩ := HC.out _ hx; obtain ⟨c0, c1, c2, c3, c4, c5, c6⟩ := HX.out _ hx) | (go_at_call 26; (with_reducible refine (HI.out _).mono ?_); rintro e w1 ⟨rfl, hb1⟩; replace hx := hx.trans hb1; clear hb1; clear p0 p1 p2 p3 c0 c1 c2 c3 c4 c5 c6; obtain ⟨p0, p1, p2, p3⟩ := HC.out _ hx; obtain ⟨c0, c1, c2, c3, c4, c5, c6⟩ := HX.out _ hx))
              go_ret
              exact ⟨by simp only [za, zb, zsa, zsb]; rfl, HE.out.trans hx⟩
            · have nsb : (x.sb != 0) = false := by simp only [bne, zsb]; rfl
              go_wp2_with (first | (go_at_call 25; (with_reducible refine (HD.out _).mono ?_); rintro e w1 ⟨rfl, hb1⟩; replace hx := hx.trans hb1; clear hb1; clear p0 p1 p2 p3 c0 c1 c2 c3 c4 c5 c6; obtain ⟨p0, p1, p2, p3⟩ := HC.out _ hx; obtain ⟨c0, c1, c2, c3, c4, c5, c6⟩ := HX.out _ hx) | (go_at_call 25; (with_reducible refine (HA.out _).mono ?_); rintro e w1 ⟨rfl, hb1⟩; replace hx := hx.trans hb1; clear hb1; clear p0 p1 p2 p3 c0 c1 c2 c3 c4 c5 c6; obtain ⟨p0, p1, p2, p3⟩ := HC.out _ hx; obtain ⟨c0, c1, c2, c3, c4, c5, c6⟩ := HX.out _ hx) | (go_at_call 25; (with_reducible refine (HB.out _).mono ?_); rintro e w1 ⟨rfl, hb1⟩; replace hx := hx.trans hb1; clear hb1; clear p0 p1 p2 p3 c0 c1 c2 c3 c4 c5 c6; obtain ⟨p0, p1, p2, p3⟩ := HC.out _ hx; obtain ⟨c0, c1, c2, c3, c4, c5, c6⟩ := HX.out _ hx) | (go_at_call 25; (with_reducible refine (HSa.out _).mono ?_); rintro e w1 ⟨rfl, hb1⟩; replace hx := hx.trans hb1; clear hb1; clear p0 p1 p2 p3 c0 c1 c2 c3 c4 c5 c6; obtain ⟨p0, p1, p2, p3⟩ := HC.out _ hx; obtain ⟨c0, c1, c2, c3, c4, c5, c6⟩ := HX.out _ hx) | (go_at_call 25; (with_reducible refine (HSb.out _).mono ?_); rintro e w1 ⟨rfl, hb1⟩; replace hx := hx.trans hb1; clear hb1; clear p0 p1 p2 p3 c0 c1 c2 c3 c4 c5 c6; obtain ⟨p0, p1, p2, p3⟩ := HC.out _ hx; obtain ⟨c0, c1, c2, c3, c4, c5, c6⟩ := HX.out _ hx) | (go_at_call 26; (with_reducible refine (HI.out _).mono ?_); rintro e w1 ⟨rfl, hb1⟩; replace hx := hx.trans hb1; clear hb1; clear p0 p1 p2 p3 c0 c1 c2 c3 c4 c5 c6; obtain ⟨p0, p1, p2, p3⟩ := HC.out _ hx; obtain ⟨c0, c1, c2, c3, c4, c5, c6⟩ := HX.out _ hx))
              go_ret
              exact ⟨by simp only [za, zb, zsa, zsb]; rfl, HE.out.trans hx⟩
set_option maxRecDepth 100000 in
set_option maxHeartbeats 1000000 in
theorem instr_gain {w : World} {G : Pgm} {p : Pp} {x : Ins} (n2 : G.nc ≤ 192) (hk : x.op = 6) :
    Calls Try.prog 27 #[pgv G p, insV x] w fun e w' => e = .returned (I (insE G.np G.nc x)) ∧ Ext w w' := by
  have HV := Lib.hid (insE_F G.np G.nc x)
  have hO : isO x.op = true := by simp only [isO, decide_eq_true_eq]; omega
  have hUA : usA x.op = true := by simp only [usA, decide_eq_true_eq]; omega
  have hUB : usB x.op = false := by simp only [usB, decide_eq_false_iff_not]; omega
  have hUT : usT x.op = false := by simp only [usT, decide_eq_false_iff_not]; omega
  have hUI : usI x.op = true := by simp only [usI, decide_eq_true_eq]; omega
  have HO : Hid (∀ w', Calls Try.prog 40 #[I x.op] w' fun e w'' => e = .returned (.tuple #[.bool true, .bool false, .bool true, .bool false, .bool true, .bool true]) ∧ Ext w' w'') := fun w' => by have := Uses_any x.op w'; rwa [hUA, hUB, hUT, hUI, hO] at this
  rw [HV.out, hUA, hUB, hUT, hUI, hO]
  clear HV hUA hUB hUT hUI hO
  have HD : Hid (∀ w', Calls Try.prog 25 #[I x.dst, I 0, I ((G.nc : Int) - 1)] w' fun e w'' => e = .returned (.bool (ixB G.nc x.dst)) ∧ Ext w' w'') := within_ix _
  have hsr : srcN G.np G.nc x.op = G.nc := by unfold srcN; rw [if_neg (by omega)]
  rw [hsr]
  have HA : Hid (∀ w', Calls Try.prog 25 #[I x.a, I 0, I ((G.nc : Int) - 1)] w' fun e w'' => e = .returned (.bool (ixB G.nc x.a)) ∧ Ext w' w'') := within_ix _
  have HB : Hid (∀ w', Calls Try.prog 25 #[I x.b, I 0, I ((G.nc : Int) - 1)] w' fun e w'' => e = .returned (.bool (ixB G.nc x.b)) ∧ Ext w' w'') := within_ix _
  have HSa : Hid (∀ w', Calls Try.prog 25 #[I x.sa, I (-62), I 30] w' fun e w'' => e = .returned (.bool (shB x.sa)) ∧ Ext w' w'') := within_sh _
  have HSb : Hid (∀ w', Calls Try.prog 25 #[I x.sb, I (-62), I 30] w' fun e w'' => e = .returned (.bool (shB x.sb)) ∧ Ext w' w'') := within_sh _
  have HI : Hid (∀ w', Calls Try.prog 26 #[I x.im] w' fun e w'' => e = .returned (.bool (wdB x.im)) ∧ Ext w' w'') := Word_any _
  have hw1 : IntKind.i64.wrap ((G.nc : Int) - 1) = (G.nc : Int) - 1 := IntWalk.i64_in _ (by omega)
  generalize ixB G.nc x.dst = bd at *
  generalize ixB G.nc x.a = ba at *
  generalize ixB G.nc x.b = bb at *
  generalize shB x.sa = sA at *
  generalize shB x.sb = sB at *
  generalize wdB x.im = wi at *
  obtain ⟨W1, hW1⟩ : ∃ W1, W1 = (w.alloc (.cells #[.slice p.AP G.np p.cP, .slice p.AC G.nc p.cC, .slice p.AX G.ni p.cX, .slice p.AO G.no p.cO] 26)).alloc (.cells #[I x.op, I x.dst, I x.a, I x.b, I x.sa, I x.sb, I x.im] 52) := ⟨_, rfl⟩
  obtain ⟨b1, b2, b3⟩ := two_ins7 w G p x _ _ hW1
  have HC0 := Lib.hid b1; have HX0 := Lib.hid b2; have HE := Lib.hid b3
  obtain ⟨c0, c1, c2, c3, c4, c5, c6⟩ := b2
  clear b1 b3
  have k0 : (x.op == 0) = false := by simp; omega
  clear hk hsr n2
  go_enter Try.func27, Try.ntmps27
  go_upto_region 1 with fail
  rw [← hW1]; clear hW1
  go_upto_region 2 with (go_at_call 40; (with_reducible refine (HO.out _).mono ?_); rintro e w2 ⟨rfl, h2⟩)
  have HC : Hid (∀ w', Ext w2 w' → Px w' w.heap.size G p) := fun w' e => (HC0.out.ext h2).ext e
  have HX : Hid (∀ w', Ext w2 w' → BI7 w' (w.heap.size + 1) x) := fun w' e => (HX0.out.ext h2).ext e
  replace HE : Hid (Ext w w2) := HE.out.trans h2
  clear h2 HC0 HX0 HO c0 c1 c2 c3 c4 c5 c6
  have hx := Ext.refl w2
  obtain ⟨p0, p1, p2, p3⟩ := HC.out _ hx
  obtain ⟨c0, c1, c2, c3, c4, c5, c6⟩ := HX.out _ hx
  cases bd
  · go_wp2_with (first | (go_at_call 25; (with_reducible refine (HD.out _).mono ?_); rintro e w1 ⟨rfl, hb1⟩; replace hx := hx.trans hb1; clear hb1; clear p0 p1 p2 p3 c0 c1 c2 c3 c4 c5 c6; obtain ⟨p0, p1, p2, p3⟩ := HC.out _ hx; obtain ⟨c0, c1, c2, c3, c4, c5, c6⟩ := HX.out _ hx) | (go_at_call 25; (with_reducible refine (HA.out _).mono ?_); rintro e w1 ⟨rfl, hb1⟩; replace hx := hx.trans hb1; clear hb1; clear p0 p1 p2 p3 c0 c1 c2 c3 c4 c5 c6; obtain ⟨p0, p1, p2, p3⟩ := HC.out _ hx; obtain ⟨c0, c1, c2, c3, c4, c5, c6⟩ := HX.out _ hx) | (go_at_call 25; (with_reducible refine (HB.out _).mono ?_); rintro e w1 ⟨rfl, hb1⟩; replace hx := hx.trans hb1; clear hb1; clear p0 p1 p2 p3 c0 c1 c2 c3 c4 c5 c6; obtain ⟨p0, p1, p2, p3⟩ := HC.out _ hx; obtain ⟨c0, c1, c2, c3, c4, c5, c6⟩ := HX.out _ hx) | (go_at_call 25; (with_reducible refine (HSa.out _).mono ?_); rintro e w1 ⟨rfl, hb1⟩; replace hx := hx.trans hb1; clear hb1; clear p0 p1 p2 p3 c0 c1 c2 c3 c4 c5 c6; obtain ⟨p0, p1, p2, p3⟩ := HC.out _ hx; obtain ⟨c0, c1, c2, c3, c4, c5, c6⟩ := HX.out _ hx) | (go_at_call 25; (with_reducible refine (HSb.out _).mono ?_); rintro e w1 ⟨rfl, hb1⟩; replace hx := hx.trans hb1; clear hb1; clear p0 p1 p2 p3 c0 c1 c2 c3 c4 c5 c6; obtain ⟨p0, p1, p2, p3⟩ := HC.out _ hx; obtain ⟨c0, c1, c2, c3, c4, c5, c6⟩ := HX.out _ hx) | (go_at_call 26; (with_reducible refine (HI.out _).mono ?_); rintro e w1 ⟨rfl, hb1⟩; replace hx := hx.trans hb1; clear hb1; clear p0 p1 p2 p3 c0 c1 c2 c3 c4 c5 c6; obtain ⟨p0, p1, p2, p3⟩ := HC.out _ hx; obtain ⟨c0, c1, c2, c3, c4, c5, c6⟩ := HX.out _ hx))
    go_ret
    exact ⟨rfl, HE.out.trans hx⟩
  · cases ba
    · go_wp2_with (first | (go_at_call 25; (with_reducible refine (HD.out _).mono ?_); rintro e w1 ⟨rfl, hb1⟩; replace hx := hx.trans hb1; clear hb1; clear p0 p1 p2 p3 c0 c1 c2 c3 c4 c5 c6; obtain ⟨p0, p1, p2, p3⟩ := HC.out _ hx; obtain ⟨c0, c1, c2, c3, c4, c5, c6⟩ := HX.out _ hx) | (go_at_call 25; (with_reducible refine (HA.out _).mono ?_); rintro e w1 ⟨rfl, hb1⟩; replace hx := hx.trans hb1; clear hb1; clear p0 p1 p2 p3 c0 c1 c2 c3 c4 c5 c6; obtain ⟨p0, p1, p2, p3⟩ := HC.out _ hx; obtain ⟨c0, c1, c2, c3, c4, c5, c6⟩ := HX.out _ hx) | (go_at_call 25; (with_reducible refine (HB.out _).mono ?_); rintro e w1 ⟨rfl, hb1⟩; replace hx := hx.trans hb1; clear hb1; clear p0 p1 p2 p3 c0 c1 c2 c3 c4 c5 c6; obtain ⟨p0, p1, p2, p3⟩ := HC.out _ hx; obtain ⟨c0, c1, c2, c3, c4, c5, c6⟩ := HX.out _ hx) | (go_at_call 25; (with_reducible refine (HSa.out _).mono ?_); rintro e w1 ⟨rfl, hb1⟩; replace hx := hx.trans hb1; clear hb1; clear p0 p1 p2 p3 c0 c1 c2 c3 c4 c5 c6; obtain ⟨p0, p1, p2, p3⟩ := HC.out _ hx; obtain ⟨c0, c1, c2, c3, c4, c5, c6⟩ := HX.out _ hx) | (go_at_call 25; (with_reducible refine (HSb.out _).mono ?_); rintro e w1 ⟨rfl, hb1⟩; replace hx := hx.trans hb1; clear hb1; clear p0 p1 p2 p3 c0 c1 c2 c3 c4 c5 c6; obtain ⟨p0, p1, p2, p3⟩ := HC.out _ hx; obtain ⟨c0, c1, c2, c3, c4, c5, c6⟩ := HX.out _ hx) | (go_at_call 26; (with_reducible refine (HI.out _).mono ?_); rintro e w1 ⟨rfl, hb1⟩; replace hx := hx.trans hb1; clear hb1; clear p0 p1 p2 p3 c0 c1 c2 c3 c4 c5 c6; obtain ⟨p0, p1, p2, p3⟩ := HC.out _ hx; obtain ⟨c0, c1, c2, c3, c4, c5, c6⟩ := HX.out _ hx))
      go_ret
      exact ⟨rfl, HE.out.trans hx⟩
    · cases sA
      · go_wp2_with (first | (go_at_call 25; (with_reducible refine (HD.out _).mono ?_); rintro e w1 ⟨rfl, hb1⟩; replace hx := hx.trans hb1; clear hb1; clear p0 p1 p2 p3 c0 c1 c2 c3 c4 c5 c6; obtain ⟨p0, p1, p2, p3⟩ := HC.out _ hx; obtain ⟨c0, c1, c2, c3, c4, c5, c6⟩ := HX.out _ hx) | (go_at_call 25; (with_reducible refine (HA.out _).mono ?_); rintro e w1 ⟨rfl, hb1⟩; replace hx := hx.trans hb1; clear hb1; clear p0 p1 p2 p3 c0 c1 c2 c3 c4 c5 c6; obtain ⟨p0, p1, p2, p3⟩ := HC.out _ hx; obtain ⟨c0, c1, c2, c3, c4, c5, c6⟩ := HX.out _ hx) | (go_at_call 25; (with_reducible refine (HB.out _).mono ?_); rintro e w1 ⟨rfl, hb1⟩; replace hx := hx.trans hb1; clear hb1; clear p0 p1 p2 p3 c0 c1 c2 c3 c4 c5 c6; obtain ⟨p0, p1, p2, p3⟩ := HC.out _ hx; obtain ⟨c0, c1, c2, c3, c4, c5, c6⟩ := HX.out _ hx) | (go_at_call 25; (with_reducible refine (HSa.out _).mono ?_); rintro e w1 ⟨rfl, hb1⟩; replace hx := hx.trans hb1; clear hb1; clear p0 p1 p2 p3 c0 c1 c2 c3 c4 c5 c6; obtain ⟨p0, p1, p2, p3⟩ := HC.out _ hx; obtain ⟨c0, c1, c2, c3, c4, c5, c6⟩ := HX.out _ hx) | (go_at_call 25; (with_reducible refine (HSb.out _).mono ?_); rintro e w1 ⟨rfl, hb1⟩; replace hx := hx.trans hb1; clear hb1; clear p0 p1 p2 p3 c0 c1 c2 c3 c4 c5 c6; obtain ⟨p0, p1, p2, p3⟩ := HC.out _ hx; obtain ⟨c0, c1, c2, c3, c4, c5, c6⟩ := HX.out _ hx) | (go_at_call 26; (with_reducible refine (HI.out _).mono ?_); rintro e w1 ⟨rfl, hb1⟩; replace hx := hx.trans hb1; clear hb1; clear p0 p1 p2 p3 c0 c1 c2 c3 c4 c5 c6; obtain ⟨p0, p1, p2, p3⟩ := HC.out _ hx; obtain ⟨c0, c1, c2, c3, c4, c5, c6⟩ := HX.out _ hx))
        go_ret
        exact ⟨rfl, HE.out.trans hx⟩
      · cases wi
        · go_wp2_with (first | (go_at_call 25; (with_reducible refine (HD.out _).mono ?_); rintro e w1 ⟨rfl, hb1⟩; replace hx := hx.trans hb1; clear hb1; clear p0 p1 p2 p3 c0 c1 c2 c3 c4 c5 c6; obtain ⟨p0, p1, p2, p3⟩ := HC.out _ hx; obtain ⟨c0, c1, c2, c3, c4, c5, c6⟩ := HX.out _ hx) | (go_at_call 25; (with_reducible refine (HA.out _).mono ?_); rintro e w1 ⟨rfl, hb1⟩; replace hx := hx.trans hb1; clear hb1; clear p0 p1 p2 p3 c0 c1 c2 c3 c4 c5 c6; obtain ⟨p0, p1, p2, p3⟩ := HC.out _ hx; obtain ⟨c0, c1, c2, c3, c4, c5, c6⟩ := HX.out _ hx) | (go_at_call 25; (with_reducible refine (HB.out _).mono ?_); rintro e w1 ⟨rfl, hb1⟩; replace hx := hx.trans hb1; clear hb1; clear p0 p1 p2 p3 c0 c1 c2 c3 c4 c5 c6; obtain ⟨p0, p1, p2, p3⟩ := HC.out _ hx; obtain ⟨c0, c1, c2, c3, c4, c5, c6⟩ := HX.out _ hx) | (go_at_call 25; (with_reducible refine (HSa.out _).mono ?_); rintro e w1 ⟨rfl, hb1⟩; replace hx := hx.trans hb1; clear hb1; clear p0 p1 p2 p3 c0 c1 c2 c3 c4 c5 c6; obtain ⟨p0, p1, p2, p3⟩ := HC.out _ hx; obtain ⟨c0, c1, c2, c3, c4, c5, c6⟩ := HX.out _ hx) | (go_at_call 25; (with_reducible refine (HSb.out _).mono ?_); rintro e w1 ⟨rfl, hb1⟩; replace hx := hx.trans hb1; clear hb1; clear p0 p1 p2 p3 c0 c1 c2 c3 c4 c5 c6; obtain ⟨p0, p1, p2, p3⟩ := HC.out _ hx; obtain ⟨c0, c1, c2, c3, c4, c5, c6⟩ := HX.out _ hx) | (go_at_call 26; (with_reducible refine (HI.out _).mono ?_); rintro e w1 ⟨rfl, hb1⟩; replace hx := hx.trans hb1; clear hb1; clear p0 p1 p2 p3 c0 c1 c2 c3 c4 c5 c6; obtain ⟨p0, p1, p2, p3⟩ := HC.out _ hx; obtain ⟨c0, c1, c2, c3, c4, c5, c6⟩ := HX.out _ hx))
          go_ret
          exact ⟨rfl, HE.out.trans hx⟩
        · cases zb : (x.b == 0)
          · have nb : (x.b != 0) = true := by simp only [bne, zb]; rfl
            go_wp2_with (first | (go_at_call 25; (with_reducible refine (HD.out _).mono ?_); rintro e w1 ⟨rfl, hb1⟩; replace hx := hx.trans hb1; clear hb1; clear p0 p1 p2 p3 c0 c1 c2 c3 c4 c5 c6; obtain ⟨p0, p1, p2, p3⟩ := HC.out _ hx; obtain ⟨c0, c1, c2, c3, c4, c5, c6⟩ := HX.out _ hx) | (go_at_call 25; (with_reducible refine (HA.out _).mono ?_); rintro e w1 ⟨rfl, hb1⟩; replace hx := hx.trans hb1; clear hb1; clear p0 p1 p2 p3 c0 c1 c2 c3 c4 c5 c6; obtain ⟨p0, p1, p2, p3⟩ := HC.out _ hx; obtain ⟨c0, c1, c2, c3, c4, c5, c6⟩ := HX.out _ hx) | (go_at_call 25; (with_reducible refine (HB.out _).mono ?_); rintro e w1 ⟨rfl, hb1⟩; replace hx := hx.trans hb1; clear hb1; clear p0 p1 p2 p3 c0 c1 c2 c3 c4 c5 c6; obtain ⟨p0, p1, p2, p3⟩ := HC.out _ hx; obtain ⟨c0, c1, c2, c3, c4, c5, c6⟩ := HX.out _ hx) | (go_at_call 25; (with_reducible refine (HSa.out _).mono ?_); rintro e w1 ⟨rfl, hb1⟩; replace hx := hx.trans hb1; clear hb1; clear p0 p1 p2 p3 c0 c1 c2 c3 c4 c5 c6; obtain ⟨p0, p1, p2, p3⟩ := HC.out _ hx; obtain ⟨c0, c1, c2, c3, c4, c5, c6⟩ := HX.out _ hx) | (go_at_call 25; (with_reducible refine (HSb.out _).mono ?_); rintro e w1 ⟨rfl, hb1⟩; replace hx := hx.trans hb1; clear hb1; clear p0 p1 p2 p3 c0 c1 c2 c3 c4 c5 c6; obtain ⟨p0, p1, p2, p3⟩ := HC.out _ hx; obtain ⟨c0, c1, c2, c3, c4, c5, c6⟩ := HX.out _ hx) | (go_at_call 26; (with_reducible refine (HI.out _).mono ?_); rintro e w1 ⟨rfl, hb1⟩; replace hx := hx.trans hb1; clear hb1; clear p0 p1 p2 p3 c0 c1 c2 c3 c4 c5 c6; obtain ⟨p0, p1, p2, p3⟩ := HC.out _ hx; obtain ⟨c0, c1, c2, c3, c4, c5, c6⟩ := HX.out _ hx))
            go_ret
            exact ⟨by simp only [zb]; rfl, HE.out.trans hx⟩
          · have nb : (x.b != 0) = false := by simp only [bne, zb]; rfl
            cases zsb : (x.sb == 0)
            · have nsb : (x.sb != 0) = true := by simp only [bne, zsb]; rfl
              go_wp2_with (first | (go_at_call 25; (with_reducible refine (HD.out _).mono ?_); rintro e w1 ⟨rfl, hb1⟩; replace hx := hx.trans hb1; clear hb1; clear p0 p1 p2 p3 c0 c1 c2 c3 c4 c5 c6; obtain ⟨p0, p1, p2, p3⟩ := HC.out _ hx; obtain ⟨c0, c1, c2, c3, c4, c5, c6⟩ := HX.out _ hx) | (go_at_call 25; (with_reducible refine (HA.out _).mono ?_); rintro e w1 ⟨rfl, hb1⟩; replace hx := hx.trans hb1; clear hb1; clear p0 p1 p2 p3 c0 c1 c2 c3 c4 c5 c6; obtain ⟨p0, p1, p2, p3⟩ := HC.out _ hx; obtain ⟨c0, c1, c2, c3, c4, c5, c6⟩ := HX.out _ hx) | (go_at_call 25; (with_reducible refine (HB.out _).mono ?_); rintro e w1 ⟨rfl, hb1⟩; replace hx := hx.trans hb1; clear hb1; clear p0 p1 p2 p3 c0 c1 c2 c3 c4 c5 c6; obtain ⟨p0, p1, p2, p3⟩ := HC.out _ hx; obtain ⟨c0, c1, c2, c3, c4, c5, c6⟩ := HX.out _ hx) | (go_at_call 25; (with_reducible refine (HSa.out _).mono ?_); rintro e w1 ⟨rfl, hb1⟩; replace hx := hx.trans hb1; clear hb1; clear p0 p1 p2 p3 c0 c1 c2 c3 c4 c5 c6; obtain ⟨p0, p1, p2, p3⟩ := HC.out _ hx; obtain ⟨c0, c1, c2, c3, c4, c5, c6⟩ := HX.out _ hx) | (go_at_call 25; (with_reducible refine (HSb.out _).mono ?_); rintro e w1 ⟨rfl, hb1⟩; replace hx := hx.trans hb1; clear hb1; clear p0 p1 p2 p3 c0 c1 c2 c3 c4 c5 c6; obtain ⟨p0, p1, p2, p3⟩ := HC.out _ hx; obtain ⟨c0, c1, c2, c3, c4, c5, c6⟩ := HX.out _ hx) | (go_at_call 26; (with_reducible refine (HI.out _).mono ?_); rintro e w1 ⟨rfl, hb1⟩; replace hx := hx.trans hb1; clear hb1; clear p0 p1 p2 p3 c0 c1 c2 c3 c4 c5 c6; obtain ⟨p0, p1, p2, p3⟩ := HC.out _ hx; obtain ⟨c0, c1, c2, c3, c4, c5, c6⟩ := HX.out _ hx))
              go_ret
              exact ⟨by simp only [zb, zsb]; rfl, HE.out.trans hx⟩
            · have nsb : (x.sb != 0) = false := by simp only [bne, zsb]; rfl
              go_wp2_with (first | (go_at_call 25; (with_reducible refine (HD.out _).mono ?_); rintro e w1 ⟨rfl, hb1⟩; replace hx := hx.trans hb1; clear hb1; clear p0 p1 p2 p3 c0 c1 c2 c3 c4 c5 c6; obtain ⟨p0, p1, p2, p3⟩ := HC.out _ hx; obtain ⟨c0, c1, c2, c3, c4, c5, c6⟩ := HX.out _ hx) | (go_at_call 25; (with_reducible refine (HA.out _).mono ?_); rintro e w1 ⟨rfl, hb1⟩; replace hx := hx.trans hb1; clear hb1; clear p0 p1 p2 p3 c0 c1 c2 c3 c4 c5 c6; obtain ⟨p0, p1, p2, p3⟩ := HC.out _ hx; obtain ⟨c0, c1, c2, c3, c4, c5, c6⟩ := HX.out _ hx) | (go_at_call 25; (with_reducible refine (HB.out _).mono ?_); rintro e w1 ⟨rfl, hb1⟩; replace hx := hx.trans hb1; clear hb1; clear p0 p1 p2 p3 c0 c1 c2 c3 c4 c5 c6; obtain ⟨p0, p1, p2, p3⟩ := HC.out _ hx; obtain ⟨c0, c1, c2, c3, c4, c5, c6⟩ := HX.out _ hx) | (go_at_call 25; (with_reducible refine (HSa.out _).mono ?_); rintro e w1 ⟨rfl, hb1⟩; replace hx := hx.trans hb1; clear hb1; clear p0 p1 p2 p3 c0 c1 c2 c3 c4 c5 c6; obtain ⟨p0, p1, p2, p3⟩ := HC.out _ hx; obtain ⟨c0, c1, c2, c3, c4, c5, c6⟩ := HX.out _ hx) | (go_at_call 25; (with_reducible refine (HSb.out _).mono ?_); rintro e w1 ⟨rfl, hb1⟩; replace hx := hx.trans hb1; clear hb1; clear p0 p1 p2 p3 c0 c1 c2 c3 c4 c5 c6; obtain ⟨p0, p1, p2, p3⟩ := HC.out _ hx; obtain ⟨c0, c1, c2, c3, c4, c5, c6⟩ := HX.out _ hx) | (go_at_call 26; (with_reducible refine (HI.out _).mono ?_); rintro e w1 ⟨rfl, hb1⟩; replace hx := hx.trans hb1; clear hb1; clear p0 p1 p2 p3 c0 c1 c2 c3 c4 c5 c6; obtain ⟨p0, p1, p2, p3⟩ := HC.out _ hx; obtain ⟨c0, c1, c2, c3, c4, c5, c6⟩ := HX.out _ hx))
              go_ret
              exact ⟨by simp only [zb, zsb]; rfl, HE.out.trans hx⟩
set_option maxRecDepth 100000 in
set_option maxHeartbeats 1000000 in
theorem instr_mul {w : World} {G : Pgm} {p : Pp} {x : Ins} (n2 : G.nc ≤ 192) (hk : x.op = 7) :
    Calls Try.prog 27 #[pgv G p, insV x] w fun e w' => e = .returned (I (insE G.np G.nc x)) ∧ Ext w w' := by
  have HV := Lib.hid (insE_F G.np G.nc x)
  have hO : isO x.op = true := by simp only [isO, decide_eq_true_eq]; omega
  have hUA : usA x.op = true := by simp only [usA, decide_eq_true_eq]; omega
  have hUB : usB x.op = true := by simp only [usB, decide_eq_true_eq]; omega
  have hUT : usT x.op = false := by simp only [usT, decide_eq_false_iff_not]; omega
  have hUI : usI x.op = false := by simp only [usI, decide_eq_false_iff_not]; omega
  have HO : Hid (∀ w', Calls Try.prog 40 #[I x.op] w' fun e w'' => e = .returned (.tuple #[.bool true, .bool true, .bool true, .bool false, .bool false, .bool true]) ∧ Ext w' w'') := fun w' => by have := Uses_any x.op w'; rwa [hUA, hUB, hUT, hUI, hO] at this
  rw [HV.out, hUA, hUB, hUT, hUI, hO]
  clear HV hUA hUB hUT hUI hO
  have HD : Hid (∀ w', Calls Try.prog 25 #[I x.dst, I 0, I ((G.nc : Int) - 1)] w' fun e w'' => e = .returned (.bool (ixB G.nc x.dst)) ∧ Ext w' w'') := within_ix _
  have hsr : srcN G.np G.nc x.op = G.nc := by unfold srcN; rw [if_neg (by omega)]
  rw [hsr]
  have HA : Hid (∀ w', Calls Try.prog 25 #[I x.a, I 0, I ((G.nc : Int) - 1)] w' fun e w'' => e = .returned (.bool (ixB G.nc x.a)) ∧ Ext w' w'') := within_ix _
  have HB : Hid (∀ w', Calls Try.prog 25 #[I x.b, I 0, I ((G.nc : Int) - 1)] w' fun e w'' => e = .returned (.bool (ixB G.nc x.b)) ∧ Ext w' w'') := within_ix _
  have HSa : Hid (∀ w', Calls Try.prog 25 #[I x.sa, I (-62), I 30] w' fun e w'' => e = .returned (.bool (shB x.sa)) ∧ Ext w' w'') := within_sh _
  have HSb : Hid (∀ w', Calls Try.prog 25 #[I x.sb, I (-62), I 30] w' fun e w'' => e = .returned (.bool (shB x.sb)) ∧ Ext w' w'') := within_sh _
  have HI : Hid (∀ w', Calls Try.prog 26 #[I x.im] w' fun e w'' => e = .returned (.bool (wdB x.im)) ∧ Ext w' w'') := Word_any _
  have hw1 : IntKind.i64.wrap ((G.nc : Int) - 1) = (G.nc : Int) - 1 := IntWalk.i64_in _ (by omega)
  generalize ixB G.nc x.dst = bd at *
  generalize ixB G.nc x.a = ba at *
  generalize ixB G.nc x.b = bb at *
  generalize shB x.sa = sA at *
  generalize shB x.sb = sB at *
  generalize wdB x.im = wi at *
  obtain ⟨W1, hW1⟩ : ∃ W1, W1 = (w.alloc (.cells #[.slice p.AP G.np p.cP, .slice p.AC G.nc p.cC, .slice p.AX G.ni p.cX, .slice p.AO G.no p.cO] 26)).alloc (.cells #[I x.op, I x.dst, I x.a, I x.b, I x.sa, I x.sb, I x.im] 52) := ⟨_, rfl⟩
  obtain ⟨b1, b2, b3⟩ := two_ins7 w G p x _ _ hW1
  have HC0 := Lib.hid b1; have HX0 := Lib.hid b2; have HE := Lib.hid b3
  obtain ⟨c0, c1, c2, c3, c4, c5, c6⟩ := b2
  clear b1 b3
  have k0 : (x.op == 0) = false := by simp; omega
  clear hk hsr n2
  go_enter Try.func27, Try.ntmps27
  go_upto_region 1 with fail
  rw [← hW1]; clear hW1
  go_upto_region 2 with (go_at_call 40; (with_reducible refine (HO.out _).mono ?_); rintro e w2 ⟨rfl, h2⟩)
  have HC : Hid (∀ w', Ext w2 w' → Px w' w.heap.size G p) := fun w' e => (HC0.out.ext h2).ext e
  have HX : Hid (∀ w', Ext w2 w' → BI7 w' (w.heap.size + 1) x) := fun w' e => (HX0.out.ext h2).ext e
  replace HE : Hid (Ext w w2) := HE.out.trans h2
  clear h2 HC0 HX0 HO c0 c1 c2 c3 c4 c5 c6
  have hx := Ext.refl w2
  obtain ⟨p0, p1, p2, p3⟩ := HC.out _ hx
  obtain ⟨c0, c1, c2, c3, c4, c5, c6⟩ := HX.out _ hx
  cases bd
  · go_wp2_with (first | (go_at_call 25; (with_reducible refine (HD.out _).mono ?_); rintro e w1 ⟨rfl, hb1⟩; replace hx := hx.trans hb1; clear hb1; clear p0 p1 p2 p3 c0 c1 c2 c3 c4 c5 c6; obtain ⟨p0, p1, p2, p3⟩ := HC.out _ hx; obtain ⟨c0, c1, c2, c3, c4, c5, c6⟩ := HX.out _ hx) | (go_at_call 25; (with_reducible refine (HA.out _).mono ?_); rintro e w1 ⟨rfl, hb1⟩; replace hx := hx.trans hb1; clear hb1; clear p0 p1 p2 p3 c0 c1 c2 c3 c4 c5 c6; obtain ⟨p0, p1, p2, p3⟩ := HC.out _ hx; obtain ⟨c0, c1, c2, c3, c4, c5, c6⟩ := HX.out _ hx) | (go_at_call 25; (with_reducible refine (HB.out _).mono ?_); rintro e w1 ⟨rfl, hb1⟩; replace hx := hx.trans hb1; clear hb1; clear p0 p1 p2 p3 c0 c1 c2 c3 c4 c5 c6; obtain ⟨p0, p1, p2, p3⟩ := HC.out _ hx; obtain ⟨c0, c1, c2, c3, c4, c5, c6⟩ := HX.out _ hx) | (go_at_call 25; (with_reducible refine (HSa.out _).mono ?_); rintro e w1 ⟨rfl, hb1⟩; replace hx := hx.trans hb1; clear hb1; clear p0 p1 p2 p3 c0 c1 c2 c3 c4 c5 c6; obtain ⟨p0, p1, p2, p3⟩ := HC.out _ hx; obtain ⟨c0, c1, c2, c3, c4, c5, c6⟩ := HX.out _ hx) | (go_at_call 25; (with_reducible refine (HSb.out _).mono ?_); rintro e w1 ⟨rfl, hb1⟩; replace hx := hx.trans hb1; clear hb1; clear p0 p1 p2 p3 c0 c1 c2 c3 c4 c5 c6; obtain ⟨p0, p1, p2, p3⟩ := HC.out _ hx; obtain ⟨c0, c1, c2, c3, c4, c5, c6⟩ := HX.out _ hx) | (go_at_call 26; (with_reducible refine (HI.out _).mono ?_); rintro e w1 ⟨rfl, hb1⟩; replace hx := hx.trans hb1; clear hb1; clear p0 p1 p2 p3 c0 c1 c2 c3 c4 c5 c6; obtain ⟨p0, p1, p2, p3⟩ := HC.out _ hx; obtain ⟨c0, c1, c2, c3, c4, c5, c6⟩ := HX.out _ hx))
    go_ret
    exact ⟨rfl, HE.out.trans hx⟩
  · cases ba
    · go_wp2_with (first | (go_at_call 25; (with_reducible refine (HD.out _).mono ?_); rintro e w1 ⟨rfl, hb1⟩; replace hx := hx.trans hb1; clear hb1; clear p0 p1 p2 p3 c0 c1 c2 c3 c4 c5 c6; obtain ⟨p0, p1, p2, p3⟩ := HC.out _ hx; obtain ⟨c0, c1, c2, c3, c4, c5, c6⟩ := HX.out _ hx) | (go_at_call 25; (with_reducible refine (HA.out _).mono ?_); rintro e w1 ⟨rfl, hb1⟩; replace hx := hx.trans hb1; clear hb1; clear p0 p1 p2 p3 c0 c1 c2 c3 c4 c5 c6; obtain ⟨p0, p1, p2, p3⟩ := HC.out _ hx; obtain ⟨c0, c1, c2, c3, c4, c5, c6⟩ := HX.out _ hx) | (go_at_call 25; (with_reducible refine (HB.out _).mono ?_); rintro e w1 ⟨rfl, hb1⟩; replace hx := hx.trans hb1; clear hb1; clear p0 p1 p2 p3 c0 c1 c2 c3 c4 c5 c6; obtain ⟨p0, p1, p2, p3⟩ := HC.out _ hx; obtain ⟨c0, c1, c2, c3, c4, c5, c6⟩ := HX.out _ hx) | (go_at_call 25; (with_reducible refine (HSa.out _).mono ?_); rintro e w1 ⟨rfl, hb1⟩; replace hx := hx.trans hb1; clear hb1; clear p0 p1 p2 p3 c0 c1 c2 c3 c4 c5 c6; obtain ⟨p0, p1, p2, p3⟩ := HC.out _ hx; obtain ⟨c0, c1, c2, c3, c4, c5, c6⟩ := HX.out _ hx) | (go_at_call 25; (with_reducible refine (HSb.out _).mono ?_); rintro e w1 ⟨rfl, hb1⟩; replace hx := hx.trans hb1; clear hb1; clear p0 p1 p2 p3 c0 c1 c2 c3 c4 c5 c6; obtain ⟨p0, p1, p2, p3⟩ := HC.out _ hx; obtain ⟨c0, c1, c2, c3, c4, c5, c6⟩ := HX.out _ hx) | (go_at_call 26; (with_reducible refine (HI.out _).mono ?_); rintro e w1 ⟨rfl, hb1⟩; replace hx := hx.trans hb1; clear hb1; clear p0 p1 p2 p3 c0 c1 c2 c3 c4 c5 c6; obtain ⟨p0, p1, p2, p3⟩ := HC.out _ hx; obtain ⟨c0, c1, c2, c3, c4, c5, c6⟩ := HX.out _ hx))
      go_ret
      exact ⟨rfl, HE.out.trans hx⟩
    · cases bb
      · go_wp2_with (first | (go_at_call 25; (with_reducible refine (HD.out _).mono ?_); rintro e w1 ⟨rfl, hb1⟩; replace hx := hx.trans hb1; clear hb1; clear p0 p1 p2 p3 c0 c1 c2 c3 c4 c5 c6; obtain ⟨p0, p1, p2, p3⟩ := HC.out _ hx; obtain ⟨c0, c1, c2, c3, c4, c5, c6⟩ := HX.out _ hx) | (go_at_call 25; (with_reducible refine (HA.out _).mono ?_); rintro e w1 ⟨rfl, hb1⟩; replace hx := hx.trans hb1; clear hb1; clear p0 p1 p2 p3 c0 c1 c2 c3 c4 c5 c6; obtain ⟨p0, p1, p2, p3⟩ := HC.out _ hx; obtain ⟨c0, c1, c2, c3, c4, c5, c6⟩ := HX.out _ hx) | (go_at_call 25; (with_reducible refine (HB.out _).mono ?_); rintro e w1 ⟨rfl, hb1⟩; replace hx := hx.trans hb1; clear hb1; clear p0 p1 p2 p3 c0 c1 c2 c3 c4 c5 c6; obtain ⟨p0, p1, p2, p3⟩ := HC.out _ hx; obtain ⟨c0, c1, c2, c3, c4, c5, c6⟩ := HX.out _ hx) | (go_at_call 25; (with_reducible refine (HSa.out _).mono ?_); rintro e w1 ⟨rfl, hb1⟩; replace hx := hx.trans hb1; clear hb1; clear p0 p1 p2 p3 c0 c1 c2 c3 c4 c5 c6; obtain ⟨p0, p1, p2, p3⟩ := HC.out _ hx; obtain ⟨c0, c1, c2, c3, c4, c5, c6⟩ := HX.out _ hx) | (go_at_call 25; (with_reducible refine (HSb.out _).mono ?_); rintro e w1 ⟨rfl, hb1⟩; replace hx := hx.trans hb1; clear hb1; clear p0 p1 p2 p3 c0 c1 c2 c3 c4 c5 c6; obtain ⟨p0, p1, p2, p3⟩ := HC.out _ hx; obtain ⟨c0, c1, c2, c3, c4, c5, c6⟩ := HX.out _ hx) | (go_at_call 26; (with_reducible refine (HI.out _).mono ?_); rintro e w1 ⟨rfl, hb1⟩; replace hx := hx.trans hb1; clear hb1; clear p0 p1 p2 p3 c0 c1 c2 c3 c4 c5 c6; obtain ⟨p0, p1, p2, p3⟩ := HC.out _ hx; obtain ⟨c0, c1, c2, c3, c4, c5, c6⟩ := HX.out _ hx))
        go_ret
        exact ⟨rfl, HE.out.trans hx⟩
      · cases sA
        · go_wp2_with (first | (go_at_call 25; (with_reducible refine (HD.out _).mono ?_); rintro e w1 ⟨rfl, hb1⟩; replace hx := hx.trans hb1; clear hb1; clear p0 p1 p2 p3 c0 c1 c2 c3 c4 c5 c6; obtain ⟨p0, p1, p2, p3⟩ := HC.out _ hx; obtain ⟨c0, c1, c2, c3, c4, c5, c6⟩ := HX.out _ hx) | (go_at_call 25; (with_reducible refine (HA.out _).mono ?_); rintro e w1 ⟨rfl, hb1⟩; replace hx := hx.trans hb1; clear hb1; clear p0 p1 p2 p3 c0 c1 c2 c3 c4 c5 c6; obtain ⟨p0, p1, p2, p3⟩ := HC.out _ hx; obtain ⟨c0, c1, c2, c3, c4, c5, c6⟩ := HX.out _ hx) | (go_at_call 25; (with_reducible refine (HB.out _).mono ?_); rintro e w1 ⟨rfl, hb1⟩; replace hx := hx.trans hb1; clear hb1; clear p0 p1 p2 p3 c0 c1 c2 c3 c4 c5 c6; obtain ⟨p0, p1, p2, p3⟩ := HC.out _ hx; obtain ⟨c0, c1, c2, c3, c4, c5, c6⟩ := HX.out _ hx) | (go_at_call 25; (with_reducible refine (HSa.out _).mono ?_); rintro e w1 ⟨rfl, hb1⟩; replace hx := hx.trans hb1; clear hb1; clear p0 p1 p2 p3 c0 c1 c2 c3 c4 c5 c6; obtain ⟨p0, p1, p2, p3⟩ := HC.out _ hx; obtain ⟨c0, c1, c2, c3, c4, c5, c6⟩ := HX.out _ hx) | (go_at_call 25; (with_reducible refine (HSb.out _).mono ?_); rintro e w1 ⟨rfl, hb1⟩; replace hx := hx.trans hb1; clear hb1; clear p0 p1 p2 p3 c0 c1 c2 c3 c4 c5 c6; obtain ⟨p0, p1, p2, p3⟩ := HC.out _ hx; obtain ⟨c0, c1, c2, c3, c4, c5, c6⟩ := HX.out _ hx) | (go_at_call 26; (with_reducible refine (HI.out _).mono ?_); rintro e w1 ⟨rfl, hb1⟩; replace hx := hx.trans hb1; clear hb1; clear p0 p1 p2 p3 c0 c1 c2 c3 c4 c5 c6; obtain ⟨p0, p1, p2, p3⟩ := HC.out _ hx; obtain ⟨c0, c1, c2, c3, c4, c5, c6⟩ := HX.out _ hx))
          go_ret
          exact ⟨rfl, HE.out.trans hx⟩
        · cases zsb : (x.sb == 0)
          · have nsb : (x.sb != 0) = true := by simp only [bne, zsb]; rfl
            go_wp2_with (first | (go_at_call 25; (with_reducible refine (HD.out _).mono ?_); rintro e w1 ⟨rfl, hb1⟩; replace hx := hx.trans hb1; clear hb1; clear p0 p1 p2 p3 c0 c1 c2 c3 c4 c5 c6; obtain ⟨p0, p1, p2, p3⟩ := HC.out _ hx; obtain ⟨c0, c1, c2, c3, c4, c5, c6⟩ := HX.out _ hx) | (go_at_call 25; (with_reducible refine (HA.out _).mono ?_); rintro e w1 ⟨rfl, hb1⟩; replace hx := hx.trans hb1; clear hb1; clear p0 p1 p2 p3 c0 c1 c2 c3 c4 c5 c6; obtain ⟨p0, p1, p2, p3⟩ := HC.out _ hx; obtain ⟨c0, c1, c2, c3, c4, c5, c6⟩ := HX.out _ hx) | (go_at_call 25; (with_reducible refine (HB.out _).mono ?_); rintro e w1 ⟨rfl, hb1⟩; replace hx := hx.trans hb1; clear hb1; clear p0 p1 p2 p3 c0 c1 c2 c3 c4 c5 c6; obtain ⟨p0, p1, p2, p3⟩ := HC.out _ hx; obtain ⟨c0, c1, c2, c3, c4, c5, c6⟩ := HX.out _ hx) | (go_at_call 25; (with_reducible refine (HSa.out _).mono ?_); rintro e w1 ⟨rfl, hb1⟩; replace hx := hx.trans hb1; clear hb1; clear p0 p1 p2 p3 c0 c1 c2 c3 c4 c5 c6; obtain ⟨p0, p1, p2, p3⟩ := HC.out _ hx; obtain ⟨c0, c1, c2, c3, c4, c5, c6⟩ := HX.out _ hx) | (go_at_call 25; (with_reducible refine (HSb.out _).mono ?_); rintro e w1 ⟨rfl, hb1⟩; replace hx := hx.trans hb1; clear hb1; clear p0 p1 p2 p3 c0 c1 c2 c3 c4 c5 c6; obtain ⟨p0, p1, p2, p3⟩ := HC.out _ hx; obtain ⟨c0, c1, c2, c3, c4, c5, c6⟩ := HX.out _ hx) | (go_at_call 26; (with_reducible refine (HI.out _).mono ?_); rintro e w1 ⟨rfl, hb1⟩; replace hx := hx.trans hb1; clear hb1; clear p0 p1 p2 p3 c0 c1 c2 c3 c4 c5 c6; obtain ⟨p0, p1, p2, p3⟩ := HC.out _ hx; obtain ⟨c0, c1, c2, c3, c4, c5, c6⟩ := HX.out _ hx))
            go_ret
            exact ⟨by simp only [zsb]; rfl, HE.out.trans hx⟩
          · have nsb : (x.sb != 0) = false := by simp only [bne, zsb]; rfl
            cases zim : (x.im == 0)
            · have nim : (x.im != 0) = true := by simp only [bne, zim]; rfl
              go_wp2_with (first | (go_at_call 25; (with_reducible refine (HD.out _).mono ?_); rintro e w1 ⟨rfl, hb1⟩; replace hx := hx.trans hb1; clear hb1; clear p0 p1 p2 p3 c0 c1 c2 c3 c4 c5 c6; obtain ⟨p0, p1, p2, p3⟩ := HC.out _ hx; obtain ⟨c0, c1, c2, c3, c4, c5, c6⟩ := HX.out _ hx) | (go_at_call 25; (with_reducible refine (HA.out _).mono ?_); rintro e w1 ⟨rfl, hb1⟩; replace hx := hx.trans hb1; clear hb1; clear p0 p1 p2 p3 c0 c1 c2 c3 c4 c5 c6; obtain ⟨p0, p1, p2, p3⟩ := HC.out _ hx; obtain ⟨c0, c1, c2, c3, c4, c5, c6⟩ := HX.out _ hx) | (go_at_call 25; (with_reducible refine (HB.out _).mono ?_); rintro e w1 ⟨rfl, hb1⟩; replace hx := hx.trans hb1; clear hb1; clear p0 p1 p2 p3 c0 c1 c2 c3 c4 c5 c6; obtain ⟨p0, p1, p2, p3⟩ := HC.out _ hx; obtain ⟨c0, c1, c2, c3, c4, c5, c6⟩ := HX.out _ hx) | (go_at_call 25; (with_reducible refine (HSa.out _).mono ?_); rintro e w1 ⟨rfl, hb1⟩; replace hx := hx.trans hb1; clear hb1; clear p0 p1 p2 p3 c0 c1 c2 c3 c4 c5 c6; obtain ⟨p0, p1, p2, p3⟩ := HC.out _ hx; obtain ⟨c0, c1, c2, c3, c4, c5, c6⟩ := HX.out _ hx) | (go_at_call 25; (with_reducible refine (HSb.out _).mono ?_); rintro e w1 ⟨rfl, hb1⟩; replace hx := hx.trans hb1; clear hb1; clear p0 p1 p2 p3 c0 c1 c2 c3 c4 c5 c6; obtain ⟨p0, p1, p2, p3⟩ := HC.out _ hx; obtain ⟨c0, c1, c2, c3, c4, c5, c6⟩ := HX.out _ hx) | (go_at_call 26; (with_reducible refine (HI.out _).mono ?_); rintro e w1 ⟨rfl, hb1⟩; replace hx := hx.trans hb1; clear hb1; clear p0 p1 p2 p3 c0 c1 c2 c3 c4 c5 c6; obtain ⟨p0, p1, p2, p3⟩ := HC.out _ hx; obtain ⟨c0, c1, c2, c3, c4, c5, c6⟩ := HX.out _ hx))
              go_ret
              exact ⟨by simp only [zsb, zim]; rfl, HE.out.trans hx⟩
            · have nim : (x.im != 0) = false := by simp only [bne, zim]; rfl
              go_wp2_with (first | (go_at_call 25; (with_reducible refine (HD.out _).mono ?_); rintro e w1 ⟨rfl, hb1⟩; replace hx := hx.trans hb1; clear hb1; clear p0 p1 p2 p3 c0 c1 c2 c3 c4 c5 c6; obtain ⟨p0, p1, p2, p3⟩ := HC.out _ hx; obtain ⟨c0, c1, c2, c3, c4, c5, c6⟩ := HX.out _ hx) | (go_at_call 25; (with_reducible refine (HA.out _).mono ?_); rintro e w1 ⟨rfl, hb1⟩; replace hx := hx.trans hb1; clear hb1; clear p0 p1 p2 p3 c0 c1 c2 c3 c4 c5 c6; obtain ⟨p0, p1, p2, p3⟩ := HC.out _ hx; obtain ⟨c0, c1, c2, c3, c4, c5, c6⟩ := HX.out _ hx) | (go_at_call 25; (with_reducible refine (HB.out _).mono ?_); rintro e w1 ⟨rfl, hb1⟩; replace hx := hx.trans hb1; clear hb1; clear p0 p1 p2 p3 c0 c1 c2 c3 c4 c5 c6; obtain ⟨p0, p1, p2, p3⟩ := HC.out _ hx; obtain ⟨c0, c1, c2, c3, c4, c5, c6⟩ := HX.out _ hx) | (go_at_call 25; (with_reducible refine (HSa.out _).mono ?_); rintro e w1 ⟨rfl, hb1⟩; replace hx := hx.trans hb1; clear hb1; clear p0 p1 p2 p3 c0 c1 c2 c3 c4 c5 c6; obtain ⟨p0, p1, p2, p3⟩ := HC.out _ hx; obtain ⟨c0, c1, c2, c3, c4, c5, c6⟩ := HX.out _ hx) | (go_at_call 25; (with_reducible refine (HSb.out _).mono ?_); rintro e w1 ⟨rfl, hb1⟩; replace hx := hx.trans hb1; clear hb1; clear p0 p1 p2 p3 c0 c1 c2 c3 c4 c5 c6; obtain ⟨p0, p1, p2, p3⟩ := HC.out _ hx; obtain ⟨c0, c1, c2, c3, c4, c5, c6⟩ := HX.out _ hx) | (go_at_call 26; (with_reducible refine (HI.out _).mono ?_); rintro e w1 ⟨rfl, hb1⟩; replace hx := hx.trans hb1; clear hb1; clear p0 p1 p2 p3 c0 c1 c2 c3 c4 c5 c6; obtain ⟨p0, p1, p2, p3⟩ := HC.out _ hx; obtain ⟨c0, c1, c2, c3, c4, c5, c6⟩ := HX.out _ hx))
              go_ret
              exact ⟨by simp only [zsb, zim]; rfl, HE.out.trans hx⟩
set_option maxRecDepth 100000 in
set_option maxHeartbeats 1000000 in
theorem instr_two {w : World} {G : Pgm} {p : Pp} {x : Ins} (n2 : G.nc ≤ 192) (hk : x.op = 3 ∨ x.op = 4 ∨ x.op = 8 ∨ x.op = 9) :
    Calls Try.prog 27 #[pgv G p, insV x] w fun e w' => e = .returned (I (insE G.np G.nc x)) ∧ Ext w w' := by
  have HV := Lib.hid (insE_F G.np G.nc x)
  have hO : isO x.op = true := by simp only [isO, decide_eq_true_eq]; omega
  have hUA : usA x.op = true := by simp only [usA, decide_eq_true_eq]; omega
  have hUB : usB x.op = true := by simp only [usB, decide_eq_true_eq]; omega
  have hUT : usT x.op = true := by simp only [usT, decide_eq_true_eq]; omega
  have hUI : usI x.op = false := by simp only [usI, decide_eq_false_iff_not]; omega
  have HO : Hid (∀ w', Calls Try.prog 40 #[I x.op] w' fun e w'' => e = .returned (.tuple #[.bool true, .bool true, .bool true, .bool true, .bool false, .bool true]) ∧ Ext w' w'') := fun w' => by have := Uses_any x.op w'; rwa [hUA, hUB, hUT, hUI, hO] at this
  rw [HV.out, hUA, hUB, hUT, hUI, hO]
  clear HV hUA hUB hUT hUI hO
  have HD : Hid (∀ w', Calls Try.prog 25 #[I x.dst, I 0, I ((G.nc : Int) - 1)] w' fun e w'' => e = .returned (.bool (ixB G.nc x.dst)) ∧ Ext w' w'') := within_ix _
  have hsr : srcN G.np G.nc x.op = G.nc := by unfold srcN; rw [if_neg (by omega)]
  rw [hsr]
  have HA : Hid (∀ w', Calls Try.prog 25 #[I x.a, I 0, I ((G.nc : Int) - 1)] w' fun e w'' => e = .returned (.bool (ixB G.nc x.a)) ∧ Ext w' w'') := within_ix _
  have HB : Hid (∀ w', Calls Try.prog 25 #[I x.b, I 0, I ((G.nc : Int) - 1)] w' fun e w'' => e = .returned (.bool (ixB G.nc x.b)) ∧ Ext w' w'') := within_ix _
  have HSa : Hid (∀ w', Calls Try.prog 25 #[I x.sa, I (-62), I 30] w' fun e w'' => e = .returned (.bool (shB x.sa)) ∧ Ext w' w'') := within_sh _
  have HSb : Hid (∀ w', Calls Try.prog 25 #[I x.sb, I (-62), I 30] w' fun e w'' => e = .returned (.bool (shB x.sb)) ∧ Ext w' w'') := within_sh _
  have HI : Hid (∀ w', Calls Try.prog 26 #[I x.im] w' fun e w'' => e = .returned (.bool (wdB x.im)) ∧ Ext w' w'') := Word_any _
  have hw1 : IntKind.i64.wrap ((G.nc : Int) - 1) = (G.nc : Int) - 1 := IntWalk.i64_in _ (by omega)
  generalize ixB G.nc x.dst = bd at *
  generalize ixB G.nc x.a = ba at *
  generalize ixB G.nc x.b = bb at *
  generalize shB x.sa = sA at *
  generalize shB x.sb = sB at *
  generalize wdB x.im = wi at *
  obtain ⟨W1, hW1⟩ : ∃ W1, W1 = (w.alloc (.cells #[.slice p.AP G.np p.cP, .slice p.AC G.nc p.cC, .slice p.AX G.ni p.cX, .slice p.AO G.no p.cO] 26)).alloc (.cells #[I x.op, I x.dst, I x.a, I x.b, I x.sa, I x.sb, I x.im] 52) := ⟨_, rfl⟩
  obtain ⟨b1, b2, b3⟩ := two_ins7 w G p x _ _ hW1
  have HC0 := Lib.hid b1; have HX0 := Lib.hid b2; have HE := Lib.hid b3
  obtain ⟨c0, c1, c2, c3, c4, c5, c6⟩ := b2
  clear b1 b3
  have k0 : (x.op == 0) = false := by simp; omega
  clear hk hsr n2
  go_enter Try.func27, Try.ntmps27
  go_upto_region 1 with fail
  rw [← hW1]; clear hW1
  go_upto_region 2 with (go_at_call 40; (with_reducible refine (HO.out _).mono ?_); rintro e w2 ⟨rfl, h2⟩)
  have HC : Hid (∀ w', Ext w2 w' → Px w' w.heap.size G p) := fun w' e => (HC0.out.ext h2).ext e
  have HX : Hid (∀ w', Ext w2 w' → BI7 w' (w.heap.size + 1) x) := fun w' e => (HX0.out.ext h2).ext e
  replace HE : Hid (Ext w w2) := HE.out.trans h2
  clear h2 HC0 HX0 HO c0 c1 c2 c3 c4 c5 c6
  have hx := Ext.refl w2
  obtain ⟨p0, p1, p2, p3⟩ := HC.out _ hx
  obtain ⟨c0, c1, c2, c3, c4, c5, c6⟩ := HX.out _ hx
  cases bd
  · go_wp2_with (first | (go_at_call 25; (with_reducible refine (HD.out _).mono ?_); rintro e w1 ⟨rfl, hb1⟩; replace hx := hx.trans hb1; clear hb1; clear p0 p1 p2 p3 c0 c1 c2 c3 c4 c5 c6; obtain ⟨p0, p1, p2, p3⟩ := HC.out _ hx; obtain ⟨c0, c1, c2, c3, c4, c5, c6⟩ := HX.out _ hx) | (go_at_call 25; (with_reducible refine (HA.out _).mono ?_); rintro e w1 ⟨rfl, hb1⟩; replace hx := hx.trans hb1; clear hb1; clear p0 p1 p2 p3 c0 c1 c2 c3 c4 c5 c6; obtain ⟨p0, p1, p2, p3⟩ := HC.out _ hx; obtain ⟨c0, c1, c2, c3, c4, c5, c6⟩ := HX.out _ hx) | (go_at_call 25; (with_reducible refine (HB.out _).mono ?_); rintro e w1 ⟨rfl, hb1⟩; replace hx := hx.trans hb1; clear hb1; clear p0 p1 p2 p3 c0 c1 c2 c3 c4 c5 c6; obtain ⟨p0, p1, p2, p3⟩ := HC.out _ hx; obtain ⟨c0, c1, c2, c3, c4, c5, c6⟩ := HX.out _ hx) | (go_at_call 25; (with_reducible refine (HSa.out _).mono ?_); rintro e w1 ⟨rfl, hb1⟩; replace hx := hx.trans hb1; clear hb1; clear p0 p1 p2 p3 c0 c1 c2 c3 c4 c5 c6; obtain ⟨p0, p1, p2, p3⟩ := HC.out _ hx; obtain ⟨c0, c1, c2, c3, c4, c5, c6⟩ := HX.out _ hx) | (go_at_call 25; (with_reducible refine (HSb.out _).mono ?_); rintro e w1 ⟨rfl, hb1⟩; replace hx := hx.trans hb1; clear hb1; clear p0 p1 p2 p3 c0 c1 c2 c3 c4 c5 c6; obtain ⟨p0, p1, p2, p3⟩ := HC.out _ hx; obtain ⟨c0, c1, c2, c3, c4, c5, c6⟩ := HX.out _ hx) | (go_at_call 26; (with_reducible refine (HI.out _).mono ?_); rintro e w1 ⟨rfl, hb1⟩; replace hx := hx.trans hb1; clear hb1; clear p0 p1 p2 p3 c0 c1 c2 c3 c4 c5 c6; obtain ⟨p0, p1, p2, p3⟩ := HC.out _ hx; obtain ⟨c0, c1, c2, c3, c4, c5, c6⟩ := HX.out _ hx))
    go_ret
    exact ⟨rfl, HE.out.trans hx⟩
  · cases ba
    · go_wp2_with (first | (go_at_call 25; (with_reducible refine (HD.out _).mono ?_); rintro e w1 ⟨rfl, hb1⟩; replace hx := hx.trans hb1; clear hb1; clear p0 p1 p2 p3 c0 c1 c2 c3 c4 c5 c6; obtain ⟨p0, p1, p2, p3⟩ := HC.out _ hx; obtain ⟨c0, c1, c2, c3, c4, c5, c6⟩ := HX.out _ hx) | (go_at_call 25; (with_reducible refine (HA.out _).mono ?_); rintro e w1 ⟨rfl, hb1⟩; replace hx := hx.trans hb1; clear hb1; clear p0 p1 p2 p3 c0 c1 c2 c3 c4 c5 c6; obtain ⟨p0, p1, p2, p3⟩ := HC.out _ hx; obtain ⟨c0, c1, c2, c3, c4, c5, c6⟩ := HX.out _ hx) | (go_at_call 25; (with_reducible refine (HB.out _).mono ?_); rintro e w1 ⟨rfl, hb1⟩; replace hx := hx.trans hb1; clear hb1; clear p0 p1 p2 p3 c0 c1 c2 c3 c4 c5 c6; obtain ⟨p0, p1, p2, p3⟩ := HC.out _ hx; obtain ⟨c0, c1, c2, c3, c4, c5, c6⟩ := HX.out _ hx) | (go_at_call 25; (with_reducible refine (HSa.out _).mono ?_); rintro e w1 ⟨rfl, hb1⟩; replace hx := hx.trans hb1; clear hb1; clear p0 p1 p2 p3 c0 c1 c2 c3 c4 c5 c6; obtain ⟨p0, p1, p2, p3⟩ := HC.out _ hx; obtain ⟨c0, c1, c2, c3, c4, c5, c6⟩ := HX.out _ hx) | (go_at_call 25; (with_reducible refine (HSb.out _).mono ?_); rintro e w1 ⟨rfl, hb1⟩; replace hx := hx.trans hb1; clear hb1; clear p0 p1 p2 p3 c0 c1 c2 c3 c4 c5 c6; obtain ⟨p0, p1, p2, p3⟩ := HC.out _ hx; obtain ⟨c0, c1, c2, c3, c4, c5, c6⟩ := HX.out _ hx) | (go_at_call 26; (with_reducible refine (HI.out _).mono ?_); rintro e w1 ⟨rfl, hb1⟩; replace hx := hx.trans hb1; clear hb1; clear p0 p1 p2 p3 c0 c1 c2 c3 c4 c5 c6; obtain ⟨p0, p1, p2, p3⟩ := HC.out _ hx; obtain ⟨c0, c1, c2, c3, c4, c5, c6⟩ := HX.out _ hx))
      go_ret
      exact ⟨rfl, HE.out.trans hx⟩
    · cases bb
      · go_wp2_with (first | (go_at_call 25; (with_reducible refine (HD.out _).mono ?_); rintro e w1 ⟨rfl, hb1⟩; replace hx := hx.trans hb1; clear hb1; clear p0 p1 p2 p3 c0 c1 c2 c3 c4 c5 c6; obtain ⟨p0, p1, p2, p3⟩ := HC.out _ hx; obtain ⟨c0, c1, c2, c3, c4, c5, c6⟩ := HX.out _ hx) | (go_at_call 25; (with_reducible refine (HA.out _).mono ?_); rintro e w1 ⟨rfl, hb1⟩; replace hx := hx.trans hb1; clear hb1; clear p0 p1 p2 p3 c0 c1 c2 c3 c4 c5 c6; obtain ⟨p0, p1, p2, p3⟩ := HC.out _ hx; obtain ⟨c0, c1, c2, c3, c4, c5, c6⟩ := HX.out _ hx) | (go_at_call 25; (with_reducible refine (HB.out _).mono ?_); rintro e w1 ⟨rfl, hb1⟩; replace hx := hx.trans hb1; clear hb1; clear p0 p1 p2 p3 c0 c1 c2 c3 c4 c5 c6; obtain ⟨p0, p1, p2, p3⟩ := HC.out _ hx; obtain ⟨c0, c1, c2, c3, c4, c5, c6⟩ := HX.out _ hx) | (go_at_call 25; (with_reducible refine (HSa.out _).mono ?_); rintro e w1 ⟨rfl, hb1⟩; replace hx := hx.trans hb1; clear hb1; clear p0 p1 p2 p3 c0 c1 c2 c3 c4 c5 c6; obtain ⟨p0, p1, p2, p3⟩ := HC.out _ hx; obtain ⟨c0, c1, c2, c3, c4, c5, c6⟩ := HX.out _ hx) | (go_at_call 25; (with_reducible refine (HSb.out _).mono ?_); rintro e w1 ⟨rfl, hb1⟩; replace hx := hx.trans hb1; clear hb1; clear p0 p1 p2 p3 c0 c1 c2 c3 c4 c5 c6; obtain ⟨p0, p1, p2, p3⟩ := HC.out _ hx; obtain ⟨c0, c1, c2, c3, c4, c5, c6⟩ := HX.out _ hx) | (go_at_call 26; (with_reducible refine (HI.out _).mono ?_); rintro e w1 ⟨rfl, hb1⟩; replace hx := hx.trans hb1; clear hb1; clear p0 p1 p2 p3 c0 c1 c2 c3 c4 c5 c6; obtain ⟨p0, p1, p2, p3⟩ := HC.out _ hx; obtain ⟨c0, c1, c2, c3, c4, c5, c6⟩ := HX.out _ hx))
        go_ret
        exact ⟨rfl, HE.out.trans hx⟩
      · cases sA
        · go_wp2_with (first | (go_at_call 25; (with_reducible refine (HD.out _).mono ?_); rintro e w1 ⟨rfl, hb1⟩; replace hx := hx.trans hb1; clear hb1; clear p0 p1 p2 p3 c0 c1 c2 c3 c4 c5 c6; obtain ⟨p0, p1, p2, p3⟩ := HC.out _ hx; obtain ⟨c0, c1, c2, c3, c4, c5, c6⟩ := HX.out _ hx) | (go_at_call 25; (with_reducible refine (HA.out _).mono ?_); rintro e w1 ⟨rfl, hb1⟩; replace hx := hx.trans hb1; clear hb1; clear p0 p1 p2 p3 c0 c1 c2 c3 c4 c5 c6; obtain ⟨p0, p1, p2, p3⟩ := HC.out _ hx; obtain ⟨c0, c1, c2, c3, c4, c5, c6⟩ := HX.out _ hx) | (go_at_call 25; (with_reducible refine (HB.out _).mono ?_); rintro e w1 ⟨rfl, hb1⟩; replace hx := hx.trans hb1; clear hb1; clear p0 p1 p2 p3 c0 c1 c2 c3 c4 c5 c6; obtain ⟨p0, p1, p2, p3⟩ := HC.out _ hx; obtain ⟨c0, c1, c2, c3, c4, c5, c6⟩ := HX.out _ hx) | (go_at_call 25; (with_reducible refine (HSa.out _).mono ?_); rintro e w1 ⟨rfl, hb1⟩; replace hx := hx.trans hb1; clear hb1; clear p0 p1 p2 p3 c0 c1 c2 c3 c4 c5 c6; obtain ⟨p0, p1, p2, p3⟩ := HC.out _ hx; obtain ⟨c0, c1, c2, c3, c4, c5, c6⟩ := HX.out _ hx) | (go_at_call 25; (with_reducible refine (HSb.out _).mono ?_); rintro e w1 ⟨rfl, hb1⟩; replace hx := hx.trans hb1; clear hb1; clear p0 p1 p2 p3 c0 c1 c2 c3 c4 c5 c6; obtain ⟨p0, p1, p2, p3⟩ := HC.out _ hx; obtain ⟨c0, c1, c2, c3, c4, c5, c6⟩ := HX.out _ hx) | (go_at_call 26; (with_reducible refine (HI.out _).mono ?_); rintro e w1 ⟨rfl, hb1⟩; replace hx := hx.trans hb1; clear hb1; clear p0 p1 p2 p3 c0 c1 c2 c3 c4 c5 c6; obtain ⟨p0, p1, p2, p3⟩ := HC.out _ hx; obtain ⟨c0, c1, c2, c3, c4, c5, c6⟩ := HX.out _ hx))
          go_ret
          exact ⟨rfl, HE.out.trans hx⟩
        · cases sB
          · go_wp2_with (first | (go_at_call 25; (with_reducible refine (HD.out _).mono ?_); rintro e w1 ⟨rfl, hb1⟩; replace hx := hx.trans hb1; clear hb1; clear p0 p1 p2 p3 c0 c1 c2 c3 c4 c5 c6; obtain ⟨p0, p1, p2, p3⟩ := HC.out _ hx; obtain ⟨c0, c1, c2, c3, c4, c5, c6⟩ := HX.out _ hx) | (go_at_call 25; (with_reducible refine (HA.out _).mono ?_); rintro e w1 ⟨rfl, hb1⟩; replace hx := hx.trans hb1; clear hb1; clear p0 p1 p2 p3 c0 c1 c2 c3 c4 c5 c6; obtain ⟨p0, p1, p2, p3⟩ := HC.out _ hx; obtain ⟨c0, c1, c2, c3, c4, c5, c6⟩ := HX.out _ hx) | (go_at_call 25; (with_reducible refine (HB.out _).mono ?_); rintro e w1 ⟨rfl, hb1⟩; replace hx := hx.trans hb1; clear hb1; clear p0 p1 p2 p3 c0 c1 c2 c3 c4 c5 c6; obtain ⟨p0, p1, p2, p3⟩ := HC.out _ hx; obtain ⟨c0, c1, c2, c3, c4, c5, c6⟩ := HX.out _ hx) | (go_at_call 25; (with_reducible refine (HSa.out _).mono ?_); rintro e w1 ⟨rfl, hb1⟩; replace hx := hx.trans hb1; clear hb1; clear p0 p1 p2 p3 c0 c1 c2 c3 c4 c5 c6; obtain ⟨p0, p1, p2, p3⟩ := HC.out _ hx; obtain ⟨c0, c1, c2, c3, c4, c5, c6⟩ := HX.out _ hx) | (go_at_call 25; (with_reducible refine (HSb.out _).mono ?_); rintro e w1 ⟨rfl, hb1⟩; replace hx := hx.trans hb1; clear hb1; clear p0 p1 p2 p3 c0 c1 c2 c3 c4 c5 c6; obtain ⟨p0, p1, p2, p3⟩ := HC.out _ hx; obtain ⟨c0, c1, c2, c3, c4, c5, c6⟩ := HX.out _ hx) | (go_at_call 26; (with_reducible refine (HI.out _).mono ?_); rintro e w1 ⟨rfl, hb1⟩; replace hx := hx.trans hb1; clear hb1; clear p0 p1 p2 p3 c0 c1 c2 c3 c4 c5 c6; obtain ⟨p0, p1, p2, p3⟩ := HC.out _ hx; obtain ⟨c0, c1, c2, c3, c4, c5, c6⟩ := HX.out _ hx))
            go_ret
            exact ⟨rfl, HE.out.trans hx⟩
          · cases zim : (x.im == 0)
            · have nim : (x.im != 0) = true := by simp only [bne, zim]; rfl
              go_wp2_with (first | (go_at_call 25; (with_reducible refine (HD.out _).mono ?_); rintro e w1 ⟨rfl, hb1⟩; replace hx := hx.trans hb1; clear hb1; clear p0 p1 p2 p3 c0 c1 c2 c3 c4 c5 c6; obtain ⟨p0, p1, p2, p3⟩ := HC.out _ hx; obtain ⟨c0, c1, c2, c3, c4, c5, c6⟩ := HX.out _ hx) | (go_at_call 25; (with_reducible refine (HA.out _).mono ?_); rintro e w1 ⟨rfl, hb1⟩; replace hx := hx.trans hb1; clear hb1; clear p0 p1 p2 p3 c0 c1 c2 c3 c4 c5 c6; obtain ⟨p0, p1, p2, p3⟩ := HC.out _ hx; obtain ⟨c0, c1, c2, c3, c4, c5, c6⟩ := HX.out _ hx) | (go_at_call 25; (with_reducible refine (HB.out _).mono ?_); rintro e w1 ⟨rfl, hb1⟩; replace hx := hx.trans hb1; clear hb1; clear p0 p1 p2 p3 c0 c1 c2 c3 c4 c5 c6; obtain ⟨p0, p1, p2, p3⟩ := HC.out _ hx; obtain ⟨c0, c1, c2, c3, c4, c5, c6⟩ := HX.out _ hx) | (go_at_call 25; (with_reducible refine (HSa.out _).mono ?_); rintro e w1 ⟨rfl, hb1⟩; replace hx := hx.trans hb1; clear hb1; clear p0 p1 p2 p3 c0 c1 c2 c3 c4 c5 c6; obtain ⟨p0, p1, p2, p3⟩ := HC.out _ hx; obtain ⟨c0, c1, c2, c3, c4, c5, c6⟩ := HX.out _ hx) | (go_at_call 25; (with_reducible refine (HSb.out _).mono ?_); rintro e w1 ⟨rfl, hb1⟩; replace hx := hx.trans hb1; clear hb1; clear p0 p1 p2 p3 c0 c1 c2 c3 c4 c5 c6; obtain ⟨p0, p1, p2, p3⟩ := HC.out _ hx; obtain ⟨c0, c1, c2, c3, c4, c5, c6⟩ := HX.out _ hx) | (go_at_call 26; (with_reducible refine (HI.out _).mono ?_); rintro e w1 ⟨rfl, hb1⟩; replace hx := hx.trans hb1; clear hb1; clear p0 p1 p2 p3 c0 c1 c2 c3 c4 c5 c6; obtain ⟨p0, p1, p2, p3⟩ := HC.out _ hx; obtain ⟨c0, c1, c2, c3, c4, c5, c6⟩ := HX.out _ hx))
              go_ret
              exact ⟨by simp only [zim]; rfl, HE.out.trans hx⟩
            · have nim : (x.im != 0) = false := by simp only [bne, zim]; rfl
              go_wp2_with (first | (go_at_call 25; (with_reducible refine (HD.out _).mono ?_); rintro e w1 ⟨rfl, hb1⟩; replace hx := hx.trans hb1; clear hb1; clear p0 p1 p2 p3 c0 c1 c2 c3 c4 c5 c6; obtain ⟨p0, p1, p2, p3⟩ := HC.out _ hx; obtain ⟨c0, c1, c2, c3, c4, c5, c6⟩ := HX.out _ hx) | (go_at_call 25; (with_reducible refine (HA.out _).mono ?_); rintro e w1 ⟨rfl, hb1⟩; replace hx := hx.trans hb1; clear hb1; clear p0 p1 p2 p3 c0 c1 c2 c3 c4 c5 c6; obtain ⟨p0, p1, p2, p3⟩ := HC.out _ hx; obtain ⟨c0, c1, c2, c3, c4, c5, c6⟩ := HX.out _ hx) | (go_at_call 25; (with_reducible refine (HB.out _).mono ?_); rintro e w1 ⟨rfl, hb1⟩; replace hx := hx.trans hb1; clear hb1; clear p0 p1 p2 p3 c0 c1 c2 c3 c4 c5 c6; obtain ⟨p0, p1, p2, p3⟩ := HC.out _ hx; obtain ⟨c0, c1, c2, c3, c4, c5, c6⟩ := HX.out _ hx) | (go_at_call 25; (with_reducible refine (HSa.out _).mono ?_); rintro e w1 ⟨rfl, hb1⟩; replace hx := hx.trans hb1; clear hb1; clear p0 p1 p2 p3 c0 c1 c2 c3 c4 c5 c6; obtain ⟨p0, p1, p2, p3⟩ := HC.out _ hx; obtain ⟨c0, c1, c2, c3, c4, c5, c6⟩ := HX.out _ hx) | (go_at_call 25; (with_reducible refine (HSb.out _).mono ?_); rintro e w1 ⟨rfl, hb1⟩; replace hx := hx.trans hb1; clear hb1; clear p0 p1 p2 p3 c0 c1 c2 c3 c4 c5 c6; obtain ⟨p0, p1, p2, p3⟩ := HC.out _ hx; obtain ⟨c0, c1, c2, c3, c4, c5, c6⟩ := HX.out _ hx) | (go_at_call 26; (with_reducible refine (HI.out _).mono ?_); rintro e w1 ⟨rfl, hb1⟩; replace hx := hx.trans hb1; clear hb1; clear p0 p1 p2 p3 c0 c1 c2 c3 c4 c5 c6; obtain ⟨p0, p1, p2, p3⟩ := HC.out _ hx; obtain ⟨c0, c1, c2, c3, c4, c5, c6⟩ := HX.out _ hx))
              go_ret
              exact ⟨by simp only [zim]; rfl, HE.out.trans hx⟩
set_option maxRecDepth 100000 in
set_option maxHeartbeats 1000000 in
theorem instr_none {w : World} {G : Pgm} {p : Pp} {x : Ins} (hk : isO x.op = false) : Calls Try.prog 27 #[pgv G p, insV x] w fun e w' => e = .returned (I (insE G.np G.nc x)) ∧ Ext w w' := by
  have HV := Lib.hid (show insE G.np G.nc x = 7 by unfold insE; rw [if_pos hk])
  have HO : Hid (∀ w', Calls Try.prog 40 #[I x.op] w' fun e w'' => e = .returned (.tuple #[.bool (usA x.op), .bool (usB x.op), .bool (usA x.op), .bool (usT x.op), .bool (usI x.op), .bool false]) ∧ Ext w' w'') := fun w' => by have := Uses_any x.op w'; rwa [hk] at this
  have k0 : (x.op == 0) = false := by simp only [isO, decide_eq_false_iff_not] at hk; simp; omega
  rw [HV.out]; clear HV hk
  obtain ⟨W1, hW1⟩ : ∃ W1, W1 = (w.alloc (.cells #[.slice p.AP G.np p.cP, .slice p.AC G.nc p.cC, .slice p.AX G.ni p.cX, .slice p.AO G.no p.cO] 26)).alloc (.cells #[I x.op, I x.dst, I x.a, I x.b, I x.sa, I x.sb, I x.im] 52) := ⟨_, rfl⟩
  obtain ⟨b1, b2, b3⟩ := two_ins7 w G p x _ _ hW1
  have HX := Lib.hid b2
  have HC := Lib.hid b1
  obtain ⟨c0, c1, c2, c3, c4, c5, c6⟩ := b2
  clear b1
  go_enter Try.func27, Try.ntmps27
  go_upto_region 1 with fail
  rw [← hW1]; clear hW1
  go_upto_region 2 with (go_at_call 40; (with_reducible refine (HO.out _).mono ?_); rintro e w2 ⟨rfl, h2⟩)
  clear c0 c1 c2 c3 c4 c5 c6
  obtain ⟨p0, p1, p2, p3⟩ := HC.out.ext h2
  obtain ⟨c0, c1, c2, c3, c4, c5, c6⟩ := HX.out.ext h2
  go_wp2_with fail
  go_ret
  exact ⟨rfl, b3.trans h2⟩
theorem instr_any {w : World} {G : Pgm} {p : Pp} {x : Ins} (n1 : G.np ≤ 16) (n2 : G.nc ≤ 192) : Calls Try.prog 27 #[pgv G p, insV x] w fun e w' => e = .returned (I (insE G.np G.nc x)) ∧ Ext w w' := by
  by_cases h : 0 ≤ x.op ∧ x.op ≤ 10
  · by_cases h0 : x.op = 0
    · exact instr_in n1 n2 h0
    · by_cases h1 : x.op = 1
      · exact instr_con n2 h1
      · by_cases h6 : x.op = 6
        · exact instr_gain n2 h6
        · by_cases h7 : x.op = 7
          · exact instr_mul n2 h7
          · by_cases h2 : x.op = 2 ∨ x.op = 5 ∨ x.op = 10
            · exact instr_one n2 h2
            · exact instr_two n2 (by omega)
  · exact instr_none (by simp only [isO, decide_eq_false_iff_not]; exact h)
end Go.Proofs.Ytommlhdiefoocaa
