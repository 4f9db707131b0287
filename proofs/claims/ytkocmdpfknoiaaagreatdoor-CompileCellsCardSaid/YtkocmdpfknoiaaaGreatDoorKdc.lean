/- The fixed-point machine: the exact result of an instruction, by the code. -/
import Derived.Test.YtkocmdpfknoiaaaGreatDoorKdb
import Derived.BigQuiet
namespace Go.Proofs.YtkocmdpfknoiaaaGreatDoor
open Go Go.RowKit

theorem wd_mul {x y : Int} (h1 : wdB x = true) (h2 : wdB y = true) : -4611686018427387904 ≤ x * y ∧ x * y ≤ 4611686018427387904 := by
  have a := wdB_iff.1 h1
  have b := wdB_iff.1 h2
  by_cases hy : 0 ≤ y
  · have := mul_bd (x := x) (p := y) (B := 2147483648) (Q := 2147483648) (by omega) (by omega) hy (by omega) (by omega)
    omega
  · have := mul_bd (x := x) (p := -y) (B := 2147483648) (Q := 2147483648) (by omega) (by omega) (by omega) (by omega) (by omega)
    rw [Int.mul_neg] at this
    omega

set_option maxRecDepth 100000 in
set_option maxHeartbeats 1000000 in
theorem result_0' {w : World} {dst sb im b : Int} {a : Nat} {sa : Int} {Ac Ai : Option Addr} {nc cc np ci : Nat} {c IN : Nat → Int} (ri : Ri w Ai np IN) (hA : a < np) (hi : ∀ i, i < np → wdB (IN i) = true) (h1 : -62 ≤ sa) (h2 : sa ≤ 30) :
    Calls Tryz.prog 60 #[insV ⟨0, dst, a, b, sa, sb, im⟩, .slice Ac nc cc, .slice Ai np ci] w fun e w' => e = .returned (I (reC ⟨0, dst, a, b, sa, sb, im⟩ c IN)) ∧ Ext w w' := by
  obtain ⟨W1, hW1⟩ : ∃ W1, W1 = w.alloc (.cells #[I 0, I dst, I a, I b, I sa, I sb, I im] 83) := ⟨_, rfl⟩
  have hE : Ext w W1 := hW1 ▸ Ext.alloc _ _
  obtain ⟨c0, c1, c2, c3, c4, c5, c6⟩ : BI7 W1 w.heap.size ⟨0, dst, a, b, sa, sb, im⟩ := hW1 ▸ BI7.new w ⟨0, dst, a, b, sa, sb, im⟩ _
  have lz : w.heap.size < W1.heap.size := by rw [hW1]; simp
  obtain ⟨ba, oa, ea, hba, ca⟩ := (ri.ext hE) (by omega)
  have xa := ca a hA
  have wa := hi a hA
  have HV : Hid (reC ⟨0, dst, a, b, sa, sb, im⟩ c IN = shC (IN a) sa) := rfl
  generalize IN a = va at *
  subst ea
  rw [HV.out]; clear HV
  have HS : Hid (∀ w', Calls Tryz.prog 111 #[I va, I sa] w' fun e w'' => e = .returned (I (shC va sa)) ∧ Ext w' w'') := fun w' => shiftC_any va sa w' (by have := wdB_iff.1 wa; omega) (by have := wdB_iff.1 wa; omega) h1 h2
  have hp := shC_wd wa h2
  generalize shC va sa = p at *
  clear ri hi ca h1 h2 wa
  have ha' : (a : Int) < (np : Int) := by omega
  have hb := Ext.refl W1
  go_enter Tryz.func60, Tryz.ntmps60
  go_upto_region 1 with fail
  rw [← hW1]; clear hW1
  go_upto_region 3 with fail
  have hL := fun (x : Later _) => (Ext.trans hb x.ext).old.1
  refine wp_region_later (by kernel_rfl) (by kernel_rfl) ?_
  repeat (go_big_quiet_step (first | (go_at_call 111; exact Calls.later (HS.out _))))
  refine wpQuiet_nil ?_
  intro w2 hw2
  replace hb := Ext.trans hb (Later.of hw2)
  clear hw2 hL
  go_wp2_with fail
  go_ret
  exact ⟨rfl, hE.trans hb⟩
set_option maxRecDepth 100000 in
set_option maxHeartbeats 1000000 in
theorem result_2 {w : World} {dst sb im b : Int} {a : Nat} {sa : Int} {Ac Ai : Option Addr} {nc cc np ci : Nat} {c IN : Nat → Int} (rc : Ri w Ac nc c) (hA : a < nc) (hc : ∀ i, i < nc → wdB (c i) = true) (h1 : -62 ≤ sa) (h2 : sa ≤ 30) :
    Calls Tryz.prog 60 #[insV ⟨2, dst, a, b, sa, sb, im⟩, .slice Ac nc cc, .slice Ai np ci] w fun e w' => e = .returned (I (reC ⟨2, dst, a, b, sa, sb, im⟩ c IN)) ∧ Ext w w' := by
  obtain ⟨W1, hW1⟩ : ∃ W1, W1 = w.alloc (.cells #[I 2, I dst, I a, I b, I sa, I sb, I im] 83) := ⟨_, rfl⟩
  have hE : Ext w W1 := hW1 ▸ Ext.alloc _ _
  obtain ⟨c0, c1, c2, c3, c4, c5, c6⟩ : BI7 W1 w.heap.size ⟨2, dst, a, b, sa, sb, im⟩ := hW1 ▸ BI7.new w ⟨2, dst, a, b, sa, sb, im⟩ _
  have lz : w.heap.size < W1.heap.size := by rw [hW1]; simp
  obtain ⟨ba, oa, ea, hba, ca⟩ := (rc.ext hE) (by omega)
  have xa := ca a hA
  have wa := hc a hA
  have HV : Hid (reC ⟨2, dst, a, b, sa, sb, im⟩ c IN = shC (c a) sa) := rfl
  generalize c a = va at *
  subst ea
  rw [HV.out]; clear HV
  have HS : Hid (∀ w', Calls Tryz.prog 111 #[I va, I sa] w' fun e w'' => e = .returned (I (shC va sa)) ∧ Ext w' w'') := fun w' => shiftC_any va sa w' (by have := wdB_iff.1 wa; omega) (by have := wdB_iff.1 wa; omega) h1 h2
  have hp := shC_wd wa h2
  generalize shC va sa = p at *
  clear rc hc ca h1 h2 wa
  have ha' : (a : Int) < (nc : Int) := by omega
  have hb := Ext.refl W1
  go_enter Tryz.func60, Tryz.ntmps60
  go_upto_region 1 with fail
  rw [← hW1]; clear hW1
  go_upto_region 5 with fail
  have hL := fun (x : Later _) => (Ext.trans hb x.ext).old.1
  refine wp_region_later (by kernel_rfl) (by kernel_rfl) ?_
  repeat (go_big_quiet_step (first | (go_at_call 111; exact Calls.later (HS.out _))))
  refine wpQuiet_nil ?_
  intro w2 hw2
  replace hb := Ext.trans hb (Later.of hw2)
  clear hw2 hL
  go_wp2_with fail
  go_ret
  exact ⟨rfl, hE.trans hb⟩
set_option maxRecDepth 100000 in
set_option maxHeartbeats 1000000 in
theorem result_3 {w : World} {dst sb im : Int} {a b : Nat} {sa : Int} {Ac Ai : Option Addr} {nc cc np ci : Nat} {c IN : Nat → Int} (rc : Ri w Ac nc c) (hA : a < nc) (hB : b < nc) (hc : ∀ i, i < nc → wdB (c i) = true) (h1 : -62 ≤ sa) (h2 : sa ≤ 30) (h3 : -62 ≤ sb) (h4 : sb ≤ 30) :
    Calls Tryz.prog 60 #[insV ⟨3, dst, a, b, sa, sb, im⟩, .slice Ac nc cc, .slice Ai np ci] w fun e w' => e = .returned (I (reC ⟨3, dst, a, b, sa, sb, im⟩ c IN)) ∧ Ext w w' := by
  obtain ⟨W1, hW1⟩ : ∃ W1, W1 = w.alloc (.cells #[I 3, I dst, I a, I b, I sa, I sb, I im] 83) := ⟨_, rfl⟩
  have hE : Ext w W1 := hW1 ▸ Ext.alloc _ _
  obtain ⟨c0, c1, c2, c3, c4, c5, c6⟩ : BI7 W1 w.heap.size ⟨3, dst, a, b, sa, sb, im⟩ := hW1 ▸ BI7.new w ⟨3, dst, a, b, sa, sb, im⟩ _
  have lz : w.heap.size < W1.heap.size := by rw [hW1]; simp
  obtain ⟨ba, oa, ea, hba, ca⟩ := (rc.ext hE) (by omega)
  have xa := ca a hA
  have wa := hc a hA
  have xb := ca b hB
  have wb := hc b hB
  have HV : Hid (reC ⟨3, dst, a, b, sa, sb, im⟩ c IN = shC (c a) sa + shC (c b) sb) := rfl
  generalize c b = vb at *
  generalize hva : c a = va at *
  clear hva
  subst ea
  rw [HV.out]; clear HV
  have HS : Hid (∀ w', Calls Tryz.prog 111 #[I va, I sa] w' fun e w'' => e = .returned (I (shC va sa)) ∧ Ext w' w'') := fun w' => shiftC_any va sa w' (by have := wdB_iff.1 wa; omega) (by have := wdB_iff.1 wa; omega) h1 h2
  have HT : Hid (∀ w', Calls Tryz.prog 111 #[I vb, I sb] w' fun e w'' => e = .returned (I (shC vb sb)) ∧ Ext w' w'') := fun w' => shiftC_any vb sb w' (by have := wdB_iff.1 wb; omega) (by have := wdB_iff.1 wb; omega) h3 h4
  have hp := shC_wd wa h2
  have hq := shC_wd wb h4
  generalize hpe : shC va sa = p at *
  clear hpe
  generalize hqe : shC vb sb = q at *
  clear hqe
  have hw : IntKind.i64.wrap (p + q) = p + q := IntWalk.i64_in _ (by omega)
  clear rc hc ca h1 h2 h3 h4 wa wb
  have ha' : (a : Int) < (nc : Int) := by omega
  have hb' : (b : Int) < (nc : Int) := by omega
  have hb := Ext.refl W1
  go_enter Tryz.func60, Tryz.ntmps60
  go_upto_region 1 with fail
  rw [← hW1]; clear hW1
  go_upto_region 7 with fail
  have hL := fun (x : Later _) => (Ext.trans hb x.ext).old.1
  refine wp_region_later (by kernel_rfl) (by kernel_rfl) ?_
  repeat (go_big_quiet_step (first | (go_at_call 111; (first | (with_reducible exact Calls.later (HS.out _)) | (with_reducible exact Calls.later (HT.out _))))))
  refine wpQuiet_nil ?_
  intro w2 hw2
  replace hb := Ext.trans hb (Later.of hw2)
  clear hw2 hL
  go_wp2_with fail
  go_ret
  exact ⟨rfl, hE.trans hb⟩
set_option maxRecDepth 100000 in
set_option maxHeartbeats 1000000 in
theorem result_4 {w : World} {dst sb im : Int} {a b : Nat} {sa : Int} {Ac Ai : Option Addr} {nc cc np ci : Nat} {c IN : Nat → Int} (rc : Ri w Ac nc c) (hA : a < nc) (hB : b < nc) (hc : ∀ i, i < nc → wdB (c i) = true) (h1 : -62 ≤ sa) (h2 : sa ≤ 30) (h3 : -62 ≤ sb) (h4 : sb ≤ 30) :
    Calls Tryz.prog 60 #[insV ⟨4, dst, a, b, sa, sb, im⟩, .slice Ac nc cc, .slice Ai np ci] w fun e w' => e = .returned (I (reC ⟨4, dst, a, b, sa, sb, im⟩ c IN)) ∧ Ext w w' := by
  obtain ⟨W1, hW1⟩ : ∃ W1, W1 = w.alloc (.cells #[I 4, I dst, I a, I b, I sa, I sb, I im] 83) := ⟨_, rfl⟩
  have hE : Ext w W1 := hW1 ▸ Ext.alloc _ _
  obtain ⟨c0, c1, c2, c3, c4, c5, c6⟩ : BI7 W1 w.heap.size ⟨4, dst, a, b, sa, sb, im⟩ := hW1 ▸ BI7.new w ⟨4, dst, a, b, sa, sb, im⟩ _
  have lz : w.heap.size < W1.heap.size := by rw [hW1]; simp
  obtain ⟨ba, oa, ea, hba, ca⟩ := (rc.ext hE) (by omega)
  have xa := ca a hA
  have wa := hc a hA
  have xb := ca b hB
  have wb := hc b hB
  have HV : Hid (reC ⟨4, dst, a, b, sa, sb, im⟩ c IN = shC (c a) sa - shC (c b) sb) := rfl
  generalize c b = vb at *
  generalize hva : c a = va at *
  clear hva
  subst ea
  rw [HV.out]; clear HV
  have HS : Hid (∀ w', Calls Tryz.prog 111 #[I va, I sa] w' fun e w'' => e = .returned (I (shC va sa)) ∧ Ext w' w'') := fun w' => shiftC_any va sa w' (by have := wdB_iff.1 wa; omega) (by have := wdB_iff.1 wa; omega) h1 h2
  have HT : Hid (∀ w', Calls Tryz.prog 111 #[I vb, I sb] w' fun e w'' => e = .returned (I (shC vb sb)) ∧ Ext w' w'') := fun w' => shiftC_any vb sb w' (by have := wdB_iff.1 wb; omega) (by have := wdB_iff.1 wb; omega) h3 h4
  have hp := shC_wd wa h2
  have hq := shC_wd wb h4
  generalize hpe : shC va sa = p at *
  clear hpe
  generalize hqe : shC vb sb = q at *
  clear hqe
  have hw : IntKind.i64.wrap (p - q) = p - q := IntWalk.i64_in _ (by omega)
  clear rc hc ca h1 h2 h3 h4 wa wb
  have ha' : (a : Int) < (nc : Int) := by omega
  have hb' : (b : Int) < (nc : Int) := by omega
  have hb := Ext.refl W1
  go_enter Tryz.func60, Tryz.ntmps60
  go_upto_region 1 with fail
  rw [← hW1]; clear hW1
  go_upto_region 9 with fail
  have hL := fun (x : Later _) => (Ext.trans hb x.ext).old.1
  refine wp_region_later (by kernel_rfl) (by kernel_rfl) ?_
  repeat (go_big_quiet_step (first | (go_at_call 111; (first | (with_reducible exact Calls.later (HS.out _)) | (with_reducible exact Calls.later (HT.out _))))))
  refine wpQuiet_nil ?_
  intro w2 hw2
  replace hb := Ext.trans hb (Later.of hw2)
  clear hw2 hL
  go_wp2_with fail
  go_ret
  exact ⟨rfl, hE.trans hb⟩
set_option maxRecDepth 100000 in
set_option maxHeartbeats 1000000 in
theorem result_5 {w : World} {dst sb im b : Int} {a : Nat} {sa : Int} {Ac Ai : Option Addr} {nc cc np ci : Nat} {c IN : Nat → Int} (rc : Ri w Ac nc c) (hA : a < nc) (hc : ∀ i, i < nc → wdB (c i) = true) (h1 : -62 ≤ sa) (h2 : sa ≤ 30) :
    Calls Tryz.prog 60 #[insV ⟨5, dst, a, b, sa, sb, im⟩, .slice Ac nc cc, .slice Ai np ci] w fun e w' => e = .returned (I (reC ⟨5, dst, a, b, sa, sb, im⟩ c IN)) ∧ Ext w w' := by
  obtain ⟨W1, hW1⟩ : ∃ W1, W1 = w.alloc (.cells #[I 5, I dst, I a, I b, I sa, I sb, I im] 83) := ⟨_, rfl⟩
  have hE : Ext w W1 := hW1 ▸ Ext.alloc _ _
  obtain ⟨c0, c1, c2, c3, c4, c5, c6⟩ : BI7 W1 w.heap.size ⟨5, dst, a, b, sa, sb, im⟩ := hW1 ▸ BI7.new w ⟨5, dst, a, b, sa, sb, im⟩ _
  have lz : w.heap.size < W1.heap.size := by rw [hW1]; simp
  obtain ⟨ba, oa, ea, hba, ca⟩ := (rc.ext hE) (by omega)
  have xa := ca a hA
  have wa := hc a hA
  have HV : Hid (reC ⟨5, dst, a, b, sa, sb, im⟩ c IN = -shC (c a) sa) := rfl
  generalize c a = va at *
  subst ea
  rw [HV.out]; clear HV
  have HS : Hid (∀ w', Calls Tryz.prog 111 #[I va, I sa] w' fun e w'' => e = .returned (I (shC va sa)) ∧ Ext w' w'') := fun w' => shiftC_any va sa w' (by have := wdB_iff.1 wa; omega) (by have := wdB_iff.1 wa; omega) h1 h2
  have hp := shC_wd wa h2
  generalize shC va sa = p at *
  have hw : IntKind.i64.wrap (-p) = -p := IntWalk.i64_in _ (by omega)
  clear rc hc ca h1 h2 wa
  have ha' : (a : Int) < (nc : Int) := by omega
  have hb := Ext.refl W1
  go_enter Tryz.func60, Tryz.ntmps60
  go_upto_region 1 with fail
  rw [← hW1]; clear hW1
  go_upto_region 11 with fail
  have hL := fun (x : Later _) => (Ext.trans hb x.ext).old.1
  refine wp_region_later (by kernel_rfl) (by kernel_rfl) ?_
  repeat (go_big_quiet_step (first | (go_at_call 111; exact Calls.later (HS.out _))))
  refine wpQuiet_nil ?_
  intro w2 hw2
  replace hb := Ext.trans hb (Later.of hw2)
  clear hw2 hL
  go_wp2_with fail
  go_ret
  exact ⟨rfl, hE.trans hb⟩
set_option maxRecDepth 100000 in
set_option maxHeartbeats 1000000 in
theorem result_6 {w : World} {dst sb im b : Int} {a : Nat} {sa : Int} {Ac Ai : Option Addr} {nc cc np ci : Nat} {c IN : Nat → Int} (rc : Ri w Ac nc c) (hA : a < nc) (hc : ∀ i, i < nc → wdB (c i) = true) (h1 : -62 ≤ sa) (h2 : sa ≤ 30) (h5 : -2147483648 ≤ im) (h6 : im ≤ 2147483647) :
    Calls Tryz.prog 60 #[insV ⟨6, dst, a, b, sa, sb, im⟩, .slice Ac nc cc, .slice Ai np ci] w fun e w' => e = .returned (I (reC ⟨6, dst, a, b, sa, sb, im⟩ c IN)) ∧ Ext w w' := by
  obtain ⟨W1, hW1⟩ : ∃ W1, W1 = w.alloc (.cells #[I 6, I dst, I a, I b, I sa, I sb, I im] 83) := ⟨_, rfl⟩
  have hE : Ext w W1 := hW1 ▸ Ext.alloc _ _
  obtain ⟨c0, c1, c2, c3, c4, c5, c6⟩ : BI7 W1 w.heap.size ⟨6, dst, a, b, sa, sb, im⟩ := hW1 ▸ BI7.new w ⟨6, dst, a, b, sa, sb, im⟩ _
  have lz : w.heap.size < W1.heap.size := by rw [hW1]; simp
  obtain ⟨ba, oa, ea, hba, ca⟩ := (rc.ext hE) (by omega)
  have xa := ca a hA
  have wa := hc a hA
  have HV : Hid (reC ⟨6, dst, a, b, sa, sb, im⟩ c IN = shC (c a * im) sa) := rfl
  generalize c a = va at *
  subst ea
  rw [HV.out]; clear HV
  have hm : -4611686018427387904 ≤ va * im ∧ va * im ≤ 4611686018427387904 := wd_mul wa (wdB_iff.2 ⟨h5, h6⟩)
  obtain ⟨pr, hpr⟩ : ∃ pr, va * im = pr := ⟨_, rfl⟩
  rw [hpr] at hm ⊢
  have hw : IntKind.i64.wrap (va * im) = pr := by rw [hpr]; exact IntWalk.i64_in _ (by omega)
  have HS : Hid (∀ w', Calls Tryz.prog 111 #[I pr, I sa] w' fun e w'' => e = .returned (I (shC pr sa)) ∧ Ext w' w'') := fun w' => shiftC_any pr sa w' hm.1 hm.2 h1 h2
  clear hpr
  generalize shC pr sa = p at *
  clear rc hc ca h1 h2 h5 h6 wa hm
  have ha' : (a : Int) < (nc : Int) := by omega
  have hb := Ext.refl W1
  go_enter Tryz.func60, Tryz.ntmps60
  go_upto_region 1 with fail
  rw [← hW1]; clear hW1
  go_upto_region 13 with fail
  have hL := fun (x : Later _) => (Ext.trans hb x.ext).old.1
  refine wp_region_later (by kernel_rfl) (by kernel_rfl) ?_
  repeat (go_big_quiet_step (first | (go_at_call 111; exact Calls.later (HS.out _))))
  refine wpQuiet_nil ?_
  intro w2 hw2
  replace hb := Ext.trans hb (Later.of hw2)
  clear hw2 hL
  go_wp2_with fail
  go_ret
  exact ⟨rfl, hE.trans hb⟩
set_option maxRecDepth 100000 in
set_option maxHeartbeats 1000000 in
theorem result_7 {w : World} {dst sb im : Int} {a b : Nat} {sa : Int} {Ac Ai : Option Addr} {nc cc np ci : Nat} {c IN : Nat → Int} (rc : Ri w Ac nc c) (hA : a < nc) (hB : b < nc) (hc : ∀ i, i < nc → wdB (c i) = true) (h1 : -62 ≤ sa) (h2 : sa ≤ 30) :
    Calls Tryz.prog 60 #[insV ⟨7, dst, a, b, sa, sb, im⟩, .slice Ac nc cc, .slice Ai np ci] w fun e w' => e = .returned (I (reC ⟨7, dst, a, b, sa, sb, im⟩ c IN)) ∧ Ext w w' := by
  obtain ⟨W1, hW1⟩ : ∃ W1, W1 = w.alloc (.cells #[I 7, I dst, I a, I b, I sa, I sb, I im] 83) := ⟨_, rfl⟩
  have hE : Ext w W1 := hW1 ▸ Ext.alloc _ _
  obtain ⟨c0, c1, c2, c3, c4, c5, c6⟩ : BI7 W1 w.heap.size ⟨7, dst, a, b, sa, sb, im⟩ := hW1 ▸ BI7.new w ⟨7, dst, a, b, sa, sb, im⟩ _
  have lz : w.heap.size < W1.heap.size := by rw [hW1]; simp
  obtain ⟨ba, oa, ea, hba, ca⟩ := (rc.ext hE) (by omega)
  have xa := ca a hA
  have wa := hc a hA
  have xb := ca b hB
  have wb := hc b hB
  have HV : Hid (reC ⟨7, dst, a, b, sa, sb, im⟩ c IN = shC (c a * c b) sa) := rfl
  generalize c b = vb at *
  generalize hva : c a = va at *
  clear hva
  subst ea
  rw [HV.out]; clear HV
  have hm : -4611686018427387904 ≤ va * vb ∧ va * vb ≤ 4611686018427387904 := wd_mul wa wb
  obtain ⟨pr, hpr⟩ : ∃ pr, va * vb = pr := ⟨_, rfl⟩
  rw [hpr] at hm ⊢
  have hw : IntKind.i64.wrap (va * vb) = pr := by rw [hpr]; exact IntWalk.i64_in _ (by omega)
  have HS : Hid (∀ w', Calls Tryz.prog 111 #[I pr, I sa] w' fun e w'' => e = .returned (I (shC pr sa)) ∧ Ext w' w'') := fun w' => shiftC_any pr sa w' hm.1 hm.2 h1 h2
  clear hpr
  generalize shC pr sa = p at *
  clear rc hc ca h1 h2 wa wb hm
  have ha' : (a : Int) < (nc : Int) := by omega
  have hb' : (b : Int) < (nc : Int) := by omega
  have hb := Ext.refl W1
  go_enter Tryz.func60, Tryz.ntmps60
  go_upto_region 1 with fail
  rw [← hW1]; clear hW1
  go_upto_region 15 with fail
  have hL := fun (x : Later _) => (Ext.trans hb x.ext).old.1
  refine wp_region_later (by kernel_rfl) (by kernel_rfl) ?_
  repeat (go_big_quiet_step (first | (go_at_call 111; exact Calls.later (HS.out _))))
  refine wpQuiet_nil ?_
  intro w2 hw2
  replace hb := Ext.trans hb (Later.of hw2)
  clear hw2 hL
  go_wp2_with fail
  go_ret
  exact ⟨rfl, hE.trans hb⟩
set_option maxRecDepth 100000 in
set_option maxHeartbeats 1000000 in
theorem result_8 {w : World} {dst sb im : Int} {a b : Nat} {sa : Int} {Ac Ai : Option Addr} {nc cc np ci : Nat} {c IN : Nat → Int} (rc : Ri w Ac nc c) (hA : a < nc) (hB : b < nc) (hc : ∀ i, i < nc → wdB (c i) = true) (h1 : -62 ≤ sa) (h2 : sa ≤ 30) (h3 : -62 ≤ sb) (h4 : sb ≤ 30) :
    Calls Tryz.prog 60 #[insV ⟨8, dst, a, b, sa, sb, im⟩, .slice Ac nc cc, .slice Ai np ci] w fun e w' => e = .returned (I (reC ⟨8, dst, a, b, sa, sb, im⟩ c IN)) ∧ Ext w w' := by
  obtain ⟨W1, hW1⟩ : ∃ W1, W1 = w.alloc (.cells #[I 8, I dst, I a, I b, I sa, I sb, I im] 83) := ⟨_, rfl⟩
  have hE : Ext w W1 := hW1 ▸ Ext.alloc _ _
  obtain ⟨c0, c1, c2, c3, c4, c5, c6⟩ : BI7 W1 w.heap.size ⟨8, dst, a, b, sa, sb, im⟩ := hW1 ▸ BI7.new w ⟨8, dst, a, b, sa, sb, im⟩ _
  have lz : w.heap.size < W1.heap.size := by rw [hW1]; simp
  obtain ⟨ba, oa, ea, hba, ca⟩ := (rc.ext hE) (by omega)
  have xa := ca a hA
  have wa := hc a hA
  have xb := ca b hB
  have wb := hc b hB
  have HV : Hid (reC ⟨8, dst, a, b, sa, sb, im⟩ c IN = min (shC (c a) sa) (shC (c b) sb)) := rfl
  generalize c b = vb at *
  generalize hva : c a = va at *
  clear hva
  subst ea
  rw [HV.out]; clear HV
  have HS : Hid (∀ w', Calls Tryz.prog 111 #[I va, I sa] w' fun e w'' => e = .returned (I (shC va sa)) ∧ Ext w' w'') := fun w' => shiftC_any va sa w' (by have := wdB_iff.1 wa; omega) (by have := wdB_iff.1 wa; omega) h1 h2
  have HT : Hid (∀ w', Calls Tryz.prog 111 #[I vb, I sb] w' fun e w'' => e = .returned (I (shC vb sb)) ∧ Ext w' w'') := fun w' => shiftC_any vb sb w' (by have := wdB_iff.1 wb; omega) (by have := wdB_iff.1 wb; omega) h3 h4
  have hp := shC_wd wa h2
  have hq := shC_wd wb h4
  generalize hpe : shC va sa = p at *
  clear hpe
  generalize hqe : shC vb sb = q at *
  clear hqe
  clear rc hc ca h1 h2 h3 h4 wa wb
  have ha' : (a : Int) < (nc : Int) := by omega
  have hb' : (b : Int) < (nc : Int) := by omega
  have hb := Ext.refl W1
  go_enter Tryz.func60, Tryz.ntmps60
  go_upto_region 1 with fail
  rw [← hW1]; clear hW1
  go_upto_region 17 with fail
  have hL := fun (x : Later _) => (Ext.trans hb x.ext).old.1
  refine wp_region_later (by kernel_rfl) (by kernel_rfl) ?_
  repeat (go_big_quiet_step (first | (go_at_call 111; (first | (with_reducible exact Calls.later (HS.out _)) | (with_reducible exact Calls.later (HT.out _))))))
  refine wpQuiet_nil ?_
  intro w2 hw2
  replace hb := Ext.trans hb (Later.of hw2)
  clear hw2 hL
  go_wp2_with fail
  all_goals (go_ret; exact ⟨ret_int (by omega), hE.trans hb⟩)
set_option maxRecDepth 100000 in
set_option maxHeartbeats 1000000 in
theorem result_9 {w : World} {dst sb im : Int} {a b : Nat} {sa : Int} {Ac Ai : Option Addr} {nc cc np ci : Nat} {c IN : Nat → Int} (rc : Ri w Ac nc c) (hA : a < nc) (hB : b < nc) (hc : ∀ i, i < nc → wdB (c i) = true) (h1 : -62 ≤ sa) (h2 : sa ≤ 30) (h3 : -62 ≤ sb) (h4 : sb ≤ 30) :
    Calls Tryz.prog 60 #[insV ⟨9, dst, a, b, sa, sb, im⟩, .slice Ac nc cc, .slice Ai np ci] w fun e w' => e = .returned (I (reC ⟨9, dst, a, b, sa, sb, im⟩ c IN)) ∧ Ext w w' := by
  obtain ⟨W1, hW1⟩ : ∃ W1, W1 = w.alloc (.cells #[I 9, I dst, I a, I b, I sa, I sb, I im] 83) := ⟨_, rfl⟩
  have hE : Ext w W1 := hW1 ▸ Ext.alloc _ _
  obtain ⟨c0, c1, c2, c3, c4, c5, c6⟩ : BI7 W1 w.heap.size ⟨9, dst, a, b, sa, sb, im⟩ := hW1 ▸ BI7.new w ⟨9, dst, a, b, sa, sb, im⟩ _
  have lz : w.heap.size < W1.heap.size := by rw [hW1]; simp
  obtain ⟨ba, oa, ea, hba, ca⟩ := (rc.ext hE) (by omega)
  have xa := ca a hA
  have wa := hc a hA
  have xb := ca b hB
  have wb := hc b hB
  have HV : Hid (reC ⟨9, dst, a, b, sa, sb, im⟩ c IN = max (shC (c a) sa) (shC (c b) sb)) := rfl
  generalize c b = vb at *
  generalize hva : c a = va at *
  clear hva
  subst ea
  rw [HV.out]; clear HV
  have HS : Hid (∀ w', Calls Tryz.prog 111 #[I va, I sa] w' fun e w'' => e = .returned (I (shC va sa)) ∧ Ext w' w'') := fun w' => shiftC_any va sa w' (by have := wdB_iff.1 wa; omega) (by have := wdB_iff.1 wa; omega) h1 h2
  have HT : Hid (∀ w', Calls Tryz.prog 111 #[I vb, I sb] w' fun e w'' => e = .returned (I (shC vb sb)) ∧ Ext w' w'') := fun w' => shiftC_any vb sb w' (by have := wdB_iff.1 wb; omega) (by have := wdB_iff.1 wb; omega) h3 h4
  have hp := shC_wd wa h2
  have hq := shC_wd wb h4
  generalize hpe : shC va sa = p at *
  clear hpe
  generalize hqe : shC vb sb = q at *
  clear hqe
  clear rc hc ca h1 h2 h3 h4 wa wb
  have ha' : (a : Int) < (nc : Int) := by omega
  have hb' : (b : Int) < (nc : Int) := by omega
  have hb := Ext.refl W1
  go_enter Tryz.func60, Tryz.ntmps60
  go_upto_region 1 with fail
  rw [← hW1]; clear hW1
  go_upto_region 19 with fail
  have hL := fun (x : Later _) => (Ext.trans hb x.ext).old.1
  refine wp_region_later (by kernel_rfl) (by kernel_rfl) ?_
  repeat (go_big_quiet_step (first | (go_at_call 111; (first | (with_reducible exact Calls.later (HS.out _)) | (with_reducible exact Calls.later (HT.out _))))))
  refine wpQuiet_nil ?_
  intro w2 hw2
  replace hb := Ext.trans hb (Later.of hw2)
  clear hw2 hL
  go_wp2_with fail
  all_goals (go_ret; exact ⟨ret_int (by omega), hE.trans hb⟩)
set_option maxRecDepth 100000 in
set_option maxHeartbeats 1000000 in
theorem result_10 {w : World} {dst sb im b : Int} {a : Nat} {sa : Int} {Ac Ai : Option Addr} {nc cc np ci : Nat} {c IN : Nat → Int} (rc : Ri w Ac nc c) (hA : a < nc) (hc : ∀ i, i < nc → wdB (c i) = true) (h1 : -62 ≤ sa) (h2 : sa ≤ 30) :
    Calls Tryz.prog 60 #[insV ⟨10, dst, a, b, sa, sb, im⟩, .slice Ac nc cc, .slice Ai np ci] w fun e w' => e = .returned (I (reC ⟨10, dst, a, b, sa, sb, im⟩ c IN)) ∧ Ext w w' := by
  obtain ⟨W1, hW1⟩ : ∃ W1, W1 = w.alloc (.cells #[I 10, I dst, I a, I b, I sa, I sb, I im] 83) := ⟨_, rfl⟩
  have hE : Ext w W1 := hW1 ▸ Ext.alloc _ _
  obtain ⟨c0, c1, c2, c3, c4, c5, c6⟩ : BI7 W1 w.heap.size ⟨10, dst, a, b, sa, sb, im⟩ := hW1 ▸ BI7.new w ⟨10, dst, a, b, sa, sb, im⟩ _
  have lz : w.heap.size < W1.heap.size := by rw [hW1]; simp
  obtain ⟨ba, oa, ea, hba, ca⟩ := (rc.ext hE) (by omega)
  have xa := ca a hA
  have wa := hc a hA
  have HV : Hid (reC ⟨10, dst, a, b, sa, sb, im⟩ c IN = max (shC (c a) sa) (-shC (c a) sa)) := rfl
  generalize c a = va at *
  subst ea
  rw [HV.out]; clear HV
  have HS : Hid (∀ w', Calls Tryz.prog 111 #[I va, I sa] w' fun e w'' => e = .returned (I (shC va sa)) ∧ Ext w' w'') := fun w' => shiftC_any va sa w' (by have := wdB_iff.1 wa; omega) (by have := wdB_iff.1 wa; omega) h1 h2
  have hp := shC_wd wa h2
  generalize shC va sa = p at *
  have hw : IntKind.i64.wrap (-p) = -p := IntWalk.i64_in _ (by omega)
  clear rc hc ca h1 h2 wa
  have ha' : (a : Int) < (nc : Int) := by omega
  have hb := Ext.refl W1
  go_enter Tryz.func60, Tryz.ntmps60
  go_upto_region 1 with fail
  rw [← hW1]; clear hW1
  go_upto_region 21 with fail
  have hL := fun (x : Later _) => (Ext.trans hb x.ext).old.1
  refine wp_region_later (by kernel_rfl) (by kernel_rfl) ?_
  repeat (go_big_quiet_step (first | (go_at_call 111; exact Calls.later (HS.out _))))
  refine wpQuiet_nil ?_
  intro w2 hw2
  replace hb := Ext.trans hb (Later.of hw2)
  clear hw2 hL
  go_wp2_with fail
  all_goals (go_ret; exact ⟨ret_int (by omega), hE.trans hb⟩)
set_option maxRecDepth 100000 in
set_option maxHeartbeats 1000000 in
theorem result_1 {w : World} {dst a b sa sb im : Int} {Ac Ai : Option Addr} {nc cc np ci : Nat} {c IN : Nat → Int} :
    Calls Tryz.prog 60 #[insV ⟨1, dst, a, b, sa, sb, im⟩, .slice Ac nc cc, .slice Ai np ci] w fun e w' => e = .returned (I (reC ⟨1, dst, a, b, sa, sb, im⟩ c IN)) ∧ Ext w w' := by
  have HV : Hid (reC ⟨1, dst, a, b, sa, sb, im⟩ c IN = im) := rfl
  rw [HV.out]; clear HV
  go_enter Tryz.func60, Tryz.ntmps60
  go_wp2_with fail
  go_ret
  exact ⟨rfl, Ext.alloc _ _⟩
theorem result_any {w : World} {x : Ins} {Ac Ai : Option Addr} {nc cc np ci : Nat} {c IN : Nat → Int} (ok : InsOk np nc x) (rc : Ri w Ac nc c) (ri : Ri w Ai np IN) (hc : ∀ i, i < nc → wdB (c i) = true) (hi : ∀ i, i < np → wdB (IN i) = true) :
    Calls Tryz.prog 60 #[insV x, .slice Ac nc cc, .slice Ai np ci] w fun e w' => e = .returned (I (reC x c IN)) ∧ Ext w w' := by
  obtain ⟨op, dst, a, b, sa, sb, im⟩ := x
  obtain ⟨⟨o1, o2⟩, _, ha, hb, ⟨s1, s2⟩, ⟨t1, t2⟩, ⟨i1, i2⟩⟩ := ok
  simp only at o1 o2 ha hb s1 s2 t1 t2 i1 i2
  by_cases k1 : op = 1
  · subst k1; exact result_1
  · have hA := ha k1
    obtain ⟨m, rfl⟩ : ∃ m : Nat, a = m := ⟨a.toNat, by omega⟩
    by_cases k0 : op = 0
    · subst k0
      have hq : m < np := by unfold srcN at hA; rw [if_pos rfl] at hA; omega
      exact result_0' ri hq hi s1 s2
    · have hq : m < nc := by unfold srcN at hA; rw [if_neg k0] at hA; omega
      by_cases kb : usB op = true
      · have hB := hb kb
        obtain ⟨n, rfl⟩ : ∃ n : Nat, b = n := ⟨b.toNat, by omega⟩
        have hn : n < nc := by omega
        have : op = 3 ∨ op = 4 ∨ op = 7 ∨ op = 8 ∨ op = 9 := by simpa [usB] using kb
        rcases this with h | h | h | h | h <;> subst h
        · exact result_3 rc hq hn hc s1 s2 t1 t2
        · exact result_4 rc hq hn hc s1 s2 t1 t2
        · exact result_7 rc hq hn hc s1 s2
        · exact result_8 rc hq hn hc s1 s2 t1 t2
        · exact result_9 rc hq hn hc s1 s2 t1 t2
      · have hk : op = 2 ∨ op = 5 ∨ op = 6 ∨ op = 10 := by
          simp only [usB, decide_eq_true_eq] at kb; omega
        rcases hk with h | h | h | h <;> subst h
        · exact result_2 rc hq hc s1 s2
        · exact result_5 rc hq hc s1 s2
        · exact result_6 rc hq hc s1 s2 i1 i2
        · exact result_10 rc hq hc s1 s2

end Go.Proofs.YtkocmdpfknoiaaaGreatDoor
