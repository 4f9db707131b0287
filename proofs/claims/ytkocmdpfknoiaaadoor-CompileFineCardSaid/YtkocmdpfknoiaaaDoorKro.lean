/- The fixed-point machine: the reference's Fit. -/
import Derived.Test.YtkocmdpfknoiaaaDoorKrn
import Derived.Test.YtkocmdpfknoiaaaDoorExt
set_option linter.unusedVariables false
namespace Go.Proofs.YtkocmdpfknoiaaaDoor
open Go Go.RowKit
theorem len_big {n : Int} (h1 : -1267650600228229401496703205376 ≤ n) (h2 : n ≤ 1267650600228229401496703205376) : len (ofI n 0).m ≤ 16777216 :=
  Nat.le_trans (len_mono (m_ofZ n)) (Nat.le_trans (len_le (n := 4) (by show _ < 4294967296 ^ 4; omega)) (by omega))
theorem iv_ofZ (n : Int) : ivD (ofI n 0) = n := by
  have e := ofI_eq (ofI_ok n 0) (den_ofZ n)
  have h := congrArg DV.q e
  rw [q_ofZ, q_ofZ] at h
  exact_mod_cast h
theorem isI_ofZ {n : Int} (h1 : -9223372036854775808 ≤ n) (h2 : n ≤ 9223372036854775807) : isI (ofI n 0) = true := by
  unfold isI
  rw [iv_ofZ, den_ofZ]
  simp
  omega
set_option maxRecDepth 100000 in
set_option maxHeartbeats 1000000 in
theorem rfit_lo {w : World} {neg : Bool} {A A' : Option Addr} {n c c' : Nat} {den v : Int} (h : Dy w neg A n c den (ofI v 0) A' c') (b1 : -633825300114114700748351602688 ≤ v) (b2 : v ≤ 633825300114114700748351602688) (hv : v < -2147483648) :
    Calls Tryd.prog 19 #[dv neg A n c den] w fun e w' => e = .returned (.tuple #[I (-2147483648), .bool true]) ∧ Ext w w' := by
  have HL1 := Lib.hid (show len (subD (ofI v 0) (ofI (-2147483648) 0)).m ≤ 16777216 by rw [sub_ofZ]; exact len_big (by omega) (by omega))
  have HL2 := Lib.hid (show len (subD (ofI v 0) (ofI 2147483647 0)).m ≤ 16777216 by rw [sub_ofZ]; exact len_big (by omega) (by omega))
  have HK1 := Lib.hid (show (subD (ofI v 0) (ofI (-2147483648) 0)).ok by rw [sub_ofZ]; exact ofZ_ok _)
  have HK2 := Lib.hid (show (subD (ofI v 0) (ofI 2147483647 0)).ok by rw [sub_ofZ]; exact ofZ_ok _)
  have HM1 := Lib.hid (show len (ofI (-2147483648) 0).m ≤ 16777216 from len_big (by omega) (by omega))
  have HM2 := Lib.hid (show len (ofI 2147483647 0).m ≤ 16777216 from len_big (by omega) (by omega))
  have HN1 := Lib.hid (ofZ_ok (-2147483648))
  have HN2 := Lib.hid (ofZ_ok 2147483647)
  have hc1 := cmp_ofZ v (-2147483648)
  have hc2 := cmp_ofZ v 2147483647
  have HO1 : Hid (∀ w', Calls Tryd.prog 20 #[I (-2147483648)] w' (DyRes (ofI (-2147483648) 0) w')) := fun w' => rof_any _ w' (by decide) (by decide)
  have HO2 : Hid (∀ w', Calls Tryd.prog 20 #[I 2147483647] w' (DyRes (ofI 2147483647 0) w')) := fun w' => rof_any _ w' (by decide) (by decide)
  have HIV := Lib.hid (iv_ofZ v)
  generalize ofI v 0 = d at *
  generalize ofI (-2147483648) 0 = m1 at *
  generalize ofI 2147483647 0 = m2 at *
  obtain ⟨k1, hv1⟩ : ∃ k, cmpD d m1 = k := ⟨_, rfl⟩
  obtain ⟨k2, hv2⟩ : ∃ k, cmpD d m2 = k := ⟨_, rfl⟩
  have HV1 := Lib.hid hv1; have HV2 := Lib.hid hv2
  rw [hv1] at hc1; rw [hv2] at hc2
  clear hv1 hv2
  have HD := Lib.hid h
  clear h
  have hk1 : k1 < 0 := by rw [if_pos hv] at hc1; omega
  clear hc1 hc2
  obtain ⟨W1, hW1⟩ : ∃ W1, W1 = w.alloc (.cells #[.bool neg, .slice A n c, I den] 37) := ⟨_, rfl⟩
  have HE : Hid (Ext w W1) := by show _; rw [hW1]; exact Ext.alloc _ _
  have HB : Hid (Bx W1 w.heap.size (.bool neg) (.slice A n c) (I den)) := by show _; rw [hW1]; exact Bx.new w _ _ _ _
  have HS : Hid (∀ w', Ext W1 w' → w'.cell? ⟨w.heap.size, 0, none⟩ = some (.bool neg) ∧ w'.cell? ⟨w.heap.size, 1, none⟩ = some (.slice A n c) ∧ w'.cell? ⟨w.heap.size, 2, none⟩ = some (I den)) := fun w' x => (HB.out.ext x).1
  go_enter Tryd.func19, Tryd.ntmps19
  go_upto_region 1 with fail
  rw [← hW1]
  clear hW1
  obtain ⟨k0, k1', k2'⟩ := HS.out W1 (Ext.refl _)
  go_region_held3 (fun w' => w'.cell? ⟨w.heap.size, 0, none⟩ = some (.bool neg) ∧ w'.cell? ⟨w.heap.size, 1, none⟩ = some (.slice A n c) ∧ w'.cell? ⟨w.heap.size, 2, none⟩ = some (I den)) (first | with_reducible assumption | exact HS.out _ (by (with_reducible (repeat (first | exact Ext.refl _ | assumption | (refine Ext.toSet ?_ (by omega)) | refine Ext.toAlloc ?_ | refine Ext.toDrew ?_ | refine Ext.toDrewN ?_ | refine Ext.trans ?_ (by assumption)))); (first | done | fail "no")))
    (first
      | (go_at_call 20; (with_reducible refine (HO1.out _).mono ?_); rintro e1 wa1 ⟨A1, c1, rfl, hon, hx1⟩; have HX1 := Lib.hid (show Ext W1 wa1 from (by (with_reducible (repeat (first | exact Ext.refl _ | assumption | (refine Ext.toSet ?_ (by omega)) | refine Ext.toAlloc ?_ | refine Ext.toDrew ?_ | refine Ext.toDrewN ?_ | refine Ext.trans ?_ (by assumption)))); (first | done | fail "no"))); have HY1 := Lib.hid (Dy.of_on hon HN1.out HM1.out (Ext.refl _)); obtain ⟨p10, p11, p12⟩ := HS.out wa1 HX1.out; clear hon)
      | (go_at_call 12; (with_reducible refine (rdcmp_any (HD.out.ext (HE.out.trans (by (with_reducible (repeat (first | exact Ext.refl _ | assumption | (refine Ext.toSet ?_ (by omega)) | refine Ext.toAlloc ?_ | refine Ext.toDrew ?_ | refine Ext.toDrewN ?_ | refine Ext.trans ?_ (by assumption)))); (first | done | fail "no")))) (HY1.out.ext (by (with_reducible (repeat (first | exact Ext.refl _ | assumption | (refine Ext.toSet ?_ (by omega)) | refine Ext.toAlloc ?_ | refine Ext.toDrew ?_ | refine Ext.toDrewN ?_ | refine Ext.trans ?_ (by assumption)))); (first | done | fail "no"))) HL1.out HK1.out).mono ?_); rintro e1 wb1 ⟨rfl, hy1⟩; rw [HV1.out]; have HZ1 := Lib.hid (show Ext W1 wb1 from (by (with_reducible (repeat (first | exact Ext.refl _ | assumption | (refine Ext.toSet ?_ (by omega)) | refine Ext.toAlloc ?_ | refine Ext.toDrew ?_ | refine Ext.toDrewN ?_ | refine Ext.trans ?_ (by assumption)))); (first | done | fail "no"))); obtain ⟨q10, q11, q12⟩ := HS.out wb1 HZ1.out))
  all_goals
    go_wp2_with fail
    exact bodyPost_ret (by simp [results, Tryd.results19, go_sem]) rfl ⟨rfl, HE.out.trans HZ1.out⟩
set_option maxRecDepth 100000 in
set_option maxHeartbeats 1000000 in
theorem rfit_hi {w : World} {neg : Bool} {A A' : Option Addr} {n c c' : Nat} {den v : Int} (h : Dy w neg A n c den (ofI v 0) A' c') (b1 : -633825300114114700748351602688 ≤ v) (b2 : v ≤ 633825300114114700748351602688) (hv : 2147483647 < v) :
    Calls Tryd.prog 19 #[dv neg A n c den] w fun e w' => e = .returned (.tuple #[I 2147483647, .bool true]) ∧ Ext w w' := by
  have HL1 := Lib.hid (show len (subD (ofI v 0) (ofI (-2147483648) 0)).m ≤ 16777216 by rw [sub_ofZ]; exact len_big (by omega) (by omega))
  have HL2 := Lib.hid (show len (subD (ofI v 0) (ofI 2147483647 0)).m ≤ 16777216 by rw [sub_ofZ]; exact len_big (by omega) (by omega))
  have HK1 := Lib.hid (show (subD (ofI v 0) (ofI (-2147483648) 0)).ok by rw [sub_ofZ]; exact ofZ_ok _)
  have HK2 := Lib.hid (show (subD (ofI v 0) (ofI 2147483647 0)).ok by rw [sub_ofZ]; exact ofZ_ok _)
  have HM1 := Lib.hid (show len (ofI (-2147483648) 0).m ≤ 16777216 from len_big (by omega) (by omega))
  have HM2 := Lib.hid (show len (ofI 2147483647 0).m ≤ 16777216 from len_big (by omega) (by omega))
  have HN1 := Lib.hid (ofZ_ok (-2147483648))
  have HN2 := Lib.hid (ofZ_ok 2147483647)
  have hc1 := cmp_ofZ v (-2147483648)
  have hc2 := cmp_ofZ v 2147483647
  have HO1 : Hid (∀ w', Calls Tryd.prog 20 #[I (-2147483648)] w' (DyRes (ofI (-2147483648) 0) w')) := fun w' => rof_any _ w' (by decide) (by decide)
  have HO2 : Hid (∀ w', Calls Tryd.prog 20 #[I 2147483647] w' (DyRes (ofI 2147483647 0) w')) := fun w' => rof_any _ w' (by decide) (by decide)
  have HIV := Lib.hid (iv_ofZ v)
  generalize ofI v 0 = d at *
  generalize ofI (-2147483648) 0 = m1 at *
  generalize ofI 2147483647 0 = m2 at *
  obtain ⟨k1, hv1⟩ : ∃ k, cmpD d m1 = k := ⟨_, rfl⟩
  obtain ⟨k2, hv2⟩ : ∃ k, cmpD d m2 = k := ⟨_, rfl⟩
  have HV1 := Lib.hid hv1; have HV2 := Lib.hid hv2
  rw [hv1] at hc1; rw [hv2] at hc2
  clear hv1 hv2
  have HD := Lib.hid h
  clear h
  have hk1 : ¬ k1 < 0 := by (rw [if_neg (by omega)] at hc1; split at hc1 <;> omega)
  have hk2 : 0 < k2 := by rw [if_neg (by omega), if_pos hv] at hc2; omega
  clear hc1 hc2
  obtain ⟨W1, hW1⟩ : ∃ W1, W1 = w.alloc (.cells #[.bool neg, .slice A n c, I den] 37) := ⟨_, rfl⟩
  have HE : Hid (Ext w W1) := by show _; rw [hW1]; exact Ext.alloc _ _
  have HB : Hid (Bx W1 w.heap.size (.bool neg) (.slice A n c) (I den)) := by show _; rw [hW1]; exact Bx.new w _ _ _ _
  have HS : Hid (∀ w', Ext W1 w' → w'.cell? ⟨w.heap.size, 0, none⟩ = some (.bool neg) ∧ w'.cell? ⟨w.heap.size, 1, none⟩ = some (.slice A n c) ∧ w'.cell? ⟨w.heap.size, 2, none⟩ = some (I den)) := fun w' x => (HB.out.ext x).1
  go_enter Tryd.func19, Tryd.ntmps19
  go_upto_region 1 with fail
  rw [← hW1]
  clear hW1
  obtain ⟨k0, k1', k2'⟩ := HS.out W1 (Ext.refl _)
  go_region_held3 (fun w' => w'.cell? ⟨w.heap.size, 0, none⟩ = some (.bool neg) ∧ w'.cell? ⟨w.heap.size, 1, none⟩ = some (.slice A n c) ∧ w'.cell? ⟨w.heap.size, 2, none⟩ = some (I den)) (first | with_reducible assumption | exact HS.out _ (by (with_reducible (repeat (first | exact Ext.refl _ | assumption | (refine Ext.toSet ?_ (by omega)) | refine Ext.toAlloc ?_ | refine Ext.toDrew ?_ | refine Ext.toDrewN ?_ | refine Ext.trans ?_ (by assumption)))); (first | done | fail "no")))
    (first
      | (go_at_call 20; (with_reducible refine (HO1.out _).mono ?_); rintro e1 wa1 ⟨A1, c1, rfl, hon, hx1⟩; have HX1 := Lib.hid (show Ext W1 wa1 from (by (with_reducible (repeat (first | exact Ext.refl _ | assumption | (refine Ext.toSet ?_ (by omega)) | refine Ext.toAlloc ?_ | refine Ext.toDrew ?_ | refine Ext.toDrewN ?_ | refine Ext.trans ?_ (by assumption)))); (first | done | fail "no"))); have HY1 := Lib.hid (Dy.of_on hon HN1.out HM1.out (Ext.refl _)); obtain ⟨p10, p11, p12⟩ := HS.out wa1 HX1.out; clear hon)
      | (go_at_call 12; (with_reducible refine (rdcmp_any (HD.out.ext (HE.out.trans (by (with_reducible (repeat (first | exact Ext.refl _ | assumption | (refine Ext.toSet ?_ (by omega)) | refine Ext.toAlloc ?_ | refine Ext.toDrew ?_ | refine Ext.toDrewN ?_ | refine Ext.trans ?_ (by assumption)))); (first | done | fail "no")))) (HY1.out.ext (by (with_reducible (repeat (first | exact Ext.refl _ | assumption | (refine Ext.toSet ?_ (by omega)) | refine Ext.toAlloc ?_ | refine Ext.toDrew ?_ | refine Ext.toDrewN ?_ | refine Ext.trans ?_ (by assumption)))); (first | done | fail "no"))) HL1.out HK1.out).mono ?_); rintro e1 wb1 ⟨rfl, hy1⟩; rw [HV1.out]; have HZ1 := Lib.hid (show Ext W1 wb1 from (by (with_reducible (repeat (first | exact Ext.refl _ | assumption | (refine Ext.toSet ?_ (by omega)) | refine Ext.toAlloc ?_ | refine Ext.toDrew ?_ | refine Ext.toDrewN ?_ | refine Ext.trans ?_ (by assumption)))); (first | done | fail "no"))); obtain ⟨q10, q11, q12⟩ := HS.out wb1 HZ1.out))
  all_goals
    go_wp2_with fail
    go_region_held3 (fun w' => w'.cell? ⟨w.heap.size, 0, none⟩ = some (.bool neg) ∧ w'.cell? ⟨w.heap.size, 1, none⟩ = some (.slice A n c) ∧ w'.cell? ⟨w.heap.size, 2, none⟩ = some (I den)) (first | with_reducible assumption | exact HS.out _ (by (with_reducible (repeat (first | exact Ext.refl _ | assumption | (refine Ext.toSet ?_ (by omega)) | refine Ext.toAlloc ?_ | refine Ext.toDrew ?_ | refine Ext.toDrewN ?_ | refine Ext.trans ?_ (by assumption)))); (first | done | fail "no")))
      (first
        | (go_at_call 20; (with_reducible refine (HO2.out _).mono ?_); rintro e1 wa2 ⟨A2, c2, rfl, hon, hx2⟩; have HX2 := Lib.hid (show Ext W1 wa2 from (by (with_reducible (repeat (first | exact Ext.refl _ | assumption | (refine Ext.toSet ?_ (by omega)) | refine Ext.toAlloc ?_ | refine Ext.toDrew ?_ | refine Ext.toDrewN ?_ | refine Ext.trans ?_ (by assumption)))); (first | done | fail "no"))); have HY2 := Lib.hid (Dy.of_on hon HN2.out HM2.out (Ext.refl _)); obtain ⟨p20, p21, p22⟩ := HS.out wa2 HX2.out; clear hon)
        | (go_at_call 12; (with_reducible refine (rdcmp_any (HD.out.ext (HE.out.trans (by (with_reducible (repeat (first | exact Ext.refl _ | assumption | (refine Ext.toSet ?_ (by omega)) | refine Ext.toAlloc ?_ | refine Ext.toDrew ?_ | refine Ext.toDrewN ?_ | refine Ext.trans ?_ (by assumption)))); (first | done | fail "no")))) (HY2.out.ext (by (with_reducible (repeat (first | exact Ext.refl _ | assumption | (refine Ext.toSet ?_ (by omega)) | refine Ext.toAlloc ?_ | refine Ext.toDrew ?_ | refine Ext.toDrewN ?_ | refine Ext.trans ?_ (by assumption)))); (first | done | fail "no"))) HL2.out HK2.out).mono ?_); rintro e1 wb2 ⟨rfl, hy2⟩; rw [HV2.out]; have HZ2 := Lib.hid (show Ext W1 wb2 from (by (with_reducible (repeat (first | exact Ext.refl _ | assumption | (refine Ext.toSet ?_ (by omega)) | refine Ext.toAlloc ?_ | refine Ext.toDrew ?_ | refine Ext.toDrewN ?_ | refine Ext.trans ?_ (by assumption)))); (first | done | fail "no"))); obtain ⟨q20, q21, q22⟩ := HS.out wb2 HZ2.out))
    go_wp2_with fail
    exact bodyPost_ret (by simp [results, Tryd.results19, go_sem]) rfl ⟨rfl, HE.out.trans HZ2.out⟩
set_option maxRecDepth 100000 in
set_option maxHeartbeats 1000000 in
theorem rfit_id {w : World} {neg : Bool} {A A' : Option Addr} {n c c' : Nat} {den v : Int} (h : Dy w neg A n c den (ofI v 0) A' c') (b1 : -633825300114114700748351602688 ≤ v) (b2 : v ≤ 633825300114114700748351602688) (hv : -2147483648 ≤ v ∧ v ≤ 2147483647) :
    Calls Tryd.prog 19 #[dv neg A n c den] w fun e w' => e = .returned (.tuple #[I v, .bool false]) ∧ Ext w w' := by
  have HL1 := Lib.hid (show len (subD (ofI v 0) (ofI (-2147483648) 0)).m ≤ 16777216 by rw [sub_ofZ]; exact len_big (by omega) (by omega))
  have HL2 := Lib.hid (show len (subD (ofI v 0) (ofI 2147483647 0)).m ≤ 16777216 by rw [sub_ofZ]; exact len_big (by omega) (by omega))
  have HK1 := Lib.hid (show (subD (ofI v 0) (ofI (-2147483648) 0)).ok by rw [sub_ofZ]; exact ofZ_ok _)
  have HK2 := Lib.hid (show (subD (ofI v 0) (ofI 2147483647 0)).ok by rw [sub_ofZ]; exact ofZ_ok _)
  have HM1 := Lib.hid (show len (ofI (-2147483648) 0).m ≤ 16777216 from len_big (by omega) (by omega))
  have HM2 := Lib.hid (show len (ofI 2147483647 0).m ≤ 16777216 from len_big (by omega) (by omega))
  have HN1 := Lib.hid (ofZ_ok (-2147483648))
  have HN2 := Lib.hid (ofZ_ok 2147483647)
  have hc1 := cmp_ofZ v (-2147483648)
  have hc2 := cmp_ofZ v 2147483647
  have HO1 : Hid (∀ w', Calls Tryd.prog 20 #[I (-2147483648)] w' (DyRes (ofI (-2147483648) 0) w')) := fun w' => rof_any _ w' (by decide) (by decide)
  have HO2 : Hid (∀ w', Calls Tryd.prog 20 #[I 2147483647] w' (DyRes (ofI 2147483647 0) w')) := fun w' => rof_any _ w' (by decide) (by decide)
  have HIV := Lib.hid (iv_ofZ v)
  have HIS := Lib.hid (isI_ofZ (n := v) (by omega) (by omega))
  generalize ofI v 0 = d at *
  generalize ofI (-2147483648) 0 = m1 at *
  generalize ofI 2147483647 0 = m2 at *
  obtain ⟨k1, hv1⟩ : ∃ k, cmpD d m1 = k := ⟨_, rfl⟩
  obtain ⟨k2, hv2⟩ : ∃ k, cmpD d m2 = k := ⟨_, rfl⟩
  have HV1 := Lib.hid hv1; have HV2 := Lib.hid hv2
  rw [hv1] at hc1; rw [hv2] at hc2
  clear hv1 hv2
  have HD := Lib.hid h
  clear h
  have hk1 : ¬ k1 < 0 := by (rw [if_neg (by omega)] at hc1; split at hc1 <;> omega)
  have hk2 : ¬ 0 < k2 := by (rw [if_neg (c := (2147483647 : Int) < v) (by omega)] at hc2; split at hc2 <;> omega)
  clear hc1 hc2
  obtain ⟨W1, hW1⟩ : ∃ W1, W1 = w.alloc (.cells #[.bool neg, .slice A n c, I den] 37) := ⟨_, rfl⟩
  have HE : Hid (Ext w W1) := by show _; rw [hW1]; exact Ext.alloc _ _
  have HB : Hid (Bx W1 w.heap.size (.bool neg) (.slice A n c) (I den)) := by show _; rw [hW1]; exact Bx.new w _ _ _ _
  have HS : Hid (∀ w', Ext W1 w' → w'.cell? ⟨w.heap.size, 0, none⟩ = some (.bool neg) ∧ w'.cell? ⟨w.heap.size, 1, none⟩ = some (.slice A n c) ∧ w'.cell? ⟨w.heap.size, 2, none⟩ = some (I den)) := fun w' x => (HB.out.ext x).1
  go_enter Tryd.func19, Tryd.ntmps19
  go_upto_region 1 with fail
  rw [← hW1]
  clear hW1
  obtain ⟨k0, k1', k2'⟩ := HS.out W1 (Ext.refl _)
  go_region_held3 (fun w' => w'.cell? ⟨w.heap.size, 0, none⟩ = some (.bool neg) ∧ w'.cell? ⟨w.heap.size, 1, none⟩ = some (.slice A n c) ∧ w'.cell? ⟨w.heap.size, 2, none⟩ = some (I den)) (first | with_reducible assumption | exact HS.out _ (by (with_reducible (repeat (first | exact Ext.refl _ | assumption | (refine Ext.toSet ?_ (by omega)) | refine Ext.toAlloc ?_ | refine Ext.toDrew ?_ | refine Ext.toDrewN ?_ | refine Ext.trans ?_ (by assumption)))); (first | done | fail "no")))
    (first
      | (go_at_call 20; (with_reducible refine (HO1.out _).mono ?_); rintro e1 wa1 ⟨A1, c1, rfl, hon, hx1⟩; have HX1 := Lib.hid (show Ext W1 wa1 from (by (with_reducible (repeat (first | exact Ext.refl _ | assumption | (refine Ext.toSet ?_ (by omega)) | refine Ext.toAlloc ?_ | refine Ext.toDrew ?_ | refine Ext.toDrewN ?_ | refine Ext.trans ?_ (by assumption)))); (first | done | fail "no"))); have HY1 := Lib.hid (Dy.of_on hon HN1.out HM1.out (Ext.refl _)); obtain ⟨p10, p11, p12⟩ := HS.out wa1 HX1.out; clear hon)
      | (go_at_call 12; (with_reducible refine (rdcmp_any (HD.out.ext (HE.out.trans (by (with_reducible (repeat (first | exact Ext.refl _ | assumption | (refine Ext.toSet ?_ (by omega)) | refine Ext.toAlloc ?_ | refine Ext.toDrew ?_ | refine Ext.toDrewN ?_ | refine Ext.trans ?_ (by assumption)))); (first | done | fail "no")))) (HY1.out.ext (by (with_reducible (repeat (first | exact Ext.refl _ | assumption | (refine Ext.toSet ?_ (by omega)) | refine Ext.toAlloc ?_ | refine Ext.toDrew ?_ | refine Ext.toDrewN ?_ | refine Ext.trans ?_ (by assumption)))); (first | done | fail "no"))) HL1.out HK1.out).mono ?_); rintro e1 wb1 ⟨rfl, hy1⟩; rw [HV1.out]; have HZ1 := Lib.hid (show Ext W1 wb1 from (by (with_reducible (repeat (first | exact Ext.refl _ | assumption | (refine Ext.toSet ?_ (by omega)) | refine Ext.toAlloc ?_ | refine Ext.toDrew ?_ | refine Ext.toDrewN ?_ | refine Ext.trans ?_ (by assumption)))); (first | done | fail "no"))); obtain ⟨q10, q11, q12⟩ := HS.out wb1 HZ1.out))
  all_goals
    go_wp2_with fail
    go_region_held3 (fun w' => w'.cell? ⟨w.heap.size, 0, none⟩ = some (.bool neg) ∧ w'.cell? ⟨w.heap.size, 1, none⟩ = some (.slice A n c) ∧ w'.cell? ⟨w.heap.size, 2, none⟩ = some (I den)) (first | with_reducible assumption | exact HS.out _ (by (with_reducible (repeat (first | exact Ext.refl _ | assumption | (refine Ext.toSet ?_ (by omega)) | refine Ext.toAlloc ?_ | refine Ext.toDrew ?_ | refine Ext.toDrewN ?_ | refine Ext.trans ?_ (by assumption)))); (first | done | fail "no")))
      (first
        | (go_at_call 20; (with_reducible refine (HO2.out _).mono ?_); rintro e1 wa2 ⟨A2, c2, rfl, hon, hx2⟩; have HX2 := Lib.hid (show Ext W1 wa2 from (by (with_reducible (repeat (first | exact Ext.refl _ | assumption | (refine Ext.toSet ?_ (by omega)) | refine Ext.toAlloc ?_ | refine Ext.toDrew ?_ | refine Ext.toDrewN ?_ | refine Ext.trans ?_ (by assumption)))); (first | done | fail "no"))); have HY2 := Lib.hid (Dy.of_on hon HN2.out HM2.out (Ext.refl _)); obtain ⟨p20, p21, p22⟩ := HS.out wa2 HX2.out; clear hon)
        | (go_at_call 12; (with_reducible refine (rdcmp_any (HD.out.ext (HE.out.trans (by (with_reducible (repeat (first | exact Ext.refl _ | assumption | (refine Ext.toSet ?_ (by omega)) | refine Ext.toAlloc ?_ | refine Ext.toDrew ?_ | refine Ext.toDrewN ?_ | refine Ext.trans ?_ (by assumption)))); (first | done | fail "no")))) (HY2.out.ext (by (with_reducible (repeat (first | exact Ext.refl _ | assumption | (refine Ext.toSet ?_ (by omega)) | refine Ext.toAlloc ?_ | refine Ext.toDrew ?_ | refine Ext.toDrewN ?_ | refine Ext.trans ?_ (by assumption)))); (first | done | fail "no"))) HL2.out HK2.out).mono ?_); rintro e1 wb2 ⟨rfl, hy2⟩; rw [HV2.out]; have HZ2 := Lib.hid (show Ext W1 wb2 from (by (with_reducible (repeat (first | exact Ext.refl _ | assumption | (refine Ext.toSet ?_ (by omega)) | refine Ext.toAlloc ?_ | refine Ext.toDrew ?_ | refine Ext.toDrewN ?_ | refine Ext.trans ?_ (by assumption)))); (first | done | fail "no"))); obtain ⟨q20, q21, q22⟩ := HS.out wb2 HZ2.out))
    go_wp2_with (go_at_call 35; ((with_reducible refine (rint_any (HD.out.ext (HE.out.trans (by (with_reducible (repeat (first | exact Ext.refl _ | assumption | (refine Ext.toSet ?_ (by omega)) | refine Ext.toAlloc ?_ | refine Ext.toDrew ?_ | refine Ext.toDrewN ?_ | refine Ext.trans ?_ (by assumption)))); (first | done | fail "no"))))).mono ?_); rintro e1 wc ⟨z, rfl, hz, hx⟩; have hzv : z = v := (hz HIS.out).trans HIV.out; rw [hzv]; have HF := Lib.hid (show Ext W1 wc from (by (with_reducible (repeat (first | exact Ext.refl _ | assumption | (refine Ext.toSet ?_ (by omega)) | refine Ext.toAlloc ?_ | refine Ext.toDrew ?_ | refine Ext.toDrewN ?_ | refine Ext.trans ?_ (by assumption)))); (first | done | fail "no")))))
    exact bodyPost_ret (by simp [results, Tryd.results19, go_sem]) rfl ⟨rfl, HE.out.trans HF.out⟩
theorem rfit_any {w : World} {neg : Bool} {A A' : Option Addr} {n c c' : Nat} {den v : Int} (h : Dy w neg A n c den (ofI v 0) A' c') (b1 : -633825300114114700748351602688 ≤ v) (b2 : v ≤ 633825300114114700748351602688) :
    Calls Tryd.prog 19 #[dv neg A n c den] w fun e w' => e = .returned (.tuple #[I (sat v), .bool (!(sat v == v))]) ∧ Ext w w' := by
  by_cases h1 : v < -2147483648
  · have e : sat v = -2147483648 := by unfold sat kcl; rw [if_pos h1]
    rw [e, show (!((-2147483648 : Int) == v)) = true by simp; omega]
    exact rfit_lo h b1 b2 h1
  · by_cases h2 : 2147483647 < v
    · have e : sat v = 2147483647 := by unfold sat kcl; rw [if_neg h1, if_pos h2]
      rw [e, show (!((2147483647 : Int) == v)) = true by simp; omega]
      exact rfit_hi h b1 b2 h2
    · have e : sat v = v := by unfold sat; exact kcl_id (by omega) (by omega)
      rw [e, show (!(v == v)) = false by simp]
      exact rfit_id h b1 b2 (by omega)
end Go.Proofs.YtkocmdpfknoiaaaDoor
