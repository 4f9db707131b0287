/- Package exact: what the statements begin with. -/
import Derived.Test.YtcdkkohklhmpgaaGreatDoorEyk
import Derived.Test.YtcdkkohklhmpgaaGreatDoorDgno
import Derived.Test.YtcdkkohklhmpgaaGreatDoorDyk
namespace Go.Proofs.YtcdkkohklhmpgaaGreatDoor
open Go Go.RowKit

/-! ### The example -/
def exI (t : Nat) (_ : Nat) : Int := if t = 0 then 3 else if t = 1 then 4 else -2
theorem ex_sq0 : sqS (exD 2) exI 0 0 = ⟨false, 0, 0⟩ := by kernel_rfl
theorem ex_t0 : tkV (exD 2) (sqS (exD 2) exI 0) (exI 0) 0 = ⟨false, 3, 0⟩ ∧ tkV (exD 2) (sqS (exD 2) exI 0) (exI 0) 1 = ⟨false, 3, 0⟩ ∧ tkV (exD 2) (sqS (exD 2) exI 0) (exI 0) 2 = ⟨false, 0, 0⟩ := ⟨by kernel_rfl, by kernel_rfl, by kernel_rfl⟩
theorem ex_t1 : tkV (exD 2) (sqS (exD 2) exI 1) (exI 1) 0 = ⟨false, 4, 0⟩ ∧ tkV (exD 2) (sqS (exD 2) exI 1) (exI 1) 1 = ⟨false, 7, 0⟩ ∧ tkV (exD 2) (sqS (exD 2) exI 1) (exI 1) 2 = ⟨false, 3, 0⟩ := ⟨by kernel_rfl, by kernel_rfl, by kernel_rfl⟩
theorem ex_t2 : tkV (exD 2) (sqS (exD 2) exI 2) (exI 2) 0 = ⟨true, 2, 0⟩ ∧ tkV (exD 2) (sqS (exD 2) exI 2) (exI 2) 1 = ⟨false, 5, 0⟩ ∧ tkV (exD 2) (sqS (exD 2) exI 2) (exI 2) 2 = ⟨false, 7, 0⟩ := ⟨by kernel_rfl, by kernel_rfl, by kernel_rfl⟩
theorem lng_small (neg : Bool) (m : Nat) (h : m < 8) : lng ⟨neg, m, 0⟩ = false := by
  unfold lng
  have := bitsN_le (m := m) (n := 3) (by simpa using h)
  simp; omega
theorem ex_run (m : Nat → Nat) (hm : ∀ t, t < 3 → m t = 1) : runE (exD 2) 3 m exI = 0 := by
  unfold runE
  rw [if_neg (by omega)]
  refine fstE_none fun t ht => ?_
  have hk : ∀ i, i < 3 → lng (tkV (exD 2) (sqS (exD 2) exI t) (exI t) i) = false := fun i hi => by
    have h3 : t = 0 ∨ t = 1 ∨ t = 2 := by omega
    have h4 : i = 0 ∨ i = 1 ∨ i = 2 := by omega
    rcases h3 with rfl | rfl | rfl
    · obtain ⟨a, b, c⟩ := ex_t0
      rcases h4 with rfl | rfl | rfl
      · rw [a]; exact lng_small _ _ (by omega)
      · rw [b]; exact lng_small _ _ (by omega)
      · rw [c]; exact lng_small _ _ (by omega)
    · obtain ⟨a, b, c⟩ := ex_t1
      rcases h4 with rfl | rfl | rfl
      · rw [a]; exact lng_small _ _ (by omega)
      · rw [b]; exact lng_small _ _ (by omega)
      · rw [c]; exact lng_small _ _ (by omega)
    · obtain ⟨a, b, c⟩ := ex_t2
      rcases h4 with rfl | rfl | rfl
      · rw [a]; exact lng_small _ _ (by omega)
      · rw [b]; exact lng_small _ _ (by omega)
      · rw [c]; exact lng_small _ _ (by omega)
  unfold tcE stE
  rw [if_neg (by simp), if_neg (by rw [allN_true]; decide), if_neg (by rw [hm t ht]; decide)]
  rw [if_neg, if_neg]
  · have : tkG (exD 2) (sqS (exD 2) exI t) (exI t) = true := allN_iff.2 fun i hi => by rw [hk i hi]; rfl
    rw [this]; decide
  · have : inR (exD 2) (exI t) = true := allN_iff.2 fun i hi => by
      have h3 : t = 0 ∨ t = 1 ∨ t = 2 := by omega
      rcases h3 with rfl | rfl | rfl <;> rfl
    rw [this]; decide
theorem ex_out1 : runV (exD 2) exI 1 0 = ⟨false, 7, 0⟩ := ex_t1.2.1
theorem ex_out2 : runV (exD 2) exI 2 0 = ⟨false, 5, 0⟩ := ex_t2.2.1
theorem ex_c7 : cmpD ⟨false, 7, 0⟩ (ofI 7 0) = 0 := by kernel_rfl
theorem ex_c5 : cmpD ⟨false, 5, 0⟩ (ofI 5 0) = 0 := by kernel_rfl

abbrev ex3 (W : World) (t t' : TypeId) : World :=
  (((W.alloc (.cells #[I 3] t)).alloc (.cells #[I 4] t)).alloc (.cells #[I (-2)] t)).alloc (.cells #[.slice (some ⟨W.heap.size, 0, none⟩) 1 1, .slice (some ⟨W.heap.size + 1, 0, none⟩) 1 1, .slice (some ⟨W.heap.size + 1 + 1, 0, none⟩) 1 1] t')
def exA (W : World) (t : Nat) : Option Addr := if t = 0 then some ⟨W.heap.size, 0, none⟩ else if t = 1 then some ⟨W.heap.size + 1, 0, none⟩ else some ⟨W.heap.size + 1 + 1, 0, none⟩
theorem ex_lli (W : World) (t t' : TypeId) : Lli (ex3 W t t') (some ⟨W.heap.size + 1 + 1 + 1, 0, none⟩) 3 (exA W) (fun _ => 1) (fun _ => 1) exI := by
  refine ⟨fun _ => ⟨_, _, rfl, by simp, fun k hk => ?_⟩, fun k hk => ⟨fun _ => ?_, by unfold maxLen; omega⟩⟩
  · have h3 : k = 0 ∨ k = 1 ∨ k = 2 := by omega
    rcases h3 with rfl | rfl | rfl
    · show _ = some (Value.slice (some ⟨W.heap.size, 0, none⟩) 1 1); go_simp
    · show _ = some (Value.slice (some ⟨W.heap.size + 1, 0, none⟩) 1 1); go_simp
    · show _ = some (Value.slice (some ⟨W.heap.size + 1 + 1, 0, none⟩) 1 1); go_simp
  · have h3 : k = 0 ∨ k = 1 ∨ k = 2 := by omega
    have n1 : ¬ W.heap.size = W.heap.size + 1 := by omega
    have n2 : ¬ W.heap.size = W.heap.size + 1 + 1 := by omega
    have n3 : ¬ W.heap.size = W.heap.size + 1 + 1 + 1 := by omega
    have n4 : ¬ W.heap.size + 1 = W.heap.size + 1 + 1 := by omega
    have n5 : ¬ W.heap.size + 1 = W.heap.size + 1 + 1 + 1 := by omega
    have n6 : ¬ W.heap.size + 1 + 1 = W.heap.size + 1 + 1 + 1 := by omega
    rcases h3 with rfl | rfl | rfl
    · refine ⟨W.heap.size, 0, rfl, (by first | (simp; done) | (simp; omega)), fun j hj => ?_⟩
      obtain rfl : j = 0 := by omega
      show _ = some (I 3); go_simp
    · refine ⟨W.heap.size + 1, 0, rfl, (by first | (simp; done) | (simp; omega)), fun j hj => ?_⟩
      obtain rfl : j = 0 := by omega
      show _ = some (I 4); go_simp
    · refine ⟨W.heap.size + 1 + 1, 0, rfl, (by first | (simp; done) | (simp; omega)), fun j hj => ?_⟩
      obtain rfl : j = 0 := by omega
      show _ = some (I (-2)); go_simp
/-- What the example's run returns. -/
def ExO (w : World) (e : Ending) (w' : World) : Prop := ∃ g G R, e = .returned (.tuple #[.slice (some ⟨g, 0, none⟩) 3 3, .nilIface]) ∧ RoM w w' g 3 1 G R (runV (exD 2) exI) 3
set_option maxRecDepth 100000 in
set_option maxHeartbeats 4000000 in
theorem xawake_any (w : World) (hT : Tabs w) : Calls Tryz.prog 24 #[] w fun e w' => e = .returned (.bool true) ∧ Ext w w' := by
  have HT := Lib.hid hT; clear hT
  have HR : Hid (∀ w1, ExM w w1 2 → Calls Tryz.prog 29 #[exV w, .slice (some ⟨w1.heap.size + 1 + 1 + 1, 0, none⟩) 3 3] (ex3 w1 3 46) (ExO (ex3 w1 3 46))) := fun w1 h => by
    have e : Ext w1 (ex3 w1 3 46) := (((Ext.alloc _ _).trans (Ext.alloc _ _)).trans (Ext.alloc _ _)).trans (Ext.alloc _ _)
    have := Run_ok (cl := 3) (h.on e).dm (HT.out.ext (h.on e).ext) ex_chk (ex_lli w1 3 46) (by unfold maxLen; omega)
    refine Calls.mono this fun x w' hx => ?_
    rcases hx with ⟨h1, _⟩ | ⟨_, g, G, R, h2, h3⟩
    · exact absurd (ex_run _ fun _ _ => rfl) h1
    · exact ⟨g, G, R, h2, h3⟩
  go_enter Tryz.func24, Tryz.ntmps24
  go_upto_region 2 with (first
    | (go_at_call 92; (with_reducible refine (example_any' _).mono ?_); rintro e1 w1 ⟨rfl, m1⟩; have M1 := Lib.hid m1; clear m1)
    | (go_at_call 29; (with_reducible refine (HR.out w1 M1.out).mono ?_); rintro e2 w2 ⟨g, G, R, rfl, hm⟩; have HM := Lib.hid hm; clear hm))
  have hx1 : Ext w w2 := (M1.out.ext.trans ((((Ext.alloc _ _).trans (Ext.alloc _ _)).trans (Ext.alloc _ _)).trans (Ext.alloc _ _))).trans HM.out.ext
  have hr1 : w2.cell? ⟨g, 1, none⟩ = some (.slice (some ⟨G 1, 0, none⟩) 1 1) := by have := HM.out.row.cell (i := 1) (by omega); simpa using this
  have hr2 : w2.cell? ⟨g, 2, none⟩ = some (.slice (some ⟨G 2, 0, none⟩) 1 1) := by have := HM.out.row.cell (i := 2) (by omega); simpa using this
  have l1 := HM.out.lv 1 (by omega)
  have l2 := HM.out.lv 2 (by omega)
  have hc1 := l1.cells (i := 0) (by omega)
  have hc2 := l2.cells (i := 0) (by omega)
  rw [Nat.zero_mul] at hc1 hc2
  simp only [Nat.zero_add] at hc1 hc2
  have n1 := l1.el 0 (by omega)
  have n2 := l2.el 0 (by omega)
  rw [ex_out1] at n1
  rw [ex_out2] at n2
  have hl1 := l1.row.lt
  have hl2 := l2.row.lt
  have hlg := HM.out.row.lt
  generalize R 1 0 = ra at *
  generalize R 2 0 = rb at *
  generalize G 1 = ga at *
  generalize G 2 = gb at *
  have HS : Hid (∀ w', Ext w2 w' → (w'.cell? ⟨g, 1, none⟩ = some (.slice (some ⟨ga, 0, none⟩) 1 1) ∧ w'.cell? ⟨g, 2, none⟩ = some (.slice (some ⟨gb, 0, none⟩) 1 1)) ∧ (w'.cell? ⟨ga, 0, none⟩ = some (.bool ra.neg) ∧ w'.cell? ⟨ga, 1, none⟩ = some (.slice ra.A ra.n ra.c) ∧ w'.cell? ⟨ga, 2, none⟩ = some (I ra.den)) ∧
      (w'.cell? ⟨gb, 0, none⟩ = some (.bool rb.neg) ∧ w'.cell? ⟨gb, 1, none⟩ = some (.slice rb.A rb.n rb.c) ∧ w'.cell? ⟨gb, 2, none⟩ = some (I rb.den))) := fun w' e =>
    ⟨⟨(e.old.1 _ _ hlg).trans hr1, (e.old.1 _ _ hlg).trans hr2⟩, ⟨(e.old.1 _ _ hl1).trans hc1.1, (e.old.1 _ _ hl1).trans hc1.2.1, (e.old.1 _ _ hl1).trans hc1.2.2⟩, (e.old.1 _ _ hl2).trans hc2.1, (e.old.1 _ _ hl2).trans hc2.2.1, (e.old.1 _ _ hl2).trans hc2.2.2⟩
  have HO7 : Hid (∀ w', Ext w2 w' → Calls Tryz.prog 65 #[I 7] w' (DyRes (ofI 7 0) w')) := fun w' e => of_any 7 w' (HT.out.ext (hx1.trans e)) (by omega) (by omega)
  have HO5 : Hid (∀ w', Ext w2 w' → Calls Tryz.prog 65 #[I 5] w' (DyRes (ofI 5 0) w')) := fun w' e => of_any 5 w' (HT.out.ext (hx1.trans e)) (by omega) (by omega)
  have HC7 : Hid (∀ w' A c, Ext w2 w' → Cn w' (cnR (ofI 7 0) A c) (ofI 7 0) → Calls Tryz.prog 31 #[ra.v, (cnR (ofI 7 0) A c).v] w' (fun e w'' => e = .returned (I 0) ∧ Ext w' w'')) := fun w' A c e h => by
    have := cmp_any (n1.ext e).dy h.dy
    rw [ex_c7] at this; exact this
  have HC5 : Hid (∀ w' A c, Ext w2 w' → Cn w' (cnR (ofI 5 0) A c) (ofI 5 0) → Calls Tryz.prog 31 #[rb.v, (cnR (ofI 5 0) A c).v] w' (fun e w'' => e = .returned (I 0) ∧ Ext w' w'')) := fun w' A c e h => by
    have := cmp_any (n2.ext e).dy h.dy
    rw [ex_c5] at this; exact this
  have HB7 : Hid ((ofI 7 0).ok ∧ len (ofI 7 0).m ≤ 16777216) := ⟨ofI_ok _ _, Nat.le_trans (len_mk _ _ _) (Nat.le_trans (len_abs (by omega) (by omega)) (by omega))⟩
  have HB5 : Hid ((ofI 5 0).ok ∧ len (ofI 5 0).m ≤ 16777216) := ⟨ofI_ok _ _, Nat.le_trans (len_mk _ _ _) (Nat.le_trans (len_abs (by omega) (by omega)) (by omega))⟩
  have HX1 := Lib.hid hx1
  generalize ofI 7 0 = o7 at *
  generalize ofI 5 0 = o5 at *
  clear hr1 hr2 l1 l2 hc1 hc2 n1 n2 hl1 hl2 hlg hx1
  go_region_held3 (fun w' => (w'.cell? ⟨g, 1, none⟩ = some (.slice (some ⟨ga, 0, none⟩) 1 1) ∧ w'.cell? ⟨g, 2, none⟩ = some (.slice (some ⟨gb, 0, none⟩) 1 1)) ∧ (w'.cell? ⟨ga, 0, none⟩ = some (.bool ra.neg) ∧ w'.cell? ⟨ga, 1, none⟩ = some (.slice ra.A ra.n ra.c) ∧ w'.cell? ⟨ga, 2, none⟩ = some (I ra.den)) ∧
      (w'.cell? ⟨gb, 0, none⟩ = some (.bool rb.neg) ∧ w'.cell? ⟨gb, 1, none⟩ = some (.slice rb.A rb.n rb.c) ∧ w'.cell? ⟨gb, 2, none⟩ = some (I rb.den))) (exact HS.out _ (by (with_reducible (repeat (first | exact Ext.refl _ | assumption | (refine Ext.toSet ?_ (by omega)) | refine Ext.toAlloc ?_ | refine Ext.toDrew ?_ | refine Ext.toDrewN ?_ | refine Ext.trans ?_ (by assumption)))); (first | done | fail "no")))
    (first
      | (go_at_call 65; (with_reducible refine (HO7.out _ (by (with_reducible (repeat (first | exact Ext.refl _ | assumption | (refine Ext.toSet ?_ (by omega)) | refine Ext.toAlloc ?_ | refine Ext.toDrew ?_ | refine Ext.toDrewN ?_ | refine Ext.trans ?_ (by assumption)))); (first | done | fail "no"))).mono ?_); rintro e3 w3 hr; obtain ⟨A3, c3, rfl, cn3, _, hx3⟩ := hr.cn HB7.out.1 HB7.out.2; have CN3 := Lib.hid cn3; have HX3 := Lib.hid (show Ext w2 w3 from (by (with_reducible (repeat (first | exact Ext.refl _ | assumption | (refine Ext.toSet ?_ (by omega)) | refine Ext.toAlloc ?_ | refine Ext.toDrew ?_ | refine Ext.toDrewN ?_ | refine Ext.trans ?_ (by assumption)))); (first | done | fail "no"))); clear hr cn3)
      | (go_at_call 65; (with_reducible refine (HO5.out _ (by (with_reducible (repeat (first | exact Ext.refl _ | assumption | (refine Ext.toSet ?_ (by omega)) | refine Ext.toAlloc ?_ | refine Ext.toDrew ?_ | refine Ext.toDrewN ?_ | refine Ext.trans ?_ (by assumption)))); (first | done | fail "no"))).mono ?_); rintro e3 w5 hr; obtain ⟨A5, c5, rfl, cn5, _, hx5⟩ := hr.cn HB5.out.1 HB5.out.2; have CN5 := Lib.hid cn5; have HX5 := Lib.hid (show Ext w2 w5 from (by (with_reducible (repeat (first | exact Ext.refl _ | assumption | (refine Ext.toSet ?_ (by omega)) | refine Ext.toAlloc ?_ | refine Ext.toDrew ?_ | refine Ext.toDrewN ?_ | refine Ext.trans ?_ (by assumption)))); (first | done | fail "no"))); clear hr cn5)
      | (go_at_call 31; (with_reducible refine (HC7.out _ _ _ HX3.out CN3.out).mono ?_); rintro e4 w4 ⟨rfl, hx4⟩)
      | (go_at_call 31; (with_reducible refine (HC5.out _ _ _ HX5.out CN5.out).mono ?_); rintro e6 w6 ⟨rfl, hx6⟩))
  all_goals
    go_wp2_with fail
    go_ret
    exact ⟨rfl, HX1.out.trans (HX5.out.trans hx6)⟩
end Go.Proofs.YtcdkkohklhmpgaaGreatDoor
