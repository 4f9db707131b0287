/- Numbers as structs: two numbers over one grid. -/
import Derived.Test.YtgmmcfnahfcadaaDoorDyi
namespace Go.Proofs.YtgmmcfnahfcadaaDoor
open Go.RowKit
attribute [local go_sem ↓] Go.wp_at_zero Go.wp_at_succ

def AlRes (x y D : Nat) (w : World) (e : Ending) (w' : World) : Prop :=
  ∃ A1 c1 A2 c2, e = .returned (.tuple #[.slice A1 (len x) c1, .slice A2 (len y) c2, I D]) ∧ On w' w.heap.size A1 (len x) c1 (dg x) ∧ On w' w.heap.size A2 (len y) c2 (dg y) ∧ Ext w w'
theorem len_shl (m n : Nat) : len (m * 2 ^ n) ≤ len m + (n / 32 + 1) := by
  have h := len_mul m (2 ^ n)
  have : len (2 ^ n) ≤ n / 32 + 1 := by
    refine len_le ?_
    rw [pB_two]
    exact Nat.pow_lt_pow_right (by decide) (by omega)
  omega
set_option maxRecDepth 100000 in
set_option maxHeartbeats 1000000 in
theorem aligned_any {w : World} {a b : DV} {A B : Option Addr} {ca cb : Nat} (hA : Rd w A (len a.m) (dg a.m)) (hB : Rd w B (len b.m) (dg b.m)) (da : a.den ≤ 65536) (db : b.den ≤ 65536) (la : len a.m ≤ 16777216) (lb : len b.m ≤ 16777216) :
    Calls Tryd.prog 75 #[dv a.neg A (len a.m) ca a.den, dv b.neg B (len b.m) cb b.den] w (AlRes (al a (max a.den b.den)) (al b (max a.den b.den)) (max a.den b.den) w) := by
  have HA := Lib.hid hA; have HB := Lib.hid hB; clear hA hB
  obtain ⟨D, hD⟩ : ∃ D, max a.den b.den = D := ⟨_, rfl⟩
  have d1 : a.den ≤ D := by omega
  have d2 : b.den ≤ D := by omega
  have d3 : D ≤ 65536 := by omega
  have d4 : a.den < b.den → D = b.den := by omega
  have d5 : ¬ a.den < b.den → D = a.den := by omega
  rw [hD]
  have hD' := hD
  clear hD
  obtain ⟨sa, hsa⟩ : ∃ sa, D - a.den = sa := ⟨_, rfl⟩
  obtain ⟨sb, hsb⟩ : ∃ sb, D - b.den = sb := ⟨_, rfl⟩
  have ea : IntKind.i64.wrap ((D : Int) - (a.den : Int)) = (sa : Int) := by rw [IntWalk.i64_in _ (by omega)]; omega
  have eb : IntKind.i64.wrap ((D : Int) - (b.den : Int)) = (sb : Int) := by rw [IntWalk.i64_in _ (by omega)]; omega
  have hsa2 : sa ≤ 65536 := by omega
  have hsb2 : sb ≤ 65536 := by omega
  unfold al
  rw [hsa, hsb]
  have em : (if a.den < b.den then (b.den : Int) else (a.den : Int)) = (D : Int) := by split <;> omega
  obtain ⟨X0, X1, XE⟩ : Bx ((w.alloc (.cells #[.bool a.neg, .slice A (len a.m) ca, I a.den] 24)).alloc (.cells #[.bool b.neg, .slice B (len b.m) cb, I b.den] 24)) w.heap.size (.bool a.neg) (.slice A (len a.m) ca) (I a.den) ∧
      Bx ((w.alloc (.cells #[.bool a.neg, .slice A (len a.m) ca, I a.den] 24)).alloc (.cells #[.bool b.neg, .slice B (len b.m) cb, I b.den] 24)) (w.heap.size + 1) (.bool b.neg) (.slice B (len b.m) cb) (I b.den) ∧
      Ext w ((w.alloc (.cells #[.bool a.neg, .slice A (len a.m) ca, I a.den] 24)).alloc (.cells #[.bool b.neg, .slice B (len b.m) cb, I b.den] 24)) := two_bx (Ext.refl _)
  have HX0 := Lib.hid X0; have HX1 := Lib.hid X1; have HXE := Lib.hid XE
  clear X0 X1 XE hsa hsb d4 d5 hD'
  go_enter Tryd.func75, Tryd.ntmps75
  go_upto_region 2 with fail
  obtain ⟨k0, k1, k2, k3, k4, k5⟩ := keepB HX0.out HX1.out (Ext.refl _)
  go_region_held3 (fun w' => w'.cell? ⟨w.heap.size, 0, none⟩ = some (.bool a.neg) ∧ w'.cell? ⟨w.heap.size, 1, none⟩ = some (.slice A (len a.m) ca) ∧ w'.cell? ⟨w.heap.size, 2, none⟩ = some (I a.den) ∧ w'.cell? ⟨w.heap.size + 1, 0, none⟩ = some (.bool b.neg) ∧ w'.cell? ⟨w.heap.size + 1, 1, none⟩ = some (.slice B (len b.m) cb) ∧ w'.cell? ⟨w.heap.size + 1, 2, none⟩ = some (I b.den))
    (first
      | go_keep
      | (exact keepB HX0.out HX1.out (by repeat (first | exact Ext.refl _ | assumption | refine Ext.trans ?_ (Ext.drew _) | refine Ext.trans ?_ (by assumption)))))
    (first
      | (go_at_call_of 73 (Value.slice A (len a.m) ca); (with_reducible refine (shiftLeft_any A a.m sa ca _ (HA.out.ext (HXE.out.trans (by repeat (first | exact Ext.refl _ | assumption | refine Ext.trans ?_ (Ext.drew _) | refine Ext.trans ?_ (by assumption))))) (by omega) (by omega)).mono ?_); rintro e wa ⟨A1, c1, rfl, hon1, hx1⟩; obtain ⟨q0, q1, q2, q3, q4, q5⟩ := keepB HX0.out HX1.out (w' := wa) (by repeat (first | exact Ext.refl _ | assumption | refine Ext.trans ?_ (Ext.drew _) | refine Ext.trans ?_ (by assumption))))
      | (go_at_call_of 73 (Value.slice B (len b.m) cb); (with_reducible refine (shiftLeft_any B b.m sb cb _ (HB.out.ext (HXE.out.trans (by repeat (first | exact Ext.refl _ | assumption | refine Ext.trans ?_ (Ext.drew _) | refine Ext.trans ?_ (by assumption))))) (by omega) (by omega)).mono ?_); rintro e wb ⟨A2, c2, rfl, hon2, hx2⟩; obtain ⟨p0, p1, p2, p3, p4, p5⟩ := keepB HX0.out HX1.out (w' := wb) (by repeat (first | exact Ext.refl _ | assumption | refine Ext.trans ?_ (Ext.drew _) | refine Ext.trans ?_ (by assumption)))))
  all_goals
    have hs0 := HXE.out.size
    have hs1 := hx1.size
    have hs2 := hx2.size
    clear q0 q1 q2 q3 q4 q5 p0 p1 p2 p3 p4 p5 k0 k1 k2 k3 k4 k5
    go_wp2_with fail
    go_ret3
    first
      | exact ⟨A1, c1, A2, c2, rfl, (hon1.ext hx2).mono hs0, hon2.mono (Nat.le_trans hs0 hs1), (HXE.out.trans (Ext.drew _)).trans (hx1.trans hx2)⟩
      | exact ⟨A1, c1, A2, c2, rfl, hon1.mono (Nat.le_trans hs0 hs2), (hon2.ext hx1).mono hs0, (HXE.out.trans (Ext.drew _)).trans (hx2.trans hx1)⟩

theorem cmp_ne {x y : Int} (h : x ≠ y) : cmpI x y = if x < y then -1 else 1 := by
  unfold cmpI; split
  · rfl
  · rw [if_pos (by omega)]

end Go.Proofs.YtgmmcfnahfcadaaDoor
