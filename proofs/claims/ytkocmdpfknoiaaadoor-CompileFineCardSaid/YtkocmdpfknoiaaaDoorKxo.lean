/- The reference of layer 15: the raw value of a scalar; the law CompileRaw. -/
import Derived.Test.YtkocmdpfknoiaaaDoorKxm
import Derived.Test.YtkocmdpfknoiaaaDoorKxn
import Derived.Test.YtkocmdpfknoiaaaDoorKro
import Derived.Test.YtkocmdpfknoiaaaDoorRva
namespace Go.Proofs.YtkocmdpfknoiaaaDoor
open Go Go.RowKit

theorem shI_wide {n k : Int} (h1 : -2147483648 < n) (h2 : n < 2147483648) (h3 : k ≤ 60) : -633825300114114700748351602688 ≤ shI n k ∧ shI n k ≤ 633825300114114700748351602688 := by
  unfold shI
  split
  · have := div_bd (x := n) (B := 2147483648) (pow_pos (-k).toNat) (by omega) (by omega) (by omega)
    omega
  · have hp : (2 : Int) ^ k.toNat ≤ 1152921504606846976 := by
      have := pow_le (j := k.toNat) (k := 60) (by omega); simpa using this
    have := mul_bd (x := n) (B := 2147483647) (by omega) (by omega) (show (0 : Int) ≤ 2 ^ k.toNat by have := pow_pos k.toNat; omega) hp (by omega)
    omega
theorem len_shW {n k : Int} (h1 : -2147483648 < n) (h2 : n < 2147483648) (h3 : -1000 ≤ k) (h4 : k ≤ 60) : len (shiftD (ofI n 0) k).m ≤ 16777216 := by
  have hc : clampN k = k := by unfold clampN; omega
  have hm := m_ofZ n
  have hb : (shiftD (ofI n 0) k).m ≤ 2147483648 * 1152921504606846976 := by
    unfold shiftD
    rw [hc]
    by_cases h : k < 0
    · rw [if_pos h]
      have := mkD_m_le (ofI n 0).neg (ofI n 0).m ((ofI n 0).den + (-k).toNat)
      omega
    · rw [if_neg h]
      refine Nat.le_trans (mkD_m_le _ _ _) (Nat.mul_le_mul (by omega) ?_)
      have := Nat.pow_le_pow_right (n := 2) (by decide) (show k.toNat ≤ 60 by omega)
      simpa using this
  exact Nat.le_trans (len_le (n := 3) (by show _ < 4294967296 ^ 3; omega)) (by omega)
set_option maxRecDepth 100000 in
set_option maxHeartbeats 1000000 in
theorem rRaw_bad (n e f : Int) (w : World) (h : rawB n e f = false) : Calls Tryd.prog 7 #[.agg #[I n, I e], I f] w fun en w' => en = .returned (.tuple #[I 0, I 3]) ∧ Ext w w' := by
  by_cases a : n ≤ -2147483648
  · clear h
    go_enter Tryd.func7, Tryd.ntmps7
    go_wp2_with fail
    go_ret2
    exact ⟨rfl, Ext.alloc _ _⟩
  by_cases b : 2147483648 ≤ n
  · clear h
    go_enter Tryd.func7, Tryd.ntmps7
    go_wp2_with fail
    go_ret2
    exact ⟨rfl, Ext.alloc _ _⟩
  by_cases c : e < -62
  · clear h
    go_enter Tryd.func7, Tryd.ntmps7
    go_wp2_with fail
    go_ret2
    exact ⟨rfl, Ext.alloc _ _⟩
  by_cases d : 30 < e
  · clear h
    go_enter Tryd.func7, Tryd.ntmps7
    go_wp2_with fail
    go_ret2
    exact ⟨rfl, Ext.alloc _ _⟩
  by_cases g : f < 0
  · clear h
    go_enter Tryd.func7, Tryd.ntmps7
    go_wp2_with fail
    go_ret2
    exact ⟨rfl, Ext.alloc _ _⟩
  have hf : 30 < f := by
    by_cases q : 30 < f
    · exact q
    · rw [rawB_iff.2 ⟨by omega, by omega, by omega, by omega, by omega, by omega⟩] at h; cases h
  clear h
  go_enter Tryd.func7, Tryd.ntmps7
  go_wp2_with fail
  go_ret2
  exact ⟨rfl, Ext.alloc _ _⟩
set_option maxRecDepth 100000 in
set_option maxHeartbeats 1000000 in
theorem rRaw_in (n e f : Int) (w : World) (h : rawB n e f = true) : Calls Tryd.prog 7 #[.agg #[I n, I e], I f] w fun en w' => en = .returned (.tuple #[I (rawN n e f), I (rawE n e f)]) ∧ Ext w w' := by
  obtain ⟨a, b, c, d, f1, f2⟩ := rawB_iff.1 h
  obtain ⟨v, hv⟩ : ∃ v, shI n (e + f) = v := ⟨_, rfl⟩
  have hvb := shI_wide a b (k := e + f) (by omega)
  rw [hv] at hvb
  have HFL := Lib.hid (show floorD (shiftD (nmS n e) f) 0 = ofI v 0 by rw [← hv]; unfold nmS; rw [sh_sh (by omega) (by omega) (by omega) (by omega)]; exact floor_shiftw (by omega) (by omega))
  have HL1 := Lib.hid (show len (nmS n e).m ≤ 16777216 from len_shW a b (by omega) (by omega))
  have HL2 := Lib.hid (show len (shiftD (nmS n e) f).m ≤ 16777216 by unfold nmS; rw [sh_sh (by omega) (by omega) (by omega) (by omega)]; exact len_shW a b (by omega) (by omega))
  have HL3 := Lib.hid (len_big (n := v) (by omega) (by omega))
  have HK1 := Lib.hid (nmS_ok n e)
  have HK2 := Lib.hid (shiftD_ok (nmS n e) f)
  have HK3 := Lib.hid (ofZ_ok v)
  have HVA : Hid (∀ w', Calls Tryd.prog 10 #[.agg #[I n, I e]] w' (DyRes (nmS n e) w')) := fun w' => rvalue_any n e w' a b c d
  have HOK : Hid (wdB v = true → rawN n e f = v ∧ rawE n e f = 0) := fun hh => by
    have := rawE_ok h (by unfold rawV; rw [hv]; exact hh)
    rw [this.1, this.2]; exact ⟨hv, rfl⟩
  have HOV : Hid (wdB v = false → rawN n e f = 0 ∧ rawE n e f = 13) := fun hh => by
    have := rawE_over h (by unfold rawV; rw [hv]; exact hh)
    rw [this.1, this.2]; exact ⟨rfl, rfl⟩
  have HFI : Hid (∀ w' neg A A' m c c' den, Dy w' neg A m c den (ofI v 0) A' c' → Calls Tryd.prog 19 #[dv neg A m c den] w' fun e w'' => e = .returned (.tuple #[I (sat v), .bool (!(sat v == v))]) ∧ Ext w' w'') := fun w' neg A A' m c c' den hd => rfit_any hd hvb.1 hvb.2
  generalize hd2 : shiftD (nmS n e) f = d2 at *
  generalize nmS n e = d1 at *
  have HD2 := Lib.hid hd2
  clear hd2
  have hc1 : ¬ n ≤ -2147483648 := by omega
  have hc2 : ¬ 2147483648 ≤ n := by omega
  have hc3 : ¬ e < -62 := by omega
  have hc4 : ¬ 30 < e := by omega
  have hc5 : ¬ f < 0 := by omega
  have hc6 : ¬ 30 < f := by omega
  clear hv h hvb
  have HC : Hid ((wdB v = true ∧ sat v = v) ∨ (wdB v = false ∧ (sat v == v) = false)) := by
    by_cases hh : -2147483648 ≤ v ∧ v ≤ 2147483647
    · exact .inl ⟨wdB_iff.2 hh, kcl_id hh.1 hh.2⟩
    · refine .inr ⟨by cases q : wdB v with | false => rfl | true => exact absurd (wdB_iff.1 q) hh, ?_⟩
      have := kcl_bd v (-2147483648) 2147483647 (by omega)
      simp only [beq_eq_false_iff_ne, ne_eq]
      intro hq
      unfold sat at hq; omega
  have HB : Hid (∀ w', Ext (w.alloc (.cells #[I n, I e] 23)) w' → w'.cell? ⟨w.heap.size, 0, none⟩ = some (I n) ∧ w'.cell? ⟨w.heap.size, 1, none⟩ = some (I e)) := fun w' x =>
    ⟨(x.old.1 _ _ (by simp)).trans (by go_simp), (x.old.1 _ _ (by simp)).trans (by go_simp)⟩
  rcases HC.out with ⟨q1, q2⟩ | ⟨q1, q2⟩
  · obtain ⟨p1, p2⟩ := HOK.out q1
    rw [q2] at HFI
    rw [show (!(v == v)) = false by simp] at HFI
    rw [p1, p2]; clear q1 q2 p1 p2
    generalize hd3 : ofI v 0 = d3 at *
    clear hd3
    go_enter Tryd.func7, Tryd.ntmps7
    go_wp2_with (first
      | (go_at_call 10; (with_reducible refine (HVA.out _).mono ?_); rintro e1 w1 ⟨A1, c1, rfl, hon, hx⟩; have HY1 := Lib.hid (Dy.of_on hon HK1.out HL1.out (Ext.refl _)); have HX1 := Lib.hid hx; clear hon hx)
      | (go_at_call 18; (with_reducible refine (rshift_any2 f HY1.out (by omega) (by omega)).mono ?_); rw [HD2.out]; rintro e2 w2 ⟨A2, c2, rfl, hon, hx⟩; have HY2 := Lib.hid (Dy.of_on hon HK2.out HL2.out (Ext.refl _)); have HX2 := Lib.hid (HX1.out.trans hx); clear hon hx)
      | (go_at_call 17; (with_reducible refine (rfloor_0 HY2.out).mono ?_); rw [HFL.out]; rintro e3 w3 ⟨A3, c3, rfl, hon, hx⟩; have HY3 := Lib.hid (Dy.of_on hon HK3.out HL3.out (Ext.refl _)); have HX3 := Lib.hid (HX2.out.trans hx); clear hon hx)
      | (go_at_call 19; (with_reducible refine (HFI.out _ _ _ _ _ _ _ _ (HY3.out.ext (Ext.alloc _ _))).mono ?_); rintro e4 w4 ⟨rfl, hx⟩; have HX4 := Lib.hid hx; clear hx))
    go_ret2
    exact ⟨rfl, (Ext.alloc _ _).trans (HX3.out.trans ((Ext.alloc _ _).trans HX4.out))⟩
  · obtain ⟨p1, p2⟩ := HOV.out q1
    rw [q2] at HFI
    rw [show (!false) = true by rfl] at HFI
    rw [p1, p2]; clear q1 q2 p1 p2
    generalize hd3 : ofI v 0 = d3 at *
    clear hd3
    go_enter Tryd.func7, Tryd.ntmps7
    go_wp2_with (first
      | (go_at_call 10; (with_reducible refine (HVA.out _).mono ?_); rintro e1 w1 ⟨A1, c1, rfl, hon, hx⟩; have HY1 := Lib.hid (Dy.of_on hon HK1.out HL1.out (Ext.refl _)); have HX1 := Lib.hid hx; clear hon hx)
      | (go_at_call 18; (with_reducible refine (rshift_any2 f HY1.out (by omega) (by omega)).mono ?_); rw [HD2.out]; rintro e2 w2 ⟨A2, c2, rfl, hon, hx⟩; have HY2 := Lib.hid (Dy.of_on hon HK2.out HL2.out (Ext.refl _)); have HX2 := Lib.hid (HX1.out.trans hx); clear hon hx)
      | (go_at_call 17; (with_reducible refine (rfloor_0 HY2.out).mono ?_); rw [HFL.out]; rintro e3 w3 ⟨A3, c3, rfl, hon, hx⟩; have HY3 := Lib.hid (Dy.of_on hon HK3.out HL3.out (Ext.refl _)); have HX3 := Lib.hid (HX2.out.trans hx); clear hon hx)
      | (go_at_call 19; (with_reducible refine (HFI.out _ _ _ _ _ _ _ _ (HY3.out.ext (Ext.alloc _ _))).mono ?_); rintro e4 w4 ⟨rfl, hx⟩; have HX4 := Lib.hid hx; clear hx))
    go_ret2
    exact ⟨rfl, (Ext.alloc _ _).trans (HX3.out.trans ((Ext.alloc _ _).trans HX4.out))⟩
theorem rRaw_any (n e f : Int) (w : World) : Calls Tryd.prog 7 #[.agg #[I n, I e], I f] w fun en w' => en = .returned (.tuple #[I (rawN n e f), I (rawE n e f)]) ∧ Ext w w' := by
  cases h : rawB n e f
  · refine (rRaw_bad n e f w h).mono fun en w' hh => ⟨?_, hh.2⟩
    rw [(rawE_bad h).1, (rawE_bad h).2]; exact hh.1
  · exact rRaw_in n e f w h
/-! ### The law CompileRaw -/
set_option maxRecDepth 100000 in
set_option maxHeartbeats 1000000 in
theorem compileRaw_any (n e f : Int) (w : World) (hT : Tabs w) (hO : TabO w) : Calls Tryd.prog 3 #[.agg #[I n, I e], I f] w fun en w' => en = .returned (.bool true) ∧ Ext w w' := by
  have HA : Hid (∀ w', Ext w w' → Calls Tryd.prog 5 #[] w' fun e w'' => e = .returned (.bool true) ∧ Ext w' w'') := fun w' x => kxAwake_any w' (hT.ext x) (hO.ext x)
  have HR := Lib.hid (fun w' => Raw_any n e f w')
  have HQ := Lib.hid (fun w' => rRaw_any n e f w')
  have HN : Hid (∀ w', Calls Tryd.prog 8 #[errv (rawE n e f)] w' fun en w'' => en = .returned (I (rawE n e f)) ∧ Ext w' w'') := fun w' => num_any (rawE n e f) w'
  unfold RawR at HR
  clear hT hO
  generalize rawN n e f = rn at *
  generalize rawE n e f = re at *
  generalize errv re = ev at *
  have HB : Hid (∀ w', Ext (w.alloc (.cells #[I n, I e] 23)) w' → w'.cell? ⟨w.heap.size, 0, none⟩ = some (I n) ∧ w'.cell? ⟨w.heap.size, 1, none⟩ = some (I e)) := fun w' x =>
    ⟨(x.old.1 _ _ (by simp)).trans (by go_simp), (x.old.1 _ _ (by simp)).trans (by go_simp)⟩
  go_enter Tryd.func3, Tryd.ntmps3
  go_wp2_with (first
    | (go_at_call 5; (with_reducible refine (HA.out _ (Ext.alloc _ _)).mono ?_); rintro e1 w1 ⟨rfl, h1⟩; have X1 := Lib.hid h1; clear h1; obtain ⟨c0, c1⟩ := HB.out _ X1.out)
    | (go_at_call 6; (with_reducible refine (HR.out _).mono ?_); rintro e2 w2 ⟨rfl, h2⟩; have X2 := Lib.hid (X1.out.trans h2); clear h2 c0 c1; obtain ⟨c0, c1⟩ := HB.out _ X2.out)
    | (go_at_call 7; (with_reducible refine (HQ.out _).mono ?_); rintro e3 w3 ⟨rfl, h3⟩; have X3 := Lib.hid (X2.out.trans h3); clear h3 c0 c1)
    | (go_at_call 8; (with_reducible refine (HN.out _).mono ?_); rintro e4 w4 ⟨rfl, h4⟩; have X4 := Lib.hid (X3.out.trans h4); clear h4))
  go_ret
  exact ⟨by simp, (Ext.alloc _ _).trans X4.out⟩
end Go.Proofs.YtkocmdpfknoiaaaDoor
