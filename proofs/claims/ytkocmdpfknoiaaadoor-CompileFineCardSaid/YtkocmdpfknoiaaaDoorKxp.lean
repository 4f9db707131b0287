/- The law CompileFine. -/
import Derived.Test.YtkocmdpfknoiaaaDoorKxo
namespace Go.Proofs.YtkocmdpfknoiaaaDoor
open Go Go.RowKit

/-- The number that a cell stands for. -/
def scD (n f : Int) : DV := shiftD (ofI n 0) (-f)
theorem scD_ok (n f : Int) : (scD n f).ok := shiftD_ok _ _
theorem scD_q {n f : Int} (h1 : 0 ≤ f) (h2 : f ≤ 30) : (scD n f).q = (n : Rat) * zp (-f) := q_ofZsh (by omega) (by omega)
theorem len_sh3 {n k : Int} (h1 : -9223372036854775808 ≤ n) (h2 : n ≤ 9223372036854775807) (h3 : -1000 ≤ k) (h4 : k ≤ 60) : len (shiftD (ofI n 0) k).m ≤ 4 := by
  have hc : clampN k = k := by unfold clampN; omega
  have hm := m_ofZ n
  have hb : (shiftD (ofI n 0) k).m ≤ 9223372036854775808 * 1152921504606846976 := by
    unfold shiftD
    rw [hc]
    by_cases h : k < 0
    · rw [if_pos h]
      have := mkD_m_le (ofI n 0).neg (ofI n 0).m ((ofI n 0).den + (-k).toNat)
      omega
    · rw [if_neg h]
      refine Nat.le_trans (mkD_m_le _ _ _) (Nat.mul_le_mul (by omega) ?_)
      have := Nat.pow_le_pow_right (n := 2) (by decide) (show k.toNat ≤ 60 by omega)
      simpa using this
  exact len_le (n := 4) (by show _ < 4294967296 ^ 4; omega)
theorem len_subS {a b : DV} (ha : a.ok) (hb : b.ok) (h1 : len a.m ≤ 100000) (h2 : len b.m ≤ 100000) : len (subD a b).m ≤ 16777216 :=
  Nat.le_trans (lim_sub ha.2.1 hb.2.1) (by omega)
set_option maxRecDepth 100000 in
set_option maxHeartbeats 1000000 in
theorem scaled_any (n f : Int) (w : World) (h1 : -9223372036854775808 ≤ n) (h2 : n ≤ 9223372036854775807) (f1 : 0 ≤ f) (f2 : f ≤ 30) : Calls Tryd.prog 11 #[I n, I f] w (DyRes (scD n f) w) := by
  have HL1 := Lib.hid (len_ofZ (n := n) h1 h2)
  have HK1 := Lib.hid (ofZ_ok n)
  have hw : IntKind.i64.wrap (-f) = -f := IntWalk.i64_in _ (by omega)
  have HOF := Lib.hid (fun w' => rof_any n w' h1 h2)
  obtain ⟨d2, hd2⟩ : ∃ d2, scD n f = d2 := ⟨_, rfl⟩
  have HD2 : Hid (shiftD (ofI n 0) (-f) = d2) := hd2
  rw [hd2]; clear hd2
  generalize ofI n 0 = d1 at *
  have SB := Lib.hid (Bx.new w (.bool false) (.slice none 0 0) (I 0) 37)
  go_enter Tryd.func11, Tryd.ntmps11
  go_wp2_with (first
    | (go_at_call 20; (with_reducible refine (HOF.out _).mono ?_); rintro e w1 ⟨A1, c1, rfl, hon, hx⟩; have HY1 := Lib.hid (Dy.of_on hon HK1.out HL1.out (Ext.refl _)); have HX1 := Lib.hid hx; clear hon hx)
    | (go_at_call 18; (with_reducible refine (rshift_any2 (-f) HY1.out (by omega) (by omega)).mono ?_); rw [HD2.out]; rintro e w2 ⟨A2, c2, rfl, hon, hx⟩; have HON2 := Lib.hid hon; have HX2 := Lib.hid (HX1.out.trans hx); have HX12 := Lib.hid hx; obtain ⟨⟨k0, k1, k2⟩, kz⟩ := SB.out.ext (HX1.out.trans hx); have kf0 := kz 0; have kf1 := kz 1; have kf2 := kz 2; have hlt := World.block_lt_of_cell? _ _ k0; clear hon hx kz))
  have hz1 := HX1.out.size
  have hz2 := HX12.out.size
  have hon := HON2.out
  simp only [World.size_alloc] at hz1
  refine bodyPost_ret (v := dv d2.neg A2 (len d2.m) c2 d2.den) (by simp [results, Tryd.results11, go_sem, k0, k1, k2]) rfl ?_
  exact DyRes.end3 (W := w1) (g := w.heap.size) rfl hon ((Ext.alloc _ _).trans HX2.out) (by omega) (Nat.le_refl _) (by omega)
theorem shI_dbl (n k : Int) : shI n (k + 1) = 2 * shI n k ∨ shI n (k + 1) = 2 * shI n k + 1 := by
  unfold shI
  by_cases h : k < 0
  · by_cases h2 : k + 1 < 0
    · rw [if_pos h, if_pos h2]
      have e : (-k).toNat = (-(k + 1)).toNat + 1 := by omega
      rw [e, Int.pow_succ, ← Int.ediv_ediv_of_nonneg (by have := pow_pos (-(k + 1)).toNat; omega)]
      omega
    · obtain rfl : k = -1 := by omega
      simp; omega
  · rw [if_neg h, if_neg (by omega), show (k + 1).toNat = k.toNat + 1 by omega, Int.pow_succ]
    left
    rw [← Int.mul_assoc, Int.mul_comm]
theorem fine_e {n e k : Int} (h1 : 0 ≤ k) (h2 : k ≤ 29) (h : rawE n e k ≠ 0) : rawE n e (k + 1) ≠ 0 ∧ (rawE n e (k + 1) = 3 ↔ rawE n e k = 3) := by
  have hb : rawB n e (k + 1) = rawB n e k := by rw [Bool.eq_iff_iff, rawB_iff, rawB_iff]; omega
  cases q : rawB n e k with
  | false =>
    rw [(rawE_bad q).1, (rawE_bad (show rawB n e (k + 1) = false by rw [hb, q])).1]; simp
  | true =>
    cases r : wdB (rawV n e k) with
    | true => rw [(rawE_ok q r).1] at h; exact absurd rfl h
    | false =>
      have r2 : wdB (rawV n e (k + 1)) = false := by
        cases s : wdB (rawV n e (k + 1)) with
        | false => rfl
        | true =>
          have s' := wdB_iff.1 s
          have := shI_dbl n (e + k)
          have : wdB (rawV n e k) = true := by
            refine wdB_iff.2 ?_
            unfold rawV at s' ⊢
            rw [show e + (k + 1) = e + k + 1 by omega] at s'
            omega
          rw [this] at r; cases r
      rw [(rawE_over q r).1, (rawE_over (show rawB n e (k + 1) = true by rw [hb, q]) r2).1]; simp
theorem fine_v {n e k : Int} (h1 : 0 ≤ k) (h2 : k ≤ 29) (h : rawE n e k = 0) : rawB n e k = true ∧ rawN n e k = shI n (e + k) ∧ wdB (shI n (e + k)) = true ∧ (rawE n e (k + 1) = 13 ∨ (rawE n e (k + 1) = 0 ∧ (rawN n e (k + 1) = 2 * rawN n e k ∨ rawN n e (k + 1) = 2 * rawN n e k + 1))) := by
  have hb : rawB n e (k + 1) = rawB n e k := by rw [Bool.eq_iff_iff, rawB_iff, rawB_iff]; omega
  cases q : rawB n e k with
  | false => rw [(rawE_bad q).1] at h; omega
  | true =>
    cases r : wdB (rawV n e k) with
    | false => rw [(rawE_over q r).1] at h; omega
    | true =>
      refine ⟨rfl, (rawE_ok q r).2, r, ?_⟩
      cases s : wdB (rawV n e (k + 1)) with
      | false => exact .inl (rawE_over (by rw [hb, q]) s).1
      | true =>
        refine .inr ⟨(rawE_ok (by rw [hb, q]) s).1, ?_⟩
        rw [(rawE_ok (by rw [hb, q]) s).2, (rawE_ok q r).2]
        unfold rawV
        rw [show e + (k + 1) = e + k + 1 by omega]
        exact shI_dbl n (e + k)
theorem zp_inv (k : Int) : zp k * zp (-k) = 1 := by rw [← zp_add, show k + -k = 0 by omega, zp_zero]
theorem fine_c {n e k : Int} (h1 : 0 ≤ k) (h2 : k ≤ 29) (e1 : -62 ≤ e) (e2 : e ≤ 30) : cmpD (scD (shI n (e + k)) k) (nmS n e) ≤ 0 ∧ 0 < cmpD (scD (shI n (e + k) + 1) k) (nmS n e) := by
  obtain ⟨s1, s2⟩ := shI_zp (x := n) (k := e + k) (by omega) (by omega)
  have hq : (nmS n e).q = (n : Rat) * zp e := q_ofZsh (by omega) (by omega)
  have hp := zp_pos (-k)
  have hz : (n : Rat) * zp (e + k) * zp (-k) = (n : Rat) * zp e := by
    rw [zp_add, Rat.mul_assoc, Rat.mul_assoc, zp_inv, Rat.mul_one]
  constructor
  · rw [cmpD_sgn (scD_ok _ _) (nmS_ok _ _), scD_q h1 (by omega), hq]
    refine le_sgn ?_
    have := Rat.mul_le_mul_of_nonneg_right s1 (show 0 ≤ zp (-k) by grind)
    grind
  · rw [cmpD_sgn (scD_ok _ _) (nmS_ok _ _), scD_q h1 (by omega), hq]
    have h3 := Rat.mul_lt_mul_of_pos_right s2 hp
    have h4 : ((shI n (e + k) + 1 : Int) : Rat) = ((shI n (e + k) : Int) : Rat) + 1 := by push_cast; rfl
    rw [h4]
    have h5 : 0 < (((shI n (e + k) : Int) : Rat) + 1) * zp (-k) - (n : Rat) * zp e := by grind
    by_cases h6 : 0 < sgn ((((shI n (e + k) : Int) : Rat) + 1) * zp (-k) - (n : Rat) * zp e)
    · exact h6
    · have := sgn_le (show sgn ((((shI n (e + k) : Int) : Rat) + 1) * zp (-k) - (n : Rat) * zp e) ≤ 0 by omega); grind
/-- Is, of an error's number. -/
theorem is_any (re c : Int) (hc : c ≠ 0) (w : World) : Calls Tryd.prog 9 #[errv re, I c] w fun e w' => e = .returned (.bool (decide (re = c))) ∧ Ext w w' := by
  by_cases h : re = 0
  · subst h
    refine (is_nil c w).mono fun e w' hh => ⟨?_, hh.2⟩
    rw [hh.1]; simp; omega
  · rw [errv_n h]; exact is_err re c w
set_option maxRecDepth 100000 in
set_option maxHeartbeats 1000000 in
theorem fine_bad (n e : Int) (k : Int) (f : Int) (w : World) (hf : IntKind.i64.wrap f = f) (hk : f.tmod 30 = k) (k1 : 0 ≤ k) (k2 : k ≤ 29) (hT : Tabs w) (hO : TabO w) (h : rawE n e k ≠ 0) : Calls Tryd.prog 4 #[.agg #[I n, I e], .int .u8 f] w fun en w' => en = .returned (.bool true) ∧ Ext w w' := by
  have HA : Hid (∀ w', Ext w w' → Calls Tryd.prog 5 #[] w' fun e w'' => e = .returned (.bool true) ∧ Ext w' w'') := fun w' x => kxAwake_any w' (hT.ext x) (hO.ext x)
  have HR := Lib.hid (fun w' => Raw_any n e k w')
  have HR2 := Lib.hid (fun w' => Raw_any n e (k + 1) w')
  obtain ⟨he1, he2⟩ := fine_e k1 k2 h
  unfold RawR at HR HR2
  rw [errv_n h] at HR
  rw [errv_n he1] at HR2
  have HI1 : Hid (∀ w', Calls Tryd.prog 9 #[.iface 34 (I (rawE n e k)), I 3] w' fun en w'' => en = .returned (.bool (decide (rawE n e k = 3))) ∧ Ext w' w'') := fun w' => is_err _ 3 w'
  have HI2 : Hid (∀ w', Calls Tryd.prog 9 #[.iface 34 (I (rawE n e (k + 1))), I 3] w' fun en w'' => en = .returned (.bool (decide (rawE n e (k + 1) = 3))) ∧ Ext w' w'') := fun w' => is_err _ 3 w'
  rw [show decide (rawE n e (k + 1) = 3) = decide (rawE n e k = 3) by rw [decide_eq_decide]; exact he2] at HI2
  generalize decide (rawE n e k = 3) = bb at *
  have hw1 : IntKind.i64.wrap (k + 1) = k + 1 := IntWalk.i64_in _ (by omega)
  have hw2 : IntKind.i64.wrap k = k := IntWalk.i64_in _ (by omega)
  generalize rawN n e k = rn at *
  generalize rawN n e (k + 1) = rm at *
  generalize rawE n e k = re at *
  generalize rawE n e (k + 1) = rg at *
  clear hT hO h he1 he2
  have HB : Hid (∀ w', Ext (w.alloc (.cells #[I n, I e] 23)) w' → w'.cell? ⟨w.heap.size, 0, none⟩ = some (I n) ∧ w'.cell? ⟨w.heap.size, 1, none⟩ = some (I e)) := fun w' x =>
    ⟨(x.old.1 _ _ (by simp)).trans (by go_simp), (x.old.1 _ _ (by simp)).trans (by go_simp)⟩
  go_enter Tryd.func4, Tryd.ntmps4
  go_upto_region 5 with (first
    | (go_at_call 5; (with_reducible refine (HA.out _ (Ext.alloc _ _)).mono ?_); rintro e1 w1 ⟨rfl, h1⟩; have X1 := Lib.hid h1; clear h1; obtain ⟨c0, c1⟩ := HB.out _ X1.out)
    | (go_at_call 6; (with_reducible refine (HR.out _).mono ?_); rintro e2 w2 ⟨rfl, h2⟩; have X2 := Lib.hid (X1.out.trans h2); clear h2 c0 c1; obtain ⟨c0, c1⟩ := HB.out _ X2.out))
  go_wp2_with (first
    | (go_at_call 6; (with_reducible refine (HR2.out _).mono ?_); rintro e3 w3 ⟨rfl, h3⟩; have X3 := Lib.hid (X2.out.trans h3); clear h3 c0 c1)
    | (go_at_call 9; (with_reducible refine (HI2.out _).mono ?_); rintro e4 w4 ⟨rfl, h4⟩; have X4 := Lib.hid (X3.out.trans h4); clear h4)
    | (go_at_call 9; (with_reducible refine (HI1.out _).mono ?_); rintro e5 w5 ⟨rfl, h5⟩; have X5 := Lib.hid h5; clear h5))
  go_ret
  exact ⟨by simp, (Ext.alloc _ _).trans (X4.out.trans X5.out)⟩
set_option maxRecDepth 100000 in
set_option maxHeartbeats 1000000 in
theorem fine_good (n e : Int) (k : Int) (f : Int) (w : World) (hf : IntKind.i64.wrap f = f) (hk : f.tmod 30 = k) (k1 : 0 ≤ k) (k2 : k ≤ 29) (hT : Tabs w) (hO : TabO w) (h : rawE n e k = 0) : Calls Tryd.prog 4 #[.agg #[I n, I e], .int .u8 f] w fun en w' => en = .returned (.bool true) ∧ Ext w w' := by
  have HA : Hid (∀ w', Ext w w' → Calls Tryd.prog 5 #[] w' fun e w'' => e = .returned (.bool true) ∧ Ext w' w'') := fun w' x => kxAwake_any w' (hT.ext x) (hO.ext x)
  have HR := Lib.hid (fun w' => Raw_any n e k w')
  have HR2 := Lib.hid (fun w' => Raw_any n e (k + 1) w')
  obtain ⟨hb, hn, hwd, hg⟩ := fine_v k1 k2 h
  obtain ⟨b1, b2, b3, b4, _, _⟩ := rawB_iff.1 hb
  obtain ⟨hc1, hc2⟩ := fine_c (n := n) k1 k2 b3 b4
  have hwb := wdB_iff.1 hwd
  rw [← hn] at hc1 hc2 hwb
  unfold RawR at HR HR2
  rw [h, errv_z] at HR
  have HVA : Hid (∀ w', Calls Tryd.prog 10 #[.agg #[I n, I e]] w' (DyRes (nmS n e) w')) := fun w' => rvalue_any n e w' b1 b2 b3 b4
  have HS1 : Hid (∀ w', Calls Tryd.prog 11 #[I (rawN n e k), I k] w' (DyRes (scD (rawN n e k) k) w')) := fun w' => scaled_any _ _ w' (by omega) (by omega) k1 (by omega)
  have HS2 : Hid (∀ w', Calls Tryd.prog 11 #[I (rawN n e k + 1), I k] w' (DyRes (scD (rawN n e k + 1) k) w')) := fun w' => scaled_any _ _ w' (by omega) (by omega) k1 (by omega)
  have HG : Hid (rawE n e (k + 1) = 13 ∨ (rawE n e (k + 1) = 0 ∧ (rawN n e (k + 1) = 2 * rawN n e k ∨ rawN n e (k + 1) = 2 * rawN n e k + 1))) := hg
  have HI : Hid (∀ w', Calls Tryd.prog 9 #[errv (rawE n e (k + 1)), I 13] w' fun en w'' => en = .returned (.bool (decide (rawE n e (k + 1) = 13))) ∧ Ext w' w'') := fun w' => is_any _ 13 (by omega) w'
  have hw1 : IntKind.i64.wrap (k + 1) = k + 1 := IntWalk.i64_in _ (by omega)
  have hw2 : IntKind.i64.wrap k = k := IntWalk.i64_in _ (by omega)
  have hw3 : IntKind.i64.wrap (rawN n e k + 1) = rawN n e k + 1 := IntWalk.i64_in _ (by omega)
  have hw4 : IntKind.i64.wrap (2 * rawN n e k) = 2 * rawN n e k := IntWalk.i64_in _ (by omega)
  have hw5 : IntKind.i64.wrap (2 * rawN n e k + 1) = 2 * rawN n e k + 1 := IntWalk.i64_in _ (by omega)
  have HL1 := Lib.hid (show len (nmS n e).m ≤ 4 from len_sh3 (by omega) (by omega) (by omega) (by omega))
  have HL2 := Lib.hid (show len (scD (rawN n e k) k).m ≤ 4 from len_sh3 (by omega) (by omega) (by omega) (by omega))
  have HL3 := Lib.hid (show len (scD (rawN n e k + 1) k).m ≤ 4 from len_sh3 (by omega) (by omega) (by omega) (by omega))
  have HK1 := Lib.hid (nmS_ok n e); have HK2 := Lib.hid (scD_ok (rawN n e k) k); have HK3 := Lib.hid (scD_ok (rawN n e k + 1) k)
  generalize hrn : rawN n e k = rn at *
  generalize rawN n e (k + 1) = rm at *
  generalize rawE n e k = re at *
  generalize rawE n e (k + 1) = rg at *
  generalize nmS n e = d1 at *
  generalize scD rn k = d2 at *
  generalize scD (rn + 1) k = d3 at *
  have HU1 := Lib.hid (len_subS HK2.out HK1.out (by have := HL2.out; omega) (by have := HL1.out; omega))
  have HU2 := Lib.hid (len_subS HK3.out HK1.out (by have := HL3.out; omega) (by have := HL1.out; omega))
  have HCM1 : Hid (∀ w' na A n c da A' c' nb B m k db B' e', Dy w' na A n c da d2 A' c' → Dy w' nb B m k db d1 B' e' → Calls Tryd.prog 12 #[dv na A n c da, dv nb B m k db] w' fun e w'' => e = .returned (I (cmpD d2 d1)) ∧ Ext w' w'') := fun w' na A n c da A' c' nb B m k db B' e' h1 h2 => rdcmp_any h1 h2 HU1.out (subD_ok _ _)
  have HCM2 : Hid (∀ w' na A n c da A' c' nb B m k db B' e', Dy w' na A n c da d3 A' c' → Dy w' nb B m k db d1 B' e' → Calls Tryd.prog 12 #[dv na A n c da, dv nb B m k db] w' fun e w'' => e = .returned (I (cmpD d3 d1)) ∧ Ext w' w'') := fun w' na A n c da A' c' nb B m k db B' e' h1 h2 => rdcmp_any h1 h2 HU2.out (subD_ok _ _)
  generalize cmpD d2 d1 = cc1 at *
  generalize cmpD d3 d1 = cc2 at *
  have hc1' : ¬ 0 < cc1 := by omega
  have hc2' : ¬ cc2 ≤ 0 := by omega
  clear hT hO h hb hn hwd hg hc1 hc2 hwb hrn
  have HB : Hid (∀ w', Ext (w.alloc (.cells #[I n, I e] 23)) w' → w'.cell? ⟨w.heap.size, 0, none⟩ = some (I n) ∧ w'.cell? ⟨w.heap.size, 1, none⟩ = some (I e)) := fun w' x =>
    ⟨(x.old.1 _ _ (by simp)).trans (by go_simp), (x.old.1 _ _ (by simp)).trans (by go_simp)⟩
  go_enter Tryd.func4, Tryd.ntmps4
  go_upto_region 9 with (first
    | (go_at_call 5; (with_reducible refine (HA.out _ (Ext.alloc _ _)).mono ?_); rintro e1 w1 ⟨rfl, h1⟩; have X1 := Lib.hid h1; clear h1; obtain ⟨c0, c1⟩ := HB.out _ X1.out)
    | (go_at_call 6; (with_reducible refine (HR.out _).mono ?_); rintro e2 w2 ⟨rfl, h2⟩; have X2 := Lib.hid (X1.out.trans h2); clear h2 c0 c1; obtain ⟨c0, c1⟩ := HB.out _ X2.out)
    | (go_at_call 6; (with_reducible refine (HR2.out _).mono ?_); rintro e3 w3 ⟨rfl, h3⟩; have X3 := Lib.hid (X2.out.trans h3); clear h3 c0 c1; obtain ⟨c0, c1⟩ := HB.out _ X3.out)
    | (go_at_call 10; (with_reducible refine (HVA.out _).mono ?_); rintro e4 w4 ⟨A4, c4, rfl, hon, hx⟩; have HY4 := Lib.hid (Dy.of_on hon HK1.out (by have := HL1.out; omega) (Ext.refl _)); have X4 := Lib.hid (X3.out.trans hx); clear hon hx c0 c1))
  obtain ⟨V, hV⟩ : ∃ V, V = w4.alloc (.cells #[.bool d1.neg, .slice A4 (len d1.m) c4, I d1.den] 37) := ⟨_, rfl⟩
  have BX1 : Hid (Bx V w4.heap.size (.bool d1.neg) (.slice A4 (len d1.m) c4) (I d1.den)) := by rw [hV]; exact Bx.new _ _ _ _ _
  have XV : Hid (Ext w4 V) := by rw [hV]; exact Ext.alloc _ _
  rw [← hV]; clear hV
  go_upto_region 10 with (first
    | (go_at_call 11; (with_reducible refine (HS1.out _).mono ?_); rintro e5 w5 ⟨A5, c5, rfl, hon, hx⟩; have HY5 := Lib.hid (Dy.of_on hon HK2.out (by have := HL2.out; omega) (Ext.refl _)); have X5 := Lib.hid hx; clear hon hx)
    | (go_at_call 11; (with_reducible refine (HS2.out _).mono ?_); rintro e6 w6 ⟨A6, c6, rfl, hon, hx⟩; have HY6 := Lib.hid (Dy.of_on hon HK3.out (by have := HL3.out; omega) (Ext.refl _)); have X6 := Lib.hid hx; clear hon hx))
  obtain ⟨V2, hV2⟩ : ∃ V2, V2 = (w6.alloc (.cells #[.bool d2.neg, .slice A5 (len d2.m) c5, I d2.den] 37)).alloc (.cells #[.bool d3.neg, .slice A6 (len d3.m) c6, I d3.den] 37) := ⟨_, rfl⟩
  have BX2 : Hid (Bx V2 w6.heap.size (.bool d2.neg) (.slice A5 (len d2.m) c5) (I d2.den)) := by rw [hV2]; exact (Bx.new _ _ _ _ _).ext (Ext.alloc _ _)
  have BX3 : Hid (Bx V2 (w6.heap.size + 1) (.bool d3.neg) (.slice A6 (len d3.m) c6) (I d3.den)) := by
    rw [hV2]
    have := Bx.new (w6.alloc (.cells #[.bool d2.neg, .slice A5 (len d2.m) c5, I d2.den] 37)) (.bool d3.neg) (.slice A6 (len d3.m) c6) (I d3.den) 37
    rwa [show (w6.alloc (.cells #[.bool d2.neg, .slice A5 (len d2.m) c5, I d2.den] 37)).heap.size = w6.heap.size + 1 by simp] at this
  have XV2 : Hid (Ext w6 V2) := by rw [hV2]; exact (Ext.alloc _ _).trans (Ext.alloc _ _)
  rw [← hV2]; clear hV2
  have D1 := Lib.hid (HY4.out.ext (XV.out.trans (X5.out.trans (X6.out.trans XV2.out))))
  have D2 := Lib.hid (HY5.out.ext (X6.out.trans XV2.out))
  have D3 := Lib.hid (HY6.out.ext XV2.out)
  have B1 := Lib.hid (BX1.out.ext (X5.out.trans (X6.out.trans XV2.out)))
  obtain ⟨⟨p0, p1, p2⟩, _⟩ := B1.out
  obtain ⟨⟨q0, q1, q2⟩, _⟩ := BX2.out
  obtain ⟨⟨s0, s1, s2⟩, _⟩ := BX3.out
  have XT := Lib.hid (X4.out.trans (XV.out.trans (X5.out.trans (X6.out.trans XV2.out))))
  go_upto_region 12 with (first
    | (go_at_call 12; (with_reducible refine (HCM1.out _ _ _ _ _ _ _ _ _ _ _ _ _ _ _ D2.out D1.out).mono ?_); rintro e7 w7 ⟨rfl, h7⟩; have X7 := Lib.hid h7; clear h7 p0 p1 p2 q0 q1 q2 s0 s1 s2; obtain ⟨⟨p0, p1, p2⟩, _⟩ := B1.out.ext X7.out; obtain ⟨⟨s0, s1, s2⟩, _⟩ := BX3.out.ext X7.out)
    | (go_at_call 12; (with_reducible refine (HCM2.out _ _ _ _ _ _ _ _ _ _ _ _ _ _ _ (D3.out.ext X7.out) (D1.out.ext X7.out)).mono ?_); rintro e8 w8 ⟨rfl, h8⟩; have X8 := Lib.hid h8; clear h8 p0 p1 p2 s0 s1 s2))
  have XF := Lib.hid (XT.out.trans (X7.out.trans X8.out))
  rcases HG.out with h | ⟨h, h' | h'⟩
  · subst h
    go_wp2_with (go_at_call 9; (with_reducible refine (HI.out _).mono ?_); rintro e9 w9 ⟨rfl, h9⟩)
    go_ret
    exact ⟨rfl, (Ext.alloc _ _).trans (XF.out.trans h9)⟩
  · subst h; subst h'
    rw [errv_z] at HI ⊢
    go_wp2_with (go_at_call 9; (with_reducible refine (HI.out _).mono ?_); rintro e9 w9 ⟨rfl, h9⟩)
    go_ret
    exact ⟨rfl, (Ext.alloc _ _).trans (XF.out.trans h9)⟩
  · subst h; subst h'
    have hne : ¬ 2 * rn + 1 = 2 * rn := by omega
    rw [errv_z] at HI ⊢
    go_wp2_with (go_at_call 9; (with_reducible refine (HI.out _).mono ?_); rintro e9 w9 ⟨rfl, h9⟩)
    go_ret
    exact ⟨rfl, (Ext.alloc _ _).trans (XF.out.trans h9)⟩
/-- The law CompileFine. -/
theorem compileFine_any (n e : Int) (f : Int) (hu : 0 ≤ f ∧ f ≤ 255) (w : World) (hT : Tabs w) (hO : TabO w) : Calls Tryd.prog 4 #[.agg #[I n, I e], .int .u8 f] w fun en w' => en = .returned (.bool true) ∧ Ext w w' := by
  have hf : IntKind.i64.wrap f = f := IntWalk.i64_in _ (by omega)
  have h1 : 0 ≤ f.tmod 30 := Int.tmod_nonneg _ hu.1
  have h2 : f.tmod 30 < 30 := Int.tmod_lt_of_pos _ (by omega)
  by_cases h : rawE n e (f.tmod 30) = 0
  · exact fine_good n e _ f w hf rfl h1 (by omega) hT hO h
  · exact fine_bad n e _ f w hf rfl h1 (by omega) hT hO h
end Go.Proofs.YtkocmdpfknoiaaaDoor
