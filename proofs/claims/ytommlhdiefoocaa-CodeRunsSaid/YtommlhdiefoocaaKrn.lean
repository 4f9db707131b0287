/- The fixed-point machine: the reference's Shift. -/
import Derived.Test.YtommlhdiefoocaaKrm
import Derived.Test.YtommlhdiefoocaaRefmo
import Derived.Test.YtommlhdiefoocaaFlr
import Derived.Test.YtommlhdiefoocaaInt
set_option linter.unusedVariables false
namespace Go.Proofs.Ytommlhdiefoocaa
theorem len_ofZ {n : Int} (h1 : -9223372036854775808 ≤ n) (h2 : n ≤ 9223372036854775807) : len (ofI n 0).m ≤ 16777216 := by
  have := Nat.le_trans (len_mono (mkD_m_le (decide (n < 0)) n.natAbs 0)) (len_abs h1 h2)
  exact Nat.le_trans this (by omega)
theorem m_ofZ (n : Int) : (ofI n 0).m ≤ n.natAbs := mkD_m_le _ _ _
theorem len_shZ {n k : Int} (h1 : -9223372036854775808 ≤ n) (h2 : n ≤ 9223372036854775807) (h3 : -62 ≤ k) (h4 : k ≤ 30) : len (shiftD (ofI n 0) k).m ≤ 16777216 := by
  have hc : clampN k = k := by unfold clampN; omega
  have hm := m_ofZ n
  have hb : (shiftD (ofI n 0) k).m ≤ 9223372036854775808 * 1073741824 := by
    unfold shiftD
    rw [hc]
    by_cases h : k < 0
    · rw [if_pos h]
      have := mkD_m_le (ofI n 0).neg (ofI n 0).m ((ofI n 0).den + (-k).toNat)
      omega
    · rw [if_neg h]
      refine Nat.le_trans (mkD_m_le _ _ _) (Nat.mul_le_mul (by omega) ?_)
      have := Nat.pow_le_pow_right (n := 2) (by decide) (show k.toNat ≤ 30 by omega)
      simpa using this
  exact Nat.le_trans (len_le (n := 3) (by show _ < 4294967296 ^ 3; omega)) (by omega)
theorem rfloor_0 {w : World} {neg : Bool} {A A' : Option Addr} {n c c' : Nat} {den : Int} {d : DV} (h : Dy w neg A n c den d A' c') : Calls Try.prog 71 #[dv neg A n c den, I 0] w (DyNum (floorD d 0) w) := rfloor_any 0 h (by omega)
set_option maxRecDepth 100000 in
set_option maxHeartbeats 1000000 in
theorem rsh_any {w : World} (x k : Int) (hx1 : -9223372036854775808 ≤ x) (hx2 : x ≤ 9223372036854775807) (h1 : -62 ≤ k) (h2 : k ≤ 30) : Calls Try.prog 50 #[I x, I k] w (DyRes (ofI (shI x k) 0) w) := by
  have HF := Lib.hid (floor_shift (x := x) h1 h2)
  have HL1 := Lib.hid (len_ofZ (n := x) hx1 hx2)
  have HL2 := Lib.hid (len_shZ (n := x) hx1 hx2 h1 h2)
  have HK1 := Lib.hid (ofZ_ok x)
  have HK2 := Lib.hid (shiftD_ok (ofI x 0) k)
  generalize ofI (shI x k) 0 = d3 at *
  generalize hd1 : ofI x 0 = d1 at *
  generalize hd2 : shiftD d1 k = d2 at *
  have HD1 := Lib.hid hd1
  have HD2 := Lib.hid hd2
  clear hd1 hd2
  have SB := Lib.hid (Bx.new w (.bool false) (.slice none 0 0) (I 0) 82)
  go_enter Try.func50, Try.ntmps50
  go_wp2_with (first
    | (go_at_call 48; (with_reducible refine (rof_any x _ (by omega) (by omega)).mono ?_); rw [HD1.out]; rintro e w1 ⟨A1, c1, rfl, hon, hx⟩; have HY1 := Lib.hid (Dy.of_on hon HK1.out HL1.out (Ext.refl _)); have HX1 := Lib.hid hx; clear hon hx)
    | (go_at_call 72; (with_reducible refine (rshift_any2 k HY1.out (by omega) (by omega)).mono ?_); rw [HD2.out]; rintro e w2 ⟨A2, c2, rfl, hon, hx⟩; have HY2 := Lib.hid (Dy.of_on hon HK2.out HL2.out (Ext.refl _)); have HX2 := Lib.hid (HX1.out.trans hx); clear hon hx)
    | (go_at_call 71; (with_reducible refine (rfloor_0 HY2.out).mono ?_); rw [HF.out]; rintro e w3 ⟨A3, c3, rfl, hon, hx⟩; have HON3 := Lib.hid hon; have HX3 := Lib.hid (HX2.out.trans hx); obtain ⟨⟨k0, k1, k2⟩, kz⟩ := SB.out.ext ((HX2.out.trans hx).trans (Ext.alloc w3 (.cells #[.bool d3.neg, .slice A3 (len d3.m) c3, I d3.den] 82))); clear hon hx))
  have hz2 := HX2.out.size
  have hz3 := HX3.out.size
  have hon := HON3.out
  simp only [World.size_alloc] at hz2 hz3
  refine bodyPost_ret (v := dv d3.neg A3 (len d3.m) c3 d3.den) (by simp [results, Try.results50, go_sem, k0, k1, k2]) rfl ?_
  exact DyRes.end3 (W := w2) (g := w.heap.size) rfl (hon.ext (Ext.alloc _ _)) (((Ext.alloc _ _).trans HX3.out).trans (Ext.alloc _ _)) (by omega) (Nat.le_refl _) (by omega)
end Go.Proofs.Ytommlhdiefoocaa
