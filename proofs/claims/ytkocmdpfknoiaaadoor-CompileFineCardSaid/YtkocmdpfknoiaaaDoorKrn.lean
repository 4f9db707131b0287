/- The fixed-point machine: the reference's Shift. -/
import Derived.Test.YtkocmdpfknoiaaaDoorKrm
import Derived.Test.YtkocmdpfknoiaaaDoorRefmo
import Derived.Test.YtkocmdpfknoiaaaDoorFlr
import Derived.Test.YtkocmdpfknoiaaaDoorInt
set_option linter.unusedVariables false
namespace Go.Proofs.YtkocmdpfknoiaaaDoor
theorem len_ofZ {n : Int} (h1 : -9223372036854775808 ≤ n) (h2 : n ≤ 9223372036854775807) : len (ofI n 0).m ≤ 16777216 := by
  have := Nat.le_trans (len_mono (mkD_m_le (decide (n < 0)) n.natAbs 0)) (len_abs h1 h2)
  exact Nat.le_trans this (by omega)
theorem m_ofZ (n : Int) : (ofI n 0).m ≤ n.natAbs := mkD_m_le _ _ _
theorem len_shZ {n k : Int} (h1 : -9223372036854775808 ≤ n) (h2 : n ≤ 9223372036854775807) (h3 : -62 ≤ k) (h4 : k ≤ 30) : len (shiftD (ofI n 0) k).m ≤ 16777216 := by
  have hc : clampN k = k := by unfold clampN; omega
  have hm := m_ofZ n
  have hb : (shiftD (ofI n 0) k).m ≤ 9223372036854775808 * 1073741824 := by
    unfold shiftD
    rw [hc]
    by_cases h : k < 0
    · rw [if_pos h]
      have := mkD_m_le (ofI n 0).neg (ofI n 0).m ((ofI n 0).den + (-k).toNat)
      omega
    · rw [if_neg h]
      refine Nat.le_trans (mkD_m_le _ _ _) (Nat.mul_le_mul (by omega) ?_)
      have := Nat.pow_le_pow_right (n := 2) (by decide) (show k.toNat ≤ 30 by omega)
      simpa using this
  exact Nat.le_trans (len_le (n := 3) (by show _ < 4294967296 ^ 3; omega)) (by omega)
theorem rfloor_0 {w : World} {neg : Bool} {A A' : Option Addr} {n c c' : Nat} {den : Int} {d : DV} (h : Dy w neg A n c den d A' c') : Calls Tryd.prog 17 #[dv neg A n c den, I 0] w (DyNum (floorD d 0) w) := rfloor_any 0 h (by omega)
end Go.Proofs.YtkocmdpfknoiaaaDoor
