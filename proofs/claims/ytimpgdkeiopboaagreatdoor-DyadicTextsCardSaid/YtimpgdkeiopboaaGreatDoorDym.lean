/- Numbers as structs: differences, minima, maxima, Ceil. -/
import Derived.Test.YtimpgdkeiopboaaGreatDoorDyk
import Derived.Test.YtimpgdkeiopboaaGreatDoorDyl
namespace Go.Proofs.YtimpgdkeiopboaaGreatDoor
open Go.RowKit
attribute [local go_sem ↓] Go.wp_at_zero Go.wp_at_succ

theorem nrm_m_le (neg : Bool) (m k : Nat) : (nrm neg m k).m ≤ m := by
  unfold nrm; split
  · exact Nat.zero_le _
  · exact Nat.div_le_self _ _
theorem mkD_m_le (neg : Bool) (m k : Nat) : (mkD neg m k).m ≤ m := by
  unfold mkD; split
  · exact nrm_m_le _ _ _
  · exact Nat.le_trans (nrm_m_le _ _ _) (Nat.div_le_self _ _)
theorem len_negD (d : DV) : len (negD d).m ≤ len d.m := len_mono (mkD_m_le _ _ _)
theorem Dy.of_on {w w0 : World} {d : DV} {A : Option Addr} {c b : Nat} (h : On w b A (len d.m) c (dg d.m)) (wf : d.ok) (hl : len d.m ≤ 16777216) (e : Ext w w0) : Dy w0 d.neg A (len d.m) c d.den d A c := (Dy.valid h.rd h.ok wf hl).ext e

theorem min_r {a b : DV} (h : 0 < cmpD a b) : minD a b = b := by unfold minD; rw [if_pos h]
theorem min_l {a b : DV} (h : ¬ 0 < cmpD a b) : minD a b = a := by unfold minD; rw [if_neg h]
theorem max_r {a b : DV} (h : cmpD a b < 0) : maxD a b = b := by unfold maxD; rw [if_pos h]
theorem max_l {a b : DV} (h : ¬ cmpD a b < 0) : maxD a b = a := by unfold maxD; rw [if_neg h]

end Go.Proofs.YtimpgdkeiopboaaGreatDoor
