/- Lean of the laws over ranges. -/
import Derived.Test.YtgnngldlgcdnfaaGreatDoorRga
namespace Go.Proofs.YtgnngldlgcdnfaaGreatDoor
open Go Go.RowKit
attribute [local go_sem ↓] Go.wp_at_zero Go.wp_at_succ

/-- Is it short enough for the laws? -/
def leK (r : RI) : Bool := decide ((r.lo.n : Int) ≤ 140) && (decide ((r.hi.n : Int) ≤ 140) && (decide (r.lo.den ≤ 9000) && decide (r.hi.den ≤ 9000)))
def leI (n : Nat) (R : Nat → RI) : Bool := allN n (fun i => leK (R i)) && decide (n ≤ 100)
set_option maxRecDepth 100000 in
set_option maxHeartbeats 4000000 in
theorem Lean_any {w : World} {A : Option Addr} {n c : Nat} {R : Nat → RI} (r : RnI w A n R) (hn : n ≤ maxLen) : Calls Tryz.prog 13 #[.slice A n c] w fun e w' => e = .returned (.bool (leI n R)) ∧ Ext w w' := by
  unfold maxLen at hn
  have R' := Lib.hid r; clear r
  obtain ⟨v, hv⟩ : ∃ v, leI n R = v := ⟨_, rfl⟩
  have HV := Lib.hid hv
  rw [hv]
  clear hv
  go_enter Tryz.func13, Tryz.ntmps13
  go_wp2
  go_loopw [7] (fun s wr => ∃ j : Nat, j ≤ n ∧ s = I j ∧ Ext w wr ∧ Hid (∀ i, i < j → leK (R i) = true)) (fun s _ => n - (intOf s).toNat)
  case atStart => exact ⟨0, Nat.zero_le _, rfl, Ext.refl _, fun i hi => absurd hi (by omega)⟩
  case round =>
    obtain ⟨j, hj, rfl, hx, HG⟩ := hrel
    by_cases hlt : j < n
    · obtain ⟨bs, os, rfl, hbs, hcs⟩ := R'.out.ext hx (by omega)
      obtain ⟨x0, x1, x2, x3, x4, x5⟩ := hcs j hlt
      have hlt' : (j : Int) < (n : Int) := by omega
      clear hcs
      have HF : Hid (leK (R j) = false → v = false) := fun h => by
        rw [← HV.out]; unfold leI
        rw [show allN n (fun i => leK (R i)) = false from allN_false.2 ⟨j, hlt, h⟩]; rfl
      have HG2 : Hid (leK (R j) = true → ∀ i, i < j + 1 → leK (R i) = true) := fun h i hi => by
        by_cases e : i = j
        · subst e; exact h
        · exact HG.out i (by omega)
      obtain ⟨rj, hrj⟩ : ∃ rj, R j = rj := ⟨_, rfl⟩
      rw [hrj] at HF HG2 x0 x1 x2 x3 x4 x5
      clear hrj
      obtain ⟨⟨n1, A1, k1, c1, d1⟩, ⟨n2, A2, k2, c2, d2⟩⟩ := rj
      simp only at x0 x1 x2 x3 x4 x5
      have key : leK ⟨⟨n1, A1, k1, c1, d1⟩, ⟨n2, A2, k2, c2, d2⟩⟩ = (decide ((k1 : Int) ≤ 140) && (decide ((k2 : Int) ≤ 140) && (decide (d1 ≤ 9000) && decide (d2 ≤ 9000)))) := rfl
      rw [key] at HF HG2
      clear key
      by_cases p1 : (140 : Int) < (k1 : Int)
      · have p1' : decide ((140 : Int) < (k1 : Int)) = true := decide_eq_true p1
        obtain rfl : v = false := HF.out (by simp only [Bool.and_eq_false_iff, decide_eq_false_iff_not]; omega)
        clear HF HG2 HV
        go_wp2
        go_ret
        exact ⟨by first | rfl | simp, hx.trans (Ext.alloc wr (.cells #[.bool n1, .slice A1 k1 c1, I d1, .bool n2, .slice A2 k2 c2, I d2] 58))⟩
      have p1' : decide ((140 : Int) < (k1 : Int)) = false := decide_eq_false p1
      by_cases p2 : (140 : Int) < (k2 : Int)
      · have p2' : decide ((140 : Int) < (k2 : Int)) = true := decide_eq_true p2
        obtain rfl : v = false := HF.out (by simp only [Bool.and_eq_false_iff, decide_eq_false_iff_not]; omega)
        clear HF HG2 HV
        go_wp2
        go_ret
        exact ⟨by first | rfl | simp, hx.trans (Ext.alloc wr (.cells #[.bool n1, .slice A1 k1 c1, I d1, .bool n2, .slice A2 k2 c2, I d2] 58))⟩
      have p2' : decide ((140 : Int) < (k2 : Int)) = false := decide_eq_false p2
      by_cases p3 : (9000 : Int) < d1
      · have p3' : decide ((9000 : Int) < d1) = true := decide_eq_true p3
        obtain rfl : v = false := HF.out (by simp only [Bool.and_eq_false_iff, decide_eq_false_iff_not]; omega)
        clear HF HG2 HV
        go_wp2
        go_ret
        exact ⟨by first | rfl | simp, hx.trans (Ext.alloc wr (.cells #[.bool n1, .slice A1 k1 c1, I d1, .bool n2, .slice A2 k2 c2, I d2] 58))⟩
      have p3' : decide ((9000 : Int) < d1) = false := decide_eq_false p3
      by_cases p4 : (9000 : Int) < d2
      · have p4' : decide ((9000 : Int) < d2) = true := decide_eq_true p4
        obtain rfl : v = false := HF.out (by simp only [Bool.and_eq_false_iff, decide_eq_false_iff_not]; omega)
        clear HF HG2 HV
        go_wp2
        go_ret
        exact ⟨by first | rfl | simp, hx.trans (Ext.alloc wr (.cells #[.bool n1, .slice A1 k1 c1, I d1, .bool n2, .slice A2 k2 c2, I d2] 58))⟩
      have p4' : decide ((9000 : Int) < d2) = false := decide_eq_false p4
      have HG3 := Lib.hid (HG2.out (by simp only [Bool.and_eq_true, decide_eq_true_eq]; omega))
      clear HF HG2
      go_wp2
      go_roundw
      case rel => exact ⟨j + 1, by omega, by go_num, hx.trans (Ext.alloc wr (.cells #[.bool n1, .slice A1 k1 c1, I d1, .bool n2, .slice A2 k2 c2, I d2] 58)), HG3⟩
      case measure => simp [intOf]; omega
    · obtain rfl : j = n := by omega
      have HE : Hid (decide ((j : Int) ≤ 100) = v) := by
        show _ = _
        rw [← HV.out]; unfold leI
        rw [allN_iff.2 HG.out, Bool.true_and]
        exact decide_eq_decide.2 (by omega)
      have HE1 := HE.out
      go_wp2
      go_ret
      exact ⟨by first | rfl | (rw [HE1]; rfl) | (simp [HE1]; done), hx⟩
end Go.Proofs.YtgnngldlgcdnfaaGreatDoor
