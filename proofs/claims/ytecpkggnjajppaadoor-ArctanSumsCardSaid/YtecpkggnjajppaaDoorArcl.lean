/- The law ArctanSums. -/
import Derived.Test.YtecpkggnjajppaaDoorArck
import Derived.Test.YtecpkggnjajppaaDoorArcp
namespace Go.Proofs.YtecpkggnjajppaaDoor
open Go.RowKit

theorem quo_bd {P : Int} (h : -1099511627776 ≤ P ∧ P ≤ 1099511627776) : -1099511627776 ≤ P.tdiv 32768 ∧ P.tdiv 32768 ≤ 1099511627776 := by
  obtain ⟨r, e, r0, r1⟩ := quo_part P; omega
theorem mul30 {c x : Int} (hc : -32768 ≤ c ∧ c ≤ 32768) (hx : -1073741824 ≤ x ∧ x ≤ 1073741824) : -35184372088832 ≤ c * x ∧ c * x ≤ 35184372088832 := by
  have : (c * x).natAbs ≤ 32768 * 1073741824 := by rw [Int.natAbs_mul]; exact Nat.mul_le_mul (by omega) (by omega)
  omega
theorem quo_bd' {P : Int} (h : -70368744177664 ≤ P ∧ P ≤ 70368744177664) : -1099511627776 ≤ P.tdiv 32768 ∧ P.tdiv 32768 ≤ 1099511627776 := by
  obtain ⟨r, e, r0, r1⟩ := quo_part P; omega

def mx4 (a b c d : Int) : Int := if d > (if c > (if b > a then b else a) then c else (if b > a then b else a)) then d else (if c > (if b > a then b else a) then c else (if b > a then b else a))
theorem run_max4 {P : Program} (ts : Array TypeId) (t : TypeId) (a b c d : Int) (w : World) : (Builtin.max_ ts t #[I a, I b, I c, I d]).run P w = .ok (I (mx4 a b c d)) w := by
  simp [Builtin.max_, Builtin.max2, mx4]
theorem mx4_lt (x y : Int) : mx4 x (-x) y (-y) < 1048576 ↔ ¬ (1048576 ≤ x ∨ x ≤ -1048576 ∨ 1048576 ≤ y ∨ y ≤ -1048576) := by
  unfold mx4; (repeat' split) <;> omega

set_option maxRecDepth 100000 in
set_option maxHeartbeats 1000000 in
theorem sums_of (x y a X Y c s A B z P Q p1 p2 p3 p4 N : Int) (w : World) (hT : TabS w) (h1 : clp x (-1073741824) 1073741824 = X) (h2 : clp y (-1073741824) 1073741824 = Y) (hc : cs a = c) (hs : sn a = s)
    (e1 : c * X = p1) (e2 : s * Y = p2) (e3 : s * X = p3) (e4 : c * Y = p4) (eP : (p1 - p2).tdiv 32768 = P) (eQ : (p3 + p4).tdiv 32768 = Q) (hA : ang X Y = A) (hB : ang P Q = B) (hN : nrm a = N) (hz : dff B (A + N) = z) :
    Calls Tryd.prog 11 #[I x, I y, I a] w fun e w' => e = .returned (.bool true) ∧ Ext w w' := by
  have b1 := clp_bd x (-1073741824) 1073741824 (by omega)
  have b2 := clp_bd y (-1073741824) 1073741824 (by omega)
  have C1 := Lib.hid (clip_to x (-1073741824) 1073741824 X (by omega) h1)
  have C2 := Lib.hid (clip_to y (-1073741824) 1073741824 Y (by omega) h2)
  rw [h1] at b1; rw [h2] at b2
  have HT := Lib.hid hT
  clear hT h1 h2
  have bc := cs_bd a
  have bs := sn_bd a
  have q1 := mul30 bc b1
  have q2 := mul30 bs b2
  have q3 := mul30 bs b1
  have q4 := mul30 bc b2
  rw [hc] at q1 q4; rw [hs] at q2 q3
  rw [e1] at q1; rw [e2] at q2; rw [e3] at q3; rw [e4] at q4
  have r1 := quo_bd' (P := p1 - p2) (by omega)
  have r2 := quo_bd' (P := p3 + p4) (by omega)
  rw [eP] at r1; rw [eQ] at r2
  have HL : 1048576 ≤ X ∨ X ≤ -1048576 ∨ 1048576 ≤ Y ∨ Y ≤ -1048576 → -3 ≤ z ∧ z ≤ 3 := fun hl => by
    have := sums_law (a := a) b1 b2 hl
    rw [hc, hs, e1, e2, e3, e4, eP, eQ, hB, hA, hN, hz] at this
    exact this (not_big r1 r2)
  have HA := Lib.hid (ang_val X Y A (in63 (by omega)) (in63 (by omega)) hA)
  have HB := Lib.hid (ang_val P Q B (in63 (by omega)) (in63 (by omega)) hB)
  have HC := Lib.hid (rboth_to a c s hc hs)
  have HN := Lib.hid (norm_to a N hN)
  have HD : Hid (∀ w, Calls Tryd.prog 23 #[I B, I (A + N)] w fun e w' => e = .returned (I z) ∧ Ext w w') := fun w => by rw [← hz]; exact rdiff_any B (A + N) w
  have a0 := ang_bd X Y
  have n0 := nrm_bd a
  rw [hA] at a0; rw [hN] at n0
  clear hA hB hN hz hc hs bc bs
  have hM := fun w => run_max4 (P := Tryd.prog) #[ 3, 3, 3, 3 ] 3 X (-X) Y (-Y) w
  have hm := mx4_lt X Y
  generalize mx4 X (-X) Y (-Y) = m at *
  by_cases hl : 1048576 ≤ X ∨ X ≤ -1048576 ∨ 1048576 ≤ Y ∨ Y ≤ -1048576
  · obtain ⟨z0, z1⟩ := HL hl
    have hm' : ¬ m < 1048576 := fun k => hm.mp k hl
    clear HL hm hl
    go_enter Tryd.func11, Tryd.ntmps11
    go_wp2_with (first
      | (go_at_call 12; refine (awake_any _ HT.out).mono ?_; rintro e w1 ⟨rfl, hb1⟩; (first | replace hb := Ext.trans hb hb1 | replace hb := Ext.trans (Ext.trans hb (Ext.drewN _ _)) hb1 | replace hb := Ext.trans (Ext.trans hb (Ext.alloc _ _)) hb1 | have hb := hb1); clear hb1; obtain ⟨hc1, hf1⟩ := hb.old)
      | (go_at_call 21; (first | (with_reducible refine (C1.out _).mono ?_) | (with_reducible refine (C2.out _).mono ?_)); rintro e w2 ⟨rfl, hb1⟩; replace hb := Ext.trans hb hb1; clear hb1)
      | (go_at_call 22; (with_reducible refine (HC.out _).mono ?_); rintro e w2 ⟨rfl, hb1⟩; replace hb := Ext.trans hb hb1; clear hb1)
      | (go_at_call 13; (first | (with_reducible refine (HA.out _ (HT.out.ext hb)).mono ?_) | (with_reducible refine (HB.out _ (HT.out.ext hb)).mono ?_)); rintro e w2 ⟨rfl, hb1⟩; replace hb := Ext.trans hb hb1; clear hb1)
      | (go_at_call 20; (with_reducible refine (HN.out _).mono ?_); rintro e w2 ⟨rfl, hb1⟩; replace hb := Ext.trans hb hb1; clear hb1)
      | (go_at_call 23; (with_reducible refine (HD.out _).mono ?_); rintro e w2 ⟨rfl, hb1⟩; replace hb := Ext.trans hb hb1; clear hb1))
    go_ret
    exact ⟨rfl, hb⟩
  · have hm' : m < 1048576 := hm.mpr hl
    clear HL hm hl HB HN HD
    go_enter Tryd.func11, Tryd.ntmps11
    go_wp2_with (first
      | (go_at_call 12; refine (awake_any _ HT.out).mono ?_; rintro e w1 ⟨rfl, hb1⟩; (first | replace hb := Ext.trans hb hb1 | replace hb := Ext.trans (Ext.trans hb (Ext.drewN _ _)) hb1 | replace hb := Ext.trans (Ext.trans hb (Ext.alloc _ _)) hb1 | have hb := hb1); clear hb1; obtain ⟨hc1, hf1⟩ := hb.old)
      | (go_at_call 21; (first | (with_reducible refine (C1.out _).mono ?_) | (with_reducible refine (C2.out _).mono ?_)); rintro e w2 ⟨rfl, hb1⟩; replace hb := Ext.trans hb hb1; clear hb1))
    go_ret
    exact ⟨rfl, hb⟩
theorem sums_law' (x y a : Int) (w : World) (hT : TabS w) : Calls Tryd.prog 11 #[I x, I y, I a] w fun e w' => e = .returned (.bool true) ∧ Ext w w' :=
  sums_of x y a _ _ _ _ _ _ _ _ _ _ _ _ _ _ w hT rfl rfl rfl rfl rfl rfl rfl rfl rfl rfl rfl rfl rfl rfl
end Go.Proofs.YtecpkggnjajppaaDoor
