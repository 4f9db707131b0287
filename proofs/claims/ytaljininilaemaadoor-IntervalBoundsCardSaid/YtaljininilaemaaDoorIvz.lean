/- The law IntervalBounds. -/
import Derived.Test.YtaljininilaemaaDoorIvw
import Derived.Test.YtaljininilaemaaDoorIvf
import Derived.Test.YtaljininilaemaaDoorIvin
import Derived.Test.YtaljininilaemaaDoorIvme
import Derived.Deep.RegionHeld3
import Derived.Deep.DeepCutAuto
namespace Go.Proofs.YtaljininilaemaaDoor
open Go.RowKit
attribute [local go_sem ↓] Go.wp_at_zero Go.wp_at_succ

/-! ### Mathematics -/
theorem conB_iff {a b x : DV} (ha : a.ok) (hb : b.ok) (hx : x.ok) : conB a b x = true ↔ a.q ≤ x.q ∧ x.q ≤ b.q := by
  unfold conB; rw [Bool.and_eq_true, decide_eq_true_eq, decide_eq_true_eq, cmp_le ha hx, cmp_le hx hb]
theorem insB_iff {a b x y : DV} (ha : a.ok) (hb : b.ok) (hx : x.ok) (hy : y.ok) : insB a b x y = true ↔ (x.q ≤ a.q ∧ a.q ≤ y.q) ∧ (x.q ≤ b.q ∧ b.q ≤ y.q) := by
  unfold insB; rw [Bool.and_eq_true, conB_iff hx hy ha, conB_iff hx hy hb]
theorem hull_in {a b x y : DV} (ha : a.ok) (hb : b.ok) (hx : x.ok) (hy : y.ok) : insB a b (lo4 a b x y) (hi4 a b x y) = true ∧ insB x y (lo4 a b x y) (hi4 a b x y) = true := by
  have h1 := q_lo4 ha hb hx hy
  have h2 := q_hi4 ha hb hx hy
  rw [insB_iff ha hb (lo4_ok ha hb hx hy) (hi4_ok ha hb hx hy), insB_iff hx hy (lo4_ok ha hb hx hy) (hi4_ok ha hb hx hy), h1, h2]
  unfold mnQ mxQ
  grind
theorem hull_least {a b x y u v : DV} (ha : a.ok) (hb : b.ok) (hx : x.ok) (hy : y.ok) (hu : u.ok) (hv : v.ok) (h : insB a b u v = true) : insB x y u v = insB (lo4 a b x y) (hi4 a b x y) u v := by
  have h1 := q_lo4 ha hb hx hy
  have h2 := q_hi4 ha hb hx hy
  rw [Bool.eq_iff_iff, insB_iff hx hy hu hv, insB_iff (lo4_ok ha hb hx hy) (hi4_ok ha hb hx hy) hu hv, h1, h2]
  rw [insB_iff ha hb hu hv] at h
  unfold mnQ mxQ
  grind
theorem apart_iff {a b x y : DV} (ha : a.ok) (hb : b.ok) (hx : x.ok) (hy : y.ok) (l1 : a.q ≤ b.q) (l2 : x.q ≤ y.q) : 0 < cmpD (maxD a x) (minD b y) ↔ cmpD b x < 0 ∨ cmpD y a < 0 := by
  rw [cmp_lt0 hb hx, cmp_lt0 hy ha, ← Int.not_le, cmp_le (maxD_ok ha hx) (minD_ok hb hy), q_max ha hx, q_min hb hy]
  unfold mnQ mxQ
  grind
theorem meet_in {a b x y : DV} (ha : a.ok) (hb : b.ok) (hx : x.ok) (hy : y.ok) (l1 : a.q ≤ b.q) (l2 : x.q ≤ y.q) (h : ¬ 0 < cmpD (maxD a x) (minD b y)) :
    insB (lo2 (maxD a x) (minD b y)) (hi2 (maxD a x) (minD b y)) a b = true ∧ insB (lo2 (maxD a x) (minD b y)) (hi2 (maxD a x) (minD b y)) x y = true := by
  have ho := maxD_ok ha hx
  have hp := minD_ok hb hy
  have h' := (cmp_le ho hp).1 (Int.not_lt.1 h)
  rw [q_max ha hx, q_min hb hy] at h'
  rw [insB_iff (lo2_ok ho hp) (hi2_ok ho hp) ha hb, insB_iff (lo2_ok ho hp) (hi2_ok ho hp) hx hy, q_lo2 ho hp, q_hi2 ho hp, q_max ha hx, q_min hb hy]
  unfold mnQ mxQ at *
  grind
theorem meet_great {a b x y u v : DV} (ha : a.ok) (hb : b.ok) (hx : x.ok) (hy : y.ok) (hu : u.ok) (hv : v.ok) (l1 : a.q ≤ b.q) (l2 : x.q ≤ y.q) (l3 : u.q ≤ v.q) (h : ¬ 0 < cmpD (maxD a x) (minD b y)) :
    (insB u v a b && insB u v x y) = insB u v (lo2 (maxD a x) (minD b y)) (hi2 (maxD a x) (minD b y)) := by
  have ho := maxD_ok ha hx
  have hp := minD_ok hb hy
  have h' := (cmp_le ho hp).1 (Int.not_lt.1 h)
  rw [q_max ha hx, q_min hb hy] at h'
  rw [Bool.eq_iff_iff, Bool.and_eq_true, insB_iff hu hv ha hb, insB_iff hu hv hx hy, insB_iff hu hv (lo2_ok ho hp) (hi2_ok ho hp), q_lo2 ho hp, q_hi2 ho hp, q_max ha hx, q_min hb hy]
  unfold mnQ mxQ at *
  grind

theorem ivs3 (w : World) (g : Nat) (hg : w.heap.size = g) {n1 n2 n3 n4 n5 n6 : Bool} {A B X Y U V : Option Addr} {k1 c1 k2 c2 k3 c3 k4 c4 k5 c5 k6 c6 : Nat} {d1 d2 d3 d4 d5 d6 : Int} (t : TypeId) :
    Ivs (w.alloc (.cells #[.bool n1, .slice A k1 c1, I d1, .bool n2, .slice B k2 c2, I d2, .bool n3, .slice X k3 c3, I d3, .bool n4, .slice Y k4 c4, I d4, .bool n5, .slice U k5 c5, I d5, .bool n6, .slice V k6 c6, I d6] t)) g 3 (fun i => if i = 0 then n1 else if i = 1 then n3 else n5) (fun i => if i = 0 then A else if i = 1 then X else U) (fun i => if i = 0 then k1 else if i = 1 then k3 else k5) (fun i => if i = 0 then c1 else if i = 1 then c3 else c5) (fun i => if i = 0 then d1 else if i = 1 then d3 else d5) (fun i => if i = 0 then n2 else if i = 1 then n4 else n6) (fun i => if i = 0 then B else if i = 1 then Y else V) (fun i => if i = 0 then k2 else if i = 1 then k4 else k6) (fun i => if i = 0 then c2 else if i = 1 then c4 else c6) (fun i => if i = 0 then d2 else if i = 1 then d4 else d6) := by
  subst hg
  intro i hi
  have : i = 0 ∨ i = 1 ∨ i = 2 := by omega
  rcases this with rfl | rfl | rfl
  · exact ⟨by go_simp, by go_simp, by go_simp, by go_simp, by go_simp, by go_simp⟩
  · exact ⟨by go_simp, by go_simp, by go_simp, by go_simp, by go_simp, by go_simp⟩
  · exact ⟨by go_simp, by go_simp, by go_simp, by go_simp, by go_simp, by go_simp⟩


set_option maxRecDepth 100000 in
set_option maxHeartbeats 1000000 in
theorem bounds_off {w : World} {n1 n2 n3 n4 n5 n6 : Bool} {A B X Y U V : Option Addr} {k1 c1 k2 c2 k3 c3 k4 c4 k5 c5 k6 c6 : Nat} {d1 d2 d3 d4 d5 d6 : Int} (hT : Tabs w) (hP : TabP w) (h : ¬ (∀ i, i < 3 → shOk (if i = 0 then k1 else if i = 1 then k3 else k5) (if i = 0 then d1 else if i = 1 then d3 else d5) ∧ shOk (if i = 0 then k2 else if i = 1 then k4 else k6) (if i = 0 then d2 else if i = 1 then d4 else d6))) :
    Calls Tryd.prog 6 #[iv n1 A k1 c1 d1 n2 B k2 c2 d2, iv n3 X k3 c3 d3 n4 Y k4 c4 d4, iv n5 U k5 c5 d5 n6 V k6 c6 d6] w fun e w' => e = .returned (.bool true) ∧ Ext w w' := by
  have HT := Lib.hid hT; have HP := Lib.hid hP; clear hT hP
  have HFW : Hid (false = true ↔ (∀ i, i < 3 → shOk (if i = 0 then k1 else if i = 1 then k3 else k5) (if i = 0 then d1 else if i = 1 then d3 else d5) ∧ shOk (if i = 0 then k2 else if i = 1 then k4 else k6) (if i = 0 then d2 else if i = 1 then d4 else d6))) := ⟨fun h => (by cases h), fun hh => absurd hh h⟩
  clear h
  go_enter Tryd.func6, Tryd.ntmps6
  go_wp2_with fail
  have HN : Hid (Ivs ((((w.alloc (.cells #[.bool n1, .slice A k1 c1, I d1, .bool n2, .slice B k2 c2, I d2] 49)).alloc (.cells #[.bool n3, .slice X k3 c3, I d3, .bool n4, .slice Y k4 c4, I d4] 49)).alloc (.cells #[.bool n5, .slice U k5 c5, I d5, .bool n6, .slice V k6 c6, I d6] 49)).alloc (.cells #[.bool n1, .slice A k1 c1, I d1, .bool n2, .slice B k2 c2, I d2, .bool n3, .slice X k3 c3, I d3, .bool n4, .slice Y k4 c4, I d4, .bool n5, .slice U k5 c5, I d5, .bool n6, .slice V k6 c6, I d6] 49)) (w.heap.size + 1 + 1 + 1) 3 (fun i => if i = 0 then n1 else if i = 1 then n3 else n5) (fun i => if i = 0 then A else if i = 1 then X else U) (fun i => if i = 0 then k1 else if i = 1 then k3 else k5) (fun i => if i = 0 then c1 else if i = 1 then c3 else c5) (fun i => if i = 0 then d1 else if i = 1 then d3 else d5) (fun i => if i = 0 then n2 else if i = 1 then n4 else n6) (fun i => if i = 0 then B else if i = 1 then Y else V) (fun i => if i = 0 then k2 else if i = 1 then k4 else k6) (fun i => if i = 0 then c2 else if i = 1 then c4 else c6) (fun i => if i = 0 then d2 else if i = 1 then d4 else d6)) := ivs3 (((w.alloc (.cells #[.bool n1, .slice A k1 c1, I d1, .bool n2, .slice B k2 c2, I d2] 49)).alloc (.cells #[.bool n3, .slice X k3 c3, I d3, .bool n4, .slice Y k4 c4, I d4] 49)).alloc (.cells #[.bool n5, .slice U k5 c5, I d5, .bool n6, .slice V k6 c6, I d6] 49)) (w.heap.size + 1 + 1 + 1) (by simp) 49
  with_reducible refine (ifew_any HN.out (by simp) (by omega) HFW.out).mono ?_
  rintro e wf ⟨rfl, hx⟩
  have HEF : Hid (Ext w wf) := ((((Ext.alloc _ _).trans (Ext.alloc _ _)).trans (Ext.alloc _ _)).trans (Ext.alloc _ _)).trans hx
  clear hx HN HFW
  go_wp2_with fail
  refine (iawake_any _ (HT.out.ext HEF.out) (HP.out.ext HEF.out)).mono ?_
  rintro e w0 ⟨rfl, hx⟩
  have HEW := Lib.hid (HEF.out.trans hx)
  clear hx
  go_wp2_with fail
  go_ret
  exact ⟨rfl, HEW.out⟩

end Go.Proofs.YtaljininilaemaaDoor
