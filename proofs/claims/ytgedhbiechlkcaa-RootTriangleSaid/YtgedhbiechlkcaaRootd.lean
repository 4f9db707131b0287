/- Contracts of package root: the functions for vectors. -/
import Derived.Test.YtgedhbiechlkcaaRootc
namespace Go.Proofs.Ytgedhbiechlkcaa
open Go.RowKit

theorem sq_bd {x : Int} (h : okS x) : 0 ≤ x * x ∧ x * x ≤ 1152921504606846976 := by
  obtain ⟨h1, h2⟩ := h
  refine ⟨by have := Int.natAbs_mul_self (a := x); omega, ?_⟩
  have h : (x * x).natAbs ≤ 1073741824 * 1073741824 := by
    rw [Int.natAbs_mul]; exact Nat.mul_le_mul (by omega) (by omega)
  omega
theorem mul_bd {x y : Int} (h : okS x) (k : okS y) : -1152921504606846976 ≤ x * y ∧ x * y ≤ 1152921504606846976 := by
  obtain ⟨h1, h2⟩ := h
  obtain ⟨k1, k2⟩ := k
  have h : (x * y).natAbs ≤ 1073741824 * 1073741824 := by
    rw [Int.natAbs_mul]; exact Nat.mul_le_mul (by omega) (by omega)
  omega
theorem tdiv_bd {a l B : Int} (h0 : -B ≤ a) (h1 : a ≤ B) : -B ≤ a.tdiv l ∧ a.tdiv l ≤ B := by
  have h : (a.tdiv l).natAbs ≤ a.natAbs := by rw [Int.natAbs_tdiv]; exact Nat.div_le_self _ _
  omega
def lenF (x y : Int) : Int × Int := if okS x ∧ okS y then (rt (x * x + y * y), 0) else (0, 3)
def abvF (x y : Int) : Int × Int := if okS x ∧ okS y then (up (x * x + y * y), 0) else (0, 3)
def rstF (m d : Int) : Int × Int := if okS m ∧ okS d then (if m < d ∨ m < -d then (0, 3) else (rt (m * m - d * d), 0)) else (0, 3)
def wiF (x y m : Int) : Bool × Int := if okS x ∧ okS y ∧ okS m then (if m < 0 then (false, 3) else (decide (x * x + y * y ≤ m * m), 0)) else (false, 3)
def scF (x y m : Int) : Int × Int × Bool × Int :=
  if (wiF x y m).2 = 0 then (if (wiF x y m).1 = true then (x, y, false, 0) else ((x * m).tdiv (up (x * x + y * y)), (y * m).tdiv (up (x * x + y * y)), true, 0)) else (0, 0, false, 3)
abbrev res2 (r : Int × Int) : Value := .tuple #[I r.1, errv r.2]
abbrev ref2 (r : Int × Int) : Value := .tuple #[I r.1, I r.2]
abbrev resW (r : Bool × Int) : Value := .tuple #[.bool r.1, errv r.2]
abbrev refW (r : Bool × Int) : Value := .tuple #[.bool r.1, I r.2]
abbrev resS (r : Int × Int × Bool × Int) : Value := .tuple #[I r.1, I r.2.1, .bool r.2.2.1, errv r.2.2.2]
abbrev refS (r : Int × Int × Bool × Int) : Value := .tuple #[I r.1, I r.2.1, .bool r.2.2.1, I r.2.2.2]
theorem len_ok {x y : Int} (h : okS x ∧ okS y) : lenF x y = (rt (x * x + y * y), 0) := by unfold lenF; rw [if_pos h]
theorem len_bad {x y : Int} (h : ¬ (okS x ∧ okS y)) : lenF x y = (0, 3) := by unfold lenF; rw [if_neg h]
theorem abv_ok {x y : Int} (h : okS x ∧ okS y) : abvF x y = (up (x * x + y * y), 0) := by unfold abvF; rw [if_pos h]
theorem abv_bad {x y : Int} (h : ¬ (okS x ∧ okS y)) : abvF x y = (0, 3) := by unfold abvF; rw [if_neg h]
theorem rst_ok {m d : Int} (h : okS m ∧ okS d) (k : ¬ (m < d ∨ m < -d)) : rstF m d = (rt (m * m - d * d), 0) := by unfold rstF; rw [if_pos h, if_neg k]
theorem rst_far {m d : Int} (h : okS m ∧ okS d) (k : m < d ∨ m < -d) : rstF m d = (0, 3) := by unfold rstF; rw [if_pos h, if_pos k]
theorem rst_bad {m d : Int} (h : ¬ (okS m ∧ okS d)) : rstF m d = (0, 3) := by unfold rstF; rw [if_neg h]
theorem wi_ok {x y m : Int} (h : okS x ∧ okS y ∧ okS m) (k : ¬ m < 0) : wiF x y m = (decide (x * x + y * y ≤ m * m), 0) := by unfold wiF; rw [if_pos h, if_neg k]
theorem wi_neg {x y m : Int} (h : okS x ∧ okS y ∧ okS m) (k : m < 0) : wiF x y m = (false, 3) := by unfold wiF; rw [if_pos h, if_pos k]
theorem wi_bad {x y m : Int} (h : ¬ (okS x ∧ okS y ∧ okS m)) : wiF x y m = (false, 3) := by unfold wiF; rw [if_neg h]
theorem errv0 : errv 0 = .nilIface := rfl
theorem errv3 : errv 3 = .iface 50 (I 3) := rfl

/-- The sizes of two, of three numbers, as the walk asks for them. -/
theorem sizes2_ok {x y : Int} (h : okS x ∧ okS y) {w : World} {b : Nat} (h0 : w.cell? ⟨b, 0, none⟩ = some (I x)) (h1 : w.cell? ⟨b, 1, none⟩ = some (I y)) :
    Calls Try.prog 28 #[.slice (some ⟨b, 0, none⟩) 2 2] w fun e w' => e = .returned .nilIface ∧ Ext w w' := by
  have := sizes2 x y h0 h1; rw [if_pos h] at this; exact this
theorem sizes2_bad {x y : Int} (h : ¬ (okS x ∧ okS y)) {w : World} {b : Nat} (h0 : w.cell? ⟨b, 0, none⟩ = some (I x)) (h1 : w.cell? ⟨b, 1, none⟩ = some (I y)) :
    Calls Try.prog 28 #[.slice (some ⟨b, 0, none⟩) 2 2] w fun e w' => e = .returned (.iface 50 (I 3)) ∧ Ext w w' := by
  have := sizes2 x y h0 h1; rw [if_neg h] at this; exact this
theorem small2_ok {x y : Int} (h : okS x ∧ okS y) {w : World} {b : Nat} (h0 : w.cell? ⟨b, 0, none⟩ = some (I x)) (h1 : w.cell? ⟨b, 1, none⟩ = some (I y)) :
    Calls Try.prog 29 #[.slice (some ⟨b, 0, none⟩) 2 2] w fun e w' => e = .returned (.bool true) ∧ Ext w w' := by
  have := small2 x y h0 h1; rw [decide_eq_true h] at this; exact this
theorem small2_bad {x y : Int} (h : ¬ (okS x ∧ okS y)) {w : World} {b : Nat} (h0 : w.cell? ⟨b, 0, none⟩ = some (I x)) (h1 : w.cell? ⟨b, 1, none⟩ = some (I y)) :
    Calls Try.prog 29 #[.slice (some ⟨b, 0, none⟩) 2 2] w fun e w' => e = .returned (.bool false) ∧ Ext w w' := by
  have := small2 x y h0 h1; rw [decide_eq_false h] at this; exact this
theorem sizes3_ok {x y z : Int} (h : okS x ∧ okS y ∧ okS z) {w : World} {b : Nat} (h0 : w.cell? ⟨b, 0, none⟩ = some (I x)) (h1 : w.cell? ⟨b, 1, none⟩ = some (I y)) (h2 : w.cell? ⟨b, 2, none⟩ = some (I z)) :
    Calls Try.prog 28 #[.slice (some ⟨b, 0, none⟩) 3 3] w fun e w' => e = .returned .nilIface ∧ Ext w w' := by
  have := sizes3 x y z h0 h1 h2; rw [if_pos h] at this; exact this
theorem sizes3_bad {x y z : Int} (h : ¬ (okS x ∧ okS y ∧ okS z)) {w : World} {b : Nat} (h0 : w.cell? ⟨b, 0, none⟩ = some (I x)) (h1 : w.cell? ⟨b, 1, none⟩ = some (I y)) (h2 : w.cell? ⟨b, 2, none⟩ = some (I z)) :
    Calls Try.prog 28 #[.slice (some ⟨b, 0, none⟩) 3 3] w fun e w' => e = .returned (.iface 50 (I 3)) ∧ Ext w w' := by
  have := sizes3 x y z h0 h1 h2; rw [if_neg h] at this; exact this
theorem small3_ok {x y z : Int} (h : okS x ∧ okS y ∧ okS z) {w : World} {b : Nat} (h0 : w.cell? ⟨b, 0, none⟩ = some (I x)) (h1 : w.cell? ⟨b, 1, none⟩ = some (I y)) (h2 : w.cell? ⟨b, 2, none⟩ = some (I z)) :
    Calls Try.prog 29 #[.slice (some ⟨b, 0, none⟩) 3 3] w fun e w' => e = .returned (.bool true) ∧ Ext w w' := by
  have := small3 x y z h0 h1 h2; rw [decide_eq_true h] at this; exact this
theorem small3_bad {x y z : Int} (h : ¬ (okS x ∧ okS y ∧ okS z)) {w : World} {b : Nat} (h0 : w.cell? ⟨b, 0, none⟩ = some (I x)) (h1 : w.cell? ⟨b, 1, none⟩ = some (I y)) (h2 : w.cell? ⟨b, 2, none⟩ = some (I z)) :
    Calls Try.prog 29 #[.slice (some ⟨b, 0, none⟩) 3 3] w fun e w' => e = .returned (.bool false) ∧ Ext w w' := by
  have := small3 x y z h0 h1 h2; rw [decide_eq_false h] at this; exact this

set_option maxRecDepth 100000 in
set_option maxHeartbeats 1000000 in
theorem length_any (x y : Int) (w : World) : Calls Try.prog 16 #[I x, I y] w fun e w' => e = .returned (res2 (lenF x y)) ∧ Ext w w' := by
  by_cases hs : okS x ∧ okS y
  · have HR := Lib.hid (len_ok hs)
    obtain ⟨x0, x1⟩ := sq_bd hs.1
    obtain ⟨y0, y1⟩ := sq_bd hs.2
    have HS := Lib.hid hs; clear hs
    have HB := Lib.hid (fun w => sqrt_any (x * x + y * y) w (by omega))
    go_enter Try.func16, Try.ntmps16
    go_wp2_with (first
      | (go_at_call 28; refine (sizes2_ok HS.out (by go_simp) (by go_simp)).mono ?_; rintro e w1 ⟨rfl, hb1⟩; (first | replace hb := Ext.trans hb hb1 | replace hb := Ext.trans (Ext.trans hb (Ext.drewN _ _)) hb1 | replace hb := Ext.trans (Ext.trans hb (Ext.alloc _ _)) hb1 | have hb := hb1); clear hb1; obtain ⟨hc1, hf1⟩ := hb.old)
      | (go_at_call 12; refine (HB.out _).mono ?_; rintro e w1 ⟨rfl, hb1⟩; (first | replace hb := Ext.trans hb hb1 | replace hb := Ext.trans (Ext.trans hb (Ext.drewN _ _)) hb1 | replace hb := Ext.trans (Ext.trans hb (Ext.alloc _ _)) hb1 | have hb := hb1); clear hb1; obtain ⟨hc1, hf1⟩ := hb.old))
    go_ret2
    exact ⟨by rw [HR.out]; rfl, (by repeat (first | exact Ext.refl _ | assumption | exact Ext.alloc _ _ | refine Ext.trans ?_ (by assumption) | refine Ext.trans ?_ (Ext.alloc _ _) | refine Ext.trans ?_ (Ext.drewN _ _) | refine Ext.trans ?_ (Ext.drew _)))⟩
  · have HR := Lib.hid (len_bad hs)
    have HS := Lib.hid hs; clear hs
    go_enter Try.func16, Try.ntmps16
    go_wp2_with (first | (go_at_call 28; refine (sizes2_bad HS.out (by go_simp) (by go_simp)).mono ?_; rintro e w1 ⟨rfl, hb1⟩; (first | replace hb := Ext.trans hb hb1 | replace hb := Ext.trans (Ext.trans hb (Ext.drewN _ _)) hb1 | replace hb := Ext.trans (Ext.trans hb (Ext.alloc _ _)) hb1 | have hb := hb1); clear hb1; obtain ⟨hc1, hf1⟩ := hb.old))
    go_ret2
    exact ⟨by rw [HR.out]; rfl, (by repeat (first | exact Ext.refl _ | assumption | exact Ext.alloc _ _ | refine Ext.trans ?_ (by assumption) | refine Ext.trans ?_ (Ext.alloc _ _) | refine Ext.trans ?_ (Ext.drewN _ _) | refine Ext.trans ?_ (Ext.drew _)))⟩

set_option maxRecDepth 100000 in
set_option maxHeartbeats 1000000 in
theorem above_any (x y : Int) (w : World) : Calls Try.prog 17 #[I x, I y] w fun e w' => e = .returned (res2 (abvF x y)) ∧ Ext w w' := by
  by_cases hs : okS x ∧ okS y
  · have HR := Lib.hid (abv_ok hs)
    obtain ⟨x0, x1⟩ := sq_bd hs.1
    obtain ⟨y0, y1⟩ := sq_bd hs.2
    have HS := Lib.hid hs; clear hs
    have HB := Lib.hid (fun w => up_any (x * x + y * y) w (by omega))
    go_enter Try.func17, Try.ntmps17
    go_wp2_with (first
      | (go_at_call 28; refine (sizes2_ok HS.out (by go_simp) (by go_simp)).mono ?_; rintro e w1 ⟨rfl, hb1⟩; (first | replace hb := Ext.trans hb hb1 | replace hb := Ext.trans (Ext.trans hb (Ext.drewN _ _)) hb1 | replace hb := Ext.trans (Ext.trans hb (Ext.alloc _ _)) hb1 | have hb := hb1); clear hb1; obtain ⟨hc1, hf1⟩ := hb.old)
      | (go_at_call 14; refine (HB.out _).mono ?_; rintro e w1 ⟨rfl, hb1⟩; (first | replace hb := Ext.trans hb hb1 | replace hb := Ext.trans (Ext.trans hb (Ext.drewN _ _)) hb1 | replace hb := Ext.trans (Ext.trans hb (Ext.alloc _ _)) hb1 | have hb := hb1); clear hb1; obtain ⟨hc1, hf1⟩ := hb.old))
    go_ret2
    exact ⟨by rw [HR.out]; rfl, (by repeat (first | exact Ext.refl _ | assumption | exact Ext.alloc _ _ | refine Ext.trans ?_ (by assumption) | refine Ext.trans ?_ (Ext.alloc _ _) | refine Ext.trans ?_ (Ext.drewN _ _) | refine Ext.trans ?_ (Ext.drew _)))⟩
  · have HR := Lib.hid (abv_bad hs)
    have HS := Lib.hid hs; clear hs
    go_enter Try.func17, Try.ntmps17
    go_wp2_with (first | (go_at_call 28; refine (sizes2_bad HS.out (by go_simp) (by go_simp)).mono ?_; rintro e w1 ⟨rfl, hb1⟩; (first | replace hb := Ext.trans hb hb1 | replace hb := Ext.trans (Ext.trans hb (Ext.drewN _ _)) hb1 | replace hb := Ext.trans (Ext.trans hb (Ext.alloc _ _)) hb1 | have hb := hb1); clear hb1; obtain ⟨hc1, hf1⟩ := hb.old))
    go_ret2
    exact ⟨by rw [HR.out]; rfl, (by repeat (first | exact Ext.refl _ | assumption | exact Ext.alloc _ _ | refine Ext.trans ?_ (by assumption) | refine Ext.trans ?_ (Ext.alloc _ _) | refine Ext.trans ?_ (Ext.drewN _ _) | refine Ext.trans ?_ (Ext.drew _)))⟩

set_option maxRecDepth 100000 in
set_option maxHeartbeats 1000000 in
theorem rlength_any (x y : Int) (w : World) : Calls Try.prog 18 #[I x, I y] w fun e w' => e = .returned (ref2 (lenF x y)) ∧ Ext w w' := by
  by_cases hs : okS x ∧ okS y
  · have HR := Lib.hid (len_ok hs)
    obtain ⟨x0, x1⟩ := sq_bd hs.1
    obtain ⟨y0, y1⟩ := sq_bd hs.2
    have HS := Lib.hid hs; clear hs
    have HB := Lib.hid (fun w => rsqrt_any (x * x + y * y) w (by omega))
    go_enter Try.func18, Try.ntmps18
    go_wp2_with (first
      | (go_at_call 29; refine (small2_ok HS.out (by go_simp) (by go_simp)).mono ?_; rintro e w1 ⟨rfl, hb1⟩; (first | replace hb := Ext.trans hb hb1 | replace hb := Ext.trans (Ext.trans hb (Ext.drewN _ _)) hb1 | replace hb := Ext.trans (Ext.trans hb (Ext.alloc _ _)) hb1 | have hb := hb1); clear hb1; obtain ⟨hc1, hf1⟩ := hb.old)
      | (go_at_call 13; refine (HB.out _).mono ?_; rintro e w1 ⟨rfl, hb1⟩; (first | replace hb := Ext.trans hb hb1 | replace hb := Ext.trans (Ext.trans hb (Ext.drewN _ _)) hb1 | replace hb := Ext.trans (Ext.trans hb (Ext.alloc _ _)) hb1 | have hb := hb1); clear hb1; obtain ⟨hc1, hf1⟩ := hb.old))
    go_ret2
    exact ⟨by rw [HR.out]; rfl, (by repeat (first | exact Ext.refl _ | assumption | exact Ext.alloc _ _ | refine Ext.trans ?_ (by assumption) | refine Ext.trans ?_ (Ext.alloc _ _) | refine Ext.trans ?_ (Ext.drewN _ _) | refine Ext.trans ?_ (Ext.drew _)))⟩
  · have HR := Lib.hid (len_bad hs)
    have HS := Lib.hid hs; clear hs
    go_enter Try.func18, Try.ntmps18
    go_wp2_with (first | (go_at_call 29; refine (small2_bad HS.out (by go_simp) (by go_simp)).mono ?_; rintro e w1 ⟨rfl, hb1⟩; (first | replace hb := Ext.trans hb hb1 | replace hb := Ext.trans (Ext.trans hb (Ext.drewN _ _)) hb1 | replace hb := Ext.trans (Ext.trans hb (Ext.alloc _ _)) hb1 | have hb := hb1); clear hb1; obtain ⟨hc1, hf1⟩ := hb.old))
    go_ret2
    exact ⟨by rw [HR.out]; rfl, (by repeat (first | exact Ext.refl _ | assumption | exact Ext.alloc _ _ | refine Ext.trans ?_ (by assumption) | refine Ext.trans ?_ (Ext.alloc _ _) | refine Ext.trans ?_ (Ext.drewN _ _) | refine Ext.trans ?_ (Ext.drew _)))⟩

set_option maxRecDepth 100000 in
set_option maxHeartbeats 1000000 in
theorem rabove_any (x y : Int) (w : World) : Calls Try.prog 19 #[I x, I y] w fun e w' => e = .returned (ref2 (abvF x y)) ∧ Ext w w' := by
  by_cases hs : okS x ∧ okS y
  · have HR := Lib.hid (abv_ok hs)
    obtain ⟨x0, x1⟩ := sq_bd hs.1
    obtain ⟨y0, y1⟩ := sq_bd hs.2
    have HS := Lib.hid hs; clear hs
    have HB := Lib.hid (fun w => rup_any (x * x + y * y) w (by omega))
    go_enter Try.func19, Try.ntmps19
    go_wp2_with (first
      | (go_at_call 29; refine (small2_ok HS.out (by go_simp) (by go_simp)).mono ?_; rintro e w1 ⟨rfl, hb1⟩; (first | replace hb := Ext.trans hb hb1 | replace hb := Ext.trans (Ext.trans hb (Ext.drewN _ _)) hb1 | replace hb := Ext.trans (Ext.trans hb (Ext.alloc _ _)) hb1 | have hb := hb1); clear hb1; obtain ⟨hc1, hf1⟩ := hb.old)
      | (go_at_call 15; refine (HB.out _).mono ?_; rintro e w1 ⟨rfl, hb1⟩; (first | replace hb := Ext.trans hb hb1 | replace hb := Ext.trans (Ext.trans hb (Ext.drewN _ _)) hb1 | replace hb := Ext.trans (Ext.trans hb (Ext.alloc _ _)) hb1 | have hb := hb1); clear hb1; obtain ⟨hc1, hf1⟩ := hb.old))
    go_ret2
    exact ⟨by rw [HR.out]; rfl, (by repeat (first | exact Ext.refl _ | assumption | exact Ext.alloc _ _ | refine Ext.trans ?_ (by assumption) | refine Ext.trans ?_ (Ext.alloc _ _) | refine Ext.trans ?_ (Ext.drewN _ _) | refine Ext.trans ?_ (Ext.drew _)))⟩
  · have HR := Lib.hid (abv_bad hs)
    have HS := Lib.hid hs; clear hs
    go_enter Try.func19, Try.ntmps19
    go_wp2_with (first | (go_at_call 29; refine (small2_bad HS.out (by go_simp) (by go_simp)).mono ?_; rintro e w1 ⟨rfl, hb1⟩; (first | replace hb := Ext.trans hb hb1 | replace hb := Ext.trans (Ext.trans hb (Ext.drewN _ _)) hb1 | replace hb := Ext.trans (Ext.trans hb (Ext.alloc _ _)) hb1 | have hb := hb1); clear hb1; obtain ⟨hc1, hf1⟩ := hb.old))
    go_ret2
    exact ⟨by rw [HR.out]; rfl, (by repeat (first | exact Ext.refl _ | assumption | exact Ext.alloc _ _ | refine Ext.trans ?_ (by assumption) | refine Ext.trans ?_ (Ext.alloc _ _) | refine Ext.trans ?_ (Ext.drewN _ _) | refine Ext.trans ?_ (Ext.drew _)))⟩

set_option maxRecDepth 100000 in
set_option maxHeartbeats 1000000 in
theorem rest_any (m d : Int) (w : World) : Calls Try.prog 21 #[I m, I d] w fun e w' => e = .returned (res2 (rstF m d)) ∧ Ext w w' := by
  by_cases hs : okS m ∧ okS d
  · obtain ⟨x0, x1⟩ := sq_bd hs.1
    obtain ⟨y0, y1⟩ := sq_bd hs.2
    obtain ⟨⟨m0, m1⟩, d0, d1⟩ := id hs
    have HB := Lib.hid (fun w => sqrt_any (m * m - d * d) w (by omega))
    have HY := Lib.hid (fun k => rst_ok hs k)
    have HN := Lib.hid (fun k => rst_far hs k)
    have HS := Lib.hid hs; clear hs
    by_cases hd : d < -d
    · by_cases hm : m < -d
      · have HR := Lib.hid (HN.out (by omega))
        clear HY HN
        go_enter Try.func21, Try.ntmps21
        go_wp2_with (first
          | (go_at_call 28; refine (sizes2_ok HS.out (by go_simp) (by go_simp)).mono ?_; rintro e w1 ⟨rfl, hb1⟩; (first | replace hb := Ext.trans hb hb1 | replace hb := Ext.trans (Ext.trans hb (Ext.drewN _ _)) hb1 | replace hb := Ext.trans (Ext.trans hb (Ext.alloc _ _)) hb1 | have hb := hb1); clear hb1; obtain ⟨hc1, hf1⟩ := hb.old)
          | (go_at_call 12; refine (HB.out _).mono ?_; rintro e w1 ⟨rfl, hb1⟩; (first | replace hb := Ext.trans hb hb1 | replace hb := Ext.trans (Ext.trans hb (Ext.drewN _ _)) hb1 | replace hb := Ext.trans (Ext.trans hb (Ext.alloc _ _)) hb1 | have hb := hb1); clear hb1; obtain ⟨hc1, hf1⟩ := hb.old))
        go_ret2
        exact ⟨by rw [HR.out]; rfl, (by repeat (first | exact Ext.refl _ | assumption | exact Ext.alloc _ _ | refine Ext.trans ?_ (by assumption) | refine Ext.trans ?_ (Ext.alloc _ _) | refine Ext.trans ?_ (Ext.drewN _ _) | refine Ext.trans ?_ (Ext.drew _)))⟩
      · have HR := Lib.hid (HY.out (by omega))
        clear HY HN
        go_enter Try.func21, Try.ntmps21
        go_wp2_with (first
          | (go_at_call 28; refine (sizes2_ok HS.out (by go_simp) (by go_simp)).mono ?_; rintro e w1 ⟨rfl, hb1⟩; (first | replace hb := Ext.trans hb hb1 | replace hb := Ext.trans (Ext.trans hb (Ext.drewN _ _)) hb1 | replace hb := Ext.trans (Ext.trans hb (Ext.alloc _ _)) hb1 | have hb := hb1); clear hb1; obtain ⟨hc1, hf1⟩ := hb.old)
          | (go_at_call 12; refine (HB.out _).mono ?_; rintro e w1 ⟨rfl, hb1⟩; (first | replace hb := Ext.trans hb hb1 | replace hb := Ext.trans (Ext.trans hb (Ext.drewN _ _)) hb1 | replace hb := Ext.trans (Ext.trans hb (Ext.alloc _ _)) hb1 | have hb := hb1); clear hb1; obtain ⟨hc1, hf1⟩ := hb.old))
        go_ret2
        exact ⟨by rw [HR.out]; rfl, (by repeat (first | exact Ext.refl _ | assumption | exact Ext.alloc _ _ | refine Ext.trans ?_ (by assumption) | refine Ext.trans ?_ (Ext.alloc _ _) | refine Ext.trans ?_ (Ext.drewN _ _) | refine Ext.trans ?_ (Ext.drew _)))⟩
    · by_cases hm : m < d
      · have HR := Lib.hid (HN.out (by omega))
        clear HY HN
        go_enter Try.func21, Try.ntmps21
        go_wp2_with (first
          | (go_at_call 28; refine (sizes2_ok HS.out (by go_simp) (by go_simp)).mono ?_; rintro e w1 ⟨rfl, hb1⟩; (first | replace hb := Ext.trans hb hb1 | replace hb := Ext.trans (Ext.trans hb (Ext.drewN _ _)) hb1 | replace hb := Ext.trans (Ext.trans hb (Ext.alloc _ _)) hb1 | have hb := hb1); clear hb1; obtain ⟨hc1, hf1⟩ := hb.old)
          | (go_at_call 12; refine (HB.out _).mono ?_; rintro e w1 ⟨rfl, hb1⟩; (first | replace hb := Ext.trans hb hb1 | replace hb := Ext.trans (Ext.trans hb (Ext.drewN _ _)) hb1 | replace hb := Ext.trans (Ext.trans hb (Ext.alloc _ _)) hb1 | have hb := hb1); clear hb1; obtain ⟨hc1, hf1⟩ := hb.old))
        go_ret2
        exact ⟨by rw [HR.out]; rfl, (by repeat (first | exact Ext.refl _ | assumption | exact Ext.alloc _ _ | refine Ext.trans ?_ (by assumption) | refine Ext.trans ?_ (Ext.alloc _ _) | refine Ext.trans ?_ (Ext.drewN _ _) | refine Ext.trans ?_ (Ext.drew _)))⟩
      · have HR := Lib.hid (HY.out (by omega))
        clear HY HN
        go_enter Try.func21, Try.ntmps21
        go_wp2_with (first
          | (go_at_call 28; refine (sizes2_ok HS.out (by go_simp) (by go_simp)).mono ?_; rintro e w1 ⟨rfl, hb1⟩; (first | replace hb := Ext.trans hb hb1 | replace hb := Ext.trans (Ext.trans hb (Ext.drewN _ _)) hb1 | replace hb := Ext.trans (Ext.trans hb (Ext.alloc _ _)) hb1 | have hb := hb1); clear hb1; obtain ⟨hc1, hf1⟩ := hb.old)
          | (go_at_call 12; refine (HB.out _).mono ?_; rintro e w1 ⟨rfl, hb1⟩; (first | replace hb := Ext.trans hb hb1 | replace hb := Ext.trans (Ext.trans hb (Ext.drewN _ _)) hb1 | replace hb := Ext.trans (Ext.trans hb (Ext.alloc _ _)) hb1 | have hb := hb1); clear hb1; obtain ⟨hc1, hf1⟩ := hb.old))
        go_ret2
        exact ⟨by rw [HR.out]; rfl, (by repeat (first | exact Ext.refl _ | assumption | exact Ext.alloc _ _ | refine Ext.trans ?_ (by assumption) | refine Ext.trans ?_ (Ext.alloc _ _) | refine Ext.trans ?_ (Ext.drewN _ _) | refine Ext.trans ?_ (Ext.drew _)))⟩
  · have HR := Lib.hid (rst_bad hs)
    have HS := Lib.hid hs; clear hs
    go_enter Try.func21, Try.ntmps21
    go_wp2_with (first | (go_at_call 28; refine (sizes2_bad HS.out (by go_simp) (by go_simp)).mono ?_; rintro e w1 ⟨rfl, hb1⟩; (first | replace hb := Ext.trans hb hb1 | replace hb := Ext.trans (Ext.trans hb (Ext.drewN _ _)) hb1 | replace hb := Ext.trans (Ext.trans hb (Ext.alloc _ _)) hb1 | have hb := hb1); clear hb1; obtain ⟨hc1, hf1⟩ := hb.old))
    go_ret2
    exact ⟨by rw [HR.out]; rfl, (by repeat (first | exact Ext.refl _ | assumption | exact Ext.alloc _ _ | refine Ext.trans ?_ (by assumption) | refine Ext.trans ?_ (Ext.alloc _ _) | refine Ext.trans ?_ (Ext.drewN _ _) | refine Ext.trans ?_ (Ext.drew _)))⟩

set_option maxRecDepth 100000 in
set_option maxHeartbeats 1000000 in
theorem rrest_any (m d : Int) (w : World) : Calls Try.prog 22 #[I m, I d] w fun e w' => e = .returned (ref2 (rstF m d)) ∧ Ext w w' := by
  by_cases hs : okS m ∧ okS d
  · obtain ⟨x0, x1⟩ := sq_bd hs.1
    obtain ⟨y0, y1⟩ := sq_bd hs.2
    obtain ⟨⟨m0, m1⟩, d0, d1⟩ := id hs
    have HB := Lib.hid (fun w => rsqrt_any (m * m - d * d) w (by omega))
    have HY := Lib.hid (fun k => rst_ok hs k)
    have HN := Lib.hid (fun k => rst_far hs k)
    have HS := Lib.hid hs; clear hs
    have hc : m < 0 ∨ (¬ m < 0 ∧ m < d) ∨ (¬ m < 0 ∧ ¬ m < d ∧ m < -d) ∨ (¬ m < 0 ∧ ¬ m < d ∧ ¬ m < -d) := by omega
    rcases hc with h1 | ⟨h1, h2⟩ | ⟨h1, h2, h3⟩ | ⟨h1, h2, h3⟩
    · have HR := Lib.hid (HN.out (by omega))
      clear HY HN
      go_enter Try.func22, Try.ntmps22
      go_wp2_with (first | (go_at_call 29; refine (small2_ok HS.out (by go_simp) (by go_simp)).mono ?_; rintro e w1 ⟨rfl, hb1⟩; (first | replace hb := Ext.trans hb hb1 | replace hb := Ext.trans (Ext.trans hb (Ext.drewN _ _)) hb1 | replace hb := Ext.trans (Ext.trans hb (Ext.alloc _ _)) hb1 | have hb := hb1); clear hb1; obtain ⟨hc1, hf1⟩ := hb.old))
      go_ret2
      exact ⟨by rw [HR.out]; rfl, (by repeat (first | exact Ext.refl _ | assumption | exact Ext.alloc _ _ | refine Ext.trans ?_ (by assumption) | refine Ext.trans ?_ (Ext.alloc _ _) | refine Ext.trans ?_ (Ext.drewN _ _) | refine Ext.trans ?_ (Ext.drew _)))⟩
    · have HR := Lib.hid (HN.out (by omega))
      clear HY HN
      go_enter Try.func22, Try.ntmps22
      go_wp2_with (first | (go_at_call 29; refine (small2_ok HS.out (by go_simp) (by go_simp)).mono ?_; rintro e w1 ⟨rfl, hb1⟩; (first | replace hb := Ext.trans hb hb1 | replace hb := Ext.trans (Ext.trans hb (Ext.drewN _ _)) hb1 | replace hb := Ext.trans (Ext.trans hb (Ext.alloc _ _)) hb1 | have hb := hb1); clear hb1; obtain ⟨hc1, hf1⟩ := hb.old))
      go_ret2
      exact ⟨by rw [HR.out]; rfl, (by repeat (first | exact Ext.refl _ | assumption | exact Ext.alloc _ _ | refine Ext.trans ?_ (by assumption) | refine Ext.trans ?_ (Ext.alloc _ _) | refine Ext.trans ?_ (Ext.drewN _ _) | refine Ext.trans ?_ (Ext.drew _)))⟩
    · have HR := Lib.hid (HN.out (by omega))
      clear HY HN
      go_enter Try.func22, Try.ntmps22
      go_wp2_with (first | (go_at_call 29; refine (small2_ok HS.out (by go_simp) (by go_simp)).mono ?_; rintro e w1 ⟨rfl, hb1⟩; (first | replace hb := Ext.trans hb hb1 | replace hb := Ext.trans (Ext.trans hb (Ext.drewN _ _)) hb1 | replace hb := Ext.trans (Ext.trans hb (Ext.alloc _ _)) hb1 | have hb := hb1); clear hb1; obtain ⟨hc1, hf1⟩ := hb.old))
      go_ret2
      exact ⟨by rw [HR.out]; rfl, (by repeat (first | exact Ext.refl _ | assumption | exact Ext.alloc _ _ | refine Ext.trans ?_ (by assumption) | refine Ext.trans ?_ (Ext.alloc _ _) | refine Ext.trans ?_ (Ext.drewN _ _) | refine Ext.trans ?_ (Ext.drew _)))⟩
    · have HR := Lib.hid (HY.out (by omega))
      clear HY HN
      go_enter Try.func22, Try.ntmps22
      go_wp2_with (first | (go_at_call 29; refine (small2_ok HS.out (by go_simp) (by go_simp)).mono ?_; rintro e w1 ⟨rfl, hb1⟩; (first | replace hb := Ext.trans hb hb1 | replace hb := Ext.trans (Ext.trans hb (Ext.drewN _ _)) hb1 | replace hb := Ext.trans (Ext.trans hb (Ext.alloc _ _)) hb1 | have hb := hb1); clear hb1; obtain ⟨hc1, hf1⟩ := hb.old) | (go_at_call 13; refine (HB.out _).mono ?_; rintro e w1 ⟨rfl, hb1⟩; (first | replace hb := Ext.trans hb hb1 | replace hb := Ext.trans (Ext.trans hb (Ext.drewN _ _)) hb1 | replace hb := Ext.trans (Ext.trans hb (Ext.alloc _ _)) hb1 | have hb := hb1); clear hb1; obtain ⟨hc1, hf1⟩ := hb.old))
      go_ret2
      exact ⟨by rw [HR.out]; rfl, (by repeat (first | exact Ext.refl _ | assumption | exact Ext.alloc _ _ | refine Ext.trans ?_ (by assumption) | refine Ext.trans ?_ (Ext.alloc _ _) | refine Ext.trans ?_ (Ext.drewN _ _) | refine Ext.trans ?_ (Ext.drew _)))⟩
  · have HR := Lib.hid (rst_bad hs)
    have HS := Lib.hid hs; clear hs
    go_enter Try.func22, Try.ntmps22
    go_wp2_with (first | (go_at_call 29; refine (small2_bad HS.out (by go_simp) (by go_simp)).mono ?_; rintro e w1 ⟨rfl, hb1⟩; (first | replace hb := Ext.trans hb hb1 | replace hb := Ext.trans (Ext.trans hb (Ext.drewN _ _)) hb1 | replace hb := Ext.trans (Ext.trans hb (Ext.alloc _ _)) hb1 | have hb := hb1); clear hb1; obtain ⟨hc1, hf1⟩ := hb.old))
    go_ret2
    exact ⟨by rw [HR.out]; rfl, (by repeat (first | exact Ext.refl _ | assumption | exact Ext.alloc _ _ | refine Ext.trans ?_ (by assumption) | refine Ext.trans ?_ (Ext.alloc _ _) | refine Ext.trans ?_ (Ext.drewN _ _) | refine Ext.trans ?_ (Ext.drew _)))⟩

set_option maxRecDepth 100000 in
set_option maxHeartbeats 1000000 in
theorem within_any (x y m : Int) (w : World) : Calls Try.prog 23 #[I x, I y, I m] w fun e w' => e = .returned (resW (wiF x y m)) ∧ Ext w w' := by
  by_cases hs : okS x ∧ okS y ∧ okS m
  · obtain ⟨x0, x1⟩ := sq_bd hs.1
    obtain ⟨y0, y1⟩ := sq_bd hs.2.1
    obtain ⟨z0, z1⟩ := sq_bd hs.2.2
    by_cases hm : m < 0
    · have HR := Lib.hid (wi_neg hs hm)
      have HS := Lib.hid hs; clear hs
      go_enter Try.func23, Try.ntmps23
      go_wp2_with (first | (go_at_call 28; refine (sizes3_ok HS.out (by go_simp) (by go_simp) (by go_simp)).mono ?_; rintro e w1 ⟨rfl, hb1⟩; (first | replace hb := Ext.trans hb hb1 | replace hb := Ext.trans (Ext.trans hb (Ext.drewN _ _)) hb1 | replace hb := Ext.trans (Ext.trans hb (Ext.alloc _ _)) hb1 | have hb := hb1); clear hb1; obtain ⟨hc1, hf1⟩ := hb.old))
      go_ret2
      exact ⟨by rw [HR.out]; rfl, (by repeat (first | exact Ext.refl _ | assumption | exact Ext.alloc _ _ | refine Ext.trans ?_ (by assumption) | refine Ext.trans ?_ (Ext.alloc _ _) | refine Ext.trans ?_ (Ext.drewN _ _) | refine Ext.trans ?_ (Ext.drew _)))⟩
    · have HR := Lib.hid (wi_ok hs hm)
      have HS := Lib.hid hs; clear hs
      go_enter Try.func23, Try.ntmps23
      go_wp2_with (first | (go_at_call 28; refine (sizes3_ok HS.out (by go_simp) (by go_simp) (by go_simp)).mono ?_; rintro e w1 ⟨rfl, hb1⟩; (first | replace hb := Ext.trans hb hb1 | replace hb := Ext.trans (Ext.trans hb (Ext.drewN _ _)) hb1 | replace hb := Ext.trans (Ext.trans hb (Ext.alloc _ _)) hb1 | have hb := hb1); clear hb1; obtain ⟨hc1, hf1⟩ := hb.old))
      go_ret2
      exact ⟨by rw [HR.out]; rfl, (by repeat (first | exact Ext.refl _ | assumption | exact Ext.alloc _ _ | refine Ext.trans ?_ (by assumption) | refine Ext.trans ?_ (Ext.alloc _ _) | refine Ext.trans ?_ (Ext.drewN _ _) | refine Ext.trans ?_ (Ext.drew _)))⟩
  · have HR := Lib.hid (wi_bad hs)
    have HS := Lib.hid hs; clear hs
    go_enter Try.func23, Try.ntmps23
    go_wp2_with (first | (go_at_call 28; refine (sizes3_bad HS.out (by go_simp) (by go_simp) (by go_simp)).mono ?_; rintro e w1 ⟨rfl, hb1⟩; (first | replace hb := Ext.trans hb hb1 | replace hb := Ext.trans (Ext.trans hb (Ext.drewN _ _)) hb1 | replace hb := Ext.trans (Ext.trans hb (Ext.alloc _ _)) hb1 | have hb := hb1); clear hb1; obtain ⟨hc1, hf1⟩ := hb.old))
    go_ret2
    exact ⟨by rw [HR.out]; rfl, (by repeat (first | exact Ext.refl _ | assumption | exact Ext.alloc _ _ | refine Ext.trans ?_ (by assumption) | refine Ext.trans ?_ (Ext.alloc _ _) | refine Ext.trans ?_ (Ext.drewN _ _) | refine Ext.trans ?_ (Ext.drew _)))⟩

set_option maxRecDepth 100000 in
set_option maxHeartbeats 1000000 in
theorem rwithin_any (x y m : Int) (w : World) : Calls Try.prog 25 #[I x, I y, I m] w fun e w' => e = .returned (refW (wiF x y m)) ∧ Ext w w' := by
  by_cases hs : okS x ∧ okS y ∧ okS m
  · obtain ⟨x0, x1⟩ := sq_bd hs.1
    obtain ⟨y0, y1⟩ := sq_bd hs.2.1
    obtain ⟨z0, z1⟩ := sq_bd hs.2.2
    by_cases hm : m < 0
    · have HR := Lib.hid (wi_neg hs hm)
      have HS := Lib.hid hs; clear hs
      go_enter Try.func25, Try.ntmps25
      go_wp2_with (first | (go_at_call 29; refine (small3_ok HS.out (by go_simp) (by go_simp) (by go_simp)).mono ?_; rintro e w1 ⟨rfl, hb1⟩; (first | replace hb := Ext.trans hb hb1 | replace hb := Ext.trans (Ext.trans hb (Ext.drewN _ _)) hb1 | replace hb := Ext.trans (Ext.trans hb (Ext.alloc _ _)) hb1 | have hb := hb1); clear hb1; obtain ⟨hc1, hf1⟩ := hb.old))
      go_ret2
      exact ⟨by rw [HR.out]; rfl, (by repeat (first | exact Ext.refl _ | assumption | exact Ext.alloc _ _ | refine Ext.trans ?_ (by assumption) | refine Ext.trans ?_ (Ext.alloc _ _) | refine Ext.trans ?_ (Ext.drewN _ _) | refine Ext.trans ?_ (Ext.drew _)))⟩
    · have HR := Lib.hid (wi_ok hs hm)
      have HS := Lib.hid hs; clear hs
      go_enter Try.func25, Try.ntmps25
      go_wp2_with (first | (go_at_call 29; refine (small3_ok HS.out (by go_simp) (by go_simp) (by go_simp)).mono ?_; rintro e w1 ⟨rfl, hb1⟩; (first | replace hb := Ext.trans hb hb1 | replace hb := Ext.trans (Ext.trans hb (Ext.drewN _ _)) hb1 | replace hb := Ext.trans (Ext.trans hb (Ext.alloc _ _)) hb1 | have hb := hb1); clear hb1; obtain ⟨hc1, hf1⟩ := hb.old))
      go_ret2
      exact ⟨by rw [HR.out]; rfl, (by repeat (first | exact Ext.refl _ | assumption | exact Ext.alloc _ _ | refine Ext.trans ?_ (by assumption) | refine Ext.trans ?_ (Ext.alloc _ _) | refine Ext.trans ?_ (Ext.drewN _ _) | refine Ext.trans ?_ (Ext.drew _)))⟩
  · have HR := Lib.hid (wi_bad hs)
    have HS := Lib.hid hs; clear hs
    go_enter Try.func25, Try.ntmps25
    go_wp2_with (first | (go_at_call 29; refine (small3_bad HS.out (by go_simp) (by go_simp) (by go_simp)).mono ?_; rintro e w1 ⟨rfl, hb1⟩; (first | replace hb := Ext.trans hb hb1 | replace hb := Ext.trans (Ext.trans hb (Ext.drewN _ _)) hb1 | replace hb := Ext.trans (Ext.trans hb (Ext.alloc _ _)) hb1 | have hb := hb1); clear hb1; obtain ⟨hc1, hf1⟩ := hb.old))
    go_ret2
    exact ⟨by rw [HR.out]; rfl, (by repeat (first | exact Ext.refl _ | assumption | exact Ext.alloc _ _ | refine Ext.trans ?_ (by assumption) | refine Ext.trans ?_ (Ext.alloc _ _) | refine Ext.trans ?_ (Ext.drewN _ _) | refine Ext.trans ?_ (Ext.drew _)))⟩

end Go.Proofs.Ytgedhbiechlkcaa
