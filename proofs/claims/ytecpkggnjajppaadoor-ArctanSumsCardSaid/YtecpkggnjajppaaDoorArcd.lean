/- Contracts of package arctan: the search by halves, and the angle. -/
import Derived.Test.YtecpkggnjajppaaDoorArcc
namespace Go.Proofs.YtecpkggnjajppaaDoor
open Go.RowKit

theorem dir_at {r : Int} (h0 : 0 ≤ r) (h1 : r ≤ 16384) : cs r = qs (16384 - r) ∧ sn r = qs r := by
  obtain ⟨e1, e2⟩ := rep_cs (a := r) (q := 0) (r := r) (by omega) (by omega) h0 h1 (by omega)
  exact ⟨e1, e2⟩
theorem fa_iff {x y r : Int} (hx : 0 < x) (hy : 0 ≤ y) (h0 : 0 ≤ r) (h1 : r ≤ 16384) : sn r * x ≤ cs r * y ↔ r ≤ fa x y := by
  obtain ⟨e1, e2⟩ := dir_at h0 h1
  rw [e1, e2]
  have b := fa_bd x y
  have a' := fa_at (x := x) hy
  have b' := fa_next (y := y) hx
  constructor
  · intro A
    rcases (show r ≤ fa x y ∨ fa x y + 1 ≤ r by omega) with k | k
    · exact k
    · have := at_down hx hy (r := fa x y + 1) (t := r) (by omega) k h1 A; omega
  · intro k
    exact at_down hx hy h0 k (by omega) a'
theorem fa_lt {x y i : Int} (hx : 0 < x) (hy : 0 ≤ y) (h0 : 0 ≤ i) (h1 : i ≤ 16382) : decide (cs (i + 1) * y < sn (i + 1) * x) = decide (fa x y ≤ i) := by
  have := fa_iff hx hy (r := i + 1) (by omega) (by omega)
  apply decide_eq_decide.mpr
  constructor
  · intro h; rcases (show fa x y ≤ i ∨ i + 1 ≤ fa x y by omega) with k | k
    · exact k
    · have := this.mpr k; omega
  · intro h; rcases (show cs (i + 1) * y < sn (i + 1) * x ∨ sn (i + 1) * x ≤ cs (i + 1) * y by omega) with k | k
    · exact k
    · have := this.mp k; omega
theorem prd_bd {c x : Int} (hc : -32768 ≤ c ∧ c ≤ 32768) (hx : 0 ≤ x ∧ x ≤ 1099511627776) : -36028797018963968 ≤ c * x ∧ c * x ≤ 36028797018963968 := by
  have a := Int.mul_le_mul_of_nonneg_right hc.1 hx.1
  have b := Int.mul_le_mul_of_nonneg_right hc.2 hx.1
  omega

set_option maxRecDepth 100000 in
set_option maxHeartbeats 1000000 in
theorem behind_any (x y i : Int) (w : World) (hT : TabS w) (bx by' : Nat) (hx : 0 < x ∧ x ≤ 1099511627776) (hy : 0 ≤ y ∧ y ≤ 1099511627776) (h0 : 0 ≤ i) (h1 : i ≤ 16382)
    (zx : bx < w.heap.size) (zy : by' < w.heap.size) (cx : w.cell? ⟨bx, 0, none⟩ = some (I x)) (cy : w.cell? ⟨by', 0, none⟩ = some (I y)) :
    Calls Tryd.prog 37 #[I i, .pointer (some ⟨by', 0, none⟩), .pointer (some ⟨bx, 0, none⟩)] w fun e w' => e = .returned (.bool (decide (fa x y ≤ i))) ∧ Ext w w' := by
  have HV := Lib.hid (fa_lt hx.1 hy.1 h0 h1)
  have HS := Lib.hid (fun w hT => both_any (i + 1) w hT)
  have p1 := prd_bd (cs_bd (i + 1)) hy
  have p2 := prd_bd (sn_bd (i + 1)) ⟨Int.le_of_lt hx.1, hx.2⟩
  generalize cs (i + 1) = c at *
  generalize sn (i + 1) = s at *
  obtain ⟨p, hp⟩ : ∃ p, c * y = p := ⟨_, rfl⟩
  obtain ⟨q, hq⟩ : ∃ q, s * x = q := ⟨_, rfl⟩
  rw [hp, hq] at HV; rw [hp] at p1; rw [hq] at p2
  have HT := Lib.hid hT; clear hT
  clear hx hy
  go_enter Tryd.func37, Tryd.ntmps37
  go_wp2_with (first | (go_at_call 19; refine (HS.out _ HT.out).mono ?_; rintro e w1 ⟨rfl, hb⟩; obtain ⟨hc1, hf1⟩ := hb.old))
  go_ret
  exact ⟨by rw [← HV.out]; rfl, (by repeat (first | exact Ext.refl _ | assumption | exact Ext.alloc _ _ | refine Ext.trans ?_ (by assumption) | refine Ext.trans ?_ (Ext.alloc _ _) | refine Ext.trans ?_ (Ext.drewN _ _) | refine Ext.trans ?_ (Ext.drew _)))⟩

set_option maxRecDepth 100000 in
set_option maxHeartbeats 1000000 in
/-- The search by halves, whatever it searches: the answers turn at F. -/
theorem search_any (F : Int) (cb : Array Value) (w : World) (h0 : 0 ≤ F) (h1 : F ≤ 16383)
    (hg : ∀ i w', 0 ≤ i → i ≤ 16382 → Ext w w' → Calls Tryd.prog 37 (#[I i] ++ cb) w' fun e w2 => e = .returned (.bool (decide (F ≤ i))) ∧ Ext w' w2) :
    Calls Tryd.prog 36 #[I 16383, .func (.func 37) #[] cb] w fun e w' => e = .returned (I F) ∧ Ext w w' := by
  have HG := Lib.hid hg; clear hg
  go_enter Tryd.func36, Tryd.ntmps36
  go_wp2_with fail
  go_loopw [5, 6] (fun a b wr => Ext w wr ∧ ∃ i j : Int, a = I i ∧ b = I j ∧ 0 ≤ i ∧ i ≤ F ∧ F ≤ j ∧ j ≤ 16383) (fun a b _ => (intOf b - intOf a).toNat)
  case atStart => exact ⟨Ext.refl _, 0, 16383, rfl, rfl, by omega, by omega, by omega, by omega⟩
  case round =>
    obtain ⟨hb, i, j, rfl, rfl, i0, i1, j0, j1⟩ := hrel
    by_cases h : i < j
    · have HQ := HG.out ((i + j) / 2) wr (by omega) (by omega) hb
      by_cases hF : F ≤ (i + j) / 2
      · have hd : decide (F ≤ (i + j) / 2) = true := decide_eq_true hF
        rw [hd] at HQ
        go_wp2_with (go_at_call 37; refine HQ.mono ?_; rintro e w1 ⟨rfl, hb1⟩; replace hb := Ext.trans hb hb1; clear hb1)
        go_roundw
        case rel => exact ⟨hb, i, (i + j) / 2, rfl, rfl, by omega, by omega, by omega, by omega⟩
        case measure => simp [intOf]; omega
      · have hd : decide (F ≤ (i + j) / 2) = false := decide_eq_false hF
        rw [hd] at HQ
        go_wp2_with (go_at_call 37; refine HQ.mono ?_; rintro e w1 ⟨rfl, hb1⟩; replace hb := Ext.trans hb hb1; clear hb1)
        go_roundw
        case rel => exact ⟨hb, (i + j) / 2 + 1, j, by go_num, rfl, by omega, by omega, by omega, by omega⟩
        case measure => simp [intOf]; omega
    · obtain rfl : i = F := by omega
      go_wp2_with fail
      go_ret
      exact ⟨rfl, hb⟩
end Go.Proofs.YtecpkggnjajppaaDoor
