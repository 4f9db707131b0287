/- The reference's Both, and the laws SineValues and SineTable. -/
import Derived.Test.YtecpkggnjajppaaDoorSinc
namespace Go.Proofs.YtecpkggnjajppaaDoor
open Go.RowKit

def cosN (c s : Int) : Nat → Int
  | 0 => c
  | j + 1 => -(match j with | 0 => s | 1 => c | 2 => -s | _ => -c)
def sinN (c s : Int) : Nat → Int
  | 0 => s
  | 1 => c
  | 2 => -s
  | _ => -c
theorem rot_step (c s : Int) (j : Nat) (h : j < 3) : cosN c s (j + 1) = -sinN c s j ∧ sinN c s (j + 1) = cosN c s j := by
  obtain rfl | rfl | rfl : j = 0 ∨ j = 1 ∨ j = 2 := by omega
  all_goals simp [cosN, sinN]
theorem rot_bd {c s : Int} (hc : 0 ≤ c ∧ c ≤ 32768) (hs : 0 ≤ s ∧ s ≤ 32768) (j : Nat) (h : j ≤ 3) : (-32768 ≤ cosN c s j ∧ cosN c s j ≤ 32768) ∧ -32768 ≤ sinN c s j ∧ sinN c s j ≤ 32768 := by
  obtain rfl | rfl | rfl | rfl : j = 0 ∨ j = 1 ∨ j = 2 ∨ j = 3 := by omega
  all_goals (simp only [cosN, sinN]; omega)
theorem rot_is (c s : Int) (j : Nat) (h : j ≤ 3) : cosN c s j = cosq j c s ∧ sinN c s j = sinq j c s := by
  obtain rfl | rfl | rfl | rfl : j = 0 ∨ j = 1 ∨ j = 2 ∨ j = 3 := by omega
  all_goals simp [cosN, sinN, cosq, sinq]
theorem mix_eq (x y f : Int) : x * (256 - f) + y * f = x * 256 + (y - x) * f := by grind

set_option maxRecDepth 100000 in
set_option maxHeartbeats 2000000 in
theorem rboth_any (a : Int) (w : World) : Calls Tryd.prog 22 #[I a] w fun e w' => e = .returned (.tuple #[I (cs a), I (sn a)]) ∧ Ext w w' := by
  obtain ⟨n0, n1, r0, r1⟩ := q_of a
  obtain ⟨k, f, q, k1, f1, q1, hk⟩ : ∃ k f q : Nat, k ≤ 63 ∧ f ≤ 255 ∧ q ≤ 3 ∧ nrm a = 16384 * q + (256 * k + f) := ⟨(nrm a).toNat % 16384 / 256, (nrm a).toNat % 256, (nrm a).toNat / 16384, by omega, by omega, by omega, by omega⟩
  have HV := Lib.hid (rep_cs (a := a) (q := q) (r := 256 * k + f) (by omega) (by omega) (by omega) (by omega) (by unfold nrm at hk; omega))
  have HS := Lib.hid (qs_at (k := k) (f := f) (by omega) (by omega) (by omega))
  have HC := Lib.hid (qs_down (k := k) (f := f) (by omega) (by omega) (by omega) (by omega))
  have e1 : nrm a % 16384 / 256 = k := by omega
  have e2 : nrm a % 256 = f := by omega
  have e3 : nrm a / 16384 = q := by omega
  have b1 := T_bd (k := (k : Int)) (by omega) (by omega)
  have b2 := T_bd (k := (k : Int) + 1) (by omega) (by omega)
  have b3 := T_bd (k := 64 - (k : Int)) (by omega) (by omega)
  have b4 := T_bd (k := 63 - (k : Int)) (by omega) (by omega)
  clear r0 r1
  have HK := Lib.hid hk; clear hk
  go_enter Tryd.func22, Tryd.ntmps22
  go_wp2_with (first
    | (go_at_call 34; refine (rtable_any _).mono ?_; rintro e w1 ⟨b, hb0, hb1, rfl, hcell, hb⟩; obtain ⟨hc1, hf1⟩ := hb.old)
    | (go_at_call 20; refine (rnorm_any _ _).mono ?_; rintro e w2 ⟨rfl, hx⟩; replace hcell : ∀ i : Nat, i < 65 → w2.cell? ⟨b, i, none⟩ = some (I (T i)) ∧ True := fun i hi => ⟨(hx.old.1 b i hb1).trans (hcell i hi).1, trivial⟩; replace hb1 := Nat.lt_of_lt_of_le hb1 hx.size; replace hb := Ext.trans hb hx; clear hx))
  simp only [e1, e2]
  have d1 := (hcell k (by omega)).1
  have d2 := (hcell (k + 1) (by omega)).1
  have d3 := (hcell (64 - k) (by omega)).1
  have d4 := (hcell (63 - k) (by omega)).1
  rw [show ((k + 1 : Nat) : Int) = (k : Int) + 1 by omega] at d2
  rw [show ((64 - k : Nat) : Int) = 64 - (k : Int) by omega] at d3
  rw [show ((63 - k : Nat) : Int) = 63 - (k : Int) by omega] at d4
  have s1 := btw_bd b1 b2 (show (0 : Int) ≤ f by omega) (by omega)
  have s2 := btw_bd b3 b4 (show (0 : Int) ≤ f by omega) (by omega)
  have y1 : T (k : Int) * (256 - f) + T ((k : Int) + 1) * f = T k * 256 + (T ((k : Int) + 1) - T k) * f := mix_eq _ _ _
  have y2 : T (64 - (k : Int)) * (256 - f) + T (63 - (k : Int)) * f = T (64 - k) * 256 + (T (63 - (k : Int)) - T (64 - k)) * f := mix_eq _ _ _
  have HS' : Hid (qs (256 * (k : Int) + f) = (T (k : Int) * (256 - f) + T ((k : Int) + 1) * f) / 256) := by show _ = _; rw [HS.out, y1]; rfl
  have HC' : Hid (qs (16384 - (256 * (k : Int) + f)) = (T (64 - (k : Int)) * (256 - f) + T (63 - (k : Int)) * f) / 256) := by show _ = _; rw [HC.out, y2]; rfl
  rw [← y1] at s1; rw [← y2] at s2
  have m1 := Int.mul_nonneg b1.1 (show (0 : Int) ≤ 256 - f by omega)
  have m2 := Int.mul_nonneg b2.1 (show (0 : Int) ≤ f by omega)
  have m3 := Int.mul_nonneg b3.1 (show (0 : Int) ≤ 256 - f by omega)
  have m4 := Int.mul_nonneg b4.1 (show (0 : Int) ≤ f by omega)
  clear y1 y2 HS HC hcell
  generalize T (k : Int) = x1 at *
  generalize T ((k : Int) + 1) = x2 at *
  generalize T (64 - (k : Int)) = x3 at *
  generalize T (63 - (k : Int)) = x4 at *
  obtain ⟨p1, h1⟩ : ∃ p, x1 * (256 - (f : Int)) = p := ⟨_, rfl⟩
  obtain ⟨p2, h2⟩ : ∃ p, x2 * (f : Int) = p := ⟨_, rfl⟩
  obtain ⟨p3, h3⟩ : ∃ p, x3 * (256 - (f : Int)) = p := ⟨_, rfl⟩
  obtain ⟨p4, h4⟩ : ∃ p, x4 * (f : Int) = p := ⟨_, rfl⟩
  rw [h1, h2] at s1 HS'; rw [h3, h4] at s2 HC'; rw [h1] at m1; rw [h2] at m2; rw [h3] at m3; rw [h4] at m4
  obtain ⟨S, hS⟩ : ∃ S, (p1 + p2) / 256 = S := ⟨_, rfl⟩
  obtain ⟨C, hC⟩ : ∃ C, (p3 + p4) / 256 = C := ⟨_, rfl⟩
  rw [hS] at HS'; rw [hC] at HC'
  have bS : 0 ≤ S ∧ S ≤ 32768 := by omega
  have bC : 0 ≤ C ∧ C ≤ 32768 := by omega
  have g0 : IntKind.i64.wrap ((k : Int) + 1) = k + 1 := IntWalk.i64_in _ (by omega)
  have g0' : IntKind.i64.wrap (64 - (k : Int)) = 64 - k := IntWalk.i64_in _ (by omega)
  have g0'' : IntKind.i64.wrap (63 - (k : Int)) = 63 - k := IntWalk.i64_in _ (by omega)
  have g1 : IntKind.i64.wrap (256 - (f : Int)) = 256 - f := IntWalk.i64_in _ (by omega)
  have g2 : IntKind.i64.wrap (x1 * (256 - (f : Int))) = p1 := by rw [h1]; exact IntWalk.i64_in _ (by omega)
  have g3 : IntKind.i64.wrap (x2 * (f : Int)) = p2 := by rw [h2]; exact IntWalk.i64_in _ (by omega)
  have g4 : IntKind.i64.wrap (p1 + p2) = p1 + p2 := IntWalk.i64_in _ (by omega)
  have g5 : IntKind.i64.wrap ((p1 + p2).tdiv 256) = S := by rw [Int.tdiv_eq_ediv_of_nonneg (by omega), hS]; exact IntWalk.i64_in _ (by omega)
  have g2' : IntKind.i64.wrap (x3 * (256 - (f : Int))) = p3 := by rw [h3]; exact IntWalk.i64_in _ (by omega)
  have g3' : IntKind.i64.wrap (x4 * (f : Int)) = p4 := by rw [h4]; exact IntWalk.i64_in _ (by omega)
  have g4' : IntKind.i64.wrap (p3 + p4) = p3 + p4 := IntWalk.i64_in _ (by omega)
  have g5' : IntKind.i64.wrap ((p3 + p4).tdiv 256) = C := by rw [Int.tdiv_eq_ediv_of_nonneg (by omega), hC]; exact IntWalk.i64_in _ (by omega)
  have n1' : ((64 : Int) - k).toNat = 64 - k := by omega
  have n2' : ((63 : Int) - k).toNat = 63 - k := by omega
  have n3' : ((k : Int) + 1).toNat = k + 1 := by omega
  have z1 : 0 ≤ (64 : Int) - k := by omega
  have z2 : 0 ≤ (63 : Int) - k := by omega
  have z3 : 0 ≤ (k : Int) + 1 := by omega
  have z4 : (k : Int) < 65 := by omega
  have z5 : (k : Int) + 1 < 65 := by omega
  have z6 : (64 : Int) - k < 65 := by omega
  have z7 : (63 : Int) - k < 65 := by omega
  clear hS hC h1 h2 h3 h4 m1 m2 m3 m4 s1 s2 b1 b2 b3 b4 e1 e2
  clear hc1 hf1
  go_quiet (fail)
  go_wp2
  go_quiet (fail)
  clear g0 g0' g0'' g1 g2 g3 g4 g5 g2' g3' g4' g5' n1' n2' n3' z1 z2 z3 z4 z5 z6 z7 d1 d2 d3 d4
  go_wp2
  go_loop [7, 8, 52] (fun s c i => ∃ j : Nat, j ≤ q ∧ s = I (sinN C S j) ∧ c = I (cosN C S j) ∧ i = I j) (fun _ _ i => q - (intOf i).toNat)
  case atStart => exact ⟨0, Nat.zero_le _, rfl, rfl, rfl⟩
  case round =>
    obtain ⟨j, hj, rfl, rfl, rfl⟩ := hrel
    obtain ⟨⟨u1, u2⟩, u3, u4⟩ := rot_bd bC bS j (by omega)
    by_cases hlt : j < q
    · have R := Lib.hid (rot_step C S j (by omega))
      go_wp2
      go_round
      case rel => exact ⟨j + 1, by omega, by rw [R.out.2], by rw [R.out.1], by go_num⟩
      case measure => simp [intOf]; omega
    · obtain rfl : j = q := by omega
      have R := Lib.hid (rot_is C S j q1)
      go_wp2
      go_ret2
      exact ⟨by rw [HV.out.1, HV.out.2, HS'.out, HC'.out, ← R.out.1, ← R.out.2]; rfl, (by repeat (first | exact Ext.refl _ | assumption | exact Ext.alloc _ _ | refine Ext.trans ?_ (by assumption) | refine Ext.trans ?_ (Ext.alloc _ _) | refine Ext.trans ?_ (Ext.drewN _ _) | refine Ext.trans ?_ (Ext.drew _)))⟩
theorem rboth_is (a x y : Int) (w : World) (hx : cs a = x) (hy : sn a = y) : Calls Tryd.prog 22 #[I a] w fun e w' => e = .returned (.tuple #[I x, I y]) ∧ Ext w w' := by
  subst hx hy; exact rboth_any a w

end Go.Proofs.YtecpkggnjajppaaDoor
