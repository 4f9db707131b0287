/- Contracts of the functions of package sine and of its reference. -/
import Derived.Test.YtecpkggnjajppaaDoorRows
import Derived.Test.YtecpkggnjajppaaDoorSina
import Derived.WalkSpells
import Derived.WalkLawsBesides
namespace Go.Proofs.YtecpkggnjajppaaDoor
open Go.RowKit

theorem and16 (x : Int) : bits .and .i64 x 65535 = nrm x := by have := and_mask (x := x) (k := 16) (by decide); exact this

set_option maxHeartbeats 400000 in
theorem norm_any (x : Int) (w : World) : Calls Tryd.prog 32 #[I x] w fun e w' => e = .returned (I (nrm x)) ∧ Ext w w' := by
  have hm := and16 x
  go_enter Tryd.func32, Tryd.ntmps32
  go_wp2
  go_ret
  exact ⟨rfl, Ext.refl _⟩

set_option maxHeartbeats 400000 in
theorem rnorm_any (x : Int) (w : World) : Calls Tryd.prog 20 #[I x] w fun e w' => e = .returned (I (nrm x)) ∧ Ext w w' := by
  obtain ⟨h1, h2⟩ := tmod_bd x
  have H := Lib.hid (tmod_norm x)
  go_enter Tryd.func20, Tryd.ntmps20
  go_wp2
  go_ret
  exact ⟨by rw [← H.out]; rfl, Ext.refl _⟩

set_option maxHeartbeats 400000 in
theorem between_any (x y f : Int) (w : World) (hx : 0 ≤ x ∧ x ≤ 32768) (hy : 0 ≤ y ∧ y ≤ 32768) (f0 : 0 ≤ f) (f1 : f ≤ 255) : Calls Tryd.prog 42 #[I x, I y, I f] w fun e w' => e = .returned (I (btw x y f)) ∧ Ext w w' := by
  obtain ⟨b1, b2⟩ := btw_bd hx hy f0 f1
  obtain ⟨p, hp⟩ : ∃ p, (y - x) * f = p := ⟨_, rfl⟩
  have HB : Hid (btw x y f = (x * 256 + p) / 256) := by show btw x y f = _; rw [← hp]; rfl
  rw [hp] at b1 b2
  obtain ⟨x0, x1⟩ := hx
  obtain ⟨y0, y1⟩ := hy
  go_enter Tryd.func42, Tryd.ntmps42
  go_wp2
  go_ret
  exact ⟨by rw [HB.out]; rfl, Ext.refl _⟩

/-- The table lies as the program lays it. -/
def TabS (w : World) : Prop := ∃ t fr, w.heap[0]? = some (.cells ((List.range 65).map fun (k : Nat) => I (T k)).toArray t fr)
theorem TabS.ext {w w' : World} (h : TabS w) (x : Ext w w') : TabS w' := by
  obtain ⟨t, fr, h⟩ := h
  refine ⟨t, fr, ?_⟩
  have hs : 0 < w.heap.size := by
    rcases Nat.lt_or_ge 0 w.heap.size with h' | h'
    · exact h'
    · rw [Array.getElem?_eq_none h'] at h; cases h
  rw [Below.block x _ hs, h]
theorem TabS.at_ {w : World} (h : TabS w) (k : Nat) (hk : k < 65) : 0 < w.heap.size ∧ w.cell? ⟨0, k, none⟩ = some (I (T k)) := by
  obtain ⟨t, fr, h⟩ := h
  have hs : 0 < w.heap.size := by
    rcases Nat.lt_or_ge 0 w.heap.size with h' | h'
    · exact h'
    · rw [Array.getElem?_eq_none h'] at h; cases h
  refine ⟨hs, ?_⟩
  simp only [World.cell?, h]
  simp [hk]

set_option maxRecDepth 100000 in
set_option maxHeartbeats 1000000 in
theorem first_any (a : Int) (w : World) (hT : TabS w) (h0 : 0 ≤ a) (h1 : a ≤ 16383) : Calls Tryd.prog 33 #[I a] w fun e w' => e = .returned (.tuple #[I (qs (16384 - a)), I (qs a)]) ∧ Ext w w' := by
  obtain ⟨k, f, k1, f1, rfl⟩ : ∃ k f : Nat, k ≤ 63 ∧ f ≤ 255 ∧ a = 256 * k + f := ⟨a.toNat / 256, a.toNat % 256, by omega, by omega, by omega⟩
  have HS := Lib.hid (qs_at (k := k) (f := f) (by omega) (by omega) (by omega))
  have HC := Lib.hid (qs_down (k := k) (f := f) (by omega) (by omega) (by omega) (by omega))
  obtain ⟨hz, c1⟩ := hT.at_ k (by omega)
  have c2 := (hT.at_ (k + 1) (by omega)).2
  have c3 := (hT.at_ (64 - k) (by omega)).2
  have c4 := (hT.at_ (63 - k) (by omega)).2
  rw [show ((k + 1 : Nat) : Int) = (k : Int) + 1 by omega] at c2
  rw [show ((64 - k : Nat) : Int) = 64 - (k : Int) by omega] at c3
  rw [show ((63 - k : Nat) : Int) = 63 - (k : Int) by omega] at c4
  have b1 := T_bd (k := (k : Int)) (by omega) (by omega)
  have b2 := T_bd (k := (k : Int) + 1) (by omega) (by omega)
  have b3 := T_bd (k := 64 - (k : Int)) (by omega) (by omega)
  have b4 := T_bd (k := 63 - (k : Int)) (by omega) (by omega)
  generalize T (k : Int) = x1 at *
  generalize T ((k : Int) + 1) = x2 at *
  generalize T (64 - (k : Int)) = x3 at *
  generalize T (63 - (k : Int)) = x4 at *
  have e1 : (256 * (k : Int) + f) / 256 = k := by omega
  have e2 : (256 * (k : Int) + f) % 256 = f := by omega
  have n1 : ((64 : Int) - k).toNat = 64 - k := by omega
  have n2 : ((64 : Int) - k - 1).toNat = 63 - k := by omega
  have n3 : ((k : Int) + 1).toNat = k + 1 := by omega
  clear hT
  go_enter Tryd.func33, Tryd.ntmps33
  go_wp2
  simp only [e1, e2]
  have hL := fun (x : Later w) => x.ext.old.1
  have r1 : IntKind.i64.wrap (64 - (k : Int)) = 64 - k := IntWalk.i64_in _ (by omega)
  have r2 : IntKind.i64.wrap (64 - (k : Int) - 1) = 63 - k := by rw [IntWalk.i64_in _ (by omega)]; omega
  have r3 : IntKind.i64.wrap ((k : Int) + 1) = k + 1 := IntWalk.i64_in _ (by omega)
  have n4 : ((63 : Int) - k).toNat = 63 - k := by omega
  have z1 : 0 ≤ (64 : Int) - k ∧ (64 : Int) - k < 65 := by omega
  have z2 : 0 ≤ (63 : Int) - k ∧ (63 : Int) - k < 65 := by omega
  have z3 : 0 ≤ (k : Int) + 1 ∧ (k : Int) + 1 < 65 := by omega
  obtain ⟨z11, z12⟩ := z1
  obtain ⟨z21, z22⟩ := z2
  obtain ⟨z31, z32⟩ := z3
  have z4 : (k : Int) < 65 := by omega
  have hb := Ext.refl w
  clear e1 e2
  refine wp_region_later (by kernel_rfl) (by kernel_rfl) ?_
  repeat (go_big_quiet_step ((go_at_call 42; exact Calls.later (between_any _ _ _ _ (by assumption) (by assumption) (by omega) (by omega)))))
  refine wpQuiet_nil ?_
  intro w2 hw2
  replace hb := Ext.trans hb (Later.of hw2)
  clear hw2 hL
  go_wp2
  go_ret2
  exact ⟨by rw [HC.out, HS.out]; rfl, hb⟩

theorem q_of (a : Int) : 0 ≤ nrm a ∧ nrm a ≤ 65535 ∧ 0 ≤ nrm a % 16384 ∧ nrm a % 16384 ≤ 16383 := by unfold nrm; omega
set_option maxRecDepth 100000 in
set_option maxHeartbeats 1000000 in
theorem both_any (a : Int) (w : World) (hT : TabS w) : Calls Tryd.prog 19 #[I a] w fun e w' => e = .returned (.tuple #[I (cs a), I (sn a)]) ∧ Ext w w' := by
  obtain ⟨n0, n1, r0, r1⟩ := q_of a
  obtain ⟨s0, s1⟩ := qs_bd (r := nrm a % 16384) r0 (by omega)
  obtain ⟨c0, c1⟩ := qs_bd (r := 16384 - nrm a % 16384) (by omega) (by omega)
  have HV : Hid (cs a = cosq (nrm a / 16384) (qs (16384 - nrm a % 16384)) (qs (nrm a % 16384)) ∧ sn a = sinq (nrm a / 16384) (qs (16384 - nrm a % 16384)) (qs (nrm a % 16384))) := ⟨rfl, rfl⟩
  have HT := Lib.hid hT; clear hT
  have hq : nrm a / 16384 = 0 ∨ nrm a / 16384 = 1 ∨ nrm a / 16384 = 2 ∨ nrm a / 16384 = 3 := by omega
  generalize hc : qs (16384 - nrm a % 16384) = c at *
  generalize hs : qs (nrm a % 16384) = s at *
  have HC := Lib.hid hc; clear hc
  have HS := Lib.hid hs; clear hs
  have CF : ∀ w', Ext w w' → Calls Tryd.prog 33 #[I (nrm a % 16384)] w' fun e w2 => e = .returned (.tuple #[I c, I s]) ∧ Ext w' w2 := fun w' x => by
    have := first_any (nrm a % 16384) w' (HT.out.ext x) r0 r1
    rw [HC.out, HS.out] at this; exact this
  have CF := Lib.hid CF
  clear HC HS
  rcases hq with hq | hq | hq | hq
  all_goals
    rw [hq] at HV
    go_enter Tryd.func19, Tryd.ntmps19
    go_wp2_with (first
      | (go_at_call 32; refine (norm_any _ _).mono ?_; rintro e w1 ⟨rfl, hb1⟩; (first | replace hb := Ext.trans hb hb1 | replace hb := Ext.trans (Ext.trans hb (Ext.drewN _ _)) hb1 | replace hb := Ext.trans (Ext.trans hb (Ext.alloc _ _)) hb1 | have hb := hb1); clear hb1; obtain ⟨hc1, hf1⟩ := hb.old)
      | (go_at_call 33; refine (CF.out _ (by repeat (first | exact Ext.refl _ | assumption | exact Ext.alloc _ _ | refine Ext.trans ?_ (by assumption) | refine Ext.trans ?_ (Ext.alloc _ _) | refine Ext.trans ?_ (Ext.drewN _ _) | refine Ext.trans ?_ (Ext.drew _)))).mono ?_; rintro e w1 ⟨rfl, hb1⟩; (first | replace hb := Ext.trans hb hb1 | replace hb := Ext.trans (Ext.trans hb (Ext.drewN _ _)) hb1 | replace hb := Ext.trans (Ext.trans hb (Ext.alloc _ _)) hb1 | have hb := hb1); clear hb1; obtain ⟨hc1, hf1⟩ := hb.old))
    go_ret2
    exact ⟨by rw [HV.out.1, HV.out.2]; rfl, (by repeat (first | exact Ext.refl _ | assumption | exact Ext.alloc _ _ | refine Ext.trans ?_ (by assumption) | refine Ext.trans ?_ (Ext.alloc _ _) | refine Ext.trans ?_ (Ext.drewN _ _) | refine Ext.trans ?_ (Ext.drew _)))⟩

theorem both_is (a x y : Int) (w : World) (hT : TabS w) (hx : cs a = x) (hy : sn a = y) : Calls Tryd.prog 19 #[I a] w fun e w' => e = .returned (.tuple #[I x, I y]) ∧ Ext w w' := by
  subst hx hy; exact both_any a w hT

theorem aw1 : cs 128 = 32763 ∧ sn 128 = 402 := by decide +kernel
theorem aw2 : sn 8192 = 23170 := by decide +kernel
theorem aw3 : cs 32768 = -32768 := by decide +kernel
theorem aw4 : sn (-1) = -3 := by decide +kernel
end Go.Proofs.YtecpkggnjajppaaDoor
