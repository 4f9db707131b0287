/- Intervals: the walks of the functions (written by gi.py). -/
import Derived.Test.YtcdkkohklhmpgaaGreatDoorIvcd
import Derived.Deep.RegionHeld3
import Derived.Deep.DeepCutAuto
namespace Go.Proofs.YtcdkkohklhmpgaaGreatDoor
open Go.RowKit
attribute [local go_sem ↓] Go.wp_at_zero Go.wp_at_succ

/-- Is x in the interval from a to b? -/
def conB (a b x : DV) : Bool := decide (cmpD a x ≤ 0) && decide (cmpD x b ≤ 0)
theorem conB_f {a b x : DV} {v : Int} (h : cmpD a x = v) (hv : ¬ v ≤ 0) : conB a b x = false := by unfold conB; rw [h, decide_eq_false hv]; rfl
theorem conB_t {a b x : DV} {v z : Int} (h : cmpD a x = v) (hv : v ≤ 0) (h2 : cmpD x b = z) : conB a b x = decide (z ≤ 0) := by unfold conB; rw [h, h2, decide_eq_true hv]; rfl

set_option maxRecDepth 100000 in
set_option maxHeartbeats 1000000 in
theorem contains_any {w : World} {n1 n2 : Bool} {A B A' B' : Option Addr} {k c m e c' e' : Nat} {d1 d2 : Int} {a b : DV} {n3 : Bool} {X X' : Option Addr} {p q q' : Nat} {d3 : Int} {x : DV} (ha : Iw w n1 A k c d1 n2 B m e d2 a b A' c' B' e') (hb : Dy w n3 X p q d3 x X' q') :
    Calls Tryz.prog 46 #[iv n1 A k c d1 n2 B m e d2, dv n3 X p q d3] w fun e' w' => e' = .returned (.bool (conB a b x)) ∧ Ext w w' := by
  obtain ⟨v, hv⟩ : ∃ v, cmpD a x = v := ⟨_, rfl⟩
  obtain ⟨z, hz⟩ : ∃ z, cmpD x b = z := ⟨_, rfl⟩
  by_cases h : v ≤ 0
  · rw [conB_t hv h hz]
    have Ev := Lib.hid hv; have Ez := Lib.hid hz; clear hv hz
    have HA := Lib.hid ha; have HB := Lib.hid hb; clear ha hb
    obtain ⟨X0, X1, XE⟩ := boxesN w n1 n2 A B k c m e d1 d2 n3 X p q d3
    have HX0 := Lib.hid X0; have HX1 := Lib.hid X1; have HXE := Lib.hid XE
    clear X0 X1 XE
    go_enter Tryz.func46, Tryz.ntmps46
    go_upto_region 1 with fail
    go_cut [] (fun wx => NumI w a b A' c' B' e' n3 X p q d3 wx)
    case first =>
      obtain ⟨⟨k0, k1, k2, k3, k4, k5⟩, kz⟩ := HX0.out
      go_wp2_with (go_at_call 66; (with_reducible refine (HA.out.itv _ HXE.out).mono ?_); rintro e1 w1 ⟨rfl, hx⟩; clear k0 k1 k2 k3 k4 k5 kz; obtain ⟨⟨k0, k1, k2, k3, k4, k5⟩, kz⟩ := HX0.out.ext hx; have HX := Lib.hid hx; clear hx)
      go_meet
      exact numI_of HX0.out HX1.out HXE.out HX.out
    case rest =>
      clear HX0 HX1 HXE
      obtain ⟨hE, hX0, hX1⟩ := hcut
      have HE := Lib.hid hE; have HX0 := Lib.hid hX0; have HX1 := Lib.hid hX1
      clear hE hX0 hX1
      obtain ⟨⟨k0, k1, k2, k3, k4, k5⟩, kz⟩ := HX0.out
      obtain ⟨⟨l0, l1, l2⟩, lz⟩ := HX1.out
      go_wp2_with (first
        | (have hg := X1; clear hg; go_at_call 31; (with_reducible refine (cmp_any (HB.out.ext (HE.out.trans X1.out)) (HA.out.dyb.ext (HE.out.trans X1.out))).mono ?_); rw [Ez.out]; rintro e2 w2 ⟨rfl, hx⟩; have X2 := Lib.hid (X1.out.trans hx); clear hx)
        | (go_at_call 31; (with_reducible refine (cmp_any (HA.out.dya.ext (HE.out.trans (Ext.refl _))) (HB.out.ext (HE.out.trans (Ext.refl _)))).mono ?_); rw [Ev.out]; rintro e1 w1 ⟨rfl, hx⟩; have X1 := Lib.hid hx; clear k0 k1 k2 k3 k4 k5 kz l0 l1 l2 lz; obtain ⟨⟨k0, k1, k2, k3, k4, k5⟩, kz⟩ := HX0.out.ext hx; obtain ⟨⟨l0, l1, l2⟩, lz⟩ := HX1.out.ext hx; clear hx))
      go_ret
      exact ⟨rfl, HE.out.trans X2.out⟩
  · rw [conB_f hv h]
    have Ev := Lib.hid hv; have Ez := Lib.hid hz; clear hv hz
    have HA := Lib.hid ha; have HB := Lib.hid hb; clear ha hb
    obtain ⟨X0, X1, XE⟩ := boxesN w n1 n2 A B k c m e d1 d2 n3 X p q d3
    have HX0 := Lib.hid X0; have HX1 := Lib.hid X1; have HXE := Lib.hid XE
    clear X0 X1 XE
    go_enter Tryz.func46, Tryz.ntmps46
    go_upto_region 1 with fail
    go_cut [] (fun wx => NumI w a b A' c' B' e' n3 X p q d3 wx)
    case first =>
      obtain ⟨⟨k0, k1, k2, k3, k4, k5⟩, kz⟩ := HX0.out
      go_wp2_with (go_at_call 66; (with_reducible refine (HA.out.itv _ HXE.out).mono ?_); rintro e1 w1 ⟨rfl, hx⟩; clear k0 k1 k2 k3 k4 k5 kz; obtain ⟨⟨k0, k1, k2, k3, k4, k5⟩, kz⟩ := HX0.out.ext hx; have HX := Lib.hid hx; clear hx)
      go_meet
      exact numI_of HX0.out HX1.out HXE.out HX.out
    case rest =>
      clear HX0 HX1 HXE
      obtain ⟨hE, hX0, hX1⟩ := hcut
      have HE := Lib.hid hE; have HX0 := Lib.hid hX0; have HX1 := Lib.hid hX1
      clear hE hX0 hX1
      obtain ⟨⟨k0, k1, k2, k3, k4, k5⟩, kz⟩ := HX0.out
      obtain ⟨⟨l0, l1, l2⟩, lz⟩ := HX1.out
      go_wp2_with (go_at_call 31; (with_reducible refine (cmp_any (HA.out.dya.ext (HE.out.trans (Ext.refl _))) (HB.out.ext (HE.out.trans (Ext.refl _)))).mono ?_); rw [Ev.out]; rintro e1 w1 ⟨rfl, hx⟩; have X1 := Lib.hid hx; clear k0 k1 k2 k3 k4 k5 kz l0 l1 l2 lz; obtain ⟨⟨k0, k1, k2, k3, k4, k5⟩, kz⟩ := HX0.out.ext hx; obtain ⟨⟨l0, l1, l2⟩, lz⟩ := HX1.out.ext hx; clear hx)
      go_ret
      exact ⟨rfl, HE.out.trans X1.out⟩
end Go.Proofs.YtcdkkohklhmpgaaGreatDoor
