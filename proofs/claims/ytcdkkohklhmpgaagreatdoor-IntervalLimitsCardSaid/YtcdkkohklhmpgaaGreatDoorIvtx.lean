/- Intervals: the walks of the functions (written by gi.py). -/
import Derived.Test.YtcdkkohklhmpgaaGreatDoorIvcd
import Derived.Test.YtcdkkohklhmpgaaGreatDoorMdtx
import Derived.Deep.RegionHeld3
import Derived.Deep.DeepCutAuto
namespace Go.Proofs.YtcdkkohklhmpgaaGreatDoor
open Go.RowKit
attribute [local go_sem ↓] Go.wp_at_zero Go.wp_at_succ

/-- The text of an interval. -/
def ivS (a b : DV) : ByteArray := ⟨#[91]⟩ ++ txtS a ++ ⟨#[44, 32]⟩ ++ txtS b ++ ⟨#[93]⟩
theorem txtS_size {d : DV} (hL : len d.m ≤ 1048576) (h2 : d.den ≤ 65536) : (txtS d).size ≤ 100000010 := by
  have hs1 : (digB d.m).size ≤ 100000000 := by
    rw [digB_size, Lib.decDigits_length]
    have h9 := gl_words d.m
    by_cases hm : d.m = 0
    · rw [hm, Lib.nDigits_small (by decide)]; omega
    · have := top_len (m := d.m) (n := gl d.m) (i := gl d.m) rfl (by rw [gl_pos hm]; omega) (Nat.le_refl _)
      rw [Nat.sub_self, Nat.pow_zero, Nat.div_one, Lib.decDigits_length] at this
      omega
  have hs2 : (digB d.den).size ≤ 6 := by rw [digB_size]; exact nd_le (by decide) (by rw [show (10 : Nat) ^ 6 = 1000000 by decide]; omega)
  have h3 : (⟨#[45]⟩ : ByteArray).size = 1 := rfl
  have h4 : (⟨#[47, 50, 94]⟩ : ByteArray).size = 3 := rfl
  unfold txtS signB
  split <;> split <;> (try simp only [ByteArray.size_append, h3, h4]) <;> omega
def OneT (w : World) (a b : DV) (A : Option Addr) (c : Nat) (B : Option Addr) (e : Nat) (wx : World) : Prop := Ext w wx ∧ BI wx w.heap.size a A c b B e
theorem oneT_of {w W0 W : World} {a b : DV} {A B : Option Addr} {c e : Nat} {v0 v1 v2 v3 v4 v5 : Value} (h0 : B6 W0 w.heap.size v0 v1 v2 v3 v4 v5) (hw : Ext w W0) (hx : Ext W0 W) :
    OneT w a b A c B e ((((((W.setCell ⟨w.heap.size, 0, none⟩ (.bool a.neg)).setCell ⟨w.heap.size, 1, none⟩ (.slice A (len a.m) c)).setCell ⟨w.heap.size, 2, none⟩ (I a.den)).setCell ⟨w.heap.size, 3, none⟩ (.bool b.neg)).setCell ⟨w.heap.size, 4, none⟩ (.slice B (len b.m) e)).setCell ⟨w.heap.size, 5, none⟩ (I b.den)) :=
  ⟨ext_set6 (hw.trans hx) (Nat.le_refl _) _ _ _ _ _ _, (h0.ext hx).set6 _ _ _ _ _ _⟩

set_option maxRecDepth 100000 in
set_option maxHeartbeats 1000000 in
theorem itext_any {w : World} {n1 n2 : Bool} {A B A' B' : Option Addr} {k c m e c' e' : Nat} {d1 d2 : Int} {a b : DV} (ha : Iw w n1 A k c d1 n2 B m e d2 a b A' c' B' e') (hP : TabP w) :
    Calls Tryz.prog 64 #[iv n1 A k c d1 n2 B m e d2] w fun e' w' => e' = .returned (.string (ivS a b)) ∧ Ext w w' := by
  have LA : Hid (len a.m ≤ 1048576) := ha.wa.2; have LB : Hid (len b.m ≤ 1048576) := ha.wb.2
  have su := txtS_size ha.wa.2 ha.wa.1.2.1; have sv := txtS_size ha.wb.2 ha.wb.1.2.1
  obtain ⟨S, hS⟩ : ∃ S, ivS a b = S := ⟨_, rfl⟩
  rw [hS]
  unfold ivS at hS
  obtain ⟨u, hu⟩ : ∃ u, txtS a = u := ⟨_, rfl⟩
  obtain ⟨v, hv⟩ : ∃ v, txtS b = v := ⟨_, rfl⟩
  rw [hu] at su hS; rw [hv] at sv hS
  have t1 : ¬ 9223372036854775807 < 1 + u.size := (by omega); have t2 : ¬ 9223372036854775807 < 1 + u.size + 2 := (by omega); have t3 : ¬ 9223372036854775807 < 1 + u.size + 2 + v.size := (by omega); have t4 : ¬ 9223372036854775807 < 1 + u.size + 2 + v.size + 1 := (by omega); clear su sv
  have Eu := Lib.hid hu; have Ev := Lib.hid hv; have HS0 := Lib.hid hS; clear hu hv hS
  have HA := Lib.hid ha; have HP := Lib.hid hP; clear ha hP
  have HX0 := Lib.hid (B6.new w (.bool n1) (.slice A k c) (I d1) (.bool n2) (.slice B m e) (I d2) 26)
  go_enter Tryz.func64, Tryz.ntmps64
  go_upto_region 1 with fail
  go_cut [] (fun wx => OneT w a b A' c' B' e' wx)
  case first =>
    obtain ⟨⟨k0, k1, k2, k3, k4, k5⟩, kz⟩ := HX0.out
    go_wp2_with (go_at_call 66; (with_reducible refine (HA.out.itv _ (Ext.alloc _ _)).mono ?_); rintro e1 w1 ⟨rfl, hx⟩; clear k0 k1 k2 k3 k4 k5 kz; obtain ⟨⟨k0, k1, k2, k3, k4, k5⟩, kz⟩ := HX0.out.ext hx; have HX := Lib.hid hx; clear hx)
    go_meet
    exact oneT_of HX0.out (Ext.alloc _ _) HX.out
  case rest =>
    clear HX0
    obtain ⟨hE, hX0⟩ := hcut
    have HE := Lib.hid hE; have HX0 := Lib.hid hX0; clear hE hX0
    have HS : Hid (∀ w', Ext wc w' → w'.cell? ⟨w.heap.size, 0, none⟩ = some (.bool a.neg) ∧ w'.cell? ⟨w.heap.size, 1, none⟩ = some (.slice A' (len a.m) c') ∧ w'.cell? ⟨w.heap.size, 2, none⟩ = some (I a.den) ∧ w'.cell? ⟨w.heap.size, 3, none⟩ = some (.bool b.neg) ∧ w'.cell? ⟨w.heap.size, 4, none⟩ = some (.slice B' (len b.m) e') ∧ w'.cell? ⟨w.heap.size, 5, none⟩ = some (I b.den)) := fun w' e => by
      obtain ⟨⟨i0, i1, i2, i3, i4, i5⟩, iz⟩ := HX0.out.ext e
      exact ⟨i0, i1, i2, i3, i4, i5⟩
    go_wp2_with fail
    go_region_held3 (fun w' => w'.cell? ⟨w.heap.size, 0, none⟩ = some (.bool a.neg) ∧ w'.cell? ⟨w.heap.size, 1, none⟩ = some (.slice A' (len a.m) c') ∧ w'.cell? ⟨w.heap.size, 2, none⟩ = some (I a.den) ∧ w'.cell? ⟨w.heap.size, 3, none⟩ = some (.bool b.neg) ∧ w'.cell? ⟨w.heap.size, 4, none⟩ = some (.slice B' (len b.m) e') ∧ w'.cell? ⟨w.heap.size, 5, none⟩ = some (I b.den)) (first | with_reducible assumption | exact HS.out _ (by (with_reducible (repeat (first | exact Ext.refl _ | assumption | (refine Ext.toSet ?_ (by omega)) | refine Ext.toAlloc ?_ | refine Ext.toDrew ?_ | refine Ext.toDrewN ?_ | refine Ext.trans ?_ (by assumption)))); (first | done | fail "no")))
      (first
        | (have hg := hx1; clear hg; go_at_call 150; (with_reducible refine (text_any (HA.out.dyb.ext (HE.out.trans (by (with_reducible (repeat (first | exact Ext.refl _ | assumption | (refine Ext.toSet ?_ (by omega)) | refine Ext.toAlloc ?_ | refine Ext.toDrew ?_ | refine Ext.toDrewN ?_ | refine Ext.trans ?_ (by assumption)))); (first | done | fail "no")))) (HP.out.ext (HE.out.trans (by (with_reducible (repeat (first | exact Ext.refl _ | assumption | (refine Ext.toSet ?_ (by omega)) | refine Ext.toAlloc ?_ | refine Ext.toDrew ?_ | refine Ext.toDrewN ?_ | refine Ext.trans ?_ (by assumption)))); (first | done | fail "no")))) LB.out).mono ?_); rw [Ev.out]; rintro e1 w2 ⟨rfl, hx2⟩)
        | (go_at_call 150; (with_reducible refine (text_any (HA.out.dya.ext (HE.out.trans (by (with_reducible (repeat (first | exact Ext.refl _ | assumption | (refine Ext.toSet ?_ (by omega)) | refine Ext.toAlloc ?_ | refine Ext.toDrew ?_ | refine Ext.toDrewN ?_ | refine Ext.trans ?_ (by assumption)))); (first | done | fail "no")))) (HP.out.ext (HE.out.trans (by (with_reducible (repeat (first | exact Ext.refl _ | assumption | (refine Ext.toSet ?_ (by omega)) | refine Ext.toAlloc ?_ | refine Ext.toDrew ?_ | refine Ext.toDrewN ?_ | refine Ext.trans ?_ (by assumption)))); (first | done | fail "no")))) LA.out).mono ?_); rw [Eu.out]; rintro e1 w1 ⟨rfl, hx1⟩))
    all_goals
      have HF := Lib.hid (HE.out.trans (show Ext wc w2 from (by (with_reducible (repeat (first | exact Ext.refl _ | assumption | (refine Ext.toSet ?_ (by omega)) | refine Ext.toAlloc ?_ | refine Ext.toDrew ?_ | refine Ext.toDrewN ?_ | refine Ext.trans ?_ (by assumption)))); (first | done | fail "no"))))
      go_wp2_with fail
      go_ret
      rw [← HS0.out]
      exact ⟨rfl, HF.out⟩
end Go.Proofs.YtcdkkohklhmpgaaGreatDoor
