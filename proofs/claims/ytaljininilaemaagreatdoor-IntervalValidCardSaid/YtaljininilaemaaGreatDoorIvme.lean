/- Intervals: the walks of the functions (written by gi.py). -/
import Derived.Test.YtaljininilaemaaGreatDoorIvmk
import Derived.Deep.RegionHeld3
import Derived.Deep.DeepCutAuto
namespace Go.Proofs.YtaljininilaemaaGreatDoor
open Go.RowKit
attribute [local go_sem ↓] Go.wp_at_zero Go.wp_at_succ

theorem one6 {w w1 : World} {v0 v1 v2 v3 v4 v5 : Value} {t : TypeId} (hx : Ext (w.alloc (.cells #[v0, v1, v2, v3, v4, v5] t)) w1) : B6 w1 w.heap.size v0 v1 v2 v3 v4 v5 := (B6.new w v0 v1 v2 v3 v4 v5 t).ext hx
theorem one6d {w w1 : World} {v0 v1 v2 v3 v4 v5 : Value} {t : TypeId} (hx : Ext (w.alloc (.cells #[v0, v1, v2, v3, v4, v5] t)).drew w1) : B6 w1 w.heap.size v0 v1 v2 v3 v4 v5 := (B6.new w v0 v1 v2 v3 v4 v5 t).ext ((Ext.drew _).trans hx)
/-- What the second statement of Meet leaves. -/
def MtS (W wx : World) (r : Nat) (L H : DV) (A : Option Addr) (c : Nat) (B : Option Addr) (e : Nat) : Prop := Ext W wx ∧ BI wx r L A c H B e ∧ Off wx W.heap.size r r A (len L.m) c (dg L.m) ∧ Off wx W.heap.size r r B (len H.m) e (dg H.m)
theorem Fr.off {w : World} {b base p q n c : Nat} {A : Option Addr} {f : Nat → Nat} (h : Fr w b A n c f) (hb : base ≤ b) (hp : p < b ∨ w.heap.size ≤ p) (hq : q < b ∨ w.heap.size ≤ q) : Off w base p q A n c f := by
  refine ⟨h.mono hb, fun hn a ha => ?_⟩
  have h1 := h.2.2 hn a ha
  obtain ⟨b', o, e, hb', _⟩ := h.rd hn
  rw [e] at ha
  injection ha with ha
  subst ha
  have h2 : b' < w.heap.size := hb'
  have h3 : b ≤ b' := h1
  exact ⟨by show b' ≠ p; omega, by show b' ≠ q; omega⟩

set_option maxRecDepth 100000 in
set_option maxHeartbeats 1000000 in
theorem meet_err {w : World} {n1 n2 : Bool} {A B A' B' : Option Addr} {k c m e c' e' : Nat} {d1 d2 : Int} {a b : DV} {n3 n4 : Bool} {X Y X' Y' : Option Addr} {p q r s q' s' : Nat} {d3 d4 : Int} {x y : DV} (ha : Iw w n1 A k c d1 n2 B m e d2 a b A' c' B' e') (hb : Iw w n3 X p q d3 n4 Y r s d4 x y X' q' Y' s') (hT : Tabs w) (hc : 0 < cmpD (maxD a x) (minD b y)) :
    Calls Tryz.prog 23 #[iv n1 A k c d1 n2 B m e d2, iv n3 X p q d3 n4 Y r s d4] w (IvErr 23 w) := by
  obtain ⟨u, hu⟩ : ∃ u, maxD a x = u := ⟨_, rfl⟩
  obtain ⟨v, hv⟩ : ∃ v, minD b y = v := ⟨_, rfl⟩
  have Wu : Hid (u.ok ∧ len u.m ≤ 16777216) := by show _ ∧ _; rw [← hu]; have := ha.wa.2; have := hb.wa.2; exact ⟨maxD_ok ha.wa.1 hb.wa.1, sz_max (P := fun d => len d.m ≤ 16777216) (by show len a.m ≤ _; omega) (by show len x.m ≤ _; omega)⟩
  have Wv : Hid (v.ok ∧ len v.m ≤ 16777216) := by show _ ∧ _; rw [← hv]; have := ha.wb.2; have := hb.wb.2; exact ⟨minD_ok ha.wb.1 hb.wb.1, sz_min (P := fun d => len d.m ≤ 16777216) (by show len b.m ≤ _; omega) (by show len y.m ≤ _; omega)⟩
  rw [hu, hv] at hc
  have Eu := Lib.hid hu; have Ev := Lib.hid hv; have HC := Lib.hid hc; clear hu hv hc
  have HA := Lib.hid ha; have HB := Lib.hid hb; have HT := Lib.hid hT; clear ha hb hT
  obtain ⟨X0, X1, XZ, XE⟩ := boxes3 w n1 n2 A B k c m e d1 d2 n3 n4 X Y p q r s d3 d4
  have HX0 := Lib.hid X0; have HX1 := Lib.hid X1; have HXZ := Lib.hid XZ; have HXE := Lib.hid XE
  clear X0 X1 XZ XE
  go_enter Tryz.func23, Tryz.ntmps23
  go_upto_region 1 with fail
  go_cut [] (fun wx => TwoI w a b A' c' B' e' x y X' q' Y' s' wx)
  case first =>
    go_region_with (first
      | (go_at_call 94; (with_reducible refine (HA.out.itv _ (HXE.out.trans (by (with_reducible (repeat (first | exact Ext.refl _ | assumption | (refine Ext.toSet ?_ (by omega)) | refine Ext.toAlloc ?_ | refine Ext.toDrew ?_ | refine Ext.toDrewN ?_ | refine Ext.trans ?_ (by assumption)))); (first | done | fail "no")))).mono ?_); rintro e1 wa ⟨rfl, hxwa⟩; obtain ⟨⟨ak0, ak1, ak2, ak3, ak4, ak5⟩, akz⟩ := HX0.out.ext (w' := wa) (by (with_reducible (repeat (first | exact Ext.refl _ | assumption | (refine Ext.toSet ?_ (by omega)) | refine Ext.toAlloc ?_ | refine Ext.toDrew ?_ | refine Ext.toDrewN ?_ | refine Ext.trans ?_ (by assumption)))); (first | done | fail "no")); obtain ⟨⟨al0, al1, al2, al3, al4, al5⟩, alz⟩ := HX1.out.ext (w' := wa) (by (with_reducible (repeat (first | exact Ext.refl _ | assumption | (refine Ext.toSet ?_ (by omega)) | refine Ext.toAlloc ?_ | refine Ext.toDrew ?_ | refine Ext.toDrewN ?_ | refine Ext.trans ?_ (by assumption)))); (first | done | fail "no")))
      | (go_at_call 94; (with_reducible refine (HB.out.itv _ (HXE.out.trans (by (with_reducible (repeat (first | exact Ext.refl _ | assumption | (refine Ext.toSet ?_ (by omega)) | refine Ext.toAlloc ?_ | refine Ext.toDrew ?_ | refine Ext.toDrewN ?_ | refine Ext.trans ?_ (by assumption)))); (first | done | fail "no")))).mono ?_); rintro e1 wb ⟨rfl, hxwb⟩; obtain ⟨⟨bk0, bk1, bk2, bk3, bk4, bk5⟩, bkz⟩ := HX0.out.ext (w' := wb) (by (with_reducible (repeat (first | exact Ext.refl _ | assumption | (refine Ext.toSet ?_ (by omega)) | refine Ext.toAlloc ?_ | refine Ext.toDrew ?_ | refine Ext.toDrewN ?_ | refine Ext.trans ?_ (by assumption)))); (first | done | fail "no")); obtain ⟨⟨bl0, bl1, bl2, bl3, bl4, bl5⟩, blz⟩ := HX1.out.ext (w' := wb) (by (with_reducible (repeat (first | exact Ext.refl _ | assumption | (refine Ext.toSet ?_ (by omega)) | refine Ext.toAlloc ?_ | refine Ext.toDrew ?_ | refine Ext.toDrewN ?_ | refine Ext.trans ?_ (by assumption)))); (first | done | fail "no"))))
    all_goals
      go_wp2_with fail
      go_meet
      exact twoI_of HX0.out HX1.out HXZ.out HXE.out (by (with_reducible (repeat (first | exact Ext.refl _ | assumption | (refine Ext.toSet ?_ (by omega)) | refine Ext.toAlloc ?_ | refine Ext.toDrew ?_ | refine Ext.toDrewN ?_ | refine Ext.trans ?_ (by assumption)))); (first | done | fail "no"))
  case rest =>
    clear HX0 HX1 HXZ HXE
    obtain ⟨hE, hX0, hX1, hXZ⟩ := hcut
    have HE := Lib.hid hE; have HX0 := Lib.hid hX0; have HX1 := Lib.hid hX1; have HXZ := Lib.hid hXZ
    clear hE hX0 hX1 hXZ
    have HS : Hid (∀ w', Ext wc w' → w'.cell? ⟨w.heap.size, 0, none⟩ = some (.bool a.neg) ∧ w'.cell? ⟨w.heap.size, 1, none⟩ = some (.slice A' (len a.m) c') ∧ w'.cell? ⟨w.heap.size, 2, none⟩ = some (I a.den) ∧ w'.cell? ⟨w.heap.size, 3, none⟩ = some (.bool b.neg) ∧ w'.cell? ⟨w.heap.size, 4, none⟩ = some (.slice B' (len b.m) e') ∧ w'.cell? ⟨w.heap.size, 5, none⟩ = some (I b.den) ∧ w'.cell? ⟨w.heap.size + 1, 0, none⟩ = some (.bool x.neg) ∧ w'.cell? ⟨w.heap.size + 1, 1, none⟩ = some (.slice X' (len x.m) q') ∧ w'.cell? ⟨w.heap.size + 1, 2, none⟩ = some (I x.den) ∧ w'.cell? ⟨w.heap.size + 1, 3, none⟩ = some (.bool y.neg) ∧ w'.cell? ⟨w.heap.size + 1, 4, none⟩ = some (.slice Y' (len y.m) s') ∧ w'.cell? ⟨w.heap.size + 1, 5, none⟩ = some (I y.den)) := fun w' e => by
      obtain ⟨⟨i0, i1, i2, i3, i4, i5⟩, iz⟩ := HX0.out.ext e
      obtain ⟨⟨j0, j1, j2, j3, j4, j5⟩, jz⟩ := HX1.out.ext e
      exact ⟨i0, i1, i2, i3, i4, i5, j0, j1, j2, j3, j4, j5⟩
    go_upto_region 2 with fail
    go_cut [6, 7] (fun s6 s7 wx => s7 = .iface 81 (I 3) ∧ Hid (Ext wc wx))
    case first =>
      clear HX0 HX1 HXZ
      go_region_held3 (fun w' => w'.cell? ⟨w.heap.size, 0, none⟩ = some (.bool a.neg) ∧ w'.cell? ⟨w.heap.size, 1, none⟩ = some (.slice A' (len a.m) c') ∧ w'.cell? ⟨w.heap.size, 2, none⟩ = some (I a.den) ∧ w'.cell? ⟨w.heap.size, 3, none⟩ = some (.bool b.neg) ∧ w'.cell? ⟨w.heap.size, 4, none⟩ = some (.slice B' (len b.m) e') ∧ w'.cell? ⟨w.heap.size, 5, none⟩ = some (I b.den) ∧ w'.cell? ⟨w.heap.size + 1, 0, none⟩ = some (.bool x.neg) ∧ w'.cell? ⟨w.heap.size + 1, 1, none⟩ = some (.slice X' (len x.m) q') ∧ w'.cell? ⟨w.heap.size + 1, 2, none⟩ = some (I x.den) ∧ w'.cell? ⟨w.heap.size + 1, 3, none⟩ = some (.bool y.neg) ∧ w'.cell? ⟨w.heap.size + 1, 4, none⟩ = some (.slice Y' (len y.m) s') ∧ w'.cell? ⟨w.heap.size + 1, 5, none⟩ = some (I y.den)) (first | with_reducible assumption | exact HS.out _ (by (with_reducible (repeat (first | exact Ext.refl _ | assumption | (refine Ext.toSet ?_ (by omega)) | refine Ext.toAlloc ?_ | refine Ext.toDrew ?_ | refine Ext.toDrewN ?_ | refine Ext.trans ?_ (by assumption)))); (first | done | fail "no")))
        (first
          | (have hg := hx2; clear hg; go_at_call 52; (with_reducible refine (imake_err (D1.out.ext (by (with_reducible (repeat (first | exact Ext.refl _ | assumption | (refine Ext.toSet ?_ (by omega)) | refine Ext.toAlloc ?_ | refine Ext.toDrew ?_ | refine Ext.toDrewN ?_ | refine Ext.trans ?_ (by assumption)))); (first | done | fail "no"))) (D2.out.ext (by (with_reducible (repeat (first | exact Ext.refl _ | assumption | (refine Ext.toSet ?_ (by omega)) | refine Ext.toAlloc ?_ | refine Ext.toDrew ?_ | refine Ext.toDrewN ?_ | refine Ext.trans ?_ (by assumption)))); (first | done | fail "no"))) HC.out).mono ?_); rintro e1 w3 ⟨rfl, hx3⟩; have g3 := Ext.size hx3; (try simp only [World.size_alloc] at g3); (first | (have rr := RB.out.ext hx3; clear RB; have RB := Lib.hid rr; clear rr) | ((with_reducible have rr := one6 hx3); have RB := Lib.hid rr; clear rr) | skip); (first | (obtain ⟨⟨r0, r1, r2, r3, r4, r5⟩, rz⟩ := RB.out; have l1 := RB.out.lt; have m1 := Nat.ne_of_lt l1; have n1' := Nat.ne_of_gt l1) | skip))
          | (have hg := hx1; clear hg; go_at_call 75; (with_reducible refine (min_any (HA.out.dyb.ext (HE.out.trans (by (with_reducible (repeat (first | exact Ext.refl _ | assumption | (refine Ext.toSet ?_ (by omega)) | refine Ext.toAlloc ?_ | refine Ext.toDrew ?_ | refine Ext.toDrewN ?_ | refine Ext.trans ?_ (by assumption)))); (first | done | fail "no")))) (HB.out.dyb.ext (HE.out.trans (by (with_reducible (repeat (first | exact Ext.refl _ | assumption | (refine Ext.toSet ?_ (by omega)) | refine Ext.toAlloc ?_ | refine Ext.toDrew ?_ | refine Ext.toDrewN ?_ | refine Ext.trans ?_ (by assumption)))); (first | done | fail "no")))) (HT.out.ext (HE.out.trans (by (with_reducible (repeat (first | exact Ext.refl _ | assumption | (refine Ext.toSet ?_ (by omega)) | refine Ext.toAlloc ?_ | refine Ext.toDrew ?_ | refine Ext.toDrewN ?_ | refine Ext.trans ?_ (by assumption)))); (first | done | fail "no"))))).mono ?_); rw [Ev.out]; rintro e1 w2 ⟨A2, c2, rfl, hon, hx2⟩; have D2 := Lib.hid (Dy.of_on hon Wv.out.1 Wv.out.2 (Ext.refl _)); clear hon; have g2 := Ext.size hx2; (try simp only [World.size_alloc] at g2); (first | (have rr := RB.out.ext hx2; clear RB; have RB := Lib.hid rr; clear rr) | ((with_reducible have rr := one6 hx2); have RB := Lib.hid rr; clear rr) | skip))
          | (go_at_call 76; (with_reducible refine (max_any (HA.out.dya.ext (HE.out.trans (by (with_reducible (repeat (first | exact Ext.refl _ | assumption | (refine Ext.toSet ?_ (by omega)) | refine Ext.toAlloc ?_ | refine Ext.toDrew ?_ | refine Ext.toDrewN ?_ | refine Ext.trans ?_ (by assumption)))); (first | done | fail "no")))) (HB.out.dya.ext (HE.out.trans (by (with_reducible (repeat (first | exact Ext.refl _ | assumption | (refine Ext.toSet ?_ (by omega)) | refine Ext.toAlloc ?_ | refine Ext.toDrew ?_ | refine Ext.toDrewN ?_ | refine Ext.trans ?_ (by assumption)))); (first | done | fail "no")))) (HT.out.ext (HE.out.trans (by (with_reducible (repeat (first | exact Ext.refl _ | assumption | (refine Ext.toSet ?_ (by omega)) | refine Ext.toAlloc ?_ | refine Ext.toDrew ?_ | refine Ext.toDrewN ?_ | refine Ext.trans ?_ (by assumption)))); (first | done | fail "no"))))).mono ?_); rw [Eu.out]; rintro e1 w1 ⟨A1, c1, rfl, hon, hx1⟩; have D1 := Lib.hid (Dy.of_on hon Wu.out.1 Wu.out.2 (Ext.refl _)); clear hon; have g1 := Ext.size hx1; (try simp only [World.size_drew, World.size_alloc] at g1); (first | ((with_reducible have rr := one6d hx1); have RB := Lib.hid rr; clear rr) | skip)))
      all_goals
        go_wp2_with fail
        go_meet
        exact ⟨rfl, Lib.hid (by (with_reducible (repeat (first | exact Ext.refl _ | assumption | (refine Ext.toSet ?_ (by omega)) | refine Ext.toAlloc ?_ | refine Ext.toDrew ?_ | refine Ext.toDrewN ?_ | refine Ext.trans ?_ (by assumption)))); (first | done | fail "no"))⟩
    case rest =>
      obtain ⟨rfl, hc⟩ := hcut
      obtain ⟨⟨r0, r1, r2, r3, r4, r5⟩, rz⟩ := HXZ.out.ext hc.out
      have HF := Lib.hid (HE.out.trans hc.out)
      clear hc
      go_wp2_with fail
      exact bodyPost_ret (v := .tuple #[iv false none 0 0 0 false none 0 0 0, .iface 81 (I 23)]) (by simp [results, Tryz.results23, go_sem, r0, r1, r2, r3, r4, r5]) rfl ⟨rfl, ext_set6 HF.out (by omega) _ _ _ _ _ _⟩

set_option maxRecDepth 100000 in
set_option maxHeartbeats 1000000 in
theorem meet_ok {w : World} {n1 n2 : Bool} {A B A' B' : Option Addr} {k c m e c' e' : Nat} {d1 d2 : Int} {a b : DV} {n3 n4 : Bool} {X Y X' Y' : Option Addr} {p q r s q' s' : Nat} {d3 d4 : Int} {x y : DV} (ha : Iw w n1 A k c d1 n2 B m e d2 a b A' c' B' e') (hb : Iw w n3 X p q d3 n4 Y r s d4 x y X' q' Y' s') (hT : Tabs w) (hc : ¬ 0 < cmpD (maxD a x) (minD b y)) :
    Calls Tryz.prog 23 #[iv n1 A k c d1 n2 B m e d2, iv n3 X p q d3 n4 Y r s d4] w (IvOk (lo2 (maxD a x) (minD b y)) (hi2 (maxD a x) (minD b y)) w) := by
  obtain ⟨u, hu⟩ : ∃ u, maxD a x = u := ⟨_, rfl⟩
  obtain ⟨v, hv⟩ : ∃ v, minD b y = v := ⟨_, rfl⟩
  have Wu : Hid (u.ok ∧ len u.m ≤ 16777216) := by show _ ∧ _; rw [← hu]; have := ha.wa.2; have := hb.wa.2; exact ⟨maxD_ok ha.wa.1 hb.wa.1, sz_max (P := fun d => len d.m ≤ 16777216) (by show len a.m ≤ _; omega) (by show len x.m ≤ _; omega)⟩
  have Wv : Hid (v.ok ∧ len v.m ≤ 16777216) := by show _ ∧ _; rw [← hv]; have := ha.wb.2; have := hb.wb.2; exact ⟨minD_ok ha.wb.1 hb.wb.1, sz_min (P := fun d => len d.m ≤ 16777216) (by show len b.m ≤ _; omega) (by show len y.m ≤ _; omega)⟩
  rw [hu, hv] at hc; rw [hu, hv]
  have Eu := Lib.hid hu; have Ev := Lib.hid hv; have HC := Lib.hid (Int.not_lt.1 hc); clear hu hv hc
  have HA := Lib.hid ha; have HB := Lib.hid hb; have HT := Lib.hid hT; clear ha hb hT
  obtain ⟨X0, X1, XZ, XE⟩ := boxes3 w n1 n2 A B k c m e d1 d2 n3 n4 X Y p q r s d3 d4
  have HX0 := Lib.hid X0; have HX1 := Lib.hid X1; have HXZ := Lib.hid XZ; have HXE := Lib.hid XE
  clear X0 X1 XZ XE
  go_enter Tryz.func23, Tryz.ntmps23
  go_upto_region 1 with fail
  go_cut [] (fun wx => TwoI w a b A' c' B' e' x y X' q' Y' s' wx)
  case first =>
    go_region_with (first
      | (go_at_call 94; (with_reducible refine (HA.out.itv _ (HXE.out.trans (by (with_reducible (repeat (first | exact Ext.refl _ | assumption | (refine Ext.toSet ?_ (by omega)) | refine Ext.toAlloc ?_ | refine Ext.toDrew ?_ | refine Ext.toDrewN ?_ | refine Ext.trans ?_ (by assumption)))); (first | done | fail "no")))).mono ?_); rintro e1 wa ⟨rfl, hxwa⟩; obtain ⟨⟨ak0, ak1, ak2, ak3, ak4, ak5⟩, akz⟩ := HX0.out.ext (w' := wa) (by (with_reducible (repeat (first | exact Ext.refl _ | assumption | (refine Ext.toSet ?_ (by omega)) | refine Ext.toAlloc ?_ | refine Ext.toDrew ?_ | refine Ext.toDrewN ?_ | refine Ext.trans ?_ (by assumption)))); (first | done | fail "no")); obtain ⟨⟨al0, al1, al2, al3, al4, al5⟩, alz⟩ := HX1.out.ext (w' := wa) (by (with_reducible (repeat (first | exact Ext.refl _ | assumption | (refine Ext.toSet ?_ (by omega)) | refine Ext.toAlloc ?_ | refine Ext.toDrew ?_ | refine Ext.toDrewN ?_ | refine Ext.trans ?_ (by assumption)))); (first | done | fail "no")))
      | (go_at_call 94; (with_reducible refine (HB.out.itv _ (HXE.out.trans (by (with_reducible (repeat (first | exact Ext.refl _ | assumption | (refine Ext.toSet ?_ (by omega)) | refine Ext.toAlloc ?_ | refine Ext.toDrew ?_ | refine Ext.toDrewN ?_ | refine Ext.trans ?_ (by assumption)))); (first | done | fail "no")))).mono ?_); rintro e1 wb ⟨rfl, hxwb⟩; obtain ⟨⟨bk0, bk1, bk2, bk3, bk4, bk5⟩, bkz⟩ := HX0.out.ext (w' := wb) (by (with_reducible (repeat (first | exact Ext.refl _ | assumption | (refine Ext.toSet ?_ (by omega)) | refine Ext.toAlloc ?_ | refine Ext.toDrew ?_ | refine Ext.toDrewN ?_ | refine Ext.trans ?_ (by assumption)))); (first | done | fail "no")); obtain ⟨⟨bl0, bl1, bl2, bl3, bl4, bl5⟩, blz⟩ := HX1.out.ext (w' := wb) (by (with_reducible (repeat (first | exact Ext.refl _ | assumption | (refine Ext.toSet ?_ (by omega)) | refine Ext.toAlloc ?_ | refine Ext.toDrew ?_ | refine Ext.toDrewN ?_ | refine Ext.trans ?_ (by assumption)))); (first | done | fail "no"))))
    all_goals
      go_wp2_with fail
      go_meet
      exact twoI_of HX0.out HX1.out HXZ.out HXE.out (by (with_reducible (repeat (first | exact Ext.refl _ | assumption | (refine Ext.toSet ?_ (by omega)) | refine Ext.toAlloc ?_ | refine Ext.toDrew ?_ | refine Ext.toDrewN ?_ | refine Ext.trans ?_ (by assumption)))); (first | done | fail "no"))
  case rest =>
    clear HX0 HX1 HXZ HXE
    obtain ⟨hE, hX0, hX1, hXZ⟩ := hcut
    have HE := Lib.hid hE; have HX0 := Lib.hid hX0; have HX1 := Lib.hid hX1; have HXZ := Lib.hid hXZ
    clear hE hX0 hX1 hXZ
    have HS : Hid (∀ w', Ext wc w' → w'.cell? ⟨w.heap.size, 0, none⟩ = some (.bool a.neg) ∧ w'.cell? ⟨w.heap.size, 1, none⟩ = some (.slice A' (len a.m) c') ∧ w'.cell? ⟨w.heap.size, 2, none⟩ = some (I a.den) ∧ w'.cell? ⟨w.heap.size, 3, none⟩ = some (.bool b.neg) ∧ w'.cell? ⟨w.heap.size, 4, none⟩ = some (.slice B' (len b.m) e') ∧ w'.cell? ⟨w.heap.size, 5, none⟩ = some (I b.den) ∧ w'.cell? ⟨w.heap.size + 1, 0, none⟩ = some (.bool x.neg) ∧ w'.cell? ⟨w.heap.size + 1, 1, none⟩ = some (.slice X' (len x.m) q') ∧ w'.cell? ⟨w.heap.size + 1, 2, none⟩ = some (I x.den) ∧ w'.cell? ⟨w.heap.size + 1, 3, none⟩ = some (.bool y.neg) ∧ w'.cell? ⟨w.heap.size + 1, 4, none⟩ = some (.slice Y' (len y.m) s') ∧ w'.cell? ⟨w.heap.size + 1, 5, none⟩ = some (I y.den)) := fun w' e => by
      obtain ⟨⟨i0, i1, i2, i3, i4, i5⟩, iz⟩ := HX0.out.ext e
      obtain ⟨⟨j0, j1, j2, j3, j4, j5⟩, jz⟩ := HX1.out.ext e
      exact ⟨i0, i1, i2, i3, i4, i5, j0, j1, j2, j3, j4, j5⟩
    go_upto_region 2 with fail
    go_cut [6, 7] (fun s6 s7 wx => ∃ r A1 c1 B1 e1, s6 = .pointer (some ⟨r, 0, none⟩) ∧ s7 = .nilIface ∧ Hid (MtS wc wx r (lo2 u v) (hi2 u v) A1 c1 B1 e1))
    case first =>
      clear HX0 HX1 HXZ
      go_region_held3 (fun w' => w'.cell? ⟨w.heap.size, 0, none⟩ = some (.bool a.neg) ∧ w'.cell? ⟨w.heap.size, 1, none⟩ = some (.slice A' (len a.m) c') ∧ w'.cell? ⟨w.heap.size, 2, none⟩ = some (I a.den) ∧ w'.cell? ⟨w.heap.size, 3, none⟩ = some (.bool b.neg) ∧ w'.cell? ⟨w.heap.size, 4, none⟩ = some (.slice B' (len b.m) e') ∧ w'.cell? ⟨w.heap.size, 5, none⟩ = some (I b.den) ∧ w'.cell? ⟨w.heap.size + 1, 0, none⟩ = some (.bool x.neg) ∧ w'.cell? ⟨w.heap.size + 1, 1, none⟩ = some (.slice X' (len x.m) q') ∧ w'.cell? ⟨w.heap.size + 1, 2, none⟩ = some (I x.den) ∧ w'.cell? ⟨w.heap.size + 1, 3, none⟩ = some (.bool y.neg) ∧ w'.cell? ⟨w.heap.size + 1, 4, none⟩ = some (.slice Y' (len y.m) s') ∧ w'.cell? ⟨w.heap.size + 1, 5, none⟩ = some (I y.den)) (first | with_reducible assumption | exact HS.out _ (by (with_reducible (repeat (first | exact Ext.refl _ | assumption | (refine Ext.toSet ?_ (by omega)) | refine Ext.toAlloc ?_ | refine Ext.toDrew ?_ | refine Ext.toDrewN ?_ | refine Ext.trans ?_ (by assumption)))); (first | done | fail "no")))
        (first
          | (have hg := hx2; clear hg; go_at_call 52; (with_reducible refine (imake_ok (D1.out.ext (by (with_reducible (repeat (first | exact Ext.refl _ | assumption | (refine Ext.toSet ?_ (by omega)) | refine Ext.toAlloc ?_ | refine Ext.toDrew ?_ | refine Ext.toDrewN ?_ | refine Ext.trans ?_ (by assumption)))); (first | done | fail "no"))) (D2.out.ext (by (with_reducible (repeat (first | exact Ext.refl _ | assumption | (refine Ext.toSet ?_ (by omega)) | refine Ext.toAlloc ?_ | refine Ext.toDrew ?_ | refine Ext.toDrewN ?_ | refine Ext.trans ?_ (by assumption)))); (first | done | fail "no"))) (HT.out.ext (HE.out.trans (by (with_reducible (repeat (first | exact Ext.refl _ | assumption | (refine Ext.toSet ?_ (by omega)) | refine Ext.toAlloc ?_ | refine Ext.toDrew ?_ | refine Ext.toDrewN ?_ | refine Ext.trans ?_ (by assumption)))); (first | done | fail "no")))) (Int.not_lt.2 HC.out)).mono ?_); rintro e1 w3 ⟨A3, c3, B3, k3, rfl, hfa, hfb, hx3⟩; have FA := Lib.hid hfa; have FB := Lib.hid hfb; clear hfa hfb; have g3 := Ext.size hx3; (try simp only [World.size_alloc] at g3); (first | (have rr := RB.out.ext hx3; clear RB; have RB := Lib.hid rr; clear rr) | ((with_reducible have rr := one6 hx3); have RB := Lib.hid rr; clear rr) | skip); (first | (obtain ⟨⟨r0, r1, r2, r3, r4, r5⟩, rz⟩ := RB.out; have l1 := RB.out.lt; have m1 := Nat.ne_of_lt l1; have n1' := Nat.ne_of_gt l1) | skip))
          | (have hg := hx1; clear hg; go_at_call 75; (with_reducible refine (min_any (HA.out.dyb.ext (HE.out.trans (by (with_reducible (repeat (first | exact Ext.refl _ | assumption | (refine Ext.toSet ?_ (by omega)) | refine Ext.toAlloc ?_ | refine Ext.toDrew ?_ | refine Ext.toDrewN ?_ | refine Ext.trans ?_ (by assumption)))); (first | done | fail "no")))) (HB.out.dyb.ext (HE.out.trans (by (with_reducible (repeat (first | exact Ext.refl _ | assumption | (refine Ext.toSet ?_ (by omega)) | refine Ext.toAlloc ?_ | refine Ext.toDrew ?_ | refine Ext.toDrewN ?_ | refine Ext.trans ?_ (by assumption)))); (first | done | fail "no")))) (HT.out.ext (HE.out.trans (by (with_reducible (repeat (first | exact Ext.refl _ | assumption | (refine Ext.toSet ?_ (by omega)) | refine Ext.toAlloc ?_ | refine Ext.toDrew ?_ | refine Ext.toDrewN ?_ | refine Ext.trans ?_ (by assumption)))); (first | done | fail "no"))))).mono ?_); rw [Ev.out]; rintro e1 w2 ⟨A2, c2, rfl, hon, hx2⟩; have D2 := Lib.hid (Dy.of_on hon Wv.out.1 Wv.out.2 (Ext.refl _)); clear hon; have g2 := Ext.size hx2; (try simp only [World.size_alloc] at g2); (first | (have rr := RB.out.ext hx2; clear RB; have RB := Lib.hid rr; clear rr) | ((with_reducible have rr := one6 hx2); have RB := Lib.hid rr; clear rr) | skip))
          | (go_at_call 76; (with_reducible refine (max_any (HA.out.dya.ext (HE.out.trans (by (with_reducible (repeat (first | exact Ext.refl _ | assumption | (refine Ext.toSet ?_ (by omega)) | refine Ext.toAlloc ?_ | refine Ext.toDrew ?_ | refine Ext.toDrewN ?_ | refine Ext.trans ?_ (by assumption)))); (first | done | fail "no")))) (HB.out.dya.ext (HE.out.trans (by (with_reducible (repeat (first | exact Ext.refl _ | assumption | (refine Ext.toSet ?_ (by omega)) | refine Ext.toAlloc ?_ | refine Ext.toDrew ?_ | refine Ext.toDrewN ?_ | refine Ext.trans ?_ (by assumption)))); (first | done | fail "no")))) (HT.out.ext (HE.out.trans (by (with_reducible (repeat (first | exact Ext.refl _ | assumption | (refine Ext.toSet ?_ (by omega)) | refine Ext.toAlloc ?_ | refine Ext.toDrew ?_ | refine Ext.toDrewN ?_ | refine Ext.trans ?_ (by assumption)))); (first | done | fail "no"))))).mono ?_); rw [Eu.out]; rintro e1 w1 ⟨A1, c1, rfl, hon, hx1⟩; have D1 := Lib.hid (Dy.of_on hon Wu.out.1 Wu.out.2 (Ext.refl _)); clear hon; have g1 := Ext.size hx1; (try simp only [World.size_drew, World.size_alloc] at g1); (first | ((with_reducible have rr := one6d hx1); have RB := Lib.hid rr; clear rr) | skip)))
      all_goals
        go_wp2_with fail
        go_meet
        have fa := FA.out
        have fb := FB.out
        (try simp only [World.size_alloc] at fa fb)
        refine ⟨_, A3, c3, B3, k3, rfl, rfl, (by (with_reducible (repeat (first | exact Ext.refl _ | assumption | (refine Ext.toSet ?_ (by omega)) | refine Ext.toAlloc ?_ | refine Ext.toDrew ?_ | refine Ext.toDrewN ?_ | refine Ext.trans ?_ (by assumption)))); (first | done | fail "no")), ⟨⟨by go_simp, by go_simp, by go_simp, by go_simp, by go_simp, by go_simp⟩, fun i => by go_simp⟩, ?_, ?_⟩
        · with_reducible (repeat (first | refine Off.setp ?_ _ _ | refine Off.toAlloc ?_))
          exact (Fr.off fa (by omega) (by omega) (by omega)).ext (by (with_reducible (repeat (first | exact Ext.refl _ | assumption | (refine Ext.toSet ?_ (by omega)) | refine Ext.toAlloc ?_ | refine Ext.toDrew ?_ | refine Ext.toDrewN ?_ | refine Ext.trans ?_ (by assumption)))); (first | done | fail "no"))
        · with_reducible (repeat (first | refine Off.setp ?_ _ _ | refine Off.toAlloc ?_))
          exact (Fr.off fb (by omega) (by omega) (by omega)).ext (by (with_reducible (repeat (first | exact Ext.refl _ | assumption | (refine Ext.toSet ?_ (by omega)) | refine Ext.toAlloc ?_ | refine Ext.toDrew ?_ | refine Ext.toDrewN ?_ | refine Ext.trans ?_ (by assumption)))); (first | done | fail "no"))
    case rest =>
      obtain ⟨r, A1, c1, B1, e1, rfl, rfl, hc⟩ := hcut
      obtain ⟨hx, hr, oa, ob⟩ := hc.out
      obtain ⟨⟨k0, k1, k2, k3, k4, k5⟩, kz⟩ := hr
      obtain ⟨⟨r0, r1, r2, r3, r4, r5⟩, rz⟩ := HXZ.out.ext hx
      have HF := Lib.hid (HE.out.trans hx); have OA := Lib.hid oa; have OB := Lib.hid ob
      have hz := HXZ.out.lt
      clear hc hx oa ob
      go_wp2_with fail
      exact bodyPost_ret (v := .tuple #[ivd (lo2 u v) A1 c1 (hi2 u v) B1 e1, .nilIface]) (by simp [results, Tryz.results23, go_sem, r0, r1, r2, r3, r4, r5]) rfl (IvOk.end6 rfl OA.out.1 OB.out.1 HF.out (by omega) (by omega) (by omega))
end Go.Proofs.YtaljininilaemaaGreatDoor
