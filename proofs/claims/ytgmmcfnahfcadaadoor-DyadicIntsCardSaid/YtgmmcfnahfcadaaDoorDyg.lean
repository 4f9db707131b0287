/- Numbers as structs: functions of two numbers, their beginning. -/
import Derived.Test.YtgmmcfnahfcadaaDoorDyf
import Derived.Deep.DeepCutAuto
import Derived.Deep.DrawnRows
namespace Go.Proofs.YtgmmcfnahfcadaaDoor
open Go.RowKit
attribute [local go_sem ↓] Go.wp_at_zero Go.wp_at_succ

theorem len_mul (m n : Nat) : len (m * n) ≤ len m + len n := by
  refine len_le ?_
  rw [pB_add]
  rcases Nat.eq_zero_or_pos n with h | h
  · subst h; have := pB_pos (len m); have := pB_pos (len 0); rw [Nat.mul_zero]; exact Nat.mul_pos (pB_pos _) (pB_pos _)
  · exact Nat.lt_of_lt_of_le (Nat.mul_lt_mul_of_pos_right (lt_pB_len m) h) (Nat.mul_le_mul_left _ (Nat.le_of_lt (lt_pB_len n)))

/-- A block of one's own that begins with these three cells. -/
def Bx (w : World) (g : Nat) (v0 v1 v2 : Value) : Prop := St w g v0 v1 v2 ∧ ∀ i, w.frozen? ⟨g, i, none⟩ = false
theorem Bx.lt {w : World} {g : Nat} {v0 v1 v2 : Value} (h : Bx w g v0 v1 v2) : g < w.heap.size := h.1.lt
theorem Bx.ext {w w' : World} {g : Nat} {v0 v1 v2 : Value} (h : Bx w g v0 v1 v2) (e : Ext w w') : Bx w' g v0 v1 v2 := ⟨h.1.ext e, fun i => (e.old.2 _ _ h.lt).trans (h.2 i)⟩
theorem Bx.new (w : World) (v0 v1 v2 : Value) (t : TypeId) : Bx (w.alloc (.cells #[v0, v1, v2] t)) w.heap.size v0 v1 v2 := ⟨St.new w v0 v1 v2 t, fun i => by go_simp⟩
theorem Bx.far3 {w : World} {g g' : Nat} {v0 v1 v2 : Value} (h : Bx w g v0 v1 v2) (hne : g' ≠ g) (u0 u1 u2 : Value) : Bx (((w.setCell ⟨g', 0, none⟩ u0).setCell ⟨g', 1, none⟩ u1).setCell ⟨g', 2, none⟩ u2) g v0 v1 v2 :=
  ⟨h.1.far3 hne _ _ _, fun i => by simp [h.2 i]⟩
theorem Bx.set3 {w : World} {g : Nat} {v0 v1 v2 : Value} (h : Bx w g v0 v1 v2) (u0 u1 u2 : Value) : Bx (((w.setCell ⟨g, 0, none⟩ u0).setCell ⟨g, 1, none⟩ u1).setCell ⟨g, 2, none⟩ u2) g u0 u1 u2 := by
  obtain ⟨⟨h0, h1, h2⟩, hf⟩ := h
  have c0 := World.cell?_setCell_same w _ u0 h0
  have n1 : (w.setCell ⟨g, 0, none⟩ u0).cell? ⟨g, 1, none⟩ = some v1 := (World.cell?_setCell_other _ _ _ _ (by intro e; injection e with _ e; cases e)).trans h1
  have n2 : (w.setCell ⟨g, 0, none⟩ u0).cell? ⟨g, 2, none⟩ = some v2 := (World.cell?_setCell_other _ _ _ _ (by intro e; injection e with _ e; cases e)).trans h2
  have m0 : ((w.setCell ⟨g, 0, none⟩ u0).setCell ⟨g, 1, none⟩ u1).cell? ⟨g, 0, none⟩ = some u0 := (World.cell?_setCell_other _ _ _ _ (by intro e; injection e with _ e; cases e)).trans c0
  have m1 := World.cell?_setCell_same _ _ u1 n1
  have m2 : ((w.setCell ⟨g, 0, none⟩ u0).setCell ⟨g, 1, none⟩ u1).cell? ⟨g, 2, none⟩ = some v2 := (World.cell?_setCell_other _ _ _ _ (by intro e; injection e with _ e; cases e)).trans n2
  refine ⟨⟨?_, ?_, World.cell?_setCell_same _ _ _ m2⟩, fun i => by simp [hf i]⟩
  · exact (World.cell?_setCell_other _ _ _ _ (by intro e; injection e with _ e; cases e)).trans m0
  · exact (World.cell?_setCell_other _ _ _ _ (by intro e; injection e with _ e; cases e)).trans m1
/-- Three boxes: two arguments and a result. -/
theorem three_boxes (w : World) (a0 a1 a2 b0 b1 b2 c0 c1 c2 : Value) (t t' t'' : TypeId) :
    Bx (((w.alloc (.cells #[a0, a1, a2] t)).alloc (.cells #[b0, b1, b2] t')).alloc (.cells #[c0, c1, c2] t'')) w.heap.size a0 a1 a2 ∧
    Bx (((w.alloc (.cells #[a0, a1, a2] t)).alloc (.cells #[b0, b1, b2] t')).alloc (.cells #[c0, c1, c2] t'')) (w.heap.size + 1) b0 b1 b2 ∧
    Bx (((w.alloc (.cells #[a0, a1, a2] t)).alloc (.cells #[b0, b1, b2] t')).alloc (.cells #[c0, c1, c2] t'')) (w.heap.size + 1 + 1) c0 c1 c2 ∧ Ext w (((w.alloc (.cells #[a0, a1, a2] t)).alloc (.cells #[b0, b1, b2] t')).alloc (.cells #[c0, c1, c2] t'')) := by
  have s1 := ((Bx.new w a0 a1 a2 t).ext (Ext.alloc _ (.cells #[b0, b1, b2] t'))).ext (Ext.alloc _ (.cells #[c0, c1, c2] t''))
  have s2 := (Bx.new (w.alloc (.cells #[a0, a1, a2] t)) b0 b1 b2 t').ext (Ext.alloc _ (.cells #[c0, c1, c2] t''))
  have s3 := Bx.new ((w.alloc (.cells #[a0, a1, a2] t)).alloc (.cells #[b0, b1, b2] t')) c0 c1 c2 t''
  rw [show (w.alloc (.cells #[a0, a1, a2] t)).heap.size = w.heap.size + 1 by simp] at s2
  rw [show ((w.alloc (.cells #[a0, a1, a2] t)).alloc (.cells #[b0, b1, b2] t')).heap.size = w.heap.size + 1 + 1 by simp] at s3
  exact ⟨s1, s2, s3, ((Ext.alloc _ _).trans (Ext.alloc _ _)).trans (Ext.alloc _ _)⟩

/-- What the first statement of a function of two numbers leaves. -/
def Two (w : World) (a b : DV) (A B : Option Addr) (ca cb : Nat) (wx : World) : Prop :=
  Ext w wx ∧ Bx wx w.heap.size (.bool a.neg) (.slice A (len a.m) ca) (I a.den) ∧ Bx wx (w.heap.size + 1) (.bool b.neg) (.slice B (len b.m) cb) (I b.den) ∧ Bx wx (w.heap.size + 1 + 1) (.bool false) (.slice none 0 0) (I 0)
theorem two_of {w W0 W : World} {a b : DV} {A B : Option Addr} {ca cb : Nat} {a0 a1 a2 b0 b1 b2 : Value} (h0 : Bx W0 w.heap.size a0 a1 a2) (h1 : Bx W0 (w.heap.size + 1) b0 b1 b2) (h2 : Bx W0 (w.heap.size + 1 + 1) (.bool false) (.slice none 0 0) (I 0)) (hw : Ext w W0) (hx : Ext W0 W) :
    Two w a b A B ca cb ((((((W.setCell ⟨w.heap.size, 0, none⟩ (.bool a.neg)).setCell ⟨w.heap.size, 1, none⟩ (.slice A (len a.m) ca)).setCell ⟨w.heap.size, 2, none⟩ (I a.den)).setCell ⟨w.heap.size + 1, 0, none⟩ (.bool b.neg)).setCell ⟨w.heap.size + 1, 1, none⟩ (.slice B (len b.m) cb)).setCell ⟨w.heap.size + 1, 2, none⟩ (I b.den)) :=
  ⟨ext_set3 (ext_set3 (hw.trans hx) (Nat.le_refl _) _ _ _) (by omega) _ _ _, ((h0.ext hx).set3 _ _ _).far3 (by omega) _ _ _, ((h1.ext hx).far3 (by omega) _ _ _).set3 _ _ _, ((h2.ext hx).far3 (by omega) _ _ _).far3 (by omega) _ _ _⟩
theorem keepB {w0 w' : World} {g h : Nat} {a0 a1 a2 b0 b1 b2 : Value} (ha : Bx w0 g a0 a1 a2) (hb : Bx w0 h b0 b1 b2) (e : Ext w0 w') :
    w'.cell? ⟨g, 0, none⟩ = some a0 ∧ w'.cell? ⟨g, 1, none⟩ = some a1 ∧ w'.cell? ⟨g, 2, none⟩ = some a2 ∧ w'.cell? ⟨h, 0, none⟩ = some b0 ∧ w'.cell? ⟨h, 1, none⟩ = some b1 ∧ w'.cell? ⟨h, 2, none⟩ = some b2 :=
  ⟨(ha.ext e).1.1, (ha.ext e).1.2.1, (ha.ext e).1.2.2, (hb.ext e).1.1, (hb.ext e).1.2.1, (hb.ext e).1.2.2⟩

theorem keepC {w0 w' : World} {g h j : Nat} {a0 a1 a2 b0 b1 b2 u0 u1 u2 : Value} (ha : Bx w0 g a0 a1 a2) (hb : Bx w0 h b0 b1 b2) (hg : j ≠ g) (hh : j ≠ h) (e : Ext w0 w') :
    (((w'.setCell ⟨j, 0, none⟩ u0).setCell ⟨j, 1, none⟩ u1).setCell ⟨j, 2, none⟩ u2).cell? ⟨g, 0, none⟩ = some a0 ∧ (((w'.setCell ⟨j, 0, none⟩ u0).setCell ⟨j, 1, none⟩ u1).setCell ⟨j, 2, none⟩ u2).cell? ⟨g, 1, none⟩ = some a1 ∧
    (((w'.setCell ⟨j, 0, none⟩ u0).setCell ⟨j, 1, none⟩ u1).setCell ⟨j, 2, none⟩ u2).cell? ⟨g, 2, none⟩ = some a2 ∧ (((w'.setCell ⟨j, 0, none⟩ u0).setCell ⟨j, 1, none⟩ u1).setCell ⟨j, 2, none⟩ u2).cell? ⟨h, 0, none⟩ = some b0 ∧
    (((w'.setCell ⟨j, 0, none⟩ u0).setCell ⟨j, 1, none⟩ u1).setCell ⟨j, 2, none⟩ u2).cell? ⟨h, 1, none⟩ = some b1 ∧ (((w'.setCell ⟨j, 0, none⟩ u0).setCell ⟨j, 1, none⟩ u1).setCell ⟨j, 2, none⟩ u2).cell? ⟨h, 2, none⟩ = some b2 :=
  ⟨((ha.ext e).far3 hg _ _ _).1.1, ((ha.ext e).far3 hg _ _ _).1.2.1, ((ha.ext e).far3 hg _ _ _).1.2.2, ((hb.ext e).far3 hh _ _ _).1.1, ((hb.ext e).far3 hh _ _ _).1.2.1, ((hb.ext e).far3 hh _ _ _).1.2.2⟩

set_option maxRecDepth 100000 in
set_option maxHeartbeats 1000000 in
theorem mul_any {w : World} {na nb : Bool} {A A' B B' : Option Addr} {n c c' k e e' : Nat} {da db : Int} {a b : DV} (ha : Dy w na A n c da a A' c') (hb' : Dy w nb B k e db b B' e') (hT : Tabs w) :
    Calls Tryd.prog 30 #[dv na A n c da, dv nb B k e db] w (DyRes (mulD a b) w) := by
  have HA := Lib.hid ha; have HB := Lib.hid hb'; have HT := Lib.hid hT; clear ha hb' hT
  have a1 := HA.out.wf.2.1
  have b1 := HB.out.wf.2.1
  have a2 := HA.out.lim
  have b2 := HB.out.lim
  obtain ⟨d', hd'⟩ : ∃ d', mulD a b = d' := ⟨_, rfl⟩
  rw [hd']
  obtain ⟨sd, hsd⟩ : ∃ sd, a.den + b.den = sd := ⟨_, rfl⟩
  have ew : IntKind.i64.wrap ((a.den : Int) + b.den) = (sd : Int) := by rw [IntWalk.i64_in _ (by omega)]; omega
  have hsd2 : sd ≤ 131072 := by omega
  obtain ⟨P, hP⟩ : ∃ P, a.m * b.m = P := ⟨_, rfl⟩
  have hPl : len P ≤ 33554432 := by have := len_mul a.m b.m; rw [hP] at this; omega
  have HP := Lib.hid hP
  have HD' : Hid (nrmI (a.neg != b.neg) P (sd : Int) = d') := by
    show _ = _
    rw [nrmI_nat, ← hd', ← hsd, ← hP]; rfl
  clear hsd hP
  clear hd'
  go_enter Tryd.func30, Tryd.ntmps30
  go_upto_region 1 with fail
  obtain ⟨X0, X1, X2, XE⟩ := three_boxes w (.bool na) (.slice A n c) (I da) (.bool nb) (.slice B k e) (I db) (.bool false) (.slice none 0 0) (I 0) 24 24 24
  have HX0 := Lib.hid X0; have HX1 := Lib.hid X1; have HX2 := Lib.hid X2; have HXE := Lib.hid XE
  clear X0 X1 X2 XE
  go_cut [] (fun wx => Two w a b A' B' c' e' wx)
  case first =>
    go_region_with ((first | (go_at_call 66; refine (HA.out.num _ (HXE.out.trans (by repeat (first | exact Ext.refl _ | assumption | refine Ext.trans ?_ (Ext.drew _) | refine Ext.trans ?_ (by assumption))))).mono ?_; rintro e wa ⟨rfl, hxa⟩; have ga0 := (HX0.out.ext (w' := wa) (by repeat (first | exact Ext.refl _ | assumption | refine Ext.trans ?_ (Ext.drew _) | refine Ext.trans ?_ (by assumption)))).2; have ga1 := (HX1.out.ext (w' := wa) (by repeat (first | exact Ext.refl _ | assumption | refine Ext.trans ?_ (Ext.drew _) | refine Ext.trans ?_ (by assumption)))).2; obtain ⟨ka0, ka1, ka2, ka3, ka4, ka5⟩ := keepB HX0.out HX1.out (w' := wa) (by repeat (first | exact Ext.refl _ | assumption | refine Ext.trans ?_ (Ext.drew _) | refine Ext.trans ?_ (by assumption)))) | (go_at_call 66; refine (HB.out.num _ (HXE.out.trans (by repeat (first | exact Ext.refl _ | assumption | refine Ext.trans ?_ (Ext.drew _) | refine Ext.trans ?_ (by assumption))))).mono ?_; rintro e wb ⟨rfl, hxb⟩; have gb0 := (HX0.out.ext (w' := wb) (by repeat (first | exact Ext.refl _ | assumption | refine Ext.trans ?_ (Ext.drew _) | refine Ext.trans ?_ (by assumption)))).2; have gb1 := (HX1.out.ext (w' := wb) (by repeat (first | exact Ext.refl _ | assumption | refine Ext.trans ?_ (Ext.drew _) | refine Ext.trans ?_ (by assumption)))).2; obtain ⟨kb0, kb1, kb2, kb3, kb4, kb5⟩ := keepB HX0.out HX1.out (w' := wb) (by repeat (first | exact Ext.refl _ | assumption | refine Ext.trans ?_ (Ext.drew _) | refine Ext.trans ?_ (by assumption))))))
    all_goals
      go_wp2_with fail
      go_meet
      first
        | exact two_of HX0.out HX1.out HX2.out HXE.out (by repeat (first | exact Ext.refl _ | assumption | refine Ext.trans ?_ (Ext.drew _) | refine Ext.trans ?_ (by assumption)))
  case rest =>
    clear HX0 HX1 HX2 HXE
    obtain ⟨hE, X0, X1, X2⟩ := hcut
    have HX0 := Lib.hid X0; have HX1 := Lib.hid X1; have HX2 := Lib.hid X2; have HE := Lib.hid hE
    clear X0 X1 X2 hE
    go_upto_region 2 with fail
    obtain ⟨k0, k1, k2, k3, k4, k5⟩ := keepB HX0.out HX1.out (Ext.refl _)
    have hn2 : ¬ w.heap.size + 1 + 1 = w.heap.size := by omega
    have hn3 : ¬ w.heap.size = w.heap.size + 1 + 1 := by omega
    go_region_held3 (fun w' => w'.cell? ⟨w.heap.size, 0, none⟩ = some (.bool a.neg) ∧ w'.cell? ⟨w.heap.size, 1, none⟩ = some (.slice A' (len a.m) c') ∧ w'.cell? ⟨w.heap.size, 2, none⟩ = some (I a.den) ∧ w'.cell? ⟨w.heap.size + 1, 0, none⟩ = some (.bool b.neg) ∧ w'.cell? ⟨w.heap.size + 1, 1, none⟩ = some (.slice B' (len b.m) e') ∧ w'.cell? ⟨w.heap.size + 1, 2, none⟩ = some (I b.den))
      (go_keep)
      (first
        | (go_at_call 78; refine (product_any A' B' a.m b.m c' e' _ (HA.out.rd.ext (HE.out.trans (Ext.drew _))) (HB.out.rd.ext (HE.out.trans (Ext.drew _))) (by omega) (by omega)).mono ?_; rintro e w1 ⟨P1, p1, rfl, hon, hx⟩; obtain ⟨q0, q1, q2, q3, q4, q5⟩ := keepB HX0.out HX1.out (w' := w1) ((Ext.drew _).trans hx); rw [HP.out] at hon; rw [HP.out])
        | (go_at_call 71; refine (normal_at _ P1 P p1 _ _ d' HD'.out (HT.out.ext ((HE.out.trans (Ext.drew _)).trans hx)) hon.rd hon.ok hPl (by omega) (by omega)).mono ?_; rintro e w2 ⟨A2, c2, rfl, hon2, hx2⟩; obtain ⟨p0, p1, p2, p3, p4, p5⟩ := keepB HX0.out HX1.out (w' := w2) (((Ext.drew _).trans hx).trans hx2); have gz := (HX2.out.ext (w' := w2) (((Ext.drew _).trans hx).trans hx2)).2; obtain ⟨r0, r1, r2⟩ := (HX2.out.ext (w' := w2) (((Ext.drew _).trans hx).trans hx2)).1))
    all_goals
      have HO := Lib.hid hon2
      have HF := Lib.hid (((HE.out.trans (Ext.drew _)).trans hx).trans hx2)
      have hsz := hx.size
      have hsz0 : w.heap.size + 1 + 1 < w1.heap.size := Nat.lt_of_lt_of_le HX2.out.lt hsz
      go_wp2_with fail
      exact bodyPost_ret (v := dv d'.neg A2 (len d'.m) c2 d'.den) (by simp [results, Tryd.results30, go_sem, r0, r1, r2]) rfl (DyRes.end3 rfl HO.out HF.out (by omega) (by omega) hsz0)

end Go.Proofs.YtgmmcfnahfcadaaDoor
