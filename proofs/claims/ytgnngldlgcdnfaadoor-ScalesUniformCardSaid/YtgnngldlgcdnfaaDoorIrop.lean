/- The reference's Of. -/
import Derived.Test.YtgnngldlgcdnfaaDoorRefmo
import Derived.Test.YtgnngldlgcdnfaaDoorMdz
import Derived.Deep.DeepCutAuto
import Derived.Deep.DrawnRows
import Derived.Test.YtgnngldlgcdnfaaDoorIrms
import Derived.Test.YtgnngldlgcdnfaaDoorIvcx
import Derived.Deep.RegionHeld3
import Derived.Test.YtgnngldlgcdnfaaDoorIvmx
namespace Go.Proofs.YtgnngldlgcdnfaaDoor

/-! ### Rof -/
section
open Go.RowKit

end

/-! ### Irci -/
section
/-! ### Irco -/
section
open Go.RowKit
attribute [local go_sem ↓] Go.wp_at_zero Go.wp_at_succ

end

/-! ### Irit -/
section
open Go.RowKit
attribute [local go_sem ↓] Go.wp_at_zero Go.wp_at_succ


set_option maxRecDepth 100000 in
set_option maxHeartbeats 1000000 in
theorem riints_any {w : World} (p q : Int) (p1 : -9223372036854775808 ≤ p) (p2 : p ≤ 9223372036854775807) (q1 : -9223372036854775808 ≤ q) (q2 : q ≤ 9223372036854775807) :
    Calls Tryd.prog 22 #[I p, I q] w (IvRes (lo2 (ofI p 0) (ofI q 0)) (hi2 (ofI p 0) (ofI q 0)) w) := by
  obtain ⟨u, hu⟩ : ∃ u, ofI p 0 = u := ⟨_, rfl⟩
  obtain ⟨v, hv⟩ : ∃ v, ofI q 0 = v := ⟨_, rfl⟩
  have Wu : Hid (Bdd u) := hu ▸ bd_of p p1 p2
  have Wv : Hid (Bdd v) := hv ▸ bd_of q q1 q2
  rw [hu, hv]
  have Eu := Lib.hid hu; have Ev := Lib.hid hv; have P1 := Lib.hid p1; have P2 := Lib.hid p2; have Q1 := Lib.hid q1; have Q2 := Lib.hid q2; clear hu hv p1 p2 q1 q2
  have HXZ := Lib.hid (B6.new w (.bool false) (.slice none 0 0) (I 0) (.bool false) (.slice none 0 0) (I 0) 47)
  have HE := Lib.hid (Ext.alloc w (.cells #[.bool false, .slice none 0 0, I 0, .bool false, .slice none 0 0, I 0] 47))
  generalize hWc : w.alloc (.cells #[.bool false, .slice none 0 0, I 0, .bool false, .slice none 0 0, I 0] 47) = W9 at HXZ HE
  go_enter Tryd.func22, Tryd.ntmps22
  go_upto_region 1 with fail
  (try rw [hWc])
  clear hWc
  have hlx := HXZ.out.lt; have hnx := Nat.ne_of_lt hlx
  go_wp2_with (first
    | (have hg := hx2; clear hg; go_at_call 50; (with_reducible refine (span2 (D1.out.ext (by (with_reducible (repeat (first | exact Ext.refl _ | assumption | (refine Ext.toSet ?_ (by omega)) | refine Ext.toAlloc ?_ | refine Ext.toDrew ?_ | refine Ext.toDrewN ?_ | refine Ext.trans ?_ (by assumption)))); (first | done | fail "no"))) (D2.out.ext (by (with_reducible (repeat (first | exact Ext.refl _ | assumption | (refine Ext.toSet ?_ (by omega)) | refine Ext.toAlloc ?_ | refine Ext.toDrew ?_ | refine Ext.toDrewN ?_ | refine Ext.trans ?_ (by assumption)))); (first | done | fail "no"))) Wu.out Wv.out (S6.new _ _ _ _ _ _ _ _)).mono ?_); rintro e1 w3 ⟨A3, c3, B3, k3, rfl, hfa, hfb, hx3⟩; have FA := Lib.hid hfa; have FB := Lib.hid hfb; clear hfa hfb; obtain ⟨⟨r0, r1, r2, r3, r4, r5⟩, rz⟩ := HXZ.out.ext (w' := w3) (by (with_reducible (repeat (first | exact Ext.refl _ | assumption | (refine Ext.toSet ?_ (by omega)) | refine Ext.toAlloc ?_ | refine Ext.toDrew ?_ | refine Ext.toDrewN ?_ | refine Ext.trans ?_ (by assumption)))); (first | done | fail "no")))
    | (have hg := hx1; clear hg; go_at_call 51; (with_reducible refine (rof_any q _ Q1.out Q2.out).mono ?_); rw [Ev.out]; rintro e1 w2 ⟨A2, c2, rfl, hon, hx2⟩; have D2 := Lib.hid (Dy.of_on hon Wv.out.1 Wv.out.lim (Ext.refl _)); clear hon)
    | (go_at_call 51; (with_reducible refine (rof_any p _ P1.out P2.out).mono ?_); rw [Eu.out]; rintro e1 w1 ⟨A1, c1, rfl, hon, hx1⟩; have D1 := Lib.hid (Dy.of_on hon Wu.out.1 Wu.out.lim (Ext.refl _)); clear hon))
  have HF := Lib.hid (HE.out.trans (show Ext W9 w3 from (by (with_reducible (repeat (first | exact Ext.refl _ | assumption | (refine Ext.toSet ?_ (by omega)) | refine Ext.toAlloc ?_ | refine Ext.toDrew ?_ | refine Ext.toDrewN ?_ | refine Ext.trans ?_ (by assumption)))); (first | done | fail "no"))))
  have hz2 := Ext.size (show Ext W9 w2 from (by (with_reducible (repeat (first | exact Ext.refl _ | assumption | (refine Ext.toSet ?_ (by omega)) | refine Ext.toAlloc ?_ | refine Ext.toDrew ?_ | refine Ext.toDrewN ?_ | refine Ext.trans ?_ (by assumption)))); (first | done | fail "no")))
  exact bodyPost_ret (v := ivd (lo2 u v) A3 c3 (hi2 u v) B3 k3) (by simp [results, Tryd.results22, go_sem, r0, r1, r2, r3, r4, r5]) rfl (IvRes.end6 rfl FA.out FB.out HF.out (by omega) (by (try simp); omega) (by (try simp); omega))
end

/-! ### Irmk -/
section
open Go.RowKit
attribute [local go_sem ↓] Go.wp_at_zero Go.wp_at_succ

def RvOk (a b : DV) (w : World) (e : Ending) (w' : World) : Prop := ∃ A c B k, e = .returned (.tuple #[ivd a A c b B k, I 0]) ∧ Fr w' w.heap.size A (len a.m) c (dg a.m) ∧ Fr w' w.heap.size B (len b.m) k (dg b.m) ∧ Ext w w'
def RvErr (k : Int) (w : World) (e : Ending) (w' : World) : Prop := e = .returned (.tuple #[iv false none 0 0 0 false none 0 0 0, I k]) ∧ Ext w w'
theorem RvOk.end6 {a b : DV} {w w2 : World} {A B : Option Addr} {c k g b1 b2 : Nat} {e : Ending} {u0 u1 u2 u3 u4 u5 : Value} (he : e = .returned (.tuple #[ivd a A c b B k, I 0])) (ha : Fr w2 b1 A (len a.m) c (dg a.m)) (hb : Fr w2 b2 B (len b.m) k (dg b.m)) (hx : Ext w w2) (hg : w.heap.size ≤ g) (h1 : g < b1) (h2 : g < b2) :
    RvOk a b w e ((((((w2.setCell ⟨g, 0, none⟩ u0).setCell ⟨g, 1, none⟩ u1).setCell ⟨g, 2, none⟩ u2).setCell ⟨g, 3, none⟩ u3).setCell ⟨g, 4, none⟩ u4).setCell ⟨g, 5, none⟩ u5) :=
  ⟨A, c, B, k, he, (ha.set6 h1 _ _ _ _ _ _).mono (by omega), (hb.set6 h2 _ _ _ _ _ _).mono (by omega), ext_set6 hx hg _ _ _ _ _ _⟩
end

/-! ### Ivpt -/
section
open Go.RowKit

end
end

/-! ### Irop -/
section
/-! ### Irna -/
section
open Go.RowKit
attribute [local go_sem ↓] Go.wp_at_zero Go.wp_at_succ


theorem bd_neg {a : DV} (h : End a) : Bdd (negD a) := ⟨negD_ok _, by have := lim_neg a; have := h.2; omega⟩
theorem bd_min {a b : DV} (h : End a) (k : End b) : Bdd (minD a b) := sz_min (P := Bdd) (bd_end h) (bd_end k)
theorem bd_max {a b : DV} (h : End a) (k : End b) : Bdd (maxD a b) := sz_max (P := Bdd) (bd_end h) (bd_end k)


end

/-! ### Irmm -/
section
open Go.RowKit
attribute [local go_sem ↓] Go.wp_at_zero Go.wp_at_succ


end

/-! ### Irhu -/
section
open Go.RowKit
attribute [local go_sem ↓] Go.wp_at_zero Go.wp_at_succ


end

/-! ### Irsu -/
section
open Go.RowKit
attribute [local go_sem ↓] Go.wp_at_zero Go.wp_at_succ


end

/-! ### Irwt -/
section
open Go.RowKit
attribute [local go_sem ↓] Go.wp_at_zero Go.wp_at_succ

end

/-! ### Irab -/
section
open Go.RowKit
attribute [local go_sem ↓] Go.wp_at_zero Go.wp_at_succ


theorem bd_abs {a : DV} (h : End a) : Bdd (absD a) := ⟨absD_ok _, by have h1 := len_mono (mkD_m_le false a.m a.den); have h2 : (absD a).m = (mkD false a.m a.den).m := rfl; rw [← h2] at h1; have := h.2; omega⟩
theorem zero_new {w w1 : World} {t : TypeId} (hx : Ext (w.alloc (.cells #[.bool false, .slice none 0 0, I 0, .bool false, .slice none 0 0, I 0] t)) w1) : B6 w1 w.heap.size (.bool false) (.slice none 0 0) (I 0) (.bool false) (.slice none 0 0) (I 0) := (B6.new w (.bool false) (.slice none 0 0) (I 0) (.bool false) (.slice none 0 0) (I 0) t).ext hx
theorem zero_newd {w w1 : World} {t : TypeId} (hx : Ext (w.alloc (.cells #[.bool false, .slice none 0 0, I 0, .bool false, .slice none 0 0, I 0] t)).drew w1) : B6 w1 w.heap.size (.bool false) (.slice none 0 0) (I 0) (.bool false) (.slice none 0 0) (I 0) := (B6.new w (.bool false) (.slice none 0 0) (I 0) (.bool false) (.slice none 0 0) (I 0) t).ext ((Ext.drew _).trans hx)
theorem zero_newa {w w1 : World} {t : TypeId} {o : Obj} (hx : Ext ((w.alloc (.cells #[.bool false, .slice none 0 0, I 0, .bool false, .slice none 0 0, I 0] t)).alloc o) w1) : B6 w1 w.heap.size (.bool false) (.slice none 0 0) (I 0) (.bool false) (.slice none 0 0) (I 0) := (B6.new w (.bool false) (.slice none 0 0) (I 0) (.bool false) (.slice none 0 0) (I 0) t).ext ((Ext.alloc _ _).trans hx)
/-- The interval from L to H lies in the box p, in new memory. -/
def AbR (w wc wx : World) (p : Nat) (L H : DV) : Prop := ∃ A c B e, Ext wc wx ∧ B6 wx p (.bool L.neg) (.slice A (len L.m) c) (I L.den) (.bool H.neg) (.slice B (len H.m) e) (I H.den) ∧ w.heap.size + 1 < p ∧ Off wx (w.heap.size + 2) p (w.heap.size + 1) A (len L.m) c (dg L.m) ∧ Off wx (w.heap.size + 2) p (w.heap.size + 1) B (len H.m) e (dg H.m)
theorem off_of {w w3 : World} {bs p n c : Nat} {A : Option Addr} {f : Nat → Nat} (h : Fr w3 bs A n c f) (hb : w.heap.size + 2 ≤ bs) (hp : p < bs ∨ w3.heap.size ≤ p) : Off w3 (w.heap.size + 2) p (w.heap.size + 1) A n c f := by
  refine ⟨h.mono hb, fun hn a ha => ?_⟩
  have h1 := h.2.2 hn a ha
  obtain ⟨b, o, e, hb', _⟩ := h.rd hn
  rw [e] at ha; injection ha with ha; subst ha
  have h1' : bs ≤ b := h1
  exact ⟨by show b ≠ p; omega, by show b ≠ _; omega⟩
theorem abr_new {w wc w3 : World} {bs : Nat} {L H : DV} {A B : Option Addr} {c e : Nat} {t : TypeId} (hx : Ext wc w3) (fa : Fr w3 bs A (len L.m) c (dg L.m)) (fb : Fr w3 bs B (len H.m) e (dg H.m)) (hb : w.heap.size + 2 ≤ bs) (hs : bs ≤ w3.heap.size) :
    AbR w wc (w3.alloc (.cells #[.bool L.neg, .slice A (len L.m) c, I L.den, .bool H.neg, .slice B (len H.m) e, I H.den] t)) w3.heap.size L H :=
  ⟨A, c, B, e, hx.trans (Ext.alloc _ _), B6.new w3 _ _ _ _ _ _ t, by omega, (off_of fa hb (.inr (Nat.le_refl _))).ext (Ext.alloc _ _), (off_of fb hb (.inr (Nat.le_refl _))).ext (Ext.alloc _ _)⟩
theorem abr_set {w wc w3 : World} {bs p : Nat} {L H : DV} {A B : Option Addr} {c e : Nat} {v0 v1 v2 v3 v4 v5 : Value} (hx : Ext wc w3) (hp : B6 w3 p v0 v1 v2 v3 v4 v5) (hpw : wc.heap.size ≤ p) (fa : Fr w3 bs A (len L.m) c (dg L.m)) (fb : Fr w3 bs B (len H.m) e (dg H.m)) (hb : w.heap.size + 2 ≤ bs) (hw : w.heap.size + 2 ≤ wc.heap.size) (hs : p < bs) :
    AbR w wc ((((((w3.setCell ⟨p, 0, none⟩ (.bool L.neg)).setCell ⟨p, 1, none⟩ (.slice A (len L.m) c)).setCell ⟨p, 2, none⟩ (I L.den)).setCell ⟨p, 3, none⟩ (.bool H.neg)).setCell ⟨p, 4, none⟩ (.slice B (len H.m) e)).setCell ⟨p, 5, none⟩ (I H.den)) p L H :=
  ⟨A, c, B, e, ext_set6 hx hpw _ _ _ _ _ _, hp.set6 _ _ _ _ _ _, by omega, ((((((off_of fa hb (.inl hs)).setp _ _).setp _ _).setp _ _).setp _ _).setp _ _).setp _ _, ((((((off_of fb hb (.inl hs)).setp _ _).setp _ _).setp _ _).setp _ _).setp _ _).setp _ _⟩


theorem abs_end {a b : DV} {w w3 : World} {A B : Option Addr} {c k p : Nat} {v : Value} {t0 t1 t2 u0 u1 u2 u3 u4 u5 : Value} (hv : v = ivd a A c b B k) (ha : Fr w3 (w.heap.size + 2) A (len a.m) c (dg a.m)) (hA : len a.m = 0) (hb : Off w3 (w.heap.size + 2) p (w.heap.size + 1) B (len b.m) k (dg b.m)) (hx : Ext w w3) (hp : w.heap.size ≤ p) :
    IvRes a b w (.returned v) (((((((((w3.setCell ⟨p, 0, none⟩ t0).setCell ⟨p, 1, none⟩ t1).setCell ⟨p, 2, none⟩ t2).setCell ⟨w.heap.size + 1, 0, none⟩ u0).setCell ⟨w.heap.size + 1, 1, none⟩ u1).setCell ⟨w.heap.size + 1, 2, none⟩ u2).setCell ⟨w.heap.size + 1, 3, none⟩ u3).setCell ⟨w.heap.size + 1, 4, none⟩ u4).setCell ⟨w.heap.size + 1, 5, none⟩ u5) := by
  subst hv
  refine ⟨A, c, B, k, rfl, ?_, ?_, ext_set6 (ext_set3 hx hp _ _ _) (by omega) _ _ _ _ _ _⟩
  · refine ⟨?_, ha.2.1, ?_⟩
    · rw [hA]; exact fun h => absurd h (Nat.lt_irrefl 0)
    · rw [hA]; exact fun h => absurd h (Nat.lt_irrefl 0)
  · have o := ((((((hb.set3p t0 t1 t2).setq 0 u0).setq 1 u1).setq 2 u2).setq 3 u3).setq 4 u4).setq 5 u5
    exact o.1.mono (by omega)


theorem S6.ext {w w' : World} {g : Nat} {v0 v1 v2 v3 v4 v5 : Value} (h : S6 w g v0 v1 v2 v3 v4 v5) (x : Ext w w') : S6 w' g v0 v1 v2 v3 v4 v5 := by
  obtain ⟨h0, h1, h2, h3, h4, h5⟩ := h
  have hl := World.block_lt_of_cell? w _ h0
  have o := x.old.1
  exact ⟨(o _ _ hl).trans h0, (o _ _ hl).trans h1, (o _ _ hl).trans h2, (o _ _ hl).trans h3, (o _ _ hl).trans h4, (o _ _ hl).trans h5⟩


theorem S6.new1 (w : World) (o : Obj) (v0 v1 v2 v3 v4 v5 : Value) (t : TypeId) : S6 ((w.alloc o).alloc (.cells #[v0, v1, v2, v3, v4, v5] t)) (w.heap.size + 1) v0 v1 v2 v3 v4 v5 := by
  have h := S6.new (w.alloc o) v0 v1 v2 v3 v4 v5 t
  rw [World.size_alloc] at h
  exact h


end
end

end Go.Proofs.YtgnngldlgcdnfaaDoor
