import Derived.Sort.OwnSortedInts
import Derived.Deep.DrawnRows
import Derived.WalkSmall
import Derived.Deep.RegionHeld3
import Derived.Deep.RegionWith
import Derived.Defers
import Derived.Recover
import Derived.Test.YtgnngldlgcdnfaaGreatDoorQaa
import Derived.Test.YtgnngldlgcdnfaaGreatDoorQab
import Derived.Test.YtgnngldlgcdnfaaGreatDoorQac
import Derived.Test.YtgnngldlgcdnfaaGreatDoorQad
import Derived.Test.YtgnngldlgcdnfaaGreatDoorQae
import Derived.Test.YtgnngldlgcdnfaaGreatDoorQaf
import Derived.Test.YtgnngldlgcdnfaaGreatDoorQag
import Derived.Test.YtgnngldlgcdnfaaGreatDoorQah
import Derived.Test.YtgnngldlgcdnfaaGreatDoorQai
import Derived.Test.YtgnngldlgcdnfaaGreatDoorQaj
import Derived.Test.YtgnngldlgcdnfaaGreatDoorQak
import Derived.Test.YtgnngldlgcdnfaaGreatDoorQal
import Derived.Test.YtgnngldlgcdnfaaGreatDoorQam
import Derived.Test.YtgnngldlgcdnfaaGreatDoorQan
import Derived.Test.YtgnngldlgcdnfaaGreatDoorQao
import Derived.Test.YtgnngldlgcdnfaaGreatDoorQap
import Derived.Test.YtgnngldlgcdnfaaGreatDoorQaq
import Derived.Test.YtgnngldlgcdnfaaGreatDoorQar
import Derived.Test.YtgnngldlgcdnfaaGreatDoorQas
import Derived.Test.YtgnngldlgcdnfaaGreatDoorQat
import Derived.Test.YtgnngldlgcdnfaaGreatDoorQau
import Derived.Test.YtgnngldlgcdnfaaGreatDoorQav
import Derived.Test.YtgnngldlgcdnfaaGreatDoorQaw
import Derived.Test.YtgnngldlgcdnfaaGreatDoorQax
import Derived.Test.YtgnngldlgcdnfaaGreatDoorQay
namespace Go.Proofs.YtgnngldlgcdnfaaGreatDoor
section
section
open Go.RowKit
attribute [local go_sem ↓] Go.wp_at_zero Go.wp_at_succ
end
section
open Go.RowKit
attribute [local go_sem ↓] Go.wp_at_zero Go.wp_at_succ
set_option maxRecDepth 100000 in
set_option maxHeartbeats 1000000 in
theorem sub_any {w : World} {na nb : Bool} {A A' B B' : Option Addr} {n c c' k e e' : Nat} {da db : Int} {a b : DV} (ha : Dy w na A n c da a A' c') (hb' : Dy w nb B k e db b B' e') (hT : Tabs w) :
  Calls Tryz.prog 209 #[dv na A n c da, dv nb B k e db] w (DyRes (subD a b) w) := by
 have HA := Lib.hid ha; have HB := Lib.hid hb'; have HT := Lib.hid hT; clear ha hb' hT
 obtain ⟨X0, X1, X2, XE⟩ := three_boxes w (.bool na) (.slice A n c) (I da) (.bool nb) (.slice B k e) (I db) (.bool false) (.slice none 0 0) (I 0) 56 56 56
 have HX0 := Lib.hid X0; have HX1 := Lib.hid X1; have HX2 := Lib.hid X2; have HXE := Lib.hid XE
 clear X0 X1 X2 XE
 obtain ⟨k0, k1, k2, k3, k4, k5⟩ := keepB HX0.out HX1.out (Ext.refl _)
 obtain ⟨d', hd'⟩ : ∃ d', subD a b = d' := ⟨_, rfl⟩
 rw [hd']
 have HD' := Lib.hid hd'
 clear hd'
 have hln := len_negD b
 have hlb := HB.out.lim
 have hwn := Lib.hid (negD_ok b)
 have hn2 : ¬ w.heap.size + 1 + 1 = w.heap.size := by omega
 have hn3 : ¬ w.heap.size = w.heap.size + 1 + 1 := by omega
 go_enter Tryz.func209, Tryz.ntmps209
 go_upto_region 1 with fail
 go_region_held3 (fun w' => w'.cell? ⟨w.heap.size, 0, none⟩ = some (.bool na) ∧ w'.cell? ⟨w.heap.size, 1, none⟩ = some (.slice A n c) ∧ w'.cell? ⟨w.heap.size, 2, none⟩ = some (I da) ∧ w'.cell? ⟨w.heap.size + 1, 0, none⟩ = some (.bool nb) ∧ w'.cell? ⟨w.heap.size + 1, 1, none⟩ = some (.slice B k e) ∧ w'.cell? ⟨w.heap.size + 1, 2, none⟩ = some (I db)) (go_keep)
  (first
   | (go_at_call 142; refine (neg_any (HB.out.ext (HXE.out.trans (Ext.drew _))) (HT.out.ext (HXE.out.trans (Ext.drew _)))).mono ?_; rintro e w5 ⟨A5, c5, rfl, hon5, hx5⟩; obtain ⟨q0, q1, q2, q3, q4, q5⟩ := keepB HX0.out HX1.out (w' := w5) ((Ext.drew _).trans hx5); have HDN := Lib.hid (Dy.of_on hon5 hwn.out (by omega) (Ext.refl _)); clear hon5)
   | (go_at_call 201; refine (add_any (HA.out.ext ((HXE.out.trans (Ext.drew _)).trans hx5)) HDN.out (HT.out.ext ((HXE.out.trans (Ext.drew _)).trans hx5))).mono ?_; rw [show addD a (negD b) = d' from HD'.out]; rintro e w6 ⟨A6, c6, rfl, hon6, hx6⟩; obtain ⟨p0, p1, p2, p3, p4, p5⟩ := keepB HX0.out HX1.out (w' := w6) (((Ext.drew _).trans hx5).trans hx6); have gz := (HX2.out.ext (w' := w6) (((Ext.drew _).trans hx5).trans hx6)).2; obtain ⟨z0, z1, z2⟩ := (HX2.out.ext (w' := w6) (((Ext.drew _).trans hx5).trans hx6)).1; have HO6 := Lib.hid hon6; clear hon6))
 all_goals
  have HXF := Lib.hid (((HXE.out.trans (Ext.drew _)).trans hx5).trans hx6)
  have hlt := (HX2.out.ext (w' := w5) ((Ext.drew _).trans hx5)).lt
  go_wp2_with fail
  exact bodyPost_ret (v := dv d'.neg A6 (len d'.m) c6 d'.den) (by simp [results, Tryz.results209, go_sem, z0, z1, z2]) rfl (DyRes.end3 rfl HO6.out HXF.out (by omega) (by omega) hlt)
end
section
open Go Go.RowKit
end
section
section
open Go.RowKit
instance (n : Nat) (den : Int) : Decidable (fewOk n den) := inferInstanceAs (Decidable (_ ∧ _))
end
section
end
section
open Go.RowKit
end
section
open Go.RowKit
end
end
end
section
section
end
section
theorem q_lo2 {a b : DV} (ha : a.ok) (hb : b.ok) : (lo2 a b).q = mnQ a.q b.q := q_min ha hb
theorem q_hi2 {a b : DV} (ha : a.ok) (hb : b.ok) : (hi2 a b).q = mxQ a.q b.q := q_max ha hb
theorem q_lo3 {a b c : DV} (ha : a.ok) (hb : b.ok) (hc : c.ok) : (lo3 a b c).q = mnQ (mnQ a.q b.q) c.q := by unfold lo3; rw [q_min (minD_ok ha hb) hc, q_min ha hb]
theorem q_hi3 {a b c : DV} (ha : a.ok) (hb : b.ok) (hc : c.ok) : (hi3 a b c).q = mxQ (mxQ a.q b.q) c.q := by unfold hi3; rw [q_max (maxD_ok ha hb) hc, q_max ha hb]
theorem q_lo4 {a b c d : DV} (ha : a.ok) (hb : b.ok) (hc : c.ok) (hd : d.ok) : (lo4 a b c d).q = mnQ (mnQ (mnQ a.q b.q) c.q) d.q := by
 unfold lo4; rw [q_min (minD_ok (minD_ok ha hb) hc) hd, q_min (minD_ok ha hb) hc, q_min ha hb]
theorem q_hi4 {a b c d : DV} (ha : a.ok) (hb : b.ok) (hc : c.ok) (hd : d.ok) : (hi4 a b c d).q = mxQ (mxQ (mxQ a.q b.q) c.q) d.q := by
 unfold hi4; rw [q_max (maxD_ok (maxD_ok ha hb) hc) hd, q_max (maxD_ok ha hb) hc, q_max ha hb]
theorem bilin {x y a b c d L H : Rat} (hx1 : a ≤ x) (hx2 : x ≤ b) (hy1 : c ≤ y) (hy2 : y ≤ d)
  (l1 : L ≤ a * c) (l2 : L ≤ a * d) (l3 : L ≤ b * c) (l4 : L ≤ b * d) (h1 : a * c ≤ H) (h2 : a * d ≤ H) (h3 : b * c ≤ H) (h4 : b * d ≤ H) : L ≤ x * y ∧ x * y ≤ H := by
 have m (p q : Rat) (hp : 0 ≤ p) (hq : 0 ≤ q) : 0 ≤ p * q := Rat.mul_nonneg hp hq
 -- x y between a y and b y, where a y and b y are between the four products
 have lin (t L H : Rat) (hc : L ≤ t * c) (hd : L ≤ t * d) (hc' : t * c ≤ H) (hd' : t * d ≤ H) : L ≤ t * y ∧ t * y ≤ H := by
  by_cases ht : 0 ≤ t
  ·have e1 := m t (y - c) ht (by grind)
   have e2 := m t (d - y) ht (by grind)
   constructor <;> grind
  ·have e1 := m (-t) (y - c) (by grind) (by grind)
   have e2 := m (-t) (d - y) (by grind) (by grind)
   constructor <;> grind
 obtain ⟨p1, p2⟩ := lin a L H l1 l2 h1 h2
 obtain ⟨p3, p4⟩ := lin b L H l3 l4 h3 h4
 by_cases hy : 0 ≤ y
 ·have e1 := m (x - a) y (by grind) hy
  have e2 := m (b - x) y (by grind) hy
  constructor <;> grind
 ·have e1 := m (x - a) (-y) (by grind) (by grind)
  have e2 := m (b - x) (-y) (by grind) (by grind)
  constructor <;> grind
end
end
section
section
section
open Go Go.RowKit Go.Sort
end
section
open Go Go.RowKit
end
section
open Go Go.RowKit
section
variable {w : World} {D : Dia} {p : Pl}
end
end
end
section
section
open Go Go.RowKit
end
section
open Go Go.RowKit
set_option maxHeartbeats 400000 in
theorem is_err (k c : Int) (w : World) :
  Calls Tryz.prog 23 #[.iface 48 (I k), I c] w fun e w' => e = .returned (.bool (decide (k = c))) ∧ Ext w w' := by
 have ta := run_assert_int (P := Tryz.prog) (xT := 32) (v := I k) (w := w) Tryz.underlying48
 by_cases h : k = c
 ·subst h
  go_enter Tryz.func23, Tryz.ntmps23
  go_wp2
  go_ret
  exact ⟨by simp, Ext.refl _⟩
 ·go_enter Tryz.func23, Tryz.ntmps23
  go_wp2
  go_ret
  exact ⟨by simp [h], Ext.refl _⟩
end
end
section
open Go Go.RowKit
section
variable {w : World} {D : Dia} {p : Pl}
end
end
end
section
section
open Go Go.RowKit
def fv (b : Blk) (x y : DV) : DV :=
 if b.k = 1 then nmS b.vn b.ve else if b.k = 3 then addD x y else if b.k = 4 then subD x y else if b.k = 5 then negD x else
 if b.k = 6 then mulD (nmS b.vn b.ve) x else if b.k = 7 then mulD x y else if b.k = 8 then minD x y else if b.k = 9 then maxD x y else
 if b.k = 10 then absD x else maxD (nmS b.vn b.ve) (minD x (nmS b.un b.ue))
def bval (D : Dia) (IN : Nat → Int) (V : Nat → DV) (i : Nat) : DV :=
 if (D.B i).k = 0 then prtV (D.P (sr D i 0)) (IN (sr D i 0)) else fv (D.B i) (V (sr D i 0)) (V (sr D i 1))
def putV (V : Nat → DV) (i : Nat) (x : DV) : Nat → DV := fun j => if j = i then x else V j
theorem putV_same (V : Nat → DV) (i : Nat) (x : DV) : putV V i x i = x := if_pos rfl
theorem putV_ne (V : Nat → DV) {i j : Nat} (x : DV) (h : j ≠ i) : putV V i x j = V j := if_neg h
def goV (D : Dia) (IN : Nat → Int) : List Nat → (Nat → DV) → (Nat → DV)
 | [], V => V
 | i :: L, V => goV D IN L (putV V i (bval D IN V i))
theorem goV_app (D : Dia) (IN : Nat → Int) (L K : List Nat) (V : Nat → DV) : goV D IN (L ++ K) V = goV D IN K (goV D IN L V) := by
 induction L generalizing V with
 | nil => rfl
 | cons i L ih => exact ih _
theorem goV_off (D : Dia) (IN : Nat → Int) (L : List Nat) (V : Nat → DV) (j : Nat) (h : j ∉ L) : goV D IN L V j = V j := by
 induction L generalizing V with
 | nil => rfl
 | cons i L ih =>
  show goV D IN L _ j = _
  rw [ih _ (fun q => h (List.mem_cons_of_mem _ q)), putV_ne _ _ (fun q => h (by rw [q]; exact List.mem_cons_self))]
def vk (D : Dia) (S : Nat → DV) (IN : Nat → Int) (k : Nat) : Nat → DV := goV D IN ((ordL D).take k) (v0 D S)
def tkV (D : Dia) (S : Nat → DV) (IN : Nat → Int) : Nat → DV := goV D IN (ordL D) (v0 D S)
def tkG (D : Dia) (S : Nat → DV) (IN : Nat → Int) : Bool := allN D.nb (fun i => !lng (tkV D S IN i))
theorem vk_end (D : Dia) (S : Nat → DV) (IN : Nat → Int) : vk D S IN (ordL D).length = tkV D S IN := by unfold vk tkV; rw [List.take_length]
theorem vk_zero (D : Dia) (S : Nat → DV) (IN : Nat → Int) : vk D S IN 0 = v0 D S := rfl
theorem vk_succ (D : Dia) (S : Nat → DV) (IN : Nat → Int) {k : Nat} (hk : k < (ordL D).length) :
  vk D S IN (k + 1) = putV (vk D S IN k) ((ordL D).getD k 0) (bval D IN (vk D S IN k) ((ordL D).getD k 0)) := by
 unfold vk
 rw [List.take_succ_eq_append_getElem hk, goV_app]
 have : (ordL D).getD k 0 = (ordL D)[k] := by simp [List.getD, hk]
 rw [this]; rfl
theorem vk_done {D : Dia} (S : Nat → DV) (IN : Nat → Int) {k x : Nat} (h : x ∉ (ordL D).drop k) : vk D S IN k x = tkV D S IN x := by
 unfold vk tkV
 conv => rhs; rw [← List.take_append_drop k (ordL D), goV_app]
 rw [goV_off _ _ _ _ _ h]
theorem fv_congr {b : Blk} {x y x' y' : DV} (h0 : 0 < arity b.k → x = x') (h1 : 1 < arity b.k → y = y') : fv b x y = fv b x' y' := by
 unfold fv arity at *
 by_cases e1 : b.k = 1
 ·rw [if_pos e1, if_pos e1]
 ·rw [if_neg e1] at h0 h1
  by_cases e2 : b.k = 3 ∨ b.k = 4 ∨ b.k = 7 ∨ b.k = 8 ∨ b.k = 9
  ·rw [if_pos e2] at h0 h1
   rw [h0 (by decide), h1 (by decide)]
  ·rw [if_neg e2] at h0
   rw [h0 (by decide), if_neg e1, if_neg e1]
   have a : ¬ b.k = 3 := by omega
   have b' : ¬ b.k = 4 := by omega
   have c : ¬ b.k = 7 := by omega
   have d : ¬ b.k = 8 := by omega
   have e : ¬ b.k = 9 := by omega
   rw [if_neg a, if_neg a, if_neg b', if_neg b']
   by_cases f : b.k = 5
   ·rw [if_pos f, if_pos f]
   ·rw [if_neg f, if_neg f]
    by_cases g : b.k = 6
    ·rw [if_pos g, if_pos g]
    ·rw [if_neg g, if_neg g, if_neg c, if_neg c, if_neg d, if_neg d, if_neg e, if_neg e]
theorem bval_congr {D : Dia} (wf : WF D) {IN : Nat → Int} {V V' : Nat → DV} {i : Nat} (hi : i < D.nb) (h : ∀ j, j < ns D i → V (sr D i j) = V' (sr D i j)) : bval D IN V i = bval D IN V' i := by
 unfold bval
 by_cases e : (D.B i).k = 0
 ·rw [if_pos e, if_pos e]
 ·rw [if_neg e, if_neg e]
  have hn : ns D i = (D.B i).n := by unfold ns; rw [if_neg e]
  have ha := wf.ar i hi
  exact fv_congr (fun q => h 0 (by omega)) (fun q => h 1 (by omega))
theorem tk_ord {D : Dia} (ok : OkD D) (S : Nat → DV) (IN : Nat → Int) {k : Nat} (hk : k < (ordL D).length) :
  bval D IN (vk D S IN k) ((ordL D).getD k 0) = tkV D S IN ((ordL D).getD k 0) ∧ tkV D S IN ((ordL D).getD k 0) = bval D IN (tkV D S IN) ((ordL D).getD k 0) := by
 have h1 : bval D IN (vk D S IN k) ((ordL D).getD k 0) = bval D IN (tkV D S IN) ((ordL D).getD k 0) := bval_congr ok.toWF (ord_rdy hk).1 fun j hj => vk_done S IN (src_off ok hk hj)
 have h2 : vk D S IN (k + 1) ((ordL D).getD k 0) = tkV D S IN ((ordL D).getD k 0) := vk_done S IN fun q => by
  obtain ⟨m, hm, hl, e⟩ := mem_drop q
  have := ord_uniq ok hk hl e
  omega
 rw [vk_succ D S IN hk, putV_same] at h2
 exact ⟨h2, h2.symm.trans h1⟩
theorem tk_eq {D : Dia} (ok : OkD D) (S : Nat → DV) (IN : Nat → Int) {i : Nat} (hi : i < D.nb) (h : isD D i = false) : tkV D S IN i = bval D IN (tkV D S IN) i := by
 obtain ⟨t, h1, _, h3, _⟩ := posP_yes ok hi h
 have := (tk_ord ok S IN h1).2
 rwa [h3] at this
theorem tk_del {D : Dia} (S : Nat → DV) (IN : Nat → Int) {i : Nat} (h : isD D i = true) : tkV D S IN i = S (plc D i) := by
 rw [← vk_done S IN (k := 0) (del_off h), vk_zero]
 unfold v0; rw [if_pos h]
def inR (D : Dia) (IN : Nat → Int) : Bool := allN D.ni (fun i => decide ((D.P i).lo ≤ IN i) && decide (IN i ≤ (D.P i).hi))
def stE (D : Dia) (n : Nat) (b : Nat → Bool) (S : Nat → DV) (m : Nat) (IN : Nat → Int) : Int :=
 if n ≠ (delL D).length then 11 else if allN n b = false then 2 else if m ≠ D.ni then 11 else if inR D IN = false then 3 else if tkG D S IN = false then 4 else 0
def nxS (D : Dia) (V : Nat → DV) : Nat → DV := fun k => V (sr D ((delL D).getD k 0) 0)
theorem allN_true (n : Nat) : allN n (fun _ => true) = true := allN_iff.2 fun _ _ => rfl
theorem len_subD {a b : DV} (ha : len a.m ≤ 300) (hb : len b.m ≤ 300) (da : a.den ≤ 32000) (db : b.den ≤ 32000) : len (subD a b).m ≤ 1401 := by
 unfold subD
 have := negD_den b (by omega)
 exact len_addD ha (Nat.le_trans (len_negD b) hb) da (by omega)
theorem len_fv {b : Blk} {x y : DV} (hx : Shr x) (hy : Shr y) (hv : Shr (nmS b.vn b.ve)) (hu : Shr (nmS b.un b.ue)) : len (fv b x y).m ≤ 1401 ∧ (fv b x y).ok := by
  unfold fv
  have l1 : ∀ a c, Shr a → Shr c → len (mulD a c).m ≤ 1401 := fun a c ha hc => by
    unfold mulD
    refine Nat.le_trans (len_mk _ _ _) (Nat.le_trans (len_mul _ _) ?_)
    have := ha.len; have := hc.len; omega
  have l2 : ∀ a c : DV, Shr a → Shr c → Shr (minD a c) := fun a c ha hc => by unfold minD; split <;> assumption
  have l3 : ∀ a c : DV, Shr a → Shr c → Shr (maxD a c) := fun a c ha hc => by unfold maxD; split <;> assumption
  have l4 : ∀ a, Shr a → len a.m ≤ 1401 ∧ a.ok := fun a ha => ⟨by have := ha.len; omega, ha.ok⟩
  repeat' split
  · exact l4 _ hv
  · exact ⟨len_addD hx.len hy.len hx.den hy.den, addD_ok _ _⟩
  · exact ⟨len_subD hx.len hy.len hx.den hy.den, subD_ok _ _⟩
  · exact ⟨by have := len_negD x; have := hx.len; omega, negD_ok _⟩
  · exact ⟨l1 _ _ hv hx, mulD_ok _ _⟩
  · exact ⟨l1 _ _ hx hy, mulD_ok _ _⟩
  · exact l4 _ (l2 _ _ hx hy)
  · exact l4 _ (l3 _ _ hx hy)
  · exact ⟨by have : len (absD x).m ≤ len x.m := len_mk _ _ _
              have := hx.len; omega, absD_ok _⟩
  · exact l4 _ (l3 _ _ hv (l2 _ _ hx hu))
end
end
section
section
open Go Go.RowKit
set_option maxRecDepth 100000 in
set_option maxHeartbeats 1000000 in
theorem efresh_any {w : World} {neg : Bool} {A A' : Option Addr} {n c c' : Nat} {den : Int} {d : DV} (h : Dy w neg A n c den d A' c') (hT : Tabs w) : Calls Tryz.prog 188 #[dv neg A n c den] w (DyRes d w) := by
 have H := Lib.hid h; have HT := Lib.hid hT; clear h hT
 obtain ⟨W1, hW1⟩ : ∃ W1, W1 = (w.alloc (.cells #[.bool neg, .slice A n c, I den] 56)).alloc (.cells #[.bool false, .slice none 0 0, I 0] 56) := ⟨_, rfl⟩
 have hE : Ext w W1 := by rw [hW1]; exact (Ext.alloc _ _).trans (Ext.alloc _ _)
 have HS : Hid (∀ w', Ext W1 w' → Calls Tryz.prog 162 #[dv neg A n c den, I 0] w' (DyRes d w')) := fun w' e => by
  have := shift_any 0 (H.out.ext (hE.trans e)) (HT.out.ext (hE.trans e)) (by omega) (by omega)
  rw [shift0 H.out.wf] at this; exact this
 have hb1 : Bx W1 (w.heap.size + 1) (.bool false) (.slice none 0 0) (I 0) := by
  rw [hW1]; have := Bx.new (w.alloc (.cells #[.bool neg, .slice A n c, I den] 56)) (.bool false) (.slice none 0 0) (I 0) 56
  rwa [show (w.alloc (.cells #[.bool neg, .slice A n c, I den] 56)).heap.size = w.heap.size + 1 by simp] at this
 have hb0 : Bx W1 w.heap.size (.bool neg) (.slice A n c) (I den) := by
  rw [hW1]; exact (Bx.new w (.bool neg) (.slice A n c) (I den) 56).ext (Ext.alloc _ _)
 have HB1 := Lib.hid hb1; have HB0 := Lib.hid hb0; have HE := Lib.hid hE
 have hz1 : W1.heap.size = w.heap.size + 1 + 1 := by rw [hW1]; simp
 obtain ⟨⟨k0, k1, k2⟩, _⟩ := HB0.out
 have HZ := Lib.hid hz1
 clear hb1 hb0 hE hz1 H HT
 go_enter Tryz.func188, Tryz.ntmps188
 go_upto_region 1 with fail
 rw [← hW1]; clear hW1
 go_wp2_with (go_at_call 162; (with_reducible refine (HS.out _ (Ext.refl _)).mono ?_); rintro e1 w1 ⟨A2, c2, rfl, hon, hx⟩; have HX := Lib.hid hx; have HO := Lib.hid hon; obtain ⟨⟨r0, r1, r2⟩, rf⟩ := HB1.out.ext hx; clear hx hon)
 exact bodyPost_ret (v := dv d.neg A2 (len d.m) c2 d.den) (by simp [results, Tryz.results188, go_sem, r0, r1, r2]) rfl (DyRes.end3 rfl HO.out (HE.out.trans HX.out) (by have := HZ.out; omega) (by omega) (by have := HZ.out; omega))
end
section
open Go Go.RowKit
set_option maxRecDepth 100000 in
set_option maxHeartbeats 1000000 in
theorem chosen_any {w : World} {A B : Option Addr} {n c m cb : Nat} {R : Nat → RN} {V : Nat → DV} {f : Nat → Int} (l : Ln w A n R V) (r : Ri w B m f) (hf : ∀ k, k < m → 0 ≤ f k ∧ f k < n) (hm : m ≤ 1000) (hT : Tabs w) :
  Calls Tryz.prog 149 #[.slice A n c, .slice B m cb] w (LvR m (fun k => V (f k).toNat) w) := by
 have hmk := fun w => run_makeN w m (by omega)
 obtain ⟨g, hg⟩ : ∃ g, w.heap.size = g := ⟨_, rfl⟩
 have HM0 : Hid (BuM w (w.alloc (.cells (madeCells #[.bool false, .slice none 0 0, I 0] (m * 3)) 56)) g m (fun _ => RN.z) (upto (fun k => V (f k).toNat) 0)) := by
  have := BuM.new m (Ext.refl w) hg.symm
  exact this
 have L := Lib.hid l; have RR := Lib.hid r; have HF := Lib.hid hf; have HT := Lib.hid hT
 clear l r hf hT
 go_enter Tryz.func149, Tryz.ntmps149
 go_wp2_with fail
 (try rw [hg])
 clear hmk
 have HG := Lib.hid hg
 go_loopw [13] (fun s wr => ∃ (j : Nat) (R' : Nat → RN), j ≤ m ∧ s = I j ∧ Hid (BuM w wr g m R' (upto (fun k => V (f k).toNat) j))) (fun s _ => m - (intOf s).toNat)
 case atStart => exact ⟨0, _, Nat.zero_le _, rfl, HM0⟩
 case round =>
  clear HM0
  obtain ⟨j, R', hj, rfl, H⟩ := hrel
  by_cases hlt : j < m
  ·obtain ⟨b, o, hb, hbl, hc⟩ := RR.out.ext H.out.ext (by omega)
   have xa := hc j hlt
   obtain ⟨h0, h1⟩ := HF.out j hlt
   have hfe : f j = ((f j).toNat : Int) := by omega
   have hxn : (f j).toNat < n := by omega
   obtain ⟨b2, o2, hb2, hbl2, hc2⟩ := L.out.rn.ext H.out.ext (by omega)
   obtain ⟨c0, c1, c2⟩ := hc2 _ hxn
   have cn := (L.out.el _ hxn).ext H.out.ext
   have HFR : Hid (∀ w', Ext wr w' → Calls Tryz.prog 188 #[(R (f j).toNat).v] w' (DyRes (V (f j).toNat) w')) := fun w' e => efresh_any (cn.dy.ext e) (HT.out.ext (H.out.ext.trans e))
   have HCN := Lib.hid (And.intro cn.ok cn.lim)
   have HUP : Hid (∀ i, putD (upto (fun k => V (f k).toNat) j) j (V (f j).toNat) i = upto (fun k => V (f k).toNat) (j + 1) i) := upto_put (fun k => V (f k).toNat) j
   rw [hfe] at xa
   have hlt' : (j : Int) < (m : Int) := by omega
   have hxn' : ((f j).toNat : Int) < (n : Int) := by omega
   clear hc hc2 h0 h1 hfe cn
   generalize (f j).toNat = x at *
   go_wp2_with (go_at_call 188; (with_reducible refine (HFR.out _ (Ext.refl _)).mono ?_); rintro e1 w1 hr; obtain ⟨A1, k1, rfl, cn1, hA1, hx1⟩ := hr.cn HCN.out.1 HCN.out.2; have fz := (H.out.to hx1).lv.frozen; have f0 := fz (j * 3); have f1 := fz (j * 3 + 1); have f2 := fz (j * 3 + 2); obtain ⟨d0, d1, d2⟩ := (H.out.to hx1).lv.cells hlt; have HP := Lib.hid (H.out.put hx1 j _ A1 k1 cn1 hA1); clear hr fz cn1 hA1 hx1)
   (try rw [← hb])
   (try rw [← hb2])
   go_roundw
   case rel => exact ⟨j + 1, _, by omega, by go_num, HP.out.congr fun i _ => HUP.out i⟩
   case measure => simp [intOf]; omega
  ·obtain rfl : j = m := by omega
   go_wp2_with fail
   go_ret
   exact H.out.lvr
structure SoM (W w : World) (g n : Nat) (F : Nat → Int) : Prop where
 ext : Ext W w
 old : W.heap.size ≤ g
 row : w.rowIs g 3 n (fun i => I (F i))
theorem SoM.putv {W w : World} {g n : Nat} {F F' : Nat → Int} (h : SoM W w g n F) (x : Nat) (v : Int) (hF : ∀ i, F' i = if i = x then v else F i) : SoM W (w.setCell ⟨g, x, none⟩ (I v)) g n F' :=
 ⟨h.ext.set h.old _, h.old, (h.row.set x (I v)).congr fun i _ => by rw [hF i]; by_cases q : i = x <;> simp [q]⟩
theorem SoM.ri {W w : World} {g n : Nat} {F : Nat → Int} (h : SoM W w g n F) : Ri w (some ⟨g, 0, none⟩) n F := fun hn => ⟨g, 0, rfl, h.row.lt, fun i hi => by rw [Nat.zero_add]; exact h.row.cell hi⟩
def uptI (F : Nat → Int) (j : Nat) : Nat → Int := fun k => if k < j then F k else 0
theorem uptI_succ (F : Nat → Int) (j : Nat) (i : Nat) : uptI F (j + 1) i = if i = j then F j else uptI F j i := by
 unfold uptI
 by_cases e : i = j
 ·subst e; rw [if_pos rfl, if_pos (by omega)]
 ·rw [if_neg e]
  by_cases q : i < j
  ·rw [if_pos q, if_pos (by omega)]
  ·rw [if_neg q, if_neg (by omega)]
def SoR (n : Nat) (F : Nat → Int) (w : World) (e : Ending) (w' : World) : Prop := ∃ g, e = .returned (.slice (some ⟨g, 0, none⟩) n n) ∧ w.heap.size ≤ g ∧ Ri w' (some ⟨g, 0, none⟩) n F ∧ Ext w w'
def srcs (D : Dia) (k : Nat) : Int := (sr D ((delL D).getD k 0) 0 : Nat)
set_option maxRecDepth 100000 in
set_option maxHeartbeats 1000000 in
theorem esources_any {w : World} {D : Dia} {p : Pl} {Ao Ad : Option Addr} {lo ld co cd : Nat} (d : Dm w D p) (ok : OkD D) (hld : (delL D).length = ld) (rd : Rl w Ad cd (delL D)) :
  Calls Tryz.prog 150 #[evv D p Ao lo co Ad ld cd] w (SoR ld (srcs D) w) := by
 have hdl := del_le D
 rw [hld] at hdl
 have hnb := ok.nb
 have hmk := run_make_row' 24 3 (I 0) 8 Tryz.underlying24 infoI rfl .i64 .i64 ld (by omega) (by omega)
 obtain ⟨W1, hW1⟩ : ∃ W1, W1 = w.alloc (.cells #[.slice p.AI D.ni p.cI, .slice p.AB D.nb p.cB, .slice p.AO D.no p.cO, .slice Ao lo co, .slice Ad ld cd] 130) := ⟨_, rfl⟩
 have hE : Ext w W1 := by rw [hW1]; exact Ext.alloc _ _
 have hB : B5 W1 w.heap.size D p Ao lo co Ad ld cd := by rw [hW1]; exact B5.new _ _ _ _ _ _ _ _ _ _
 obtain ⟨g, hg⟩ : ∃ g, W1.heap.size = g := ⟨_, rfl⟩
 have HM0 : Hid (SoM w (W1.alloc (.cells (madeCells #[I 0] ld) 3)) g ld (uptI (srcs D) 0) ∧ Ext W1 (W1.alloc (.cells (madeCells #[I 0] ld) 3))) :=
  ⟨⟨hE.trans (Ext.alloc _ _), by rw [← hg]; exact hE.size, (rowIs_made' W1 (I 0) ld 3 hg.symm).congr fun i _ => rfl⟩, Ext.alloc _ _⟩
 have HB := Lib.hid hB; have HD := Lib.hid (d.ext hE); have HR := Lib.hid (rd.ext hE); have OK := Lib.hid ok; have HE := Lib.hid hE
 obtain ⟨c0, c1, c2, c3, c4⟩ := hB
 have hz1 : W1.heap.size = w.heap.size + 1 := by rw [hW1]; simp
 have hne1 : ¬ w.heap.size = g := by omega
 have hne2 : ¬ g = w.heap.size := by omega
 have hne3 : w.heap.size < W1.heap.size := by omega
 have hne4 : w.heap.size < g := by omega
 have hne5 : ¬ w.heap.size = W1.heap.size := by omega
 have HZ := Lib.hid hz1
 clear d ok rd hE hz1
 have HND := Lib.hid hld; clear hld
 go_enter Tryz.func150, Tryz.ntmps150
 go_upto_region 1 with fail
 rw [← hW1]; clear hW1
 go_wp2_with fail
 (try rw [hg])
 clear hmk c0 c1 c2 c3 c4
 have HG := Lib.hid hg; clear hg
 go_loopw [13] (fun s wr => ∃ j : Nat, j ≤ ld ∧ s = I j ∧ Hid (SoM w wr g ld (uptI (srcs D) j) ∧ Ext W1 wr)) (fun s _ => ld - (intOf s).toNat)
 case atStart => exact ⟨0, Nat.zero_le _, rfl, HM0⟩
 case round =>
  clear HM0
  obtain ⟨j, hj, rfl, H⟩ := hrel
  by_cases hlt : j < ld
  ·have hj' : j < (delL D).length := by rw [HND.out]; exact hlt
   obtain ⟨bd, od, hbd, hbld, hcd⟩ := (HR.out.ext H.out.2).1 (by omega)
   have xd := hcd j hj'
   obtain ⟨x, hxd⟩ : ∃ x, (delL D).getD j 0 = x := ⟨_, rfl⟩
   have hx := del_at hj'
   simp only [hxd] at xd hx
   obtain ⟨b, o, hb, hbl, hc⟩ := (HD.out.ext H.out.2).blocks (by omega)
   obtain ⟨x0, x1, x2, x3, x4, x5⟩ := hc x hx.1
   obtain ⟨k0, k1, k2, k3, k4⟩ := HB.out.ext H.out.2
   have hk2 : (D.B x).k = 2 := by have := hx.2; unfold isD at this; simpa using this
   have hns : ns D x = 1 ∧ (D.B x).n = 1 := by
    have h := OK.out.ar x hx.1
    have : arity (D.B x).k = 1 := by rw [hk2]; decide
    unfold ns; rw [if_neg (by omega)]; omega
   obtain ⟨ba, oa, hba, hbla, hca⟩ := ((HD.out.ext H.out.2).args x hx.1).1 (by omega)
   have xa := hca 0 (by omega)
   rw [Nat.add_zero] at xa
   have hsa := (OK.out.src hx.1 (j := 0) (by omega)).1
   rw [hsa] at xa
   rw [hba, hns.2] at x1
   have hF : Hid (((sr D x 0 : Nat) : Int) = srcs D j) := by show _ = _; unfold srcs; rw [hxd]
   rw [hF.out] at xa
   have HRK : Hid (∀ i, uptI (srcs D) (j + 1) i = if i = j then srcs D j else uptI (srcs D) j i) := uptI_succ (srcs D) j
   have hlt' : (j : Int) < (ld : Int) := by omega
   have hxl : (x : Int) < (D.nb : Int) := by omega
   have hcell := H.out.1.row.cell hlt
   have hfz := H.out.1.row.frozen j
   have HP := Lib.hid (H.out.1.putv j _ HRK.out)
   have HX1 : Hid (Ext W1 (wr.setCell ⟨g, j, none⟩ (I (srcs D j)))) := H.out.2.set (by rw [HG.out]; exact Nat.le_refl _) _
   clear hc hcd hx hj' hca hsa hns hk2
   go_wp2_with fail
   (try rw [← hb])
   (try rw [← hbd])
   go_roundw
   case rel => exact ⟨j + 1, by omega, by go_num, HP.out, HX1.out⟩
   case measure => simp [intOf]; omega
  ·obtain rfl : j = ld := by omega
   go_wp2_with fail
   go_ret
   exact ⟨g, rfl, H.out.1.old, H.out.1.ri.congr fun i hi => if_pos hi, H.out.1.ext⟩
end
section
open Go Go.RowKit
def tlC : List PanicEntry := [{ v := .iface 174 (.agg #[]), recovered := false }]
set_option maxRecDepth 100000 in
set_option maxHeartbeats 1000000 in
theorem short_ok {w : World} {r : RN} {d : DV} (h : Cn w r d) (hl : lng d = false) : Calls Tryz.prog 189 #[r.v] w fun e w' => e = .returned r.v ∧ Ext w w' := by
 obtain ⟨neg, A, n, c, den⟩ := r
 show Calls _ _ #[dv neg A n c den] _ (fun e w' => e = .returned (dv neg A n c den) ∧ Ext w w')
 have hden : den = d.den := h.den
 obtain ⟨W1, hW1⟩ : ∃ W1, W1 = (w.alloc (.cells #[.bool neg, .slice A n c, I den] 56)).alloc (.cells #[.bool false, .slice none 0 0, I 0] 56) := ⟨_, rfl⟩
 have hE : Ext w W1 := by rw [hW1]; exact (Ext.alloc _ _).trans (Ext.alloc _ _)
 obtain ⟨y, hy⟩ : ∃ y : Int, (bitsN d.m : Int) = y := ⟨_, rfl⟩
 have hdy := h.dy
 have HBT : Hid (∀ w', Ext W1 w' → Calls Tryz.prog 165 #[dv neg A n c den] w' fun e w'' => e = .returned (I y) ∧ Ext w' w'') := fun w' e => by
  rw [← hy]; exact bits_any (hdy.ext (hE.trans e))
 have hb1 : Bx W1 (w.heap.size + 1) (.bool false) (.slice none 0 0) (I 0) := by
  rw [hW1]; have := Bx.new (w.alloc (.cells #[.bool neg, .slice A n c, I den] 56)) (.bool false) (.slice none 0 0) (I 0) 56
  rwa [show (w.alloc (.cells #[.bool neg, .slice A n c, I den] 56)).heap.size = w.heap.size + 1 by simp] at this
 have hb0 : Bx W1 w.heap.size (.bool neg) (.slice A n c) (I den) := by
  rw [hW1]; exact (Bx.new w (.bool neg) (.slice A n c) (I den) 56).ext (Ext.alloc _ _)
 have HB1 := Lib.hid hb1; have HB0 := Lib.hid hb0; have HE := Lib.hid hE
 obtain ⟨⟨k0, k1, k2⟩, _⟩ := HB0.out
 have hlt0 := hb0.lt
 have hmx : decide (4096 < max y den) = false := (lng_max d y den hy hden.symm).trans hl
 have hy0 : 0 ≤ y := by omega
 have hd0 : 0 ≤ den := by omega
 have hb : Ext W1 W1 := Ext.refl _
 clear hb1 hb0 hE hy h hl hdy hden
 go_enter Tryz.func189, Tryz.ntmps189
 go_upto_region 1 with fail
 rw [← hW1]; clear hW1
 have hL := fun (x : Later _) => (Ext.trans hb x.ext).old.1
 refine wp_region_later (by kernel_rfl) (by kernel_rfl) ?_
 repeat (go_big_quiet_step (((go_at_call 165; exact Calls.later (HBT.out _ (Later.ext _))))))
 refine wpQuiet_nil ?_
 intro w2 hw2
 replace hb := Ext.trans hb (Later.of hw2)
 clear hw2 hL
 obtain ⟨hc, hf⟩ := hb.old
 have HBB := Lib.hid hb
 obtain ⟨⟨q0, q1, q2⟩, _⟩ := HB0.out.ext hb
 obtain ⟨⟨r0, r1, r2⟩, rf⟩ := HB1.out.ext hb
 have f0 := rf 0; have f1 := rf 1; have f2 := rf 2
 clear hb rf
 go_wp2_with fail
 refine bodyPost_ret (v := dv neg A n c den) (by simp [results, Tryz.results189, go_sem, r0, r1, r2]) rfl ⟨rfl, ?_⟩
 exact ext_set3 (HE.out.trans HBB.out) (by omega) _ _ _
set_option maxRecDepth 100000 in
set_option maxHeartbeats 1000000 in
theorem short_long {w : World} {r : RN} {d : DV} (h : Cn w r d) (hl : lng d = true) : Calls Tryz.prog 189 #[r.v] w fun e w' => e = .panicked tlC ∧ Ext w w' := by
 obtain ⟨neg, A, n, c, den⟩ := r
 show Calls _ _ #[dv neg A n c den] _ _
 have hden : den = d.den := h.den
 obtain ⟨W1, hW1⟩ : ∃ W1, W1 = (w.alloc (.cells #[.bool neg, .slice A n c, I den] 56)).alloc (.cells #[.bool false, .slice none 0 0, I 0] 56) := ⟨_, rfl⟩
 have hE : Ext w W1 := by rw [hW1]; exact (Ext.alloc _ _).trans (Ext.alloc _ _)
 obtain ⟨y, hy⟩ : ∃ y : Int, (bitsN d.m : Int) = y := ⟨_, rfl⟩
 have hdy := h.dy
 have HBT : Hid (∀ w', Ext W1 w' → Calls Tryz.prog 165 #[dv neg A n c den] w' fun e w'' => e = .returned (I y) ∧ Ext w' w'') := fun w' e => by
  rw [← hy]; exact bits_any (hdy.ext (hE.trans e))
 have hb0 : Bx W1 w.heap.size (.bool neg) (.slice A n c) (I den) := by
  rw [hW1]; exact (Bx.new w (.bool neg) (.slice A n c) (I den) 56).ext (Ext.alloc _ _)
 have HB0 := Lib.hid hb0; have HE := Lib.hid hE
 obtain ⟨⟨k0, k1, k2⟩, _⟩ := HB0.out
 have hlt0 := hb0.lt
 have hmx : decide (4096 < max y den) = true := (lng_max d y den hy hden.symm).trans hl
 have hy0 : 0 ≤ y := by omega
 have hd0 : 0 ≤ den := by omega
 have hb : Ext W1 W1 := Ext.refl _
 clear hb0 hE hy h hl hdy hden
 go_enter Tryz.func189, Tryz.ntmps189
 go_upto_region 1 with fail
 rw [← hW1]; clear hW1
 have hL := fun (x : Later _) => (Ext.trans hb x.ext).old.1
 refine wp_region_later (by kernel_rfl) (by kernel_rfl) ?_
 repeat (go_big_quiet_step (((go_at_call 165; exact Calls.later (HBT.out _ (Later.ext _))))))
 refine wpQuiet_nil ?_
 intro w2 hw2
 replace hb := Ext.trans hb (Later.of hw2)
 clear hw2 hL
 obtain ⟨hc, hf⟩ := hb.old
 have HBB := Lib.hid hb
 clear hb
 go_wp2_with fail
 exact ⟨rfl, rfl, HE.out.trans HBB.out⟩
set_option maxRecDepth 100000 in
set_option maxHeartbeats 1000000 in
theorem arg_any {w : World} {g5 g6 b o nb m c ca : Nat} {ba oa x : Nat} {R : Nat → RN} (j : Nat)
  (h6 : w.cell? ⟨g6, 0, none⟩ = some (.slice (some ⟨b, o, none⟩) nb c)) (h5 : w.cell? ⟨g5, 1, none⟩ = some (.slice (some ⟨ba, oa, none⟩) m ca))
  (hj : j < m) (ha : w.cell? ⟨ba, oa + j, none⟩ = some (I x)) (hx : x < nb)
  (hv : w.cell? ⟨b, o + x * 3, none⟩ = some (.bool (R x).neg) ∧ w.cell? ⟨b, o + x * 3 + 1, none⟩ = some (.slice (R x).A (R x).n (R x).c) ∧ w.cell? ⟨b, o + x * 3 + 2, none⟩ = some (I (R x).den))
  (l6 : g6 < w.heap.size) (l5 : g5 < w.heap.size) (lb : b < w.heap.size) (la : ba < w.heap.size) :
  Calls Tryz.prog 208 #[I j, .pointer (some ⟨g6, 0, none⟩), .pointer (some ⟨g5, 0, none⟩)] w fun e w' => e = .returned (R x).v ∧ Ext w w' := by
 obtain ⟨v0, v1, v2⟩ := hv
 generalize R x = r at *
 obtain ⟨neg, A, n, c', den⟩ := r
 show Calls _ _ _ _ (fun e w' => e = .returned (dv neg A n c' den) ∧ Ext w w')
 simp only at v0 v1 v2
 obtain ⟨W1, hW1⟩ : ∃ W1, W1 = w.alloc (.cells #[.bool false, .slice none 0 0, I 0] 56) := ⟨_, rfl⟩
 have hE : Ext w W1 := by rw [hW1]; exact Ext.alloc _ _
 have hB0 : Bx W1 w.heap.size (.bool false) (.slice none 0 0) (I 0) := by rw [hW1]; exact Bx.new w _ _ _ _
 have HB0 := Lib.hid hB0; have HE := Lib.hid hE
 have e6 := (hE.old.1 _ _ l6).trans h6
 have e5 := (hE.old.1 _ _ l5).trans h5
 have ea := (hE.old.1 _ _ la).trans ha
 have e0 := (hE.old.1 _ _ lb).trans v0
 have e1 := (hE.old.1 _ _ lb).trans v1
 have e2 := (hE.old.1 _ _ lb).trans v2
 obtain ⟨⟨r0, r1, r2⟩, rf⟩ := HB0.out
 have f0 := rf 0; have f1 := rf 1; have f2 := rf 2
 have hj' : (j : Int) < (m : Int) := by omega
 have hx' : (x : Int) < (nb : Int) := by omega
 clear h6 h5 ha v0 v1 v2 hE hB0 rf
 go_enter Tryz.func208, Tryz.ntmps208
 go_upto_region 1 with fail
 rw [← hW1]; clear hW1
 go_region
 go_wp2_with fail
 refine bodyPost_ret (v := dv neg A n c' den) (by simp [results, Tryz.results208, go_sem, r0, r1, r2]) rfl ⟨rfl, ?_⟩
 exact (ext_set3 HE.out (Nat.le_refl _) _ _ _).trans (Ext.drew _)
end
end
section
open Go Go.RowKit
structure VaM (w W1 : World) (D : Dia) (p : Pl) (Ao : Option Addr) (lo co : Nat) (Ad : Option Addr) (ld cd : Nat) (i : Nat) (A : Option Addr) (c : Nat) : Prop where
 ext : Ext w W1
 b5 : B5 W1 w.heap.size D p Ao lo co Ad ld cd
 k0 : W1.cell? ⟨w.heap.size + 1, 0, none⟩ = some (I (D.B i).k)
 k1 : W1.cell? ⟨w.heap.size + 1, 1, none⟩ = some (.slice (p.AA i) (D.B i).n (p.cA i))
 k2 : W1.cell? ⟨w.heap.size + 1, 2, none⟩ = some (I (D.B i).vn)
 k3 : W1.cell? ⟨w.heap.size + 1, 3, none⟩ = some (I (D.B i).ve)
 k4 : W1.cell? ⟨w.heap.size + 1, 4, none⟩ = some (I (D.B i).un)
 k5 : W1.cell? ⟨w.heap.size + 1, 5, none⟩ = some (I (D.B i).ue)
 v0 : W1.cell? ⟨w.heap.size + 1 + 1, 0, none⟩ = some (.slice A D.nb c)
 rs : Bx W1 (w.heap.size + 1 + 1 + 1) (.bool false) (.slice none 0 0) (I 0)
 sz : W1.heap.size = w.heap.size + 4
abbrev vaW (w : World) (D : Dia) (p : Pl) (Ao : Option Addr) (lo co : Nat) (Ad : Option Addr) (ld cd : Nat) (i : Nat) (A : Option Addr) (c : Nat) (t1 t2 t3 t4 : TypeId) : World :=
 (((w.alloc (.cells #[.slice p.AI D.ni p.cI, .slice p.AB D.nb p.cB, .slice p.AO D.no p.cO, .slice Ao lo co, .slice Ad ld cd] t1)).alloc (.cells #[I (D.B i).k, .slice (p.AA i) (D.B i).n (p.cA i), I (D.B i).vn, I (D.B i).ve, I (D.B i).un, I (D.B i).ue] t2)).alloc (.cells #[.slice A D.nb c] t3)).alloc (.cells #[.bool false, .slice none 0 0, I 0] t4)
theorem VaM.new (w : World) (D : Dia) (p : Pl) (Ao : Option Addr) (lo co : Nat) (Ad : Option Addr) (ld cd : Nat) (i : Nat) (A : Option Addr) (c : Nat) (t1 t2 t3 t4 : TypeId) : VaM w (vaW w D p Ao lo co Ad ld cd i A c t1 t2 t3 t4) D p Ao lo co Ad ld cd i A c := by
 have n1 : ¬ w.heap.size = w.heap.size + 1 := by omega
 have n2 : ¬ w.heap.size = w.heap.size + 1 + 1 := by omega
 have n3 : ¬ w.heap.size = w.heap.size + 1 + 1 + 1 := by omega
 have n4 : ¬ w.heap.size + 1 = w.heap.size + 1 + 1 := by omega
 have n5 : ¬ w.heap.size + 1 = w.heap.size + 1 + 1 + 1 := by omega
 have n6 : ¬ w.heap.size + 2 = w.heap.size + 1 + 1 + 1 := by omega
 refine ⟨(((Ext.alloc _ _).trans (Ext.alloc _ _)).trans (Ext.alloc _ _)).trans (Ext.alloc _ _), (((B5.new w D p Ao lo co Ad ld cd t1).ext (Ext.alloc _ _)).ext (Ext.alloc _ _)).ext (Ext.alloc _ _), ?_, ?_, ?_, ?_, ?_, ?_, ?_, ?_, by simp⟩
 ·go_simp
 ·go_simp
 ·go_simp
 ·go_simp
 ·go_simp
 ·go_simp
 ·go_simp
 ·have := Bx.new (((w.alloc (.cells #[.slice p.AI D.ni p.cI, .slice p.AB D.nb p.cB, .slice p.AO D.no p.cO, .slice Ao lo co, .slice Ad ld cd] t1)).alloc (.cells #[I (D.B i).k, .slice (p.AA i) (D.B i).n (p.cA i), I (D.B i).vn, I (D.B i).ve, I (D.B i).un, I (D.B i).ue] t2)).alloc (.cells #[.slice A D.nb c] t3)) (.bool false) (.slice none 0 0) (I 0) t4
  rwa [show ((((w.alloc (.cells #[.slice p.AI D.ni p.cI, .slice p.AB D.nb p.cB, .slice p.AO D.no p.cO, .slice Ao lo co, .slice Ad ld cd] t1)).alloc (.cells #[I (D.B i).k, .slice (p.AA i) (D.B i).n (p.cA i), I (D.B i).vn, I (D.B i).ve, I (D.B i).un, I (D.B i).ue] t2)).alloc (.cells #[.slice A D.nb c] t3))).heap.size = w.heap.size + 1 + 1 + 1 by simp] at this
theorem VaM.arg {w W1 : World} {D : Dia} {p : Pl} {Ao Ad A : Option Addr} {lo co ld cd i c : Nat} {R : Nat → RN} {V : Nat → DV} (h : VaM w W1 D p Ao lo co Ad ld cd i A c) (d : Dm w D p) (wf : WF D) (hi : i < D.nb) (l : Ln w A D.nb R V) (j : Nat) (hj : j < ns D i)
  (w' : World) (e : Ext W1 w') : Calls Tryz.prog 208 #[I j, .pointer (some ⟨w.heap.size + 1 + 1, 0, none⟩), .pointer (some ⟨w.heap.size + 1, 0, none⟩)] w' (fun x w'' => x = .returned (R (sr D i j)).v ∧ Ext w' w'') := by
 have hs := wf.src hi hj
 have hn : ns D i = (D.B i).n := by unfold ns at hj ⊢; split at hj; omega; rw [if_neg (by assumption)]
 obtain ⟨b, o, rfl, hb, hc⟩ := l.rn (by omega)
 obtain ⟨ba, oa, ha, hba, hca⟩ := (d.args i hi).1 (by omega)
 have hz := h.sz
 have hlt : ∀ k, k < W1.heap.size → k < w'.heap.size := fun k hk => Nat.lt_of_lt_of_le hk e.size
 have E := h.ext.trans e
 have xa := (E.old.1 _ _ hba).trans (hca j (by omega))
 rw [hs.1] at xa
 have hv := hc _ hs.2.1
 have h5 := (e.old.1 _ _ (by omega)).trans h.k1
 rw [ha] at h5
 exact arg_any j ((e.old.1 _ _ (by omega)).trans h.v0) h5 (by omega) xa hs.2.1 ⟨(E.old.1 _ _ hb).trans hv.1, (E.old.1 _ _ hb).trans hv.2.1, (E.old.1 _ _ hb).trans hv.2.2⟩ (hlt _ (by omega)) (hlt _ (by omega)) (Nat.lt_of_lt_of_le hb E.size) (Nat.lt_of_lt_of_le hba E.size)
set_option maxRecDepth 100000 in
set_option maxHeartbeats 1000000 in
theorem value_const {w : World} {D : Dia} {p : Pl} {Ao Ad A Ai : Option Addr} {lo co ld cd i c ci : Nat} {R : Nat → RN} {V : Nat → DV} {IN : Nat → Int} (d : Dm w D p) (ok : OkD D) (hT : Tabs w) (hi : i < D.nb) (hk : (D.B i).k = 1) (l : Ln w A D.nb R V) :
  Calls Tryz.prog 190 #[evv D p Ao lo co Ad ld cd, bkv (D.B i).k (p.AA i) (D.B i).n (p.cA i) (D.B i).vn (D.B i).ve (D.B i).un (D.B i).ue, .slice A D.nb c, .slice Ai D.ni ci] w (DyRes (bval D IN V i) w) := by
 have hmf : ∀ (fn : Fn) (first cap : Array Value) (w : World), (Instr.makeFunc fn first cap).run Tryz.prog w = .ok (.func fn first cap) w := fun _ _ _ _ => rfl
 have hbv : bval D IN V i = nmS (D.B i).vn (D.B i).ve := by unfold bval fv; rw [hk]; rfl
 rw [hbv]; clear hbv
 obtain ⟨W1, hW1⟩ : ∃ W1, W1 = vaW w D p Ao lo co Ad ld cd i A c 130 79 53 56 := ⟨_, rfl⟩
 have hM : VaM w W1 D p Ao lo co Ad ld cd i A c := by rw [hW1]; exact VaM.new _ _ _ _ _ _ _ _ _ _ _ _ _ _ _ _
 have hz := hM.sz
 have HM := Lib.hid hM
 have hns : Hid (ns D i = (D.B i).n ∧ ((D.B i).n : Int) = arity (D.B i).k) := ⟨by unfold ns; rw [if_neg (by omega)], ok.ar i hi⟩
 have hd0 := d; have hl0 := l
 clear hd0 hl0
 have HNV : Hid (∀ w', Ext W1 w' → Calls Tryz.prog 156 #[.agg #[I (D.B i).vn, I (D.B i).ve]] w' (DyRes (nmS (D.B i).vn (D.B i).ve) w')) := fun w' e => by
  have hv := ok.val hi (by unfold usesV; rw [hk]; decide)
  exact enumber_any _ _ _ (hT.ext (hM.ext.trans e)) hv.1 hv.2.1 hv.2.2.1 hv.2.2.2
 have HLV : Hid (len (nmS (D.B i).vn (D.B i).ve).m ≤ 16777216) := by
  have hv := ok.val hi (by unfold usesV; rw [hk]; decide)
  exact (nmS_len hv.1 hv.2.1 hv.2.2.2).2
 obtain ⟨d', hd'⟩ : ∃ d', nmS (D.B i).vn (D.B i).ve = d' := ⟨_, rfl⟩
 rw [hd'] at HNV ⊢
 clear hd' HLV
 have k2 := hM.k2; have k3 := hM.k3
 have HTT := Lib.hid (hT.ext hM.ext)
 have k0 := hM.k0
 rw [hk] at k0
 clear d ok hT hi l hM
 rw [hk]
 unfold vaW at hW1
 rw [hk] at hW1
 clear hk
 go_enter Tryz.func190, Tryz.ntmps190
 go_upto_region 2 with fail
 rw [← hW1]; clear hW1
 have hx : Ext W1 W1 := Ext.refl _
 go_wp2_with (go_at_call 156; (with_reducible refine (HNV.out _ hx).mono ?_); rintro e1 w1 hr; obtain ⟨A2, c2, rfl, hon, hx2⟩ := hr; have HO := Lib.hid hon; have HX2 := Lib.hid (hx.trans hx2); obtain ⟨⟨r0, r1, r2⟩, rf⟩ := HM.out.rs.ext (hx.trans hx2); have f0 := rf 0; have f1 := rf 1; have f2 := rf 2; have hsz := hx.size; clear rf hon hx2)
 exact bodyPost_ret (v := dv d'.neg A2 (len d'.m) c2 d'.den) (by simp [results, Tryz.results190, go_sem, r0, r1, r2]) rfl (DyRes.end3 rfl HO.out (HM.out.ext.trans HX2.out) (by omega) (by omega) (by omega))
set_option maxRecDepth 100000 in
set_option maxHeartbeats 1000000 in
theorem value_add {w : World} {D : Dia} {p : Pl} {Ao Ad A Ai : Option Addr} {lo co ld cd i c ci : Nat} {R : Nat → RN} {V : Nat → DV} {IN : Nat → Int} (d : Dm w D p) (ok : OkD D) (hT : Tabs w) (hi : i < D.nb) (hk : (D.B i).k = 3) (l : Ln w A D.nb R V) :
  Calls Tryz.prog 190 #[evv D p Ao lo co Ad ld cd, bkv (D.B i).k (p.AA i) (D.B i).n (p.cA i) (D.B i).vn (D.B i).ve (D.B i).un (D.B i).ue, .slice A D.nb c, .slice Ai D.ni ci] w (DyRes (bval D IN V i) w) := by
 have hmf : ∀ (fn : Fn) (first cap : Array Value) (w : World), (Instr.makeFunc fn first cap).run Tryz.prog w = .ok (.func fn first cap) w := fun _ _ _ _ => rfl
 have hbv : bval D IN V i = addD (V (sr D i 0)) (V (sr D i 1)) := by unfold bval fv; rw [hk]; rfl
 rw [hbv]; clear hbv
 obtain ⟨W1, hW1⟩ : ∃ W1, W1 = vaW w D p Ao lo co Ad ld cd i A c 130 79 53 56 := ⟨_, rfl⟩
 have hM : VaM w W1 D p Ao lo co Ad ld cd i A c := by rw [hW1]; exact VaM.new _ _ _ _ _ _ _ _ _ _ _ _ _ _ _ _
 have hz := hM.sz
 have HM := Lib.hid hM
 have hns : Hid (ns D i = (D.B i).n ∧ ((D.B i).n : Int) = arity (D.B i).k) := ⟨by unfold ns; rw [if_neg (by omega)], ok.ar i hi⟩
 have hn0 : 0 < ns D i := by
  have a := hns.out
  have b : arity (D.B i).k = 2 := by rw [hk]; decide
  omega
 have HA0 : Hid (∀ w', Ext W1 w' → Calls Tryz.prog 208 #[I 0, .pointer (some ⟨w.heap.size + 1 + 1, 0, none⟩), .pointer (some ⟨w.heap.size + 1, 0, none⟩)] w' (fun x w'' => x = .returned (R (sr D i 0)).v ∧ Ext w' w'')) := fun w' e => hM.arg d ok.toWF hi l 0 hn0 w' e
 have HC0 : Hid (∀ w', Ext W1 w' → Cn w' (R (sr D i 0)) (V (sr D i 0))) := fun w' e => (l.el _ (ok.src hi hn0).2.1).ext (hM.ext.trans e)
 have hn1 : 1 < ns D i := by
  have a := hns.out
  have b : arity (D.B i).k = 2 := by rw [hk]; decide
  omega
 have HA1 : Hid (∀ w', Ext W1 w' → Calls Tryz.prog 208 #[I 1, .pointer (some ⟨w.heap.size + 1 + 1, 0, none⟩), .pointer (some ⟨w.heap.size + 1, 0, none⟩)] w' (fun x w'' => x = .returned (R (sr D i 1)).v ∧ Ext w' w'')) := fun w' e => hM.arg d ok.toWF hi l 1 hn1 w' e
 have HC1 : Hid (∀ w', Ext W1 w' → Cn w' (R (sr D i 1)) (V (sr D i 1))) := fun w' e => (l.el _ (ok.src hi hn1).2.1).ext (hM.ext.trans e)
 have HF : Hid (∀ w', Ext W1 w' → Calls Tryz.prog 201 #[(R (sr D i 0)).v, (R (sr D i 1)).v] w' (DyRes (addD (V (sr D i 0)) (V (sr D i 1))) w')) := fun w' e => add_any (HC0.out w' e).dy (HC1.out w' e).dy (hT.ext (hM.ext.trans e))
 obtain ⟨d', hd'⟩ : ∃ d', addD (V (sr D i 0)) (V (sr D i 1)) = d' := ⟨_, rfl⟩
 rw [hd'] at HF ⊢
 clear hd' HC0 HC1 hn0 hn1
 have HTT := Lib.hid (hT.ext hM.ext)
 have k0 := hM.k0
 rw [hk] at k0
 clear d ok hT hi l hM
 rw [hk]
 unfold vaW at hW1
 rw [hk] at hW1
 clear hk
 go_enter Tryz.func190, Tryz.ntmps190
 go_upto_region 2 with fail
 rw [← hW1]; clear hW1
 have hx : Ext W1 W1 := Ext.refl _
 generalize R (sr D i 0) = r0 at *
 generalize R (sr D i 1) = r1 at *
 go_wp2_with (first
  | (go_at_call 208; (first | (with_reducible refine (HA0.out _ hx).mono ?_) | (with_reducible refine (HA1.out _ hx).mono ?_)); rintro e1 w1 ⟨rfl, h1⟩; replace hx := hx.trans h1; clear h1)
  | (go_at_call 201; (with_reducible refine (HF.out _ hx).mono ?_); rintro e1 w1 hr; obtain ⟨A2, c2, rfl, hon, hx2⟩ := hr; have HO := Lib.hid hon; have HX2 := Lib.hid (hx.trans hx2); obtain ⟨⟨r0, r1, r2⟩, rf⟩ := HM.out.rs.ext (hx.trans hx2); have f0 := rf 0; have f1 := rf 1; have f2 := rf 2; have hsz := hx.size; clear rf hon hx2))
 exact bodyPost_ret (v := dv d'.neg A2 (len d'.m) c2 d'.den) (by simp [results, Tryz.results190, go_sem, r0, r1, r2]) rfl (DyRes.end3 rfl HO.out (HM.out.ext.trans HX2.out) (by omega) (by omega) (by omega))
set_option maxRecDepth 100000 in
set_option maxHeartbeats 1000000 in
theorem value_sub {w : World} {D : Dia} {p : Pl} {Ao Ad A Ai : Option Addr} {lo co ld cd i c ci : Nat} {R : Nat → RN} {V : Nat → DV} {IN : Nat → Int} (d : Dm w D p) (ok : OkD D) (hT : Tabs w) (hi : i < D.nb) (hk : (D.B i).k = 4) (l : Ln w A D.nb R V) :
  Calls Tryz.prog 190 #[evv D p Ao lo co Ad ld cd, bkv (D.B i).k (p.AA i) (D.B i).n (p.cA i) (D.B i).vn (D.B i).ve (D.B i).un (D.B i).ue, .slice A D.nb c, .slice Ai D.ni ci] w (DyRes (bval D IN V i) w) := by
 have hmf : ∀ (fn : Fn) (first cap : Array Value) (w : World), (Instr.makeFunc fn first cap).run Tryz.prog w = .ok (.func fn first cap) w := fun _ _ _ _ => rfl
 have hbv : bval D IN V i = subD (V (sr D i 0)) (V (sr D i 1)) := by unfold bval fv; rw [hk]; rfl
 rw [hbv]; clear hbv
 obtain ⟨W1, hW1⟩ : ∃ W1, W1 = vaW w D p Ao lo co Ad ld cd i A c 130 79 53 56 := ⟨_, rfl⟩
 have hM : VaM w W1 D p Ao lo co Ad ld cd i A c := by rw [hW1]; exact VaM.new _ _ _ _ _ _ _ _ _ _ _ _ _ _ _ _
 have hz := hM.sz
 have HM := Lib.hid hM
 have hns : Hid (ns D i = (D.B i).n ∧ ((D.B i).n : Int) = arity (D.B i).k) := ⟨by unfold ns; rw [if_neg (by omega)], ok.ar i hi⟩
 have hn0 : 0 < ns D i := by
  have a := hns.out
  have b : arity (D.B i).k = 2 := by rw [hk]; decide
  omega
 have HA0 : Hid (∀ w', Ext W1 w' → Calls Tryz.prog 208 #[I 0, .pointer (some ⟨w.heap.size + 1 + 1, 0, none⟩), .pointer (some ⟨w.heap.size + 1, 0, none⟩)] w' (fun x w'' => x = .returned (R (sr D i 0)).v ∧ Ext w' w'')) := fun w' e => hM.arg d ok.toWF hi l 0 hn0 w' e
 have HC0 : Hid (∀ w', Ext W1 w' → Cn w' (R (sr D i 0)) (V (sr D i 0))) := fun w' e => (l.el _ (ok.src hi hn0).2.1).ext (hM.ext.trans e)
 have hn1 : 1 < ns D i := by
  have a := hns.out
  have b : arity (D.B i).k = 2 := by rw [hk]; decide
  omega
 have HA1 : Hid (∀ w', Ext W1 w' → Calls Tryz.prog 208 #[I 1, .pointer (some ⟨w.heap.size + 1 + 1, 0, none⟩), .pointer (some ⟨w.heap.size + 1, 0, none⟩)] w' (fun x w'' => x = .returned (R (sr D i 1)).v ∧ Ext w' w'')) := fun w' e => hM.arg d ok.toWF hi l 1 hn1 w' e
 have HC1 : Hid (∀ w', Ext W1 w' → Cn w' (R (sr D i 1)) (V (sr D i 1))) := fun w' e => (l.el _ (ok.src hi hn1).2.1).ext (hM.ext.trans e)
 have HF : Hid (∀ w', Ext W1 w' → Calls Tryz.prog 209 #[(R (sr D i 0)).v, (R (sr D i 1)).v] w' (DyRes (subD (V (sr D i 0)) (V (sr D i 1))) w')) := fun w' e => sub_any (HC0.out w' e).dy (HC1.out w' e).dy (hT.ext (hM.ext.trans e))
 obtain ⟨d', hd'⟩ : ∃ d', subD (V (sr D i 0)) (V (sr D i 1)) = d' := ⟨_, rfl⟩
 rw [hd'] at HF ⊢
 clear hd' HC0 HC1 hn0 hn1
 have HTT := Lib.hid (hT.ext hM.ext)
 have k0 := hM.k0
 rw [hk] at k0
 clear d ok hT hi l hM
 rw [hk]
 unfold vaW at hW1
 rw [hk] at hW1
 clear hk
 go_enter Tryz.func190, Tryz.ntmps190
 go_upto_region 2 with fail
 rw [← hW1]; clear hW1
 have hx : Ext W1 W1 := Ext.refl _
 generalize R (sr D i 0) = r0 at *
 generalize R (sr D i 1) = r1 at *
 go_wp2_with (first
  | (go_at_call 208; (first | (with_reducible refine (HA0.out _ hx).mono ?_) | (with_reducible refine (HA1.out _ hx).mono ?_)); rintro e1 w1 ⟨rfl, h1⟩; replace hx := hx.trans h1; clear h1)
  | (go_at_call 209; (with_reducible refine (HF.out _ hx).mono ?_); rintro e1 w1 hr; obtain ⟨A2, c2, rfl, hon, hx2⟩ := hr; have HO := Lib.hid hon; have HX2 := Lib.hid (hx.trans hx2); obtain ⟨⟨r0, r1, r2⟩, rf⟩ := HM.out.rs.ext (hx.trans hx2); have f0 := rf 0; have f1 := rf 1; have f2 := rf 2; have hsz := hx.size; clear rf hon hx2))
 exact bodyPost_ret (v := dv d'.neg A2 (len d'.m) c2 d'.den) (by simp [results, Tryz.results190, go_sem, r0, r1, r2]) rfl (DyRes.end3 rfl HO.out (HM.out.ext.trans HX2.out) (by omega) (by omega) (by omega))
set_option maxRecDepth 100000 in
set_option maxHeartbeats 1000000 in
theorem value_mul {w : World} {D : Dia} {p : Pl} {Ao Ad A Ai : Option Addr} {lo co ld cd i c ci : Nat} {R : Nat → RN} {V : Nat → DV} {IN : Nat → Int} (d : Dm w D p) (ok : OkD D) (hT : Tabs w) (hi : i < D.nb) (hk : (D.B i).k = 7) (l : Ln w A D.nb R V) :
  Calls Tryz.prog 190 #[evv D p Ao lo co Ad ld cd, bkv (D.B i).k (p.AA i) (D.B i).n (p.cA i) (D.B i).vn (D.B i).ve (D.B i).un (D.B i).ue, .slice A D.nb c, .slice Ai D.ni ci] w (DyRes (bval D IN V i) w) := by
 have hmf : ∀ (fn : Fn) (first cap : Array Value) (w : World), (Instr.makeFunc fn first cap).run Tryz.prog w = .ok (.func fn first cap) w := fun _ _ _ _ => rfl
 have hbv : bval D IN V i = mulD (V (sr D i 0)) (V (sr D i 1)) := by unfold bval fv; rw [hk]; rfl
 rw [hbv]; clear hbv
 obtain ⟨W1, hW1⟩ : ∃ W1, W1 = vaW w D p Ao lo co Ad ld cd i A c 130 79 53 56 := ⟨_, rfl⟩
 have hM : VaM w W1 D p Ao lo co Ad ld cd i A c := by rw [hW1]; exact VaM.new _ _ _ _ _ _ _ _ _ _ _ _ _ _ _ _
 have hz := hM.sz
 have HM := Lib.hid hM
 have hns : Hid (ns D i = (D.B i).n ∧ ((D.B i).n : Int) = arity (D.B i).k) := ⟨by unfold ns; rw [if_neg (by omega)], ok.ar i hi⟩
 have hn0 : 0 < ns D i := by
  have a := hns.out
  have b : arity (D.B i).k = 2 := by rw [hk]; decide
  omega
 have HA0 : Hid (∀ w', Ext W1 w' → Calls Tryz.prog 208 #[I 0, .pointer (some ⟨w.heap.size + 1 + 1, 0, none⟩), .pointer (some ⟨w.heap.size + 1, 0, none⟩)] w' (fun x w'' => x = .returned (R (sr D i 0)).v ∧ Ext w' w'')) := fun w' e => hM.arg d ok.toWF hi l 0 hn0 w' e
 have HC0 : Hid (∀ w', Ext W1 w' → Cn w' (R (sr D i 0)) (V (sr D i 0))) := fun w' e => (l.el _ (ok.src hi hn0).2.1).ext (hM.ext.trans e)
 have hn1 : 1 < ns D i := by
  have a := hns.out
  have b : arity (D.B i).k = 2 := by rw [hk]; decide
  omega
 have HA1 : Hid (∀ w', Ext W1 w' → Calls Tryz.prog 208 #[I 1, .pointer (some ⟨w.heap.size + 1 + 1, 0, none⟩), .pointer (some ⟨w.heap.size + 1, 0, none⟩)] w' (fun x w'' => x = .returned (R (sr D i 1)).v ∧ Ext w' w'')) := fun w' e => hM.arg d ok.toWF hi l 1 hn1 w' e
 have HC1 : Hid (∀ w', Ext W1 w' → Cn w' (R (sr D i 1)) (V (sr D i 1))) := fun w' e => (l.el _ (ok.src hi hn1).2.1).ext (hM.ext.trans e)
 have HF : Hid (∀ w', Ext W1 w' → Calls Tryz.prog 199 #[(R (sr D i 0)).v, (R (sr D i 1)).v] w' (DyRes (mulD (V (sr D i 0)) (V (sr D i 1))) w')) := fun w' e => mul_any (HC0.out w' e).dy (HC1.out w' e).dy (hT.ext (hM.ext.trans e))
 obtain ⟨d', hd'⟩ : ∃ d', mulD (V (sr D i 0)) (V (sr D i 1)) = d' := ⟨_, rfl⟩
 rw [hd'] at HF ⊢
 clear hd' HC0 HC1 hn0 hn1
 have HTT := Lib.hid (hT.ext hM.ext)
 have k0 := hM.k0
 rw [hk] at k0
 clear d ok hT hi l hM
 rw [hk]
 unfold vaW at hW1
 rw [hk] at hW1
 clear hk
 go_enter Tryz.func190, Tryz.ntmps190
 go_upto_region 2 with fail
 rw [← hW1]; clear hW1
 have hx : Ext W1 W1 := Ext.refl _
 generalize R (sr D i 0) = r0 at *
 generalize R (sr D i 1) = r1 at *
 go_wp2_with (first
  | (go_at_call 208; (first | (with_reducible refine (HA0.out _ hx).mono ?_) | (with_reducible refine (HA1.out _ hx).mono ?_)); rintro e1 w1 ⟨rfl, h1⟩; replace hx := hx.trans h1; clear h1)
  | (go_at_call 199; (with_reducible refine (HF.out _ hx).mono ?_); rintro e1 w1 hr; obtain ⟨A2, c2, rfl, hon, hx2⟩ := hr; have HO := Lib.hid hon; have HX2 := Lib.hid (hx.trans hx2); obtain ⟨⟨r0, r1, r2⟩, rf⟩ := HM.out.rs.ext (hx.trans hx2); have f0 := rf 0; have f1 := rf 1; have f2 := rf 2; have hsz := hx.size; clear rf hon hx2))
 exact bodyPost_ret (v := dv d'.neg A2 (len d'.m) c2 d'.den) (by simp [results, Tryz.results190, go_sem, r0, r1, r2]) rfl (DyRes.end3 rfl HO.out (HM.out.ext.trans HX2.out) (by omega) (by omega) (by omega))
set_option maxRecDepth 100000 in
set_option maxHeartbeats 1000000 in
theorem value_min {w : World} {D : Dia} {p : Pl} {Ao Ad A Ai : Option Addr} {lo co ld cd i c ci : Nat} {R : Nat → RN} {V : Nat → DV} {IN : Nat → Int} (d : Dm w D p) (ok : OkD D) (hT : Tabs w) (hi : i < D.nb) (hk : (D.B i).k = 8) (l : Ln w A D.nb R V) :
  Calls Tryz.prog 190 #[evv D p Ao lo co Ad ld cd, bkv (D.B i).k (p.AA i) (D.B i).n (p.cA i) (D.B i).vn (D.B i).ve (D.B i).un (D.B i).ue, .slice A D.nb c, .slice Ai D.ni ci] w (DyRes (bval D IN V i) w) := by
 have hmf : ∀ (fn : Fn) (first cap : Array Value) (w : World), (Instr.makeFunc fn first cap).run Tryz.prog w = .ok (.func fn first cap) w := fun _ _ _ _ => rfl
 have hbv : bval D IN V i = minD (V (sr D i 0)) (V (sr D i 1)) := by unfold bval fv; rw [hk]; rfl
 rw [hbv]; clear hbv
 obtain ⟨W1, hW1⟩ : ∃ W1, W1 = vaW w D p Ao lo co Ad ld cd i A c 130 79 53 56 := ⟨_, rfl⟩
 have hM : VaM w W1 D p Ao lo co Ad ld cd i A c := by rw [hW1]; exact VaM.new _ _ _ _ _ _ _ _ _ _ _ _ _ _ _ _
 have hz := hM.sz
 have HM := Lib.hid hM
 have hns : Hid (ns D i = (D.B i).n ∧ ((D.B i).n : Int) = arity (D.B i).k) := ⟨by unfold ns; rw [if_neg (by omega)], ok.ar i hi⟩
 have hn0 : 0 < ns D i := by
  have a := hns.out
  have b : arity (D.B i).k = 2 := by rw [hk]; decide
  omega
 have HA0 : Hid (∀ w', Ext W1 w' → Calls Tryz.prog 208 #[I 0, .pointer (some ⟨w.heap.size + 1 + 1, 0, none⟩), .pointer (some ⟨w.heap.size + 1, 0, none⟩)] w' (fun x w'' => x = .returned (R (sr D i 0)).v ∧ Ext w' w'')) := fun w' e => hM.arg d ok.toWF hi l 0 hn0 w' e
 have HC0 : Hid (∀ w', Ext W1 w' → Cn w' (R (sr D i 0)) (V (sr D i 0))) := fun w' e => (l.el _ (ok.src hi hn0).2.1).ext (hM.ext.trans e)
 have hn1 : 1 < ns D i := by
  have a := hns.out
  have b : arity (D.B i).k = 2 := by rw [hk]; decide
  omega
 have HA1 : Hid (∀ w', Ext W1 w' → Calls Tryz.prog 208 #[I 1, .pointer (some ⟨w.heap.size + 1 + 1, 0, none⟩), .pointer (some ⟨w.heap.size + 1, 0, none⟩)] w' (fun x w'' => x = .returned (R (sr D i 1)).v ∧ Ext w' w'')) := fun w' e => hM.arg d ok.toWF hi l 1 hn1 w' e
 have HC1 : Hid (∀ w', Ext W1 w' → Cn w' (R (sr D i 1)) (V (sr D i 1))) := fun w' e => (l.el _ (ok.src hi hn1).2.1).ext (hM.ext.trans e)
 have HF : Hid (∀ w', Ext W1 w' → Calls Tryz.prog 202 #[(R (sr D i 0)).v, (R (sr D i 1)).v] w' (DyRes (minD (V (sr D i 0)) (V (sr D i 1))) w')) := fun w' e => min_any (HC0.out w' e).dy (HC1.out w' e).dy (hT.ext (hM.ext.trans e))
 obtain ⟨d', hd'⟩ : ∃ d', minD (V (sr D i 0)) (V (sr D i 1)) = d' := ⟨_, rfl⟩
 rw [hd'] at HF ⊢
 clear hd' HC0 HC1 hn0 hn1
 have HTT := Lib.hid (hT.ext hM.ext)
 have k0 := hM.k0
 rw [hk] at k0
 clear d ok hT hi l hM
 rw [hk]
 unfold vaW at hW1
 rw [hk] at hW1
 clear hk
 go_enter Tryz.func190, Tryz.ntmps190
 go_upto_region 2 with fail
 rw [← hW1]; clear hW1
 have hx : Ext W1 W1 := Ext.refl _
 generalize R (sr D i 0) = r0 at *
 generalize R (sr D i 1) = r1 at *
 go_wp2_with (first
  | (go_at_call 208; (first | (with_reducible refine (HA0.out _ hx).mono ?_) | (with_reducible refine (HA1.out _ hx).mono ?_)); rintro e1 w1 ⟨rfl, h1⟩; replace hx := hx.trans h1; clear h1)
  | (go_at_call 202; (with_reducible refine (HF.out _ hx).mono ?_); rintro e1 w1 hr; obtain ⟨A2, c2, rfl, hon, hx2⟩ := hr; have HO := Lib.hid hon; have HX2 := Lib.hid (hx.trans hx2); obtain ⟨⟨r0, r1, r2⟩, rf⟩ := HM.out.rs.ext (hx.trans hx2); have f0 := rf 0; have f1 := rf 1; have f2 := rf 2; have hsz := hx.size; clear rf hon hx2))
 exact bodyPost_ret (v := dv d'.neg A2 (len d'.m) c2 d'.den) (by simp [results, Tryz.results190, go_sem, r0, r1, r2]) rfl (DyRes.end3 rfl HO.out (HM.out.ext.trans HX2.out) (by omega) (by omega) (by omega))
set_option maxRecDepth 100000 in
set_option maxHeartbeats 1000000 in
theorem value_max {w : World} {D : Dia} {p : Pl} {Ao Ad A Ai : Option Addr} {lo co ld cd i c ci : Nat} {R : Nat → RN} {V : Nat → DV} {IN : Nat → Int} (d : Dm w D p) (ok : OkD D) (hT : Tabs w) (hi : i < D.nb) (hk : (D.B i).k = 9) (l : Ln w A D.nb R V) :
  Calls Tryz.prog 190 #[evv D p Ao lo co Ad ld cd, bkv (D.B i).k (p.AA i) (D.B i).n (p.cA i) (D.B i).vn (D.B i).ve (D.B i).un (D.B i).ue, .slice A D.nb c, .slice Ai D.ni ci] w (DyRes (bval D IN V i) w) := by
 have hmf : ∀ (fn : Fn) (first cap : Array Value) (w : World), (Instr.makeFunc fn first cap).run Tryz.prog w = .ok (.func fn first cap) w := fun _ _ _ _ => rfl
 have hbv : bval D IN V i = maxD (V (sr D i 0)) (V (sr D i 1)) := by unfold bval fv; rw [hk]; rfl
 rw [hbv]; clear hbv
 obtain ⟨W1, hW1⟩ : ∃ W1, W1 = vaW w D p Ao lo co Ad ld cd i A c 130 79 53 56 := ⟨_, rfl⟩
 have hM : VaM w W1 D p Ao lo co Ad ld cd i A c := by rw [hW1]; exact VaM.new _ _ _ _ _ _ _ _ _ _ _ _ _ _ _ _
 have hz := hM.sz
 have HM := Lib.hid hM
 have hns : Hid (ns D i = (D.B i).n ∧ ((D.B i).n : Int) = arity (D.B i).k) := ⟨by unfold ns; rw [if_neg (by omega)], ok.ar i hi⟩
 have hn0 : 0 < ns D i := by
  have a := hns.out
  have b : arity (D.B i).k = 2 := by rw [hk]; decide
  omega
 have HA0 : Hid (∀ w', Ext W1 w' → Calls Tryz.prog 208 #[I 0, .pointer (some ⟨w.heap.size + 1 + 1, 0, none⟩), .pointer (some ⟨w.heap.size + 1, 0, none⟩)] w' (fun x w'' => x = .returned (R (sr D i 0)).v ∧ Ext w' w'')) := fun w' e => hM.arg d ok.toWF hi l 0 hn0 w' e
 have HC0 : Hid (∀ w', Ext W1 w' → Cn w' (R (sr D i 0)) (V (sr D i 0))) := fun w' e => (l.el _ (ok.src hi hn0).2.1).ext (hM.ext.trans e)
 have hn1 : 1 < ns D i := by
  have a := hns.out
  have b : arity (D.B i).k = 2 := by rw [hk]; decide
  omega
 have HA1 : Hid (∀ w', Ext W1 w' → Calls Tryz.prog 208 #[I 1, .pointer (some ⟨w.heap.size + 1 + 1, 0, none⟩), .pointer (some ⟨w.heap.size + 1, 0, none⟩)] w' (fun x w'' => x = .returned (R (sr D i 1)).v ∧ Ext w' w'')) := fun w' e => hM.arg d ok.toWF hi l 1 hn1 w' e
 have HC1 : Hid (∀ w', Ext W1 w' → Cn w' (R (sr D i 1)) (V (sr D i 1))) := fun w' e => (l.el _ (ok.src hi hn1).2.1).ext (hM.ext.trans e)
 have HF : Hid (∀ w', Ext W1 w' → Calls Tryz.prog 183 #[(R (sr D i 0)).v, (R (sr D i 1)).v] w' (DyRes (maxD (V (sr D i 0)) (V (sr D i 1))) w')) := fun w' e => max_any (HC0.out w' e).dy (HC1.out w' e).dy (hT.ext (hM.ext.trans e))
 obtain ⟨d', hd'⟩ : ∃ d', maxD (V (sr D i 0)) (V (sr D i 1)) = d' := ⟨_, rfl⟩
 rw [hd'] at HF ⊢
 clear hd' HC0 HC1 hn0 hn1
 have HTT := Lib.hid (hT.ext hM.ext)
 have k0 := hM.k0
 rw [hk] at k0
 clear d ok hT hi l hM
 rw [hk]
 unfold vaW at hW1
 rw [hk] at hW1
 clear hk
 go_enter Tryz.func190, Tryz.ntmps190
 go_upto_region 2 with fail
 rw [← hW1]; clear hW1
 have hx : Ext W1 W1 := Ext.refl _
 generalize R (sr D i 0) = r0 at *
 generalize R (sr D i 1) = r1 at *
 go_wp2_with (first
  | (go_at_call 208; (first | (with_reducible refine (HA0.out _ hx).mono ?_) | (with_reducible refine (HA1.out _ hx).mono ?_)); rintro e1 w1 ⟨rfl, h1⟩; replace hx := hx.trans h1; clear h1)
  | (go_at_call 183; (with_reducible refine (HF.out _ hx).mono ?_); rintro e1 w1 hr; obtain ⟨A2, c2, rfl, hon, hx2⟩ := hr; have HO := Lib.hid hon; have HX2 := Lib.hid (hx.trans hx2); obtain ⟨⟨r0, r1, r2⟩, rf⟩ := HM.out.rs.ext (hx.trans hx2); have f0 := rf 0; have f1 := rf 1; have f2 := rf 2; have hsz := hx.size; clear rf hon hx2))
 exact bodyPost_ret (v := dv d'.neg A2 (len d'.m) c2 d'.den) (by simp [results, Tryz.results190, go_sem, r0, r1, r2]) rfl (DyRes.end3 rfl HO.out (HM.out.ext.trans HX2.out) (by omega) (by omega) (by omega))
set_option maxRecDepth 100000 in
set_option maxHeartbeats 1000000 in
theorem value_neg {w : World} {D : Dia} {p : Pl} {Ao Ad A Ai : Option Addr} {lo co ld cd i c ci : Nat} {R : Nat → RN} {V : Nat → DV} {IN : Nat → Int} (d : Dm w D p) (ok : OkD D) (hT : Tabs w) (hi : i < D.nb) (hk : (D.B i).k = 5) (l : Ln w A D.nb R V) :
  Calls Tryz.prog 190 #[evv D p Ao lo co Ad ld cd, bkv (D.B i).k (p.AA i) (D.B i).n (p.cA i) (D.B i).vn (D.B i).ve (D.B i).un (D.B i).ue, .slice A D.nb c, .slice Ai D.ni ci] w (DyRes (bval D IN V i) w) := by
 have hmf : ∀ (fn : Fn) (first cap : Array Value) (w : World), (Instr.makeFunc fn first cap).run Tryz.prog w = .ok (.func fn first cap) w := fun _ _ _ _ => rfl
 have hbv : bval D IN V i = negD (V (sr D i 0)) := by unfold bval fv; rw [hk]; rfl
 rw [hbv]; clear hbv
 obtain ⟨W1, hW1⟩ : ∃ W1, W1 = vaW w D p Ao lo co Ad ld cd i A c 130 79 53 56 := ⟨_, rfl⟩
 have hM : VaM w W1 D p Ao lo co Ad ld cd i A c := by rw [hW1]; exact VaM.new _ _ _ _ _ _ _ _ _ _ _ _ _ _ _ _
 have hz := hM.sz
 have HM := Lib.hid hM
 have hns : Hid (ns D i = (D.B i).n ∧ ((D.B i).n : Int) = arity (D.B i).k) := ⟨by unfold ns; rw [if_neg (by omega)], ok.ar i hi⟩
 have hn0 : 0 < ns D i := by
  have a := hns.out
  have b : arity (D.B i).k = 1 := by rw [hk]; decide
  omega
 have HA0 : Hid (∀ w', Ext W1 w' → Calls Tryz.prog 208 #[I 0, .pointer (some ⟨w.heap.size + 1 + 1, 0, none⟩), .pointer (some ⟨w.heap.size + 1, 0, none⟩)] w' (fun x w'' => x = .returned (R (sr D i 0)).v ∧ Ext w' w'')) := fun w' e => hM.arg d ok.toWF hi l 0 hn0 w' e
 have HC0 : Hid (∀ w', Ext W1 w' → Cn w' (R (sr D i 0)) (V (sr D i 0))) := fun w' e => (l.el _ (ok.src hi hn0).2.1).ext (hM.ext.trans e)
 have HF : Hid (∀ w', Ext W1 w' → Calls Tryz.prog 142 #[(R (sr D i 0)).v] w' (DyRes (negD (V (sr D i 0))) w')) := fun w' e => neg_any (HC0.out w' e).dy (hT.ext (hM.ext.trans e))
 obtain ⟨d', hd'⟩ : ∃ d', negD (V (sr D i 0)) = d' := ⟨_, rfl⟩
 rw [hd'] at HF ⊢
 clear hd' HC0 hn0
 have HTT := Lib.hid (hT.ext hM.ext)
 have k0 := hM.k0
 rw [hk] at k0
 clear d ok hT hi l hM
 rw [hk]
 unfold vaW at hW1
 rw [hk] at hW1
 clear hk
 go_enter Tryz.func190, Tryz.ntmps190
 go_upto_region 2 with fail
 rw [← hW1]; clear hW1
 have hx : Ext W1 W1 := Ext.refl _
 generalize R (sr D i 0) = r0 at *
 go_wp2_with (first
  | (go_at_call 208; (with_reducible refine (HA0.out _ hx).mono ?_); rintro e1 w1 ⟨rfl, h1⟩; replace hx := hx.trans h1; clear h1)
  | (go_at_call 142; (with_reducible refine (HF.out _ hx).mono ?_); rintro e1 w1 hr; obtain ⟨A2, c2, rfl, hon, hx2⟩ := hr; have HO := Lib.hid hon; have HX2 := Lib.hid (hx.trans hx2); obtain ⟨⟨r0, r1, r2⟩, rf⟩ := HM.out.rs.ext (hx.trans hx2); have f0 := rf 0; have f1 := rf 1; have f2 := rf 2; have hsz := hx.size; clear rf hon hx2))
 exact bodyPost_ret (v := dv d'.neg A2 (len d'.m) c2 d'.den) (by simp [results, Tryz.results190, go_sem, r0, r1, r2]) rfl (DyRes.end3 rfl HO.out (HM.out.ext.trans HX2.out) (by omega) (by omega) (by omega))
set_option maxRecDepth 100000 in
set_option maxHeartbeats 1000000 in
theorem value_abs {w : World} {D : Dia} {p : Pl} {Ao Ad A Ai : Option Addr} {lo co ld cd i c ci : Nat} {R : Nat → RN} {V : Nat → DV} {IN : Nat → Int} (d : Dm w D p) (ok : OkD D) (hT : Tabs w) (hi : i < D.nb) (hk : (D.B i).k = 10) (l : Ln w A D.nb R V) :
  Calls Tryz.prog 190 #[evv D p Ao lo co Ad ld cd, bkv (D.B i).k (p.AA i) (D.B i).n (p.cA i) (D.B i).vn (D.B i).ve (D.B i).un (D.B i).ue, .slice A D.nb c, .slice Ai D.ni ci] w (DyRes (bval D IN V i) w) := by
 have hmf : ∀ (fn : Fn) (first cap : Array Value) (w : World), (Instr.makeFunc fn first cap).run Tryz.prog w = .ok (.func fn first cap) w := fun _ _ _ _ => rfl
 have hbv : bval D IN V i = absD (V (sr D i 0)) := by unfold bval fv; rw [hk]; rfl
 rw [hbv]; clear hbv
 obtain ⟨W1, hW1⟩ : ∃ W1, W1 = vaW w D p Ao lo co Ad ld cd i A c 130 79 53 56 := ⟨_, rfl⟩
 have hM : VaM w W1 D p Ao lo co Ad ld cd i A c := by rw [hW1]; exact VaM.new _ _ _ _ _ _ _ _ _ _ _ _ _ _ _ _
 have hz := hM.sz
 have HM := Lib.hid hM
 have hns : Hid (ns D i = (D.B i).n ∧ ((D.B i).n : Int) = arity (D.B i).k) := ⟨by unfold ns; rw [if_neg (by omega)], ok.ar i hi⟩
 have hn0 : 0 < ns D i := by
  have a := hns.out
  have b : arity (D.B i).k = 1 := by rw [hk]; decide
  omega
 have HA0 : Hid (∀ w', Ext W1 w' → Calls Tryz.prog 208 #[I 0, .pointer (some ⟨w.heap.size + 1 + 1, 0, none⟩), .pointer (some ⟨w.heap.size + 1, 0, none⟩)] w' (fun x w'' => x = .returned (R (sr D i 0)).v ∧ Ext w' w'')) := fun w' e => hM.arg d ok.toWF hi l 0 hn0 w' e
 have HC0 : Hid (∀ w', Ext W1 w' → Cn w' (R (sr D i 0)) (V (sr D i 0))) := fun w' e => (l.el _ (ok.src hi hn0).2.1).ext (hM.ext.trans e)
 have HF : Hid (∀ w', Ext W1 w' → Calls Tryz.prog 184 #[(R (sr D i 0)).v] w' (DyRes (absD (V (sr D i 0))) w')) := fun w' e => abs_any (HC0.out w' e).dy (hT.ext (hM.ext.trans e))
 obtain ⟨d', hd'⟩ : ∃ d', absD (V (sr D i 0)) = d' := ⟨_, rfl⟩
 rw [hd'] at HF ⊢
 clear hd' HC0 hn0
 have HTT := Lib.hid (hT.ext hM.ext)
 have k0 := hM.k0
 rw [hk] at k0
 clear d ok hT hi l hM
 rw [hk]
 unfold vaW at hW1
 rw [hk] at hW1
 clear hk
 go_enter Tryz.func190, Tryz.ntmps190
 go_upto_region 2 with fail
 rw [← hW1]; clear hW1
 have hx : Ext W1 W1 := Ext.refl _
 generalize R (sr D i 0) = r0 at *
 go_wp2_with (first
  | (go_at_call 208; (with_reducible refine (HA0.out _ hx).mono ?_); rintro e1 w1 ⟨rfl, h1⟩; replace hx := hx.trans h1; clear h1)
  | (go_at_call 184; (with_reducible refine (HF.out _ hx).mono ?_); rintro e1 w1 hr; obtain ⟨A2, c2, rfl, hon, hx2⟩ := hr; have HO := Lib.hid hon; have HX2 := Lib.hid (hx.trans hx2); obtain ⟨⟨r0, r1, r2⟩, rf⟩ := HM.out.rs.ext (hx.trans hx2); have f0 := rf 0; have f1 := rf 1; have f2 := rf 2; have hsz := hx.size; clear rf hon hx2))
 exact bodyPost_ret (v := dv d'.neg A2 (len d'.m) c2 d'.den) (by simp [results, Tryz.results190, go_sem, r0, r1, r2]) rfl (DyRes.end3 rfl HO.out (HM.out.ext.trans HX2.out) (by omega) (by omega) (by omega))
set_option maxRecDepth 100000 in
set_option maxHeartbeats 1000000 in
theorem value_gain {w : World} {D : Dia} {p : Pl} {Ao Ad A Ai : Option Addr} {lo co ld cd i c ci : Nat} {R : Nat → RN} {V : Nat → DV} {IN : Nat → Int} (d : Dm w D p) (ok : OkD D) (hT : Tabs w) (hi : i < D.nb) (hk : (D.B i).k = 6) (l : Ln w A D.nb R V) :
  Calls Tryz.prog 190 #[evv D p Ao lo co Ad ld cd, bkv (D.B i).k (p.AA i) (D.B i).n (p.cA i) (D.B i).vn (D.B i).ve (D.B i).un (D.B i).ue, .slice A D.nb c, .slice Ai D.ni ci] w (DyRes (bval D IN V i) w) := by
 have hmf : ∀ (fn : Fn) (first cap : Array Value) (w : World), (Instr.makeFunc fn first cap).run Tryz.prog w = .ok (.func fn first cap) w := fun _ _ _ _ => rfl
 have hbv : bval D IN V i = mulD (nmS (D.B i).vn (D.B i).ve) (V (sr D i 0)) := by unfold bval fv; rw [hk]; rfl
 rw [hbv]; clear hbv
 obtain ⟨W1, hW1⟩ : ∃ W1, W1 = vaW w D p Ao lo co Ad ld cd i A c 130 79 53 56 := ⟨_, rfl⟩
 have hM : VaM w W1 D p Ao lo co Ad ld cd i A c := by rw [hW1]; exact VaM.new _ _ _ _ _ _ _ _ _ _ _ _ _ _ _ _
 have hz := hM.sz
 have HM := Lib.hid hM
 have hns : Hid (ns D i = (D.B i).n ∧ ((D.B i).n : Int) = arity (D.B i).k) := ⟨by unfold ns; rw [if_neg (by omega)], ok.ar i hi⟩
 have hn0 : 0 < ns D i := by
  have a := hns.out
  have b : arity (D.B i).k = 1 := by rw [hk]; decide
  omega
 have HA0 : Hid (∀ w', Ext W1 w' → Calls Tryz.prog 208 #[I 0, .pointer (some ⟨w.heap.size + 1 + 1, 0, none⟩), .pointer (some ⟨w.heap.size + 1, 0, none⟩)] w' (fun x w'' => x = .returned (R (sr D i 0)).v ∧ Ext w' w'')) := fun w' e => hM.arg d ok.toWF hi l 0 hn0 w' e
 have HC0 : Hid (∀ w', Ext W1 w' → Cn w' (R (sr D i 0)) (V (sr D i 0))) := fun w' e => (l.el _ (ok.src hi hn0).2.1).ext (hM.ext.trans e)
 have HNV : Hid (∀ w', Ext W1 w' → Calls Tryz.prog 156 #[.agg #[I (D.B i).vn, I (D.B i).ve]] w' (DyRes (nmS (D.B i).vn (D.B i).ve) w')) := fun w' e => by
  have hv := ok.val hi (by unfold usesV; rw [hk]; decide)
  exact enumber_any _ _ _ (hT.ext (hM.ext.trans e)) hv.1 hv.2.1 hv.2.2.1 hv.2.2.2
 have HLV : Hid (len (nmS (D.B i).vn (D.B i).ve).m ≤ 16777216) := by
  have hv := ok.val hi (by unfold usesV; rw [hk]; decide)
  exact (nmS_len hv.1 hv.2.1 hv.2.2.2).2
 have HF : Hid (∀ w' A2 c2, Ext W1 w' → Cn w' (cnR (nmS (D.B i).vn (D.B i).ve) A2 c2) (nmS (D.B i).vn (D.B i).ve) → Calls Tryz.prog 199 #[(cnR (nmS (D.B i).vn (D.B i).ve) A2 c2).v, (R (sr D i 0)).v] w' (DyRes (mulD (nmS (D.B i).vn (D.B i).ve) (V (sr D i 0))) w')) := fun w' A2 c2 e cn => mul_any cn.dy (HC0.out w' e).dy (hT.ext (hM.ext.trans e))
 obtain ⟨d', hd'⟩ : ∃ d', mulD (nmS (D.B i).vn (D.B i).ve) (V (sr D i 0)) = d' := ⟨_, rfl⟩
 rw [hd'] at HF ⊢
 clear hd' HC0 hn0
 have k2 := hM.k2; have k3 := hM.k3
 have HTT := Lib.hid (hT.ext hM.ext)
 have k0 := hM.k0
 rw [hk] at k0
 clear d ok hT hi l hM
 rw [hk]
 unfold vaW at hW1
 rw [hk] at hW1
 clear hk
 go_enter Tryz.func190, Tryz.ntmps190
 go_upto_region 2 with fail
 rw [← hW1]; clear hW1
 have hx : Ext W1 W1 := Ext.refl _
 generalize R (sr D i 0) = r0 at *
 generalize hs : nmS (D.B i).vn (D.B i).ve = sv at *
 have HSV : Hid (sv.ok) := by show DV.ok _; rw [← hs]; exact nmS_ok _ _
 clear hs
 go_wp2_with (first
  | (go_at_call 156; (with_reducible refine (HNV.out _ hx).mono ?_); rintro e1 w0 hr0; obtain ⟨A0, c0, rfl, cn0, _, hx0⟩ := hr0.cn HSV.out HLV.out; have CN0 := Lib.hid cn0; have HX0 := Lib.hid (hx.trans hx0); replace hx := hx.trans hx0; clear cn0 hx0 hr0)
  | (go_at_call 208; (with_reducible refine (HA0.out _ hx).mono ?_); rintro e1 w1 ⟨rfl, h1⟩; have CN1 := Lib.hid (CN0.out.ext h1); replace hx := hx.trans h1; clear h1)
  | (go_at_call 199; (with_reducible refine (HF.out _ _ _ hx CN1.out).mono ?_); rintro e1 w1 hr; obtain ⟨A2, c2, rfl, hon, hx2⟩ := hr; have HO := Lib.hid hon; have HX2 := Lib.hid (hx.trans hx2); obtain ⟨⟨r0, r1, r2⟩, rf⟩ := HM.out.rs.ext (hx.trans hx2); have f0 := rf 0; have f1 := rf 1; have f2 := rf 2; have hsz := hx.size; clear rf hon hx2))
 exact bodyPost_ret (v := dv d'.neg A2 (len d'.m) c2 d'.den) (by simp [results, Tryz.results190, go_sem, r0, r1, r2]) rfl (DyRes.end3 rfl HO.out (HM.out.ext.trans HX2.out) (by omega) (by omega) (by omega))
end
section
section
open Go Go.RowKit
set_option maxRecDepth 100000 in
set_option maxHeartbeats 1000000 in
theorem value_input {w : World} {D : Dia} {p : Pl} {Ao Ad A Ai : Option Addr} {lo co ld cd i c ci : Nat} {R : Nat → RN} {V : Nat → DV} {IN : Nat → Int} (d : Dm w D p) (ok : OkD D) (hT : Tabs w) (hi : i < D.nb) (hk : (D.B i).k = 0) (l : Ln w A D.nb R V) (r : Ri w Ai D.ni IN) (hr : ∀ j, j < D.ni → (D.P j).lo ≤ IN j ∧ IN j ≤ (D.P j).hi) :
  Calls Tryz.prog 190 #[evv D p Ao lo co Ad ld cd, bkv (D.B i).k (p.AA i) (D.B i).n (p.cA i) (D.B i).vn (D.B i).ve (D.B i).un (D.B i).ue, .slice A D.nb c, .slice Ai D.ni ci] w (DyRes (bval D IN V i) w) := by
 have hmf : ∀ (fn : Fn) (first cap : Array Value) (w : World), (Instr.makeFunc fn first cap).run Tryz.prog w = .ok (.func fn first cap) w := fun _ _ _ _ => rfl
 have hbv : bval D IN V i = prtV (D.P (sr D i 0)) (IN (sr D i 0)) := by unfold bval; rw [hk]; rfl
 rw [hbv]; clear hbv
 obtain ⟨W1, hW1⟩ : ∃ W1, W1 = vaW w D p Ao lo co Ad ld cd i A c 130 79 53 56 := ⟨_, rfl⟩
 have hM : VaM w W1 D p Ao lo co Ad ld cd i A c := by rw [hW1]; exact VaM.new _ _ _ _ _ _ _ _ _ _ _ _ _ _ _ _
 have hz := hM.sz
 have HM := Lib.hid hM
 have hl0 := l
 clear hl0
 have har : (D.B i).n = 1 := by
  have h := ok.ar i hi
  have : arity (D.B i).k = 1 := by rw [hk]; decide
  omega
 have hag := ok.arg i hi 0 (by omega)
 have hcb : cntB D (D.B i) = D.ni := by unfold cntB; rw [if_pos hk]
 rw [hcb] at hag
 obtain ⟨x, hx0⟩ : ∃ x, sr D i 0 = x := ⟨_, rfl⟩
 have hxa : (D.B i).a 0 = (x : Int) := by rw [← hx0]; unfold sr; omega
 have hxn : x < D.ni := by omega
 rw [hx0]
 clear hx0
 obtain ⟨ba, oa, ha, hba, hca⟩ := (d.args i hi).1 (by omega)
 have xa := (hM.ext.old.1 _ _ hba).trans (hca 0 (by omega))
 rw [Nat.add_zero, hxa] at xa
 obtain ⟨bi, oi, rfl, hbi, hci⟩ := r (by omega)
 obtain ⟨bp, op, hp, hbp, hcp⟩ := d.ports (by omega)
 have hpe := ok.pe x hxn
 have hfr : 0 ≤ (D.P x).fr ∧ (D.P x).fr ≤ 30 ∧ -2147483648 ≤ (D.P x).lo ∧ (D.P x).hi < 2147483648 := by
  unfold prtE at hpe
  by_cases q : -2147483648 ≤ (D.P x).lo ∧ (D.P x).lo ≤ (D.P x).hi ∧ (D.P x).hi < 2147483648 ∧ 0 ≤ (D.P x).fr ∧ (D.P x).fr ≤ 30
  ·omega
  ·rw [if_neg q] at hpe; omega
 have hin := hr x hxn
 have HS : Hid (∀ w', Ext W1 w' → w'.cell? ⟨bi, oi + x, none⟩ = some (I (IN x)) ∧ w'.cell? ⟨w.heap.size, 0, none⟩ = some (.slice (some ⟨bp, op, none⟩) D.ni p.cI) ∧ w'.cell? ⟨bp, op + x * 3 + 2, none⟩ = some (I (D.P x).fr)) := fun w' e =>
  ⟨((hM.ext.trans e).old.1 _ _ hbi).trans (hci x hxn), by rw [← hp]; exact (hM.b5.ext e).1, ((hM.ext.trans e).old.1 _ _ hbp).trans (hcp x hxn).2.2⟩
 obtain ⟨y, hy⟩ : ∃ y, IN x = y := ⟨_, rfl⟩
 obtain ⟨f, hf⟩ : ∃ f, (D.P x).fr = f := ⟨_, rfl⟩
 obtain ⟨d', hd'⟩ : ∃ d', prtV (D.P x) (IN x) = d' := ⟨_, rfl⟩
 rw [hd']
 rw [hf, hy] at HS
 have HD' : Hid (shiftD (ofI y 0) (-f) = d') := by show _ = _; rw [← hd']; unfold prtV; rw [hf, hy]
 rw [hf] at hfr
 rw [hy] at hin
 have hlo : len (ofI y 0).m ≤ 16777216 ∧ len (nmS y (-f)).m ≤ 16777216 := ⟨Nat.le_trans (len_mk _ _ _) (Nat.le_trans (len_abs (by omega) (by omega)) (by omega)), Nat.le_trans (nmS_len' (by omega) (by omega) (by omega)) (by omega)⟩
 have HL := Lib.hid hlo
 have HW := Lib.hid (ofI_ok y 0)
 obtain ⟨g, hg⟩ : ∃ g, -f = g := ⟨_, rfl⟩
 have hng : IntKind.i64.wrap (-f) = g := by rw [← hg]; exact IntWalk.i64_in _ (by omega)
 have hgb : -30 ≤ g ∧ g ≤ 0 := by omega
 rw [hg] at HD' HL hlo
 have HOF : Hid (∀ w', Ext W1 w' → Calls Tryz.prog 163 #[I y] w' (DyRes (ofI y 0) w')) := fun w' e => of_any y w' (hT.ext (hM.ext.trans e)) (by omega) (by omega)
 have k1 := hM.k1
 rw [ha, har] at k1
 obtain ⟨c0, c1, c2⟩ := HS.out W1 (Ext.refl _)
 have hxn' : (x : Int) < (D.ni : Int) := by omega
 have n1 : ¬ bi = w.heap.size + 1 + 1 + 1 := by omega
 have n2 : ¬ w.heap.size + 1 + 1 + 1 = bi := by omega
 have n3 : ¬ bp = w.heap.size + 1 + 1 + 1 := by omega
 have n4 : ¬ w.heap.size + 1 + 1 + 1 = bp := by omega
 have n5 : ¬ w.heap.size = w.heap.size + 1 + 1 + 1 := by omega
 have n6 : ¬ w.heap.size + 1 + 1 + 1 = w.heap.size := by omega
 have HMZ := Lib.hid hz
 clear hd' hy hf hag hxa hca hci hcp hpe hin r hr hcb hlo hfr hg
 have HTT := Lib.hid (hT.ext hM.ext)
 have k0 := hM.k0
 rw [hk] at k0
 clear d ok hT hi l hM ha hp har
 rw [hk]
 unfold vaW at hW1
 rw [hk] at hW1
 clear hk
 go_enter Tryz.func190, Tryz.ntmps190
 go_upto_region 2 with fail
 rw [← hW1]; clear hW1
 have hx : Ext W1 W1 := Ext.refl _
 go_upto_region 5 with fail
 go_region_held3 (fun w' => w'.cell? ⟨bi, oi + x, none⟩ = some (I y) ∧ w'.cell? ⟨w.heap.size, 0, none⟩ = some (.slice (some ⟨bp, op, none⟩) D.ni p.cI) ∧ w'.cell? ⟨bp, op + x * 3 + 2, none⟩ = some (I f)) (go_keep)
  (first
   | (go_at_call 163; (with_reducible refine (HOF.out _ (hx.trans (Ext.drew _))).mono ?_); rintro e5 w5 ⟨A5, c5, rfl, hon5, hx5⟩; obtain ⟨q0, q1, q2⟩ := HS.out w5 ((Ext.drew _).trans hx5); have HDN := Lib.hid (dy_of_on hon5 HW.out HL.out.1 (Ext.refl _)); clear hon5)
   | (go_at_call 162; refine (shift_any g HDN.out (HTT.out.ext ((Ext.drew _).trans hx5)) (by omega) (by omega)).mono ?_; rw [HD'.out]; rintro e1 w1 ⟨A2, c2, rfl, hon, hx2⟩; have HO := Lib.hid hon; have HX2 := Lib.hid (((Ext.drew W1).trans hx5).trans hx2); obtain ⟨p0, p1, p2⟩ := HS.out w1 HX2.out; obtain ⟨⟨r0, r1, r2⟩, rf⟩ := HM.out.rs.ext HX2.out; have f0 := rf 0; have f1 := rf 1; have f2 := rf 2; have hsz := ((Ext.drew W1).trans hx5).size; clear rf hon))
 all_goals
  go_wp2_with fail
  exact bodyPost_ret (v := dv d'.neg A2 (len d'.m) c2 d'.den) (by simp [results, Tryz.results190, go_sem, r0, r1, r2]) rfl (DyRes.end3 rfl HO.out (HM.out.ext.trans HX2.out) (by omega) (by omega) (by omega))
set_option maxRecDepth 100000 in
set_option maxHeartbeats 1000000 in
theorem value_clip {w : World} {D : Dia} {p : Pl} {Ao Ad A Ai : Option Addr} {lo co ld cd i c ci : Nat} {R : Nat → RN} {V : Nat → DV} {IN : Nat → Int} (d : Dm w D p) (ok : OkD D) (hT : Tabs w) (hi : i < D.nb) (hk : (D.B i).k = 11) (l : Ln w A D.nb R V) :
  Calls Tryz.prog 190 #[evv D p Ao lo co Ad ld cd, bkv (D.B i).k (p.AA i) (D.B i).n (p.cA i) (D.B i).vn (D.B i).ve (D.B i).un (D.B i).ue, .slice A D.nb c, .slice Ai D.ni ci] w (DyRes (bval D IN V i) w) := by
 have hmf : ∀ (fn : Fn) (first cap : Array Value) (w : World), (Instr.makeFunc fn first cap).run Tryz.prog w = .ok (.func fn first cap) w := fun _ _ _ _ => rfl
 have hbv : bval D IN V i = maxD (nmS (D.B i).vn (D.B i).ve) (minD (V (sr D i 0)) (nmS (D.B i).un (D.B i).ue)) := by unfold bval fv; rw [hk]; rfl
 rw [hbv]; clear hbv
 obtain ⟨W1, hW1⟩ : ∃ W1, W1 = vaW w D p Ao lo co Ad ld cd i A c 130 79 53 56 := ⟨_, rfl⟩
 have hM : VaM w W1 D p Ao lo co Ad ld cd i A c := by rw [hW1]; exact VaM.new _ _ _ _ _ _ _ _ _ _ _ _ _ _ _ _
 have hz := hM.sz
 have HM := Lib.hid hM
 have hns : Hid (ns D i = (D.B i).n ∧ ((D.B i).n : Int) = arity (D.B i).k) := ⟨by unfold ns; rw [if_neg (by omega)], ok.ar i hi⟩
 have hn0 : 0 < ns D i := by
  have a := hns.out
  have b : arity (D.B i).k = 1 := by rw [hk]; decide
  omega
 have HA0 : Hid (∀ w', Ext W1 w' → Calls Tryz.prog 208 #[I 0, .pointer (some ⟨w.heap.size + 1 + 1, 0, none⟩), .pointer (some ⟨w.heap.size + 1, 0, none⟩)] w' (fun x w'' => x = .returned (R (sr D i 0)).v ∧ Ext w' w'')) := fun w' e => hM.arg d ok.toWF hi l 0 hn0 w' e
 have HC0 : Hid (∀ w', Ext W1 w' → Cn w' (R (sr D i 0)) (V (sr D i 0))) := fun w' e => (l.el _ (ok.src hi hn0).2.1).ext (hM.ext.trans e)
 have HNV : Hid (∀ w', Ext W1 w' → Calls Tryz.prog 156 #[.agg #[I (D.B i).vn, I (D.B i).ve]] w' (DyRes (nmS (D.B i).vn (D.B i).ve) w')) := fun w' e => by
  have hv := ok.val hi (by unfold usesV; rw [hk]; decide)
  exact enumber_any _ _ _ (hT.ext (hM.ext.trans e)) hv.1 hv.2.1 hv.2.2.1 hv.2.2.2
 have HLV : Hid (len (nmS (D.B i).vn (D.B i).ve).m ≤ 16777216) := by
  have hv := ok.val hi (by unfold usesV; rw [hk]; decide)
  exact (nmS_len hv.1 hv.2.1 hv.2.2.2).2
 have HNU : Hid (∀ w', Ext W1 w' → Calls Tryz.prog 156 #[.agg #[I (D.B i).un, I (D.B i).ue]] w' (DyRes (nmS (D.B i).un (D.B i).ue) w')) := fun w' e => by
  have hv := ok.upp hi hk
  exact enumber_any _ _ _ (hT.ext (hM.ext.trans e)) hv.1 hv.2.1 hv.2.2.1 hv.2.2.2
 have HLU : Hid (len (nmS (D.B i).un (D.B i).ue).m ≤ 16777216) := by
  have hv := ok.upp hi hk
  exact (nmS_len hv.1 hv.2.1 hv.2.2.2).2
 have HS : Hid (∀ w', Ext W1 w' → w'.cell? ⟨w.heap.size + 1, 2, none⟩ = some (I (D.B i).vn) ∧ w'.cell? ⟨w.heap.size + 1, 3, none⟩ = some (I (D.B i).ve) ∧ w'.cell? ⟨w.heap.size + 1, 4, none⟩ = some (I (D.B i).un) ∧ w'.cell? ⟨w.heap.size + 1, 5, none⟩ = some (I (D.B i).ue)) := fun w' e =>
  ⟨(e.old.1 _ _ (by omega)).trans hM.k2, (e.old.1 _ _ (by omega)).trans hM.k3, (e.old.1 _ _ (by omega)).trans hM.k4, (e.old.1 _ _ (by omega)).trans hM.k5⟩
 have HSV : Hid (nmS (D.B i).vn (D.B i).ve).ok := nmS_ok _ _
 have HSU : Hid (nmS (D.B i).un (D.B i).ue).ok := nmS_ok _ _
 obtain ⟨d', hd'⟩ : ∃ d', maxD (nmS (D.B i).vn (D.B i).ve) (minD (V (sr D i 0)) (nmS (D.B i).un (D.B i).ue)) = d' := ⟨_, rfl⟩
 rw [hd']
 have HD' := Lib.hid hd'
 clear hd' hn0
 obtain ⟨q0, q1, q2, q3⟩ := HS.out W1 (Ext.refl _)
 have n5 : ¬ w.heap.size + 1 = w.heap.size + 1 + 1 + 1 := by omega
 have n6 : ¬ w.heap.size + 1 + 1 + 1 = w.heap.size + 1 := by omega
 have HTT := Lib.hid (hT.ext hM.ext)
 have k0 := hM.k0
 rw [hk] at k0
 clear d ok hT hi l hM
 rw [hk]
 unfold vaW at hW1
 rw [hk] at hW1
 clear hk
 go_enter Tryz.func190, Tryz.ntmps190
 go_upto_region 2 with fail
 rw [← hW1]; clear hW1
 have hx : Ext W1 W1 := Ext.refl _
 generalize hlo : nmS (D.B i).vn (D.B i).ve = lv at *
 generalize hup : nmS (D.B i).un (D.B i).ue = uv at *
 clear hlo hup
 generalize (D.B i).vn = vn at *
 generalize (D.B i).ve = ve at *
 generalize (D.B i).un = un at *
 generalize (D.B i).ue = ue at *
 generalize R (sr D i 0) = rr at *
 generalize V (sr D i 0) = xv at *
 have HMO : Hid ((minD xv uv).ok ∧ len (minD xv uv).m ≤ 16777216) := by
  have cx := HC0.out W1 (Ext.refl _)
  refine ⟨minD_ok cx.ok HSU.out, ?_⟩
  have h1 := HLU.out; have h2 := cx.lim
  unfold minD; split
  ·exact h1
  ·exact h2
 go_upto_region 24 with fail
 go_region_held3 (fun w' => w'.cell? ⟨w.heap.size + 1, 2, none⟩ = some (I vn) ∧ w'.cell? ⟨w.heap.size + 1, 3, none⟩ = some (I ve) ∧ w'.cell? ⟨w.heap.size + 1, 4, none⟩ = some (I un) ∧ w'.cell? ⟨w.heap.size + 1, 5, none⟩ = some (I ue)) (first | go_keep | (refine ⟨?_, ?_, ?_, ?_⟩ <;> (rw [cell_far3 (by omega)]; assumption)))
  (first
   | (go_at_call 156; (with_reducible refine (HNV.out _ ex2).mono ?_); rintro e1 w2 hr0; obtain ⟨A0, y0, rfl, cn0, _, hx0⟩ := hr0.cn HSV.out HLV.out; have HX2 := Lib.hid (show Ext W1 w2 from ex2); have CN0 := Lib.hid cn0; obtain ⟨s0, s1, s2, s3⟩ := HS.out w2 HX2.out; clear hr0 cn0)
   | (go_at_call 208; (with_reducible refine (HA0.out _ HX2.out).mono ?_); rintro e1 w3 ⟨rfl, h3⟩; have HX3 := Lib.hid (HX2.out.trans h3); have CN3 := Lib.hid (CN0.out.ext h3); obtain ⟨t0, t1, t2, t3⟩ := HS.out w3 HX3.out)
   | (go_at_call 156; (with_reducible refine (HNU.out _ HX3.out).mono ?_); rintro e1 w4 hr0; obtain ⟨A4, y4, rfl, cn4, _, hx4⟩ := hr0.cn HSU.out HLU.out; have HX4 := Lib.hid (HX3.out.trans hx4); have CN4 := Lib.hid (CN3.out.ext hx4); have CU4 := Lib.hid cn4; obtain ⟨u0, u1, u2, u3⟩ := HS.out w4 HX4.out; clear hr0 cn4)
   | (go_at_call 202; (with_reducible refine (min_any (HC0.out w4 HX4.out).dy CU4.out.dy (HTT.out.ext HX4.out)).mono ?_); rintro e1 w5 hr0; obtain ⟨A5, y5, rfl, cn5, _, hx5⟩ := hr0.cn HMO.out.1 HMO.out.2; have HX5 := Lib.hid (HX4.out.trans hx5); have CN5 := Lib.hid (CN4.out.ext hx5); have CM5 := Lib.hid cn5; obtain ⟨v0, v1, v2, v3⟩ := HS.out w5 HX5.out; clear hr0 cn5)
   | (go_at_call 183; (with_reducible refine (max_any CN5.out.dy CM5.out.dy (HTT.out.ext HX5.out)).mono ?_); rw [HD'.out]; rintro e1 w6 ⟨A2, c2, rfl, hon, hx2⟩; have HO := Lib.hid hon; have HX6 := Lib.hid (HX5.out.trans hx2); obtain ⟨p0, p1, p2, p3⟩ := HS.out w6 HX6.out; obtain ⟨⟨r0, r1, r2⟩, rf⟩ := HM.out.rs.ext HX6.out; have f0 := rf 0; have f1 := rf 1; have f2 := rf 2; have hsz := HX5.out.size; clear rf hon))
 all_goals
  go_wp2_with fail
  exact bodyPost_ret (v := dv d'.neg A2 (len d'.m) c2 d'.den) (by simp [results, Tryz.results190, go_sem, r0, r1, r2]) rfl (DyRes.end3 rfl HO.out (HM.out.ext.trans HX6.out) (by omega) (by omega) (by omega))
theorem evalue_any {w : World} {D : Dia} {p : Pl} {Ao Ad A Ai : Option Addr} {lo co ld cd i c ci : Nat} {R : Nat → RN} {V : Nat → DV} {IN : Nat → Int} (d : Dm w D p) (ok : OkD D) (hT : Tabs w) (hi : i < D.nb) (hd : isD D i = false) (l : Ln w A D.nb R V)
  (r : Ri w Ai D.ni IN) (hr : ∀ j, j < D.ni → (D.P j).lo ≤ IN j ∧ IN j ≤ (D.P j).hi) :
  Calls Tryz.prog 190 #[evv D p Ao lo co Ad ld cd, bkv (D.B i).k (p.AA i) (D.B i).n (p.cA i) (D.B i).vn (D.B i).ve (D.B i).un (D.B i).ue, .slice A D.nb c, .slice Ai D.ni ci] w (DyRes (bval D IN V i) w) := by
 have h := ok.k0 i hi
 have h2 : (D.B i).k ≠ 2 := fun e => by unfold isD at hd; rw [e] at hd; cases hd
 have h3 : (D.B i).k = 0 ∨ (D.B i).k = 1 ∨ (D.B i).k = 3 ∨ (D.B i).k = 4 ∨ (D.B i).k = 5 ∨ (D.B i).k = 6 ∨ (D.B i).k = 7 ∨ (D.B i).k = 8 ∨ (D.B i).k = 9 ∨ (D.B i).k = 10 ∨ (D.B i).k = 11 := by omega
 rcases h3 with hk | hk | hk | hk | hk | hk | hk | hk | hk | hk | hk
 ·exact value_input d ok hT hi hk l r hr
 ·exact value_const d ok hT hi hk l
 ·exact value_add d ok hT hi hk l
 ·exact value_sub d ok hT hi hk l
 ·exact value_neg d ok hT hi hk l
 ·exact value_gain d ok hT hi hk l
 ·exact value_mul d ok hT hi hk l
 ·exact value_min d ok hT hi hk l
 ·exact value_max d ok hT hi hk l
 ·exact value_abs d ok hT hi hk l
 ·exact value_clip d ok hT hi hk l
end
section
open Go Go.RowKit
structure El (w : World) (r : RN) (d : DV) (b : Bool) : Prop where
 vc : ∀ w', Ext w w' → Calls Tryz.prog 164 #[r.v] w' (VldRes b w')
 cn : b = true → Cn w r d
theorem El.ext {w w' : World} {r : RN} {d : DV} {b : Bool} (h : El w r d b) (e : Ext w w') : El w' r d b := ⟨fun w'' e' => h.vc w'' (e.trans e'), fun q => (h.cn q).ext e⟩
theorem El.of {w : World} {r : RN} {d : DV} (h : Cn w r d) : El w r d true := ⟨fun w' e => by
 have := valid_any r.neg r.A r.n r.c r.den (dg d.m) w' (by rw [h.n]; exact h.rd.ext e) (fun i _ => dg_lt _ _) (by rw [h.n]; have := h.lim; omega)
 rw [h.neg, h.n, h.den, vld_ok h.ok] at this
 show Calls _ _ #[dv r.neg r.A r.n r.c r.den] _ _
 rw [h.neg, h.n, h.den]
 exact this, fun _ => h⟩
def chE (D : Dia) (n : Nat) (b : Nat → Bool) (m : Nat) (IN : Nat → Int) : Int :=
 if n ≠ (delL D).length then 11 else if allN n b = false then 2 else if m ≠ D.ni then 11 else if inR D IN = false then 3 else 0
theorem stE_ch {D : Dia} {n m : Nat} {b : Nat → Bool} {S : Nat → DV} {IN : Nat → Int} : stE D n b S m IN = if chE D n b m IN ≠ 0 then chE D n b m IN else if tkG D S IN = false then 4 else 0 := by
 unfold stE chE
 by_cases h1 : n ≠ (delL D).length
 ·rw [if_pos h1, if_pos h1, if_pos (by decide)]
 rw [if_neg h1, if_neg h1]
 by_cases h2 : allN n b = false
 ·rw [if_pos h2, if_pos h2, if_pos (by decide)]
 rw [if_neg h2, if_neg h2]
 by_cases h3 : m ≠ D.ni
 ·rw [if_pos h3, if_pos h3, if_pos (by decide)]
 rw [if_neg h3, if_neg h3]
 by_cases h4 : inR D IN = false
 ·rw [if_pos h4, if_pos h4, if_pos (by decide)]
 rw [if_neg h4, if_neg h4, if_neg (show ¬ (0 : Int) ≠ 0 by decide)]
abbrev evW (w : World) (D : Dia) (p : Pl) (Ao : Option Addr) (lo co : Nat) (Ad : Option Addr) (ld cd : Nat) (t : TypeId) : World := w.alloc (.cells #[.slice p.AI D.ni p.cI, .slice p.AB D.nb p.cB, .slice p.AO D.no p.cO, .slice Ao lo co, .slice Ad ld cd] t)
set_option maxRecDepth 100000 in
set_option maxHeartbeats 1000000 in
theorem echeck_shape {w : World} {D : Dia} {p : Pl} {Ao Ad As Ai : Option Addr} {lo ld co cd n cs m ci : Nat} (hn : n ≠ ld) :
  Calls Tryz.prog 146 #[evv D p Ao lo co Ad ld cd, .slice As n cs, .slice Ai m ci] w fun e w' => e = .returned (errv 11) ∧ Ext w w' := by
 have g0 : ((n : Int) != (ld : Int)) = true := by simp; omega
 have g1 : (!((n : Int) == (ld : Int))) = true := by simp; omega
 go_enter Tryz.func146, Tryz.ntmps146
 go_wp2_with fail
 go_ret
 exact ⟨rfl, ext3⟩
set_option maxRecDepth 100000 in
set_option maxHeartbeats 1000000 in
theorem echeck_any {w : World} {D : Dia} {p : Pl} {Ao Ad As Ai : Option Addr} {lo ld co cd n cs m ci : Nat} {R : Nat → RN} {S : Nat → DV} {b : Nat → Bool} {IN : Nat → Int} (d : Dm w D p) (hld : (delL D).length = ld) (hl2 : ld ≤ 1000)
  (rs : Rn w As n R) (el : ∀ k, k < n → El w (R k) (S k) (b k)) (r : Ri w Ai m IN) (hm : m ≤ maxLen) :
  Calls Tryz.prog 146 #[evv D p Ao lo co Ad ld cd, .slice As n cs, .slice Ai m ci] w fun e w' => e = .returned (errv (chE D n b m IN)) ∧ Ext w w' := by
 by_cases hnl : n ≠ ld
 ·have : chE D n b m IN = 11 := by unfold chE; rw [if_pos (by omega)]
  rw [this]; exact echeck_shape hnl
 obtain rfl : n = ld := by omega
 clear hnl
 obtain ⟨W1, hW1⟩ : ∃ W1, W1 = evW w D p Ao lo co Ad n cd 130 := ⟨_, rfl⟩
 unfold evW at hW1
 have hE : Ext w W1 := by rw [hW1]; exact Ext.alloc _ _
 have HB : Hid (B5 W1 w.heap.size D p Ao lo co Ad n cd) := by show B5 _ _ _ _ _ _ _ _ _ _; rw [hW1]; exact B5.new _ _ _ _ _ _ _ _ _ _
 obtain ⟨c0, c1, c2, c3, c4⟩ := HB.out
 have HR := Lib.hid (rs.ext hE)
 have HL : Hid (∀ k, k < n → El W1 (R k) (S k) (b k)) := fun k hk => (el k hk).ext hE
 have HI := Lib.hid (r.ext hE); have HD := Lib.hid (d.ext hE); have HE := Lib.hid hE
 have HLD := Lib.hid hld
 have hli := d.li
 unfold maxLen at hm hli
 have h0 : ((n : Int) != (n : Int)) = false := by simp
 obtain ⟨v, hv⟩ : ∃ v, chE D n b m IN = v := ⟨_, rfl⟩
 have HV := Lib.hid hv
 rw [hv]
 clear rs el r d hE hld hv
 go_enter Tryz.func146, Tryz.ntmps146
 go_upto_region 1 with fail
 rw [← hW1]; clear hW1
 go_wp2_with fail
 clear c0 c1 c2 c3 c4
 go_loopw [20] (fun s wr => ∃ j : Nat, j ≤ n ∧ s = I j ∧ Ext W1 wr ∧ Hid (∀ k, k < j → b k = true)) (fun s _ => n - (intOf s).toNat)
 case atStart => exact ⟨0, Nat.zero_le _, rfl, Ext.refl _, fun k hk => absurd hk (by omega)⟩
 case round =>
  obtain ⟨j, hj, rfl, hx, HG⟩ := hrel
  by_cases hlt : j < n
  ·obtain ⟨bs, os, rfl, hbs, hcs⟩ := HR.out.ext hx (by omega)
   obtain ⟨x0, x1, x2⟩ := hcs j hlt
   have HVC := Lib.hid ((HL.out j hlt).vc)
   have hlt' : (j : Int) < (n : Int) := by omega
   clear hcs
   cases hb : b j with
   | true =>
    have HG2 : Hid (∀ k, k < j + 1 → b k = true) := fun k hk => by
     by_cases h : k = j
     ·subst h; exact hb
     ·exact HG.out k (by omega)
    rw [hb] at HVC
    clear hb
    generalize R j = rj at *
    go_wp2_with (go_at_call 164; (with_reducible refine (HVC.out _ (hx.trans (Ext.alloc _ _))).mono ?_); rintro e1 w1 ⟨rfl, h1⟩; replace hx := (hx.trans (Ext.alloc _ _)).trans h1; clear h1)
    go_roundw
    case rel => exact ⟨j + 1, by omega, by go_num, hx, HG2⟩
    case measure => simp [intOf]; omega
   | false =>
    obtain rfl : v = 2 := by
     rw [← HV.out]; unfold chE
     rw [if_neg (by have := HLD.out; omega), if_pos (allN_false.2 ⟨j, hlt, hb⟩)]
    rw [hb] at HVC
    clear hb
    generalize R j = rj at *
    go_wp2_with (go_at_call 164; (with_reducible refine (HVC.out _ (hx.trans (Ext.alloc _ _))).mono ?_); rintro e1 w1 ⟨rfl, h1⟩; replace hx := (hx.trans (Ext.alloc _ _)).trans h1; clear h1)
    go_ret
    exact ⟨rfl, HE.out.trans hx⟩
  ·obtain rfl : j = n := by omega
   obtain ⟨c0, c1, c2, c3, c4⟩ := HB.out.ext hx
   have HA : Hid (allN j b = true) := allN_iff.2 HG.out
   by_cases hmi : m ≠ D.ni
   ·obtain rfl : v = 11 := by
     rw [← HV.out]; unfold chE
     rw [if_neg (by have := HLD.out; omega), if_neg (by rw [HA.out]; decide), if_pos hmi]
    have g0 : ((m : Int) != (D.ni : Int)) = true := by simp; omega
    clear hmi
    go_wp2_with fail
    go_ret
    exact ⟨rfl, HE.out.trans hx⟩
   ·obtain rfl : m = D.ni := by omega
    have g0 : ((D.ni : Int) != (D.ni : Int)) = false := by simp
    clear hmi
    have HX := Lib.hid hx
    go_wp2_with fail
    clear c0 c1 c2 c3 c4
    go_loopw [41] (fun s wr => ∃ i : Nat, i ≤ D.ni ∧ s = I i ∧ Ext W1 wr ∧ Hid (∀ k, k < i → (D.P k).lo ≤ IN k ∧ IN k ≤ (D.P k).hi)) (fun s _ => D.ni - (intOf s).toNat)
    case atStart => exact ⟨0, Nat.zero_le _, rfl, hx, fun k hk => absurd hk (by omega)⟩
    case round =>
     clear hx
     obtain ⟨i, hi, rfl, hx, HP⟩ := hrel
     by_cases hli2 : i < D.ni
     ·obtain ⟨bi, oi, rfl, hbi, hci⟩ := HI.out.ext hx (by omega)
      have xi := hci i hli2
      obtain ⟨bp, op, hp, hbp, hcp⟩ := (HD.out.ext hx).ports (by omega)
      obtain ⟨y0, y1, y2⟩ := hcp i hli2
      have hlt' : (i : Int) < (D.ni : Int) := by omega
      obtain ⟨Wc, hWc⟩ : ∃ Wc, Wc = wr.alloc (.cells #[I (D.P i).lo, I (D.P i).hi, I (D.P i).fr] 82) := ⟨_, rfl⟩
      have hEc : Ext wr Wc := by rw [hWc]; exact Ext.alloc _ _
      have hBc : Bx Wc wr.heap.size (I (D.P i).lo) (I (D.P i).hi) (I (D.P i).fr) := by rw [hWc]; exact Bx.new _ _ _ _ _
      have HXX := Lib.hid (hx.trans hEc)
      have zi := (hEc.old.1 _ _ hbi).trans xi
      have hzc : wr.heap.size < Wc.heap.size := hBc.lt
      have hbi2 : bi < Wc.heap.size := Nat.lt_of_lt_of_le hbi hEc.size
      obtain ⟨⟨z0, z1, z2⟩, _⟩ := hBc
      have hb : Ext Wc Wc := Ext.refl _
      clear hci hcp hx hEc
      by_cases q1 : IN i < (D.P i).lo
      ·obtain rfl : v = 3 := by
        rw [← HV.out]; unfold chE
        rw [if_neg (by have := HLD.out; omega), if_neg (by rw [HA.out]; decide), if_neg (by omega), if_pos]
        exact allN_false.2 ⟨i, hli2, by simp; omega⟩
       have g1 : decide (IN i < (D.P i).lo) = true := decide_eq_true q1
       go_upto_region 14 with fail
       rw [← hWc]; clear hWc
       have hL := fun (x : Later _) => (Ext.trans hb x.ext).old.1
       refine wp_region_later (by kernel_rfl) (by kernel_rfl) ?_
       repeat (go_big_quiet_step ((fail)))
       refine wpQuiet_nil ?_
       intro w2 hw2
       replace hb := Ext.trans hb (Later.of hw2)
       clear hw2 hL
       obtain ⟨hc, hf⟩ := hb.old
       have HBB := Lib.hid hb; clear hb
       go_wp2_with fail
       go_ret
       exact ⟨rfl, (HE.out.trans HXX.out).trans HBB.out⟩
      ·have g1 : decide (IN i < (D.P i).lo) = false := decide_eq_false q1
       by_cases q2 : (D.P i).hi < IN i
       ·obtain rfl : v = 3 := by
         rw [← HV.out]; unfold chE
         rw [if_neg (by have := HLD.out; omega), if_neg (by rw [HA.out]; decide), if_neg (by omega), if_pos]
         exact allN_false.2 ⟨i, hli2, by simp; omega⟩
        have g2 : decide ((D.P i).hi < IN i) = true := decide_eq_true q2
        go_upto_region 14 with fail
        rw [← hWc]; clear hWc
        have hL := fun (x : Later _) => (Ext.trans hb x.ext).old.1
        refine wp_region_later (by kernel_rfl) (by kernel_rfl) ?_
        repeat (go_big_quiet_step ((fail)))
        refine wpQuiet_nil ?_
        intro w2 hw2
        replace hb := Ext.trans hb (Later.of hw2)
        clear hw2 hL
        obtain ⟨hc, hf⟩ := hb.old
        have HBB := Lib.hid hb; clear hb
        go_wp2_with fail
        go_ret
        exact ⟨rfl, (HE.out.trans HXX.out).trans HBB.out⟩
       ·have g2 : decide ((D.P i).hi < IN i) = false := decide_eq_false q2
        have HP2 : Hid (∀ k, k < i + 1 → (D.P k).lo ≤ IN k ∧ IN k ≤ (D.P k).hi) := fun k hk => by
         by_cases h : k = i
         ·subst h; omega
         ·exact HP.out k (by omega)
        go_upto_region 14 with fail
        rw [← hWc]; clear hWc
        have hL := fun (x : Later _) => (Ext.trans hb x.ext).old.1
        refine wp_region_later (by kernel_rfl) (by kernel_rfl) ?_
        repeat (go_big_quiet_step ((fail)))
        refine wpQuiet_nil ?_
        intro w2 hw2
        replace hb := Ext.trans hb (Later.of hw2)
        clear hw2 hL
        obtain ⟨hc, hf⟩ := hb.old
        have HBB := Lib.hid hb; clear hb
        go_wp2_with fail
        go_roundw
        case rel => exact ⟨i + 1, by omega, by go_num, HXX.out.trans HBB.out, HP2⟩
        case measure => simp [intOf]; omega
     ·obtain rfl : i = D.ni := by omega
      obtain rfl : v = 0 := by
       rw [← HV.out]; unfold chE
       rw [if_neg (by have := HLD.out; omega), if_neg (by rw [HA.out]; decide), if_neg (by omega), if_neg]
       have : inR D IN = true := allN_iff.2 fun k hk => by simp [HP.out k hk]
       rw [this]; decide
      go_wp2_with fail
      go_ret
      exact ⟨rfl, HE.out.trans hx⟩
end
end
section
open Go Go.RowKit
theorem v1_put {D : Dia} (S : Nat → DV) {j i : Nat} (hj : j < (delL D).length) (hi : i < D.nb) : putD (v1 D S j) ((delL D).getD j 0) (S j) i = v1 D S (j + 1) i := by
 have hp := plc_get hj
 have hd := del_at hj
 unfold putD v1
 by_cases e : i = (delL D).getD j 0
 ·rw [if_pos e, e, if_pos ⟨hd.2, by omega⟩, hp]
 ·rw [if_neg e]
  by_cases q : isD D i = true
  ·by_cases q2 : plc D i < j
   ·rw [if_pos ⟨q, q2⟩, if_pos ⟨q, by omega⟩]
   ·have q3 : ¬ plc D i < j + 1 := fun h => by
     have : plc D i = j := by omega
     have h2 := (plc_lt hi q).2
     rw [this] at h2; exact e h2.symm
    rw [if_neg (fun h => q2 h.2), if_neg (fun h => q3 h.2)]
  ·rw [if_neg (fun h => q h.1), if_neg (fun h => q h.1)]
theorem v1_end {D : Dia} (S : Nat → DV) {i : Nat} (hi : i < D.nb) : v1 D S (delL D).length i = v0 D S i := by
 unfold v1 v0
 by_cases q : isD D i = true
 ·rw [if_pos ⟨q, (plc_lt hi q).1⟩, if_pos q]
 ·rw [if_neg (fun h => q h.1), if_neg q]
theorem v1_zero (D : Dia) (S : Nat → DV) (i : Nat) : v1 D S 0 i = DV.zero := if_neg fun h => by omega
theorem tkG_del {D : Dia} {S : Nat → DV} {IN : Nat → Int} {j : Nat} (hj : j < (delL D).length) (h : lng (S j) = true) : tkG D S IN = false := by
 have hd := del_at hj
 refine allN_false.2 ⟨_, hd.1, ?_⟩
 rw [tk_del S IN hd.2, plc_get hj, h]; rfl
theorem tkG_ord {D : Dia} {S : Nat → DV} {IN : Nat → Int} {k : Nat} (hk : k < (ordL D).length) (h : lng (tkV D S IN ((ordL D).getD k 0)) = true) : tkG D S IN = false :=
 allN_false.2 ⟨_, (ord_rdy hk).1, by rw [h]; rfl⟩
theorem tkG_all {D : Dia} (ok : OkD D) {S : Nat → DV} {IN : Nat → Int} (h1 : ∀ j, j < (delL D).length → lng (S j) = false) (h2 : ∀ k, k < (ordL D).length → lng (tkV D S IN ((ordL D).getD k 0)) = false) : tkG D S IN = true := by
 refine allN_iff.2 fun i hi => ?_
 cases hd : isD D i with
 | true =>
  have := plc_lt hi hd
  rw [tk_del S IN hd, h1 _ this.1]; rfl
 | false =>
  obtain ⟨t, h3, _, h5, _⟩ := posP_yes ok hi hd
  have := h2 t h3
  rw [h5] at this; rw [this]; rfl
theorem bval_bd {D : Dia} (ok : OkD D) {IN : Nat → Int} (hr : ∀ j, j < D.ni → (D.P j).lo ≤ IN j ∧ IN j ≤ (D.P j).hi) {V : Nat → DV} {i : Nat} (hi : i < D.nb) (h : ∀ j, j < ns D i → Shr (V (sr D i j))) : (bval D IN V i).ok ∧ len (bval D IN V i).m ≤ 1401 := by
 unfold bval
 by_cases e : (D.B i).k = 0
 ·rw [if_pos e]
  obtain ⟨hx, _, _⟩ := ok.inp hi e
  have hp := ok.port hx
  have hi := hr _ hx
  rw [prtV_eq]
  exact ⟨nmS_ok _ _, by have := nmS_len' (n := IN (sr D i 0)) (e := -(D.P (sr D i 0)).fr) (by omega) (by omega) (by omega); omega⟩
 ·rw [if_neg e]
  have hn : ns D i = (D.B i).n := by unfold ns; rw [if_neg e]
  have ha := ok.ar i hi
  have e1 : fv (D.B i) (V (sr D i 0)) (V (sr D i 1)) = fv (D.B i) (if 0 < ns D i then V (sr D i 0) else DV.zero) (if 1 < ns D i then V (sr D i 1) else DV.zero) :=
   fv_congr (fun q => by rw [if_pos (by omega)]) (fun q => by rw [if_pos (by omega)])
  rw [e1]
  have hs := ok.shr hi
  have h0 : Shr (if 0 < ns D i then V (sr D i 0) else DV.zero) := by
   by_cases q : 0 < ns D i
   ·rw [if_pos q]; exact h 0 q
   ·rw [if_neg q]; exact Shr.zero
  have h1 : Shr (if 1 < ns D i then V (sr D i 1) else DV.zero) := by
   by_cases q : 1 < ns D i
   ·rw [if_pos q]; exact h 1 q
   ·rw [if_neg q]; exact Shr.zero
  have := len_fv h0 h1 hs.1 hs.2
  exact ⟨this.2, this.1⟩
def VlP (D : Dia) (S : Nat → DV) (IN : Nat → Int) (w : World) (e : Ending) (w' : World) : Prop :=
 (tkG D S IN = true ∧ LvR D.nb (tkV D S IN) w e w') ∨ (tkG D S IN = false ∧ e = .panicked tlC ∧ Ext w w')
theorem cell_farg {w : World} {g h : Nat} {u0 u1 u2 : Value} {i0 i1 i2 k : Nat} (hne : h ≠ g) : (((w.setCell ⟨g, i0, none⟩ u0).setCell ⟨g, i1, none⟩ u1).setCell ⟨g, i2, none⟩ u2).cell? ⟨h, k, none⟩ = w.cell? ⟨h, k, none⟩ := by
 rw [World.cell?_setCell_other _ _ _ _ (by intro q; injection q with q1 q2; omega), World.cell?_setCell_other _ _ _ _ (by intro q; injection q with q1 q2; omega), World.cell?_setCell_other _ _ _ _ (by intro q; injection q with q1 q2; omega)]
set_option maxRecDepth 100000 in
set_option maxHeartbeats 4000000 in
theorem evalues_any {w : World} {D : Dia} {p : Pl} {Ao Ad As Ai : Option Addr} {lo ld co cd cs ci : Nat} {R : Nat → RN} {S : Nat → DV} {IN : Nat → Int} (d : Dm w D p) (ok : OkD D) (hT : Tabs w) (hld : (delL D).length = ld) (hlo : (ordL D).length = lo)
  (rd : Rl w Ad cd (delL D)) (ro : Rl w Ao co (ordL D)) (l : Ln w As ld R S) (r : Ri w Ai D.ni IN) (hr : ∀ j, j < D.ni → (D.P j).lo ≤ IN j ∧ IN j ≤ (D.P j).hi) :
  Calls Tryz.prog 148 #[evv D p Ao lo co Ad ld cd, .slice As ld cs, .slice Ai D.ni ci] w (VlP D S IN w) := by
 have hdl := del_le D
 have hol := ord_le D
 have hnb := ok.nb
 have hmk := fun w => run_makeN w D.nb (by omega)
 obtain ⟨W1, hW1⟩ : ∃ W1, W1 = evW w D p Ao lo co Ad ld cd 130 := ⟨_, rfl⟩
 unfold evW at hW1
 have hE : Ext w W1 := by rw [hW1]; exact Ext.alloc _ _
 have HB : Hid (B5 W1 w.heap.size D p Ao lo co Ad ld cd) := by show B5 _ _ _ _ _ _ _ _ _ _; rw [hW1]; exact B5.new _ _ _ _ _ _ _ _ _ _
 obtain ⟨g, hg⟩ : ∃ g, W1.heap.size = g := ⟨_, rfl⟩
 have HM0 : Hid (BuM w (W1.alloc (.cells (madeCells #[.bool false, .slice none 0 0, I 0] (D.nb * 3)) 56)) g D.nb (fun _ => RN.z) (v1 D S 0) ∧ Ext W1 (W1.alloc (.cells (madeCells #[.bool false, .slice none 0 0, I 0] (D.nb * 3)) 56))) :=
  ⟨(BuM.new _ hE hg.symm).congr fun i _ => (v1_zero D S i).symm, Ext.alloc _ _⟩
 have HD := Lib.hid (d.ext hE); have HT := Lib.hid (hT.ext hE); have HRD := Lib.hid (rd.ext hE); have HRO := Lib.hid (ro.ext hE); have HL := Lib.hid (l.ext hE); have HI := Lib.hid (r.ext hE); have HRG := Lib.hid hr
 have OK := Lib.hid ok; have HE := Lib.hid hE; have HLD := Lib.hid hld; have HLO := Lib.hid hlo
 obtain ⟨c0, c1, c2, c3, c4⟩ := HB.out
 have hz1 : W1.heap.size = w.heap.size + 1 := by rw [hW1]; simp
 have hne1 : ¬ w.heap.size = g := by omega
 have hne2 : ¬ g = w.heap.size := by omega
 have hne3 : w.heap.size < W1.heap.size := by omega
 have hne4 : w.heap.size < g := by omega
 have hne5 : ¬ w.heap.size = W1.heap.size := by omega
 have HZ := Lib.hid hz1
 rw [hld] at hdl
 rw [hlo] at hol
 clear d ok hT rd ro l r hr hE hz1 hld hlo
 go_enter Tryz.func148, Tryz.ntmps148
 go_upto_region 1 with fail
 rw [← hW1]; clear hW1
 go_wp2_with fail
 (try rw [hg])
 clear hmk c0 c1 c2 c3 c4
 have HG := Lib.hid hg; clear hg
 go_loopw [20] (fun s wr => ∃ (j : Nat) (R' : Nat → RN), j ≤ ld ∧ s = I j ∧ Hid (BuM w wr g D.nb R' (v1 D S j) ∧ Ext W1 wr ∧ ∀ k, k < j → lng (S k) = false)) (fun s _ => ld - (intOf s).toNat)
 case atStart => exact ⟨0, _, Nat.zero_le _, rfl, HM0.out.1, HM0.out.2, fun k hk => absurd hk (by omega)⟩
 case round =>
  clear HM0
  obtain ⟨j, R', hj, rfl, H⟩ := hrel
  by_cases hlt : j < ld
  ·have hj' : j < (delL D).length := by rw [HLD.out]; exact hlt
   obtain ⟨bd, od, hbd, hbld, hcd⟩ := (HRD.out.ext H.out.2.1).1 (by omega)
   have xd := hcd j hj'
   obtain ⟨x, hxd⟩ : ∃ x, (delL D).getD j 0 = x := ⟨_, rfl⟩
   have hx := del_at hj'
   simp only [hxd] at xd hx
   obtain ⟨bs, os, hbs, hbls, hcs⟩ := HL.out.rn.ext H.out.2.1 (by omega)
   obtain ⟨s0, s1, s2⟩ := hcs j hlt
   have cn := (HL.out.el j hlt).ext H.out.2.1
   have HUP : Hid (∀ i, i < D.nb → putD (v1 D S j) x (S j) i = v1 D S (j + 1) i) := fun i hi => by rw [← hxd]; exact v1_put S hj' hi
   have hlt' : (j : Int) < (ld : Int) := by omega
   have hxl : (x : Int) < (D.nb : Int) := by omega
   have hxn := hx.1
   cases hlg : lng (S j) with
   | true =>
    have HBAD : Hid (tkG D S IN = false) := tkG_del hj' hlg
    have HSH : Hid (∀ w', Ext wr w' → Calls Tryz.prog 189 #[(R j).v] w' fun e w'' => e = .panicked tlC ∧ Ext w' w'') := fun w' e => short_long (cn.ext e) hlg
    clear hcd hcs hx hj' cn hlg
    generalize R j = rj at *
    go_wp2_with (go_at_call 189; (with_reducible refine (HSH.out _ (Ext.refl _)).mono ?_); rintro e1 w1 ⟨rfl, h1⟩; have HX1 := Lib.hid h1; clear h1)
    exact ⟨rfl, .inr ⟨HBAD.out, rfl, HE.out.trans (H.out.2.1.trans HX1.out)⟩⟩
   | false =>
    have HSH : Hid (∀ w', Ext wr w' → Calls Tryz.prog 189 #[(R j).v] w' fun e w'' => e = .returned (R j).v ∧ Ext w' w'') := fun w' e => short_ok (cn.ext e) hlg
    have HFR : Hid (∀ w', Ext wr w' → Calls Tryz.prog 188 #[(R j).v] w' (DyRes (S j) w')) := fun w' e => efresh_any (cn.dy.ext e) (HT.out.ext (H.out.2.1.trans e))
    have HCN := Lib.hid (And.intro cn.ok cn.lim)
    have HGD : Hid (∀ k, k < j + 1 → lng (S k) = false) := fun k hk => by
     by_cases h : k = j
     ·subst h; exact hlg
     ·exact H.out.2.2 k (by omega)
    clear hcd hcs hx hj' cn hlg
    generalize R j = rj at *
    go_wp2_with (first
     | (go_at_call 189; (with_reducible refine (HSH.out _ (Ext.refl _)).mono ?_); rintro e1 w1 ⟨rfl, h1⟩; have HX1 := Lib.hid h1; clear h1)
     | (go_at_call 188; (with_reducible refine (HFR.out _ HX1.out).mono ?_); rintro e1 w2 hr; obtain ⟨A1, y1, rfl, cn1, hA1, hx1⟩ := hr.cn HCN.out.1 HCN.out.2; have hx2 := HX1.out.trans hx1; have fz := (H.out.1.to hx2).lv.frozen; have f0 := fz (x * 3); have f1 := fz (x * 3 + 1); have f2 := fz (x * 3 + 2); obtain ⟨d0, d1, d2⟩ := (H.out.1.to hx2).lv.cells hxn; have HP := Lib.hid (H.out.1.put hx2 x _ A1 y1 cn1 (fun a ha => Nat.le_trans HX1.out.size (hA1 a ha))); have HXX : Hid (Ext W1 _) := st3_ext g x (cnR (S j) A1 y1) (H.out.2.1.trans hx2) (by rw [HG.out]; exact Nat.le_refl _); clear hr fz cn1 hA1 hx1 hx2))
    (try rw [← hbs])
    (try rw [← hbd])
    go_roundw
    case rel => exact ⟨j + 1, _, by omega, by go_num, HP.out.congr HUP.out, HXX.out, HGD.out⟩
    case measure => simp [intOf]; omega
  ·obtain rfl : j = ld := by omega
   have HM1 : Hid (BuM w wr g D.nb R' (vk D S IN 0) ∧ Ext W1 wr) := ⟨H.out.1.congr fun i hi => by rw [← HLD.out]; exact v1_end S hi, H.out.2.1⟩
   have HSH : Hid (∀ k, k < j → lng (S k) = false) := H.out.2.2
   obtain ⟨c0, c1, c2, c3, c4⟩ := HB.out.ext H.out.2.1
   clear H
   go_wp2_with fail
   clear c0 c1 c2 c3 c4
   go_loopw [38] (fun s wq => ∃ (k : Nat) (R' : Nat → RN), k ≤ lo ∧ s = I k ∧ Hid (BuM w wq g D.nb R' (vk D S IN k) ∧ Ext W1 wq ∧ ∀ m, m < k → lng (tkV D S IN ((ordL D).getD m 0)) = false)) (fun s _ => lo - (intOf s).toNat)
   case atStart => exact ⟨0, _, Nat.zero_le _, rfl, HM1.out.1, HM1.out.2, fun k hk => absurd hk (by omega)⟩
   case round =>
    clear HM1
    obtain ⟨k, R2, hk, rfl, H⟩ := hrel
    by_cases hlt2 : k < lo
    ·have hk' : k < (ordL D).length := by rw [HLO.out]; exact hlt2
     obtain ⟨bo, oo, hbo, hblo, hco⟩ := (HRO.out.ext H.out.2.1).1 (by omega)
     have xo := hco k hk'
     have hrd := ord_rdy hk'
     have hnd : isD D ((ordL D).getD k 0) = false := (rdy_iff.1 hrd.2.1).2.1
     have htk := tk_ord OK.out S IN hk'
     have hbd := bval_bd OK.out (V := vk D S IN k) HRG.out hrd.1 fun q hq => by
      have hs := OK.out.src hrd.1 hq
      have hoff := src_off OK.out hk' hq
      refine Shr.of ?_ (H.out.1.lv.el _ hs.2.1).ok
      rw [vk_done S IN hoff]
      rcases (rdy_iff.1 hrd.2.1).2.2 q hq with h | h
      ·obtain ⟨t, ht, htl, et⟩ := inL_take.1 h
       rw [← et]; exact H.out.2.2 t ht
      ·have := plc_lt hs.2.1 h
       rw [tk_del S IN h]; exact HSH.out _ (by rw [← HLD.out]; exact this.1)
     rw [htk.1] at hbd
     have HUP : Hid (∀ i, i < D.nb → putD (vk D S IN k) ((ordL D).getD k 0) (tkV D S IN ((ordL D).getD k 0)) i = vk D S IN (k + 1) i) := fun i _ => by
      rw [vk_succ D S IN hk', htk.1]; rfl
     obtain ⟨x, hxd⟩ : ∃ x, (ordL D).getD k 0 = x := ⟨_, rfl⟩
     have HVA : Hid (∀ w', Ext wr w' → Calls Tryz.prog 190 #[evv D p Ao lo co Ad j cd, bkv (D.B x).k (p.AA x) (D.B x).n (p.cA x) (D.B x).vn (D.B x).ve (D.B x).un (D.B x).ue, .slice (some ⟨g, 0, none⟩) D.nb D.nb, .slice Ai D.ni ci] w' (DyRes (tkV D S IN x) w')) := fun w' e => by
      rw [← hxd, ← htk.1]
      exact evalue_any (HD.out.ext (H.out.2.1.trans e)) OK.out (HT.out.ext (H.out.2.1.trans e)) hrd.1 hnd (H.out.1.lv.ln.ext e) (HI.out.ext (H.out.2.1.trans e)) HRG.out
     have HBAD : Hid (lng (tkV D S IN x) = true → tkG D S IN = false) := fun h => tkG_ord hk' (by rw [hxd]; exact h)
     have HGD : Hid (lng (tkV D S IN x) = false → ∀ m, m < k + 1 → lng (tkV D S IN ((ordL D).getD m 0)) = false) := fun h m hm => by
      by_cases q : m = k
      ·rw [q, hxd]; exact h
      ·exact H.out.2.2 m (by omega)
     have hxn := hrd.1
     simp only [hxd] at xo hbd HUP hxn
     obtain ⟨b, o, hb, hbl, hc⟩ := (HD.out.ext H.out.2.1).blocks (by omega)
     obtain ⟨x0, x1, x2, x3, x4, x5⟩ := hc x hxn
     obtain ⟨k0, k1, k2, k3, k4⟩ := HB.out.ext H.out.2.1
     have k1' := k1
     rw [hb] at k1'
     have k3' := k3
     rw [hbo] at k3'
     have HS : Hid (∀ w', Ext wr w' → (w'.cell? ⟨w.heap.size, 0, none⟩ = some (.slice p.AI D.ni p.cI) ∧ w'.cell? ⟨w.heap.size, 1, none⟩ = some (.slice (some ⟨b, o, none⟩) D.nb p.cB) ∧ w'.cell? ⟨w.heap.size, 2, none⟩ = some (.slice p.AO D.no p.cO) ∧ w'.cell? ⟨w.heap.size, 3, none⟩ = some (.slice (some ⟨bo, oo, none⟩) lo co) ∧ w'.cell? ⟨w.heap.size, 4, none⟩ = some (.slice Ad j cd)) ∧
       (w'.cell? ⟨b, o + x * 6, none⟩ = some (I (D.B x).k) ∧ w'.cell? ⟨b, o + x * 6 + 1, none⟩ = some (.slice (p.AA x) (D.B x).n (p.cA x)) ∧ w'.cell? ⟨b, o + x * 6 + 2, none⟩ = some (I (D.B x).vn) ∧ w'.cell? ⟨b, o + x * 6 + 3, none⟩ = some (I (D.B x).ve) ∧ w'.cell? ⟨b, o + x * 6 + 4, none⟩ = some (I (D.B x).un) ∧ w'.cell? ⟨b, o + x * 6 + 5, none⟩ = some (I (D.B x).ue))) := fun w' e => by
      have l0 : w.heap.size < wr.heap.size := (HB.out.ext H.out.2.1).lt
      exact ⟨⟨(e.old.1 _ _ l0).trans k0, (e.old.1 _ _ l0).trans k1', (e.old.1 _ _ l0).trans k2, (e.old.1 _ _ l0).trans k3', (e.old.1 _ _ l0).trans k4⟩, (e.old.1 _ _ hbl).trans x0, (e.old.1 _ _ hbl).trans x1, (e.old.1 _ _ hbl).trans x2, (e.old.1 _ _ hbl).trans x3, (e.old.1 _ _ hbl).trans x4, (e.old.1 _ _ hbl).trans x5⟩
     have hbg : ¬ b = g := by
      have h1 := (HD.out.blocks (by omega))
      obtain ⟨b', o', e', hb', _⟩ := h1
      rw [hb] at e'; injection e' with e'; injection e' with e1 e2
      have := HG.out; omega
     have hgb : ¬ g = b := fun q => hbg q.symm
     have HEV : Hid (evv D p Ao lo co Ad j cd = .agg #[.slice p.AI D.ni p.cI, .slice (some ⟨b, o, none⟩) D.nb p.cB, .slice p.AO D.no p.cO, .slice (some ⟨bo, oo, none⟩) lo co, .slice Ad j cd]) := by show _ = _; unfold evv; rw [hb, hbo]
     rw [HEV.out] at HVA
     have HCN := Lib.hid hbd
     have HBX := Lib.hid hb
     have hxl : (x : Int) < (D.nb : Int) := by omega
     have hlt2' : (k : Int) < (lo : Int) := by omega
     clear hco hc hbd hrd hnd htk hk' hb
     obtain ⟨⟨y0, y1, y2, y3, y4⟩, y5, y6, y7, y8, y9, y10⟩ := HS.out wr (Ext.refl _)
     clear k0 k1 k1' k2 k3 k3' k4 x0 x1 x2 x3 x4 x5
     generalize tkV D S IN x = yv at *
     cases hlg : lng yv with
     | true =>
      have HB2 := Lib.hid (HBAD.out hlg)
      clear HGD
      go_upto_region 10 with fail
      refine wp_region_held_drew (S := (fun w' => (w'.cell? ⟨w.heap.size, 0, none⟩ = some (.slice p.AI D.ni p.cI) ∧ w'.cell? ⟨w.heap.size, 1, none⟩ = some (.slice (some ⟨b, o, none⟩) D.nb p.cB) ∧ w'.cell? ⟨w.heap.size, 2, none⟩ = some (.slice p.AO D.no p.cO) ∧ w'.cell? ⟨w.heap.size, 3, none⟩ = some (.slice (some ⟨bo, oo, none⟩) lo co) ∧ w'.cell? ⟨w.heap.size, 4, none⟩ = some (.slice Ad j cd)) ∧
       (w'.cell? ⟨b, o + x * 6, none⟩ = some (I (D.B x).k) ∧ w'.cell? ⟨b, o + x * 6 + 1, none⟩ = some (.slice (p.AA x) (D.B x).n (p.cA x)) ∧ w'.cell? ⟨b, o + x * 6 + 2, none⟩ = some (I (D.B x).vn) ∧ w'.cell? ⟨b, o + x * 6 + 3, none⟩ = some (I (D.B x).ve) ∧ w'.cell? ⟨b, o + x * 6 + 4, none⟩ = some (I (D.B x).un) ∧ w'.cell? ⟨b, o + x * 6 + 5, none⟩ = some (I (D.B x).ue)))) (by kernel_rfl) (HS.out _ (Ext.drew _)) (fun hHeld => ?_)
      refine wpAnyH_take (i := 0) (oi := { dst := some 42, op := Op.move (Operand.tmp 7), type := 53, pos := "exact.go:135", after := #[], guard := none }) (v := ?_) rfl (by kernel_rfl) (by kernel_rfl) (by kernel_rfl) (fun _ _ _ h => h) (Or.inl ⟨by rfl, ?hy⟩) hHeld ?_
      case hy => ((intro w' hSw; (try dsimp only at hSw); go_simp); (try with_reducible rfl))
      (try simp only [Act.put, List.setIfInBounds_toArray, List.set_cons_zero, List.set_cons_succ])
      refine wpAnyH_take (i := 1) (oi := { dst := some 43, op := Op.move (Operand.tmp 11), type := 3, pos := "exact.go:135", after := #[], guard := none }) (v := ?_) rfl (by kernel_rfl) (by kernel_rfl) (by kernel_rfl) (fun _ _ _ h => h) (Or.inl ⟨by rfl, ?hy⟩) hHeld ?_
      case hy => ((intro w' hSw; (try dsimp only at hSw); go_simp); (try with_reducible rfl))
      (try simp only [Act.put, List.setIfInBounds_toArray, List.set_cons_zero, List.set_cons_succ])
      refine wpAnyH_take (i := 2) (oi := { dst := some 44, op := Op.load 130 (Operand.tmp 3), type := 130, pos := "exact.go:135", after := #[], guard := none }) (v := ?_) rfl (by kernel_rfl) (by kernel_rfl) (by kernel_rfl) (fun _ _ _ h => h) (Or.inl ⟨by rfl, ?hy⟩) hHeld ?_
      case hy => ((intro w' hSw; (try dsimp only at hSw); go_simp); (try with_reducible rfl))
      (try simp only [Act.put, List.setIfInBounds_toArray, List.set_cons_zero, List.set_cons_succ])
      refine wpAnyH_take (i := 3) (oi := { dst := some 45, op := Op.fieldAddr 130 (Operand.tmp 3) 0, type := 0, pos := "exact.go:135", after := #[], guard := none }) (v := ?_) rfl (by kernel_rfl) (by kernel_rfl) (by kernel_rfl) (fun _ _ _ h => h) (Or.inl ⟨by rfl, ?hy⟩) hHeld ?_
      case hy => ((intro w' hSw; (try dsimp only at hSw); go_simp); (try with_reducible rfl))
      (try simp only [Act.put, List.setIfInBounds_toArray, List.set_cons_zero, List.set_cons_succ])
      refine wpAnyH_take (i := 4) (oi := { dst := some 46, op := Op.fieldAddr 26 (Operand.tmp 45) 1, type := 0, pos := "exact.go:135", after := #[{ on := 3, ground := Ground.data }], guard := none }) (v := ?_) rfl (by kernel_rfl) (by kernel_rfl) (by kernel_rfl) (fun _ _ _ h => h) (Or.inl ⟨by rfl, ?hy⟩) hHeld ?_
      case hy => ((intro w' hSw; (try dsimp only at hSw); go_simp); (try with_reducible rfl))
      (try simp only [Act.put, List.setIfInBounds_toArray, List.set_cons_zero, List.set_cons_succ])
      refine wpAnyH_take (i := 5) (oi := { dst := some 47, op := Op.load 23 (Operand.tmp 46), type := 23, pos := "exact.go:135", after := #[{ on := 4, ground := Ground.data }], guard := none }) (v := ?_) rfl (by kernel_rfl) (by kernel_rfl) (by kernel_rfl) (fun _ _ _ h => h) (Or.inl ⟨by rfl, ?hy⟩) hHeld ?_
      case hy => ((intro w' hSw; (try dsimp only at hSw); go_simp); (try with_reducible rfl))
      (try simp only [Act.put, List.setIfInBounds_toArray, List.set_cons_zero, List.set_cons_succ])
      refine wpAnyH_take (i := 6) (oi := { dst := some 48, op := Op.move (Operand.tmp 11), type := 3, pos := "exact.go:135", after := #[], guard := none }) (v := ?_) rfl (by kernel_rfl) (by kernel_rfl) (by kernel_rfl) (fun _ _ _ h => h) (Or.inl ⟨by rfl, ?hy⟩) hHeld ?_
      case hy => ((intro w' hSw; (try dsimp only at hSw); go_simp); (try with_reducible rfl))
      (try simp only [Act.put, List.setIfInBounds_toArray, List.set_cons_zero, List.set_cons_succ])
      refine wpAnyH_take (i := 7) (oi := { dst := some 49, op := Op.indexAddr 23 (Operand.tmp 47) (Operand.tmp 48), type := 0, pos := "exact.go:135", after := #[{ on := 5, ground := Ground.data }, { on := 6, ground := Ground.data }], guard := none }) (v := ?_) rfl (by kernel_rfl) (by kernel_rfl) (by kernel_rfl) (fun _ _ _ h => h) (Or.inl ⟨by rfl, ?hy⟩) hHeld ?_
      case hy => ((intro w' hSw; (try dsimp only at hSw); go_simp); (try with_reducible rfl))
      (try simp only [Act.put, List.setIfInBounds_toArray, List.set_cons_zero, List.set_cons_succ])
      refine wpAnyH_take (i := 8) (oi := { dst := some 50, op := Op.load 79 (Operand.tmp 49), type := 79, pos := "exact.go:135", after := #[{ on := 7, ground := Ground.data }], guard := none }) (v := ?_) rfl (by kernel_rfl) (by kernel_rfl) (by kernel_rfl) (fun _ _ _ h => h) (Or.inl ⟨by rfl, ?hy⟩) hHeld ?_
      case hy => ((intro w' hSw; (try dsimp only at hSw); go_simp); (try with_reducible rfl))
      (try simp only [Act.put, List.setIfInBounds_toArray, List.set_cons_zero, List.set_cons_succ])
      refine wpAnyH_take (i := 9) (oi := { dst := some 51, op := Op.move (Operand.tmp 7), type := 53, pos := "exact.go:135", after := #[], guard := none }) (v := ?_) rfl (by kernel_rfl) (by kernel_rfl) (by kernel_rfl) (fun _ _ _ h => h) (Or.inl ⟨by rfl, ?hy⟩) hHeld ?_
      case hy => ((intro w' hSw; (try dsimp only at hSw); go_simp); (try with_reducible rfl))
      (try simp only [Act.put, List.setIfInBounds_toArray, List.set_cons_zero, List.set_cons_succ])
      refine wpAnyH_take (i := 10) (oi := { dst := some 52, op := Op.move (Operand.tmp 2), type := 24, pos := "exact.go:135", after := #[], guard := none }) (v := ?_) rfl (by kernel_rfl) (by kernel_rfl) (by kernel_rfl) (fun _ _ _ h => h) (Or.inl ⟨by rfl, ?hy⟩) hHeld ?_
      case hy => ((intro w' hSw; (try dsimp only at hSw); go_simp); (try with_reducible rfl))
      (try simp only [Act.put, List.setIfInBounds_toArray, List.set_cons_zero, List.set_cons_succ])
      refine wpAnyH_ready (rs := [11]) (by kernel_rfl) (by simp) ?_
      refine AllReadyH.cons (o := { dst := some 53, op := Op.call { callee := Callee.value (Operand.func 190), args := #[Operand.tmp 44, Operand.tmp 50, Operand.tmp 51, Operand.tmp 52], argTypes := #[130, 79, 53, 24] }, type := 56, pos := "exact.go:135", after := #[{ on := 2, ground := Ground.data }, { on := 8, ground := Ground.data }, { on := 9, ground := Ground.data }, { on := 10, ground := Ground.data }], guard := none }) rfl (fun K hK => ?_) AllReadyH.nil
      go_simp
      (go_at_call 190; (with_reducible refine (HVA.out _ ex2).mono ?_); rintro e1 w2 hr; obtain ⟨A1, z1, rfl, cn1, hA1, hx1⟩ := hr.cn HCN.out.1 (Nat.le_trans HCN.out.2 (by omega)); have CN2 := Lib.hid cn1; have HX2 := Lib.hid (show Ext wr w2 from ex2); clear hr cn1 hA1)
      (try go_wp2_with fail)
      refine hK.out _ _ (HS.out _ HX2.out) (fun hHeld' => ?_)
      clear hK K hHeld
      have hHeld := hHeld'
      clear hHeld'
      (try simp only [Act.put, List.setIfInBounds_toArray, List.set_cons_zero, List.set_cons_succ])
      refine wpAnyH_ready (rs := [12]) (by kernel_rfl) (by simp) ?_
      refine AllReadyH.cons (o := { dst := some 54, op := Op.call { callee := Callee.value (Operand.func 189), args := #[Operand.tmp 53], argTypes := #[56] }, type := 56, pos := "exact.go:135", after := #[{ on := 11, ground := Ground.data }, { on := 11, ground := Ground.chain }], guard := none }) rfl (fun K hK => ?_) AllReadyH.nil
      go_simp
      (go_at_call 189; (with_reducible refine (short_long CN2.out hlg).mono ?_); rintro e1 w3 ⟨rfl, h3⟩)
      show bodyPost Tryz.prog Tryz.f148 (VlP D S IN w) (Exit.panic tlC) _ w3
      exact ⟨rfl, .inr ⟨HB2.out, rfl, HE.out.trans (H.out.2.1.trans (HX2.out.trans h3))⟩⟩
     | false =>
      have HG2 := Lib.hid (HGD.out hlg)
      clear HBAD HGD
      go_upto_region 10 with fail
      go_region_held3 (fun w' => (w'.cell? ⟨w.heap.size, 0, none⟩ = some (.slice p.AI D.ni p.cI) ∧ w'.cell? ⟨w.heap.size, 1, none⟩ = some (.slice (some ⟨b, o, none⟩) D.nb p.cB) ∧ w'.cell? ⟨w.heap.size, 2, none⟩ = some (.slice p.AO D.no p.cO) ∧ w'.cell? ⟨w.heap.size, 3, none⟩ = some (.slice (some ⟨bo, oo, none⟩) lo co) ∧ w'.cell? ⟨w.heap.size, 4, none⟩ = some (.slice Ad j cd)) ∧
       (w'.cell? ⟨b, o + x * 6, none⟩ = some (I (D.B x).k) ∧ w'.cell? ⟨b, o + x * 6 + 1, none⟩ = some (.slice (p.AA x) (D.B x).n (p.cA x)) ∧ w'.cell? ⟨b, o + x * 6 + 2, none⟩ = some (I (D.B x).vn) ∧ w'.cell? ⟨b, o + x * 6 + 3, none⟩ = some (I (D.B x).ve) ∧ w'.cell? ⟨b, o + x * 6 + 4, none⟩ = some (I (D.B x).un) ∧ w'.cell? ⟨b, o + x * 6 + 5, none⟩ = some (I (D.B x).ue))) (first | exact HS.out _ ex2 | (refine ⟨⟨?_, ?_, ?_, ?_, ?_⟩, ?_, ?_, ?_, ?_, ?_, ?_⟩ <;> (rw [cell_farg (by omega)]; assumption)))
       (first
       | (go_at_call 190; (with_reducible refine (HVA.out _ ex2).mono ?_); rintro e1 w2 hr; obtain ⟨A1, z1, rfl, cn1, hA1, hx1⟩ := hr.cn HCN.out.1 (Nat.le_trans HCN.out.2 (by omega)); have CN2 := Lib.hid cn1; have HX2 := Lib.hid (show Ext wr w2 from ex2); have HA1 := Lib.hid hA1; clear hr cn1 hA1)
       | (go_at_call 189; (with_reducible refine (short_ok CN2.out hlg).mono ?_); rintro e1 w3 ⟨rfl, h3⟩; have hx3 := HX2.out.trans h3; obtain ⟨⟨t0, t1, t2, t3, t4⟩, t5, t6, t7, t8, t9, t10⟩ := HS.out w3 hx3; have fz := (H.out.1.to hx3).lv.frozen; have f0 := fz (x * 3); have f1 := fz (x * 3 + 1); have f2 := fz (x * 3 + 2); obtain ⟨d0, d1, d2⟩ := (H.out.1.to hx3).lv.cells hxn; have HP := Lib.hid (H.out.1.put hx3 x _ A1 z1 (CN2.out.ext h3) HA1.out); have HXX : Hid (Ext W1 _) := st3_ext g x (cnR yv A1 z1) (H.out.2.1.trans hx3) (by rw [HG.out]; exact Nat.le_refl _); clear fz))
      all_goals
       go_wp2_with fail
       (try rw [← hbo])
       go_roundw
       case rel => exact ⟨k + 1, _, by omega, by go_num, HP.out.congr HUP.out, HXX.out, HG2.out⟩
       case measure => simp [intOf]; omega
    ·obtain rfl : k = lo := by omega
     have HG1 : Hid (tkG D S IN = true) := tkG_all OK.out (fun q hq => HSH.out q (by rw [← HLD.out]; exact hq)) (fun q hq => H.out.2.2 q (by rw [← HLO.out]; exact hq))
     have HV1 : Hid (∀ i, i < D.nb → vk D S IN k i = tkV D S IN i) := fun i _ => by rw [← HLO.out, vk_end]
     go_wp2_with fail
     go_ret
     exact .inl ⟨HG1.out, g, R2, rfl, H.out.1.lv.congr HV1.out, H.out.1.old, H.out.1.nw, H.out.1.ext⟩
end
section
open Go Go.RowKit
theorem run_long (w : World) : (Instr.typeAssert (.iface 174 (.agg #[])) 20 174 true).run Tryz.prog w = .ok (.tuple #[.agg #[], .bool true]) w := by kernel_rfl
theorem run_long_nil (w : World) : (Instr.typeAssert .nilIface 20 174 true).run Tryz.prog w = .ok (.tuple #[.agg #[], .bool false]) w := by kernel_rfl
set_option maxRecDepth 100000 in
set_option maxHeartbeats 2000000 in
theorem catch_long (g : Nat) (w : World) (hc : w.cell? ⟨g, 0, none⟩ = some .nilIface) (hz : w.frozen? ⟨g, 0, none⟩ = false) (hne : ¬ g = w.heap.size) :
  CallsD Tryz.prog 147 #[.pointer (some ⟨g, 0, none⟩)] (.panicking tlC) w fun e u' w' =>
   e = .returned (.tuple #[]) ∧ u' = .panicking [{ v := .iface 174 (.agg #[]), recovered := true }] ∧ w' = (w.alloc (.cells #[] 174)).setCell ⟨g, 0, none⟩ (.iface 48 (I 4)) := by
 have hta := run_long
 have hne2 : ¬ w.heap.size = g := fun q => hne q.symm
 have hc' : (w.alloc (.cells #[] 174)).cell? ⟨g, 0, none⟩ = some .nilIface := by rw [World.cell?_alloc_old _ _ _ hne]; exact hc
 have hz' : (w.alloc (.cells #[] 174)).frozen? ⟨g, 0, none⟩ = false := by rw [World.frozen?_alloc_old _ _ _ hne]; exact hz
 refine callsD_of_wpS Tryz.func147 rfl fun c₀ cs hu => ?_
 apply wpS_seq
 apply wpS_region
 simp [wpOpsS, go_sem, recoverD, hu, tlC, Tryz.ntmps147, Exit.thenS]
 refine wpS_of_wp ?_
 go_wp2_with fail
 simp [bodyPostS, results, Tryz.results147]
set_option maxRecDepth 100000 in
set_option maxHeartbeats 2000000 in
theorem catch_idle (a : Value) (w : World) :
  CallsD Tryz.prog 147 #[a] .returning w fun e u' w' => e = .returned (.tuple #[]) ∧ u' = .returning ∧ w' = w.alloc (.cells #[] 174) := by
 have hta := run_long_nil
 refine callsD_of_wpS Tryz.func147 rfl fun c₀ cs hu => ?_
 apply wpS_seq
 apply wpS_region
 simp [wpOpsS, go_sem, recoverD, hu, Tryz.ntmps147, Exit.thenS]
 refine wpS_of_wp ?_
 go_wp2_with fail
 cases c₀
 simp_all [bodyPostS, results, Tryz.results147]
def StP (D : Dia) (n : Nat) (b : Nat → Bool) (S : Nat → DV) (m : Nat) (IN : Nat → Int) (w : World) (e : Ending) (w' : World) : Prop :=
 (stE D n b S m IN ≠ 0 ∧ e = .returned (.tuple #[.slice none 0 0, .slice none 0 0, errv (stE D n b S m IN)]) ∧ Ext w w') ∨
 (stE D n b S m IN = 0 ∧ ∃ g R g' R', e = .returned (.tuple #[.slice (some ⟨g, 0, none⟩) n n, .slice (some ⟨g', 0, none⟩) D.nb D.nb, .nilIface]) ∧ LvM w' g n R (nxS D (tkV D S IN)) ∧ LvM w' g' D.nb R' (tkV D S IN) ∧ (w.heap.size ≤ g ∧ ∀ i, i < n → ∀ a, (R i).A = some a → w.heap.size ≤ a.block) ∧ (w.heap.size ≤ g' ∧ ∀ i, i < D.nb → ∀ a, (R' i).A = some a → w.heap.size ≤ a.block) ∧ Ext w w')
set_option maxRecDepth 100000 in
set_option maxHeartbeats 4000000 in
theorem estep_any {w : World} {D : Dia} {p : Pl} {Ao Ad As Ai : Option Addr} {lo ld co cd n cs m ci : Nat} {R : Nat → RN} {S : Nat → DV} {b : Nat → Bool} {IN : Nat → Int} (d : Dm w D p) (ok : OkD D) (hT : Tabs w) (hld : (delL D).length = ld) (hlo : (ordL D).length = lo)
  (rd : Rl w Ad cd (delL D)) (ro : Rl w Ao co (ordL D)) (rs : Rn w As n R) (el : ∀ k, k < n → El w (R k) (S k) (b k)) (r : Ri w Ai m IN) (hm : m ≤ maxLen) :
  Calls Tryz.prog 85 #[evv D p Ao lo co Ad ld cd, .slice As n cs, .slice Ai m ci] w (StP D n b S m IN w) := by
 have hmf : ∀ (fn : Fn) (first cap : Array Value) (w : World), (Instr.makeFunc fn first cap).run Tryz.prog w = .ok (.func fn first cap) w := fun _ _ _ _ => rfl
 have hdl := del_le D
 have hnb := ok.nb
 obtain ⟨W1, hW1⟩ : ∃ W1, W1 = (evW w D p Ao lo co Ad ld cd 130).alloc (.cells #[.nilIface] 32) := ⟨_, rfl⟩
 unfold evW at hW1
 have hE : Ext w W1 := by rw [hW1]; exact (Ext.alloc _ _).trans (Ext.alloc _ _)
 have hB : B5 W1 w.heap.size D p Ao lo co Ad ld cd := by rw [hW1]; exact (B5.new _ _ _ _ _ _ _ _ _ _).ext (Ext.alloc _ _)
 have hz1 : W1.heap.size = w.heap.size + 1 + 1 := by rw [hW1]; simp
 have hce : W1.cell? ⟨w.heap.size + 1, 0, none⟩ = some .nilIface := by rw [hW1]; go_simp
 have hfe : W1.frozen? ⟨w.heap.size + 1, 0, none⟩ = false := by rw [hW1]; go_simp
 have HCK : Hid (∀ w', Ext W1 w' → Calls Tryz.prog 146 #[evv D p Ao lo co Ad ld cd, .slice As n cs, .slice Ai m ci] w' fun e w'' => e = .returned (errv (chE D n b m IN)) ∧ Ext w' w'') := fun w' e =>
  echeck_any (d.ext (hE.trans e)) hld (by omega) (rs.ext (hE.trans e)) (fun k hk => (el k hk).ext (hE.trans e)) (r.ext (hE.trans e)) hm
 obtain ⟨c0, c1, c2, c3, c4⟩ := hB
 have hlt0 : w.heap.size < W1.heap.size := by omega
 have hlt1 : w.heap.size + 1 < W1.heap.size := by omega
 have HE := Lib.hid hE
 have HZ := Lib.hid hz1
 by_cases hch : chE D n b m IN ≠ 0
 ·have HST : Hid (stE D n b S m IN = chE D n b m IN) := by show _ = _; rw [stE_ch, if_pos hch]
  rw [errv_n hch] at HCK
  have HN := Lib.hid hch
  clear d ok hT hld hlo rd ro rs el r hm hE hz1 hch hnb hdl
  generalize chE D n b m IN = code at *
  go_enter_defers Tryz.func85, Tryz.ntmps85
  go_upto_region 1 with fail
  rw [← hW1]; clear hW1
  go_wp2_with (go_at_call 146; (with_reducible refine (HCK.out _ (Ext.refl _)).mono ?_); rintro e1 w1 ⟨rfl, h1⟩; have e0 := (h1.old.1 _ _ hlt1).trans hce; have z0 := (h1.old.2 _ _ hlt1).trans hfe; have HX := Lib.hid h1; clear h1)
  refine ⟨.tuple #[.slice none 0 0, .slice none 0 0, .iface 48 (I code)], by simp [results, Tryz.results85, go_sem, e0], .inl ⟨by rw [HST.out]; exact HN.out, by rw [HST.out, errv_n HN.out], (HE.out.trans HX.out).set (show w.heap.size ≤ w.heap.size + 1 by omega) _⟩⟩
 ·have hc0 : chE D n b m IN = 0 := by omega
  rw [hc0, errv_z] at HCK
  have hchk : n = (delL D).length ∧ (∀ k, k < n → b k = true) ∧ m = D.ni ∧ ∀ j, j < D.ni → (D.P j).lo ≤ IN j ∧ IN j ≤ (D.P j).hi := by
   unfold chE at hc0
   by_cases h1 : n ≠ (delL D).length
   ·rw [if_pos h1] at hc0; omega
   rw [if_neg h1] at hc0
   by_cases h2 : allN n b = false
   ·rw [if_pos h2] at hc0; omega
   rw [if_neg h2] at hc0
   by_cases h3 : m ≠ D.ni
   ·rw [if_pos h3] at hc0; omega
   rw [if_neg h3] at hc0
   by_cases h4 : inR D IN = false
   ·rw [if_pos h4] at hc0; omega
   refine ⟨by omega, allN_iff.1 (by simpa using h2), by omega, fun j hj => ?_⟩
   have := allN_iff.1 (show inR D IN = true by simpa using h4) j hj
   simpa using this
  obtain ⟨hn, hbt, rfl, hr⟩ := hchk
  obtain rfl : n = ld := by omega
  have hl : Ln w As n R S := ⟨rs, fun k hk => (el k hk).cn (hbt k hk)⟩
  have HVL : Hid (∀ w', Ext W1 w' → Calls Tryz.prog 148 #[evv D p Ao lo co Ad n cd, .slice As n cs, .slice Ai D.ni ci] w' (VlP D S IN w')) := fun w' e =>
   evalues_any (d.ext (hE.trans e)) ok (hT.ext (hE.trans e)) hld hlo (rd.ext (hE.trans e)) (ro.ext (hE.trans e)) (hl.ext (hE.trans e)) (r.ext (hE.trans e)) hr
  have HST : Hid (stE D n b S D.ni IN = if tkG D S IN = false then 4 else 0) := by show _ = _; rw [stE_ch, if_neg (by omega)]
  cases hg : tkG D S IN with
  | false =>
   have HV2 : Hid (∀ w', Ext W1 w' → Calls Tryz.prog 148 #[evv D p Ao lo co Ad n cd, .slice As n cs, .slice Ai D.ni ci] w' fun e w'' => e = .panicked tlC ∧ Ext w' w'') := fun w' e => (HVL.out w' e).mono fun e w'' h => by
    rcases h with ⟨h1, _⟩ | ⟨_, h2, h3⟩
    ·rw [hg] at h1; cases h1
    ·exact ⟨h2, h3⟩
   have HS4 : Hid (stE D n b S D.ni IN = 4) := by show _ = _; rw [HST.out, if_pos hg]
   have HQ : Hid (∀ w', Ext w w' → StP D n b S D.ni IN w (.returned (.tuple #[.slice none 0 0, .slice none 0 0, .iface 48 (I 4)])) w') := fun w' e => .inl ⟨by rw [HS4.out]; decide, by rw [HS4.out]; rfl, e⟩
   clear d ok hT hld hlo rd ro rs el r hm hE hz1 hch hnb hdl hc0 hn hbt hr hl hg HVL HST
   go_enter_defers Tryz.func85, Tryz.ntmps85
   go_upto_region 1 with fail
   rw [← hW1]; clear hW1
   go_wp2_with (first
    | (go_at_call 146; (with_reducible refine (HCK.out _ (Ext.refl _)).mono ?_); rintro e1 w1 ⟨rfl, h1⟩; have HX := Lib.hid h1; obtain ⟨y0, y1, y2, y3, y4⟩ := (show B5 W1 w.heap.size D p Ao lo co Ad n cd from ⟨c0, c1, c2, c3, c4⟩).ext h1; clear h1)
    | (go_at_call 148; (with_reducible refine (HV2.out _ HX.out).mono ?_); rintro e1 w2 ⟨rfl, h2⟩; have HX2 := Lib.hid (HX.out.trans h2); clear h2))
   have hlt2 : w.heap.size + 1 < w2.heap.size := Nat.lt_of_lt_of_le hlt1 HX2.out.size
   have e0 := (HX2.out.old.1 _ _ hlt1).trans hce
   have z0 := (HX2.out.old.2 _ _ hlt1).trans hfe
   refine leaves_cons (f := 147) (args := #[.pointer (some ⟨w.heap.size + 1, 0, none⟩)]) (by simp) (by simp [go_sem]) ?_
   refine (catch_long (w.heap.size + 1) _ e0 z0 (by omega)).mono ?_
   rintro e u' w'' ⟨rfl, rfl, rfl⟩
   have e9 : ((w2.alloc (.cells #[] 174)).setCell ⟨w.heap.size + 1, 0, none⟩ (.iface 48 (I 4))).cell? ⟨w.heap.size + 1, 0, none⟩ = some (.iface 48 (I 4)) :=
    World.cell?_setCell_same _ _ _ (by rw [World.cell?_alloc_old _ _ _ (show w.heap.size + 1 ≠ w2.heap.size by omega)]; exact e0)
   refine ⟨.tuple #[.slice none 0 0, .slice none 0 0, .iface 48 (I 4)], by simp [results, Tryz.results85, go_sem, e9], HQ.out _ ?_⟩
   exact ((HE.out.trans HX2.out).trans (Ext.alloc _ _)).set (show w.heap.size ≤ w.heap.size + 1 by omega) _
  | true =>
   have HS4 : Hid (stE D n b S D.ni IN = 0) := by show _ = _; rw [HST.out, if_neg (by rw [hg]; decide)]
   have HV2 : Hid (∀ w', Ext W1 w' → Calls Tryz.prog 148 #[evv D p Ao lo co Ad n cd, .slice As n cs, .slice Ai D.ni ci] w' (LvR D.nb (tkV D S IN) w')) := fun w' e => (HVL.out w' e).mono fun e w'' h => by
    rcases h with ⟨_, h1⟩ | ⟨h1, _⟩
    ·exact h1
    ·rw [hg] at h1; cases h1
   have HSO : Hid (∀ w', Ext W1 w' → Calls Tryz.prog 150 #[evv D p Ao lo co Ad n cd] w' (SoR n (srcs D) w')) := fun w' e => esources_any (d.ext (hE.trans e)) ok hld (rd.ext (hE.trans e))
   have hsrc : ∀ k, k < n → 0 ≤ srcs D k ∧ srcs D k < D.nb := fun k hk => by
    have hx := del_at (D := D) (k := k) (by omega)
    have hns : 0 < ns D ((delL D).getD k 0) := by
     have hk2 : (D.B ((delL D).getD k 0)).k = 2 := by have := hx.2; unfold isD at this; simpa using this
     have h := ok.ar _ hx.1
     have : arity (D.B ((delL D).getD k 0)).k = 1 := by rw [hk2]; decide
     unfold ns; rw [if_neg (by omega)]; omega
    have := (ok.src hx.1 hns).2.1
    unfold srcs; omega
   have HCH : Hid (∀ w' g R g2, Ext W1 w' → LvM w' g D.nb R (tkV D S IN) → Ri w' (some ⟨g2, 0, none⟩) n (srcs D) → Calls Tryz.prog 149 #[.slice (some ⟨g, 0, none⟩) D.nb D.nb, .slice (some ⟨g2, 0, none⟩) n n] w' (LvR n (nxS D (tkV D S IN)) w')) := fun w' g R g2 e l r => by
    have := chosen_any (c := D.nb) (cb := n) l.ln r hsrc (by omega) (hT.ext (hE.trans e))
    exact this
   clear d ok hT hld hlo rd ro rs el r hm hz1 hch hnb hdl hc0 hn hbt hr hl hg HVL HST hsrc hE
   go_enter_defers Tryz.func85, Tryz.ntmps85
   go_upto_region 1 with fail
   rw [← hW1]; clear hW1
   go_wp2_with (first
    | (go_at_call 146; (with_reducible refine (HCK.out _ (Ext.refl _)).mono ?_); rintro e1 w1 ⟨rfl, h1⟩; have HX := Lib.hid h1; obtain ⟨y0, y1, y2, y3, y4⟩ := (show B5 W1 w.heap.size D p Ao lo co Ad n cd from ⟨c0, c1, c2, c3, c4⟩).ext h1; clear h1)
    | (go_at_call 148; (with_reducible refine (HV2.out _ HX.out).mono ?_); rintro e1 w2 ⟨g1, R1, rfl, l1, hg1, nw1, h2⟩; have HN1 : Hid (W1.heap.size ≤ g1 ∧ ∀ i, i < D.nb → ∀ a, (R1 i).A = some a → W1.heap.size ≤ a.block) := ⟨Nat.le_trans HX.out.size hg1, fun i hi a ha => Nat.le_trans HX.out.size (nw1 i hi a ha)⟩; clear nw1; have HL1 := Lib.hid l1; have HX2 := Lib.hid (HX.out.trans h2); have HG1 := Lib.hid hg1; obtain ⟨y0, y1, y2, y3, y4⟩ := (show B5 W1 w.heap.size D p Ao lo co Ad n cd from ⟨c0, c1, c2, c3, c4⟩).ext (HX.out.trans h2); clear h2 l1 hg1)
    | (go_at_call 150; (with_reducible refine (HSO.out _ HX2.out).mono ?_); rintro e1 w3 ⟨g2, rfl, _, r2, h3⟩; have HL2 := Lib.hid (HL1.out.ext h3); have HR2 := Lib.hid r2; have HX3 := Lib.hid (HX2.out.trans h3); clear h3 r2)
    | (go_at_call 149; (with_reducible refine (HCH.out _ _ _ _ HX3.out HL2.out HR2.out).mono ?_); rintro e1 w4 ⟨g4, R4, rfl, l4, hg4, nw4, h4⟩; have HN4 : Hid (W1.heap.size ≤ g4 ∧ ∀ i, i < n → ∀ a, (R4 i).A = some a → W1.heap.size ≤ a.block) := ⟨Nat.le_trans HX3.out.size hg4, fun i hi a ha => Nat.le_trans HX3.out.size (nw4 i hi a ha)⟩; clear nw4; have HL4 := Lib.hid l4; have HL3 := Lib.hid (HL2.out.ext h4); have HX4 := Lib.hid (HX3.out.trans h4); have HG4 := Lib.hid hg4; have e0 := (HX4.out.old.1 _ _ hlt1).trans hce; have z0 := (HX4.out.old.2 _ _ hlt1).trans hfe; clear h4 l4 hg4))
   have hlt4 : w.heap.size + 1 < w4.heap.size := Nat.lt_of_lt_of_le hlt1 HX4.out.size
   refine leaves_cons (f := 147) (args := #[.pointer (some ⟨w.heap.size + 1, 0, none⟩)]) (by simp) (by simp [go_sem]) ?_
   refine (catch_idle _ _).mono ?_
   rintro e u' w'' ⟨rfl, rfl, rfl⟩
   have e9 : ((w4.setCell ⟨w.heap.size + 1, 0, none⟩ .nilIface).alloc (.cells #[] 174)).cell? ⟨w.heap.size + 1, 0, none⟩ = some .nilIface := by
    rw [World.cell?_alloc_old _ _ _ (by simp; omega)]; exact World.cell?_setCell_same _ _ _ e0
   refine ⟨.tuple #[.slice (some ⟨g4, 0, none⟩) n n, .slice (some ⟨g1, 0, none⟩) D.nb D.nb, .nilIface], by simp [results, Tryz.results85, go_sem, e9], .inr ⟨HS4.out, g4, R4, g1, R1, rfl, ?_, ?_, ?_, ?_, ?_⟩⟩
   ·exact (HL4.out.off (fr_set _ _ _ _) (by have := HN4.out.1; omega) (fun i hi a ha => by have := HN4.out.2 i hi a ha; omega)).ext (Ext.alloc _ _)
   ·exact (HL3.out.off (fr_set _ _ _ _) (by have := HN1.out.1; omega) (fun i hi a ha => by have := HN1.out.2 i hi a ha; omega)).ext (Ext.alloc _ _)
   ·exact ⟨by have := HN4.out.1; omega, fun i hi a ha => by have := HN4.out.2 i hi a ha; omega⟩
   ·exact ⟨by have := HN1.out.1; omega, fun i hi a ha => by have := HN1.out.2 i hi a ha; omega⟩
   ·exact ((HE.out.trans HX4.out).set (show w.heap.size ≤ w.heap.size + 1 by omega) _).trans (Ext.alloc _ _)
end
section
open Go.ChangeShapes Go.WideShapes Go.ChangeAt Go.RowKit
section
variable {H : Type} {enc : TypeId × Value → H} {w : World} {base : Nat} {held : Bool}
set_option maxRecDepth 100000 in
theorem open_ints' {w' : World} {b0 : Nat} {v : Value} {d : DataW H} {p : List MemPlace}
  (hv : Value.okWide Tryz.prog w' .any b0 24 v) (h : DataW.Trod enc Tryz.prog w base (fun _ => true) held 24 v d p) :
  ∃ (A : Option Addr) (n c : Nat) (X : Nat → Int), v = .slice A n c ∧ Ri w A n X ∧ n ≤ maxLen ∧ ∀ i, i < n → in64 (X i) := by
 obtain ⟨a, L, cap, rfl⟩ := okWide_slice Tryz.underlying24 hv
 obtain ⟨fuel, h1⟩ := h
 obtain ⟨A, n, c, X, e1, hn, r, _, hw⟩ := ri_slice h1
 have e2 : [Value.slice a L cap] = [Value.slice A n c] := by simpa [Value.cells] using e1
 simp only [List.cons.injEq, and_true, Value.slice.injEq] at e2
 obtain ⟨rfl, rfl, rfl⟩ := e2
 exact ⟨_, _, _, X, rfl, r, hn, hw⟩
end
end
end Go.Proofs.YtgnngldlgcdnfaaGreatDoor
