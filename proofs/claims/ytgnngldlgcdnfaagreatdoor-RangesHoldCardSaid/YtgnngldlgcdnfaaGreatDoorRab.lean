import Derived.Test.YtgnngldlgcdnfaaGreatDoorRaa
import Derived.Test.YtgnngldlgcdnfaaGreatDoorQaj
import Derived.Test.YtgnngldlgcdnfaaGreatDoorQas
import Derived.Test.YtgnngldlgcdnfaaGreatDoorQan
import Derived.Test.YtgnngldlgcdnfaaGreatDoorQaq
import Derived.Test.YtgnngldlgcdnfaaGreatDoorQat
import Derived.Test.YtgnngldlgcdnfaaGreatDoorQau
import Derived.Test.YtgnngldlgcdnfaaGreatDoorQav
import Derived.Test.YtgnngldlgcdnfaaGreatDoorQaw
import Derived.Deep.RegionHeld3
namespace Go.Proofs.YtgnngldlgcdnfaaGreatDoor
section
open Go.RowKit
theorem sgn_lt {r : Rat} (h : sgn r < 0) : r < 0 := by
 unfold sgn at h
 split at h
 ·assumption
 ·split at h
  ·exact absurd h (by decide)
  ·exact absurd h (by decide)
theorem lt_sgn {r : Rat} (h : r < 0) : sgn r < 0 := by
 unfold sgn; rw [if_pos h]; decide
theorem ge_sgn {r : Rat} (h : 0 ≤ r) : 0 ≤ sgn r := by
 unfold sgn
 split
 ·exfalso; grind
 ·split <;> decide
theorem cmpF_lt {x y : Nat} (h : x < y) : cmpF x y < 0 := by unfold cmpF; rw [if_pos h]; decide
theorem floor_q {a : DV} (h : a.ok) (k : Nat) (hk : k ≤ 65536) : (floorD a k).q ≤ a.q ∧ a.q < (floorD a k).q + qOf false 1 k := by
 have hu : (0 : Rat) < qOf false 1 k := by
  have := q_pos_of (neg := false) (m := 1) (k := k) (by decide)
  simpa using this
 by_cases hd : a.den ≤ k
 ·rw [floor_small hd]
  constructor <;> grind
 ·have hd' : k < a.den := by omega
  obtain ⟨j, hj⟩ : ∃ j, a.den - k = j := ⟨_, rfl⟩
  have hkj : a.den = k + j := by omega
  have hj0 : 0 < j := by omega
  have hodd := h.2.2 (by omega)
  have hc := of_decide_eq_true (cut_odd hodd hj0)
  have hdm := Nat.div_add_mod a.m (2 ^ j)
  have hml := Nat.mod_lt a.m (Nat.pow_pos (n := j) (show 0 < 2 by decide))
  rw [floor_big hd', q_mkD _ _ hk, hj]
  obtain ⟨x, hx⟩ : ∃ x, a.m / 2 ^ j = x := ⟨_, rfl⟩
  rw [hx] at hdm ⊢
  have e1 : x * 2 ^ j < a.m := by rw [Nat.mul_comm]; omega
  have e2 : a.m < (x + 1) * 2 ^ j := by rw [Nat.add_mul, Nat.mul_comm x]; omega
  have aq : a.q = qOf a.neg a.m (k + j) := by unfold DV.q; rw [hkj]
  cases hn : a.neg with
  | false =>
   rw [hn] at aq
   have s1 := qOf_sgn_sub false (x * 2 ^ j) a.m (k + j)
   have s2 := qOf_sgn_sub false a.m ((x + 1) * 2 ^ j) (k + j)
   rw [qOf_shift, ← aq] at s1
   rw [qOf_shift, ← aq, qOf_add] at s2
   have t1 := sgn_lt (r := qOf false x k - a.q) (by rw [s1]; exact cmpF_lt e1)
   have t2 := sgn_lt (r := a.q - (qOf false x k + qOf false 1 k)) (by rw [s2]; exact cmpF_lt e2)
   show qOf false (x + 0) k ≤ a.q ∧ a.q < qOf false (x + 0) k + qOf false 1 k
   rw [Nat.add_zero]
   constructor <;> grind
  | true =>
   rw [hn] at aq
   have s1 := qOf_sgn_sub true ((x + 1) * 2 ^ j) a.m (k + j)
   have s2 := qOf_sgn_sub true a.m (x * 2 ^ j) (k + j)
   rw [qOf_shift, ← aq] at s1
   rw [qOf_shift, ← aq] at s2
   have t1 := sgn_lt (r := qOf true (x + 1) k - a.q) (by rw [s1]; exact cmpF_lt e2)
   have t2 := sgn_lt (r := a.q - qOf true x k) (by rw [s2]; exact cmpF_lt e1)
   have e3 := qOf_add true x 1 k
   have e4 := qOf_not false 1 k
   show qOf true (x + 1) k ≤ a.q ∧ a.q < qOf true (x + 1) k + qOf false 1 k
   have e5 : qOf true 1 k = -(qOf false 1 k) := e4
   constructor <;> grind
theorem grid_q (k : Nat) (hk : k ≤ 65536) : (ofI 1 k).q = qOf false 1 k := by unfold ofI; rw [q_mkD _ _ hk]; rfl
theorem ceil_cmp {a : DV} (h : a.ok) (k : Nat) (hk : k ≤ 65536) : 0 ≤ cmpD (ceilD a k) a ∧ cmpD (subD (ceilD a k) (ofI 1 k)) a < 0 := by
 obtain ⟨h1, h2⟩ := floor_q (negD_ok a) k hk
 have hc : (ceilD a k).q = -(floorD (negD a) k).q := by unfold ceilD; rw [q_negD (floorD_ok (negD_ok a) k)]
 have hco : (ceilD a k).ok := negD_ok _
 rw [q_negD h] at h1 h2
 rw [cmpD_sgn hco h, cmpD_sgn (subD_ok _ _) h, q_subD hco (ofI_ok _ _), grid_q k hk, hc]
 exact ⟨ge_sgn (by grind), lt_sgn (by grind)⟩
theorem floor_den {a : DV} (k : Nat) (hk : k ≤ 65536) : (floorD a k).den ≤ k := by
 unfold floorD; split
 ·assumption
 ·exact den_le _ _ _ hk
theorem ceil_den {a : DV} (k : Nat) (hk : k ≤ 65536) : (ceilD a k).den ≤ k := by
 unfold ceilD
 have h1 := floor_den (a := negD a) k hk
 exact Nat.le_trans (den_neg (by omega)) h1
theorem lim_floor (a : DV) (k : Nat) : len (floorD a k).m ≤ len a.m + 1 := by
 have hq : ∀ j, len (a.m / 2 ^ j) ≤ len a.m := fun j => len_mono (Nat.div_le_self _ _)
 unfold floorD
 split
 ·omega
 ·refine Nat.le_trans (len_mono (mkD_m_le _ _ _)) ?_
  split
  ·exact Nat.le_trans (len_succ _) (by have := hq (a.den - k); omega)
  ·exact Nat.le_succ_of_le (hq _)
theorem lim_ceil (a : DV) (k : Nat) : len (ceilD a k).m ≤ len a.m + 1 := by
 unfold ceilD
 have h1 := lim_floor (negD a) k
 have h2 := lim_neg a
 have h3 := lim_neg (floorD (negD a) k)
 omega
end
section
open Go.RowKit
attribute [local go_sem ↓] Go.wp_at_zero Go.wp_at_succ
end
section
open Go.RowKit
attribute [local go_sem ↓] Go.wp_at_zero Go.wp_at_succ
set_option maxRecDepth 100000 in
set_option maxHeartbeats 4000000 in
theorem iround_ok {w : World} {n1 n2 : Bool} {A B A' B' : Option Addr} {k c m e c' e' : Nat} {d1 d2 : Int} {a b : DV} (ha : Iw w n1 A k c d1 n2 B m e d2 a b A' c' B' e') (hT : Tabs w) (j : Nat) (hj : j ≤ 65536) :
  Calls Tryz.prog 139 #[iv n1 A k c d1 n2 B m e d2, I j] w (IvOk (floorD a j) (ceilD b j) w) := by
 have of : (floorD a j).ok := floorD_ok ha.wa.1 _
 have oc : (ceilD b j).ok := negD_ok _
 have lf : len (floorD a j).m ≤ 16777216 := by have := lim_floor a j; have := ha.wa.2; omega
 have lc : len (ceilD b j).m ≤ 16777216 := by have := lim_ceil b j; have := ha.wb.2; omega
 have qle : (floorD a j).q ≤ (ceilD b j).q := by
  have h1 := (floor_q ha.wa.1 j hj).1
  have h2 := (ceil_cmp ha.wb.1 j hj).1
  rw [cmpD_sgn oc ha.wb.1] at h2
  have h3 := sgn_nlt (by omega : ¬ sgn ((ceilD b j).q - b.q) < 0)
  have := ha.le; grind
 have C1 : Hid (lo2 (floorD a j) (ceilD b j) = floorD a j ∧ hi2 (floorD a j) (ceilD b j) = ceilD b j) := ⟨lo2_id of oc qle, hi2_id of oc qle⟩
 have LB : Hid (len b.m ≤ 1048576) := ha.wb.2
 obtain ⟨f, hf⟩ : ∃ f, floorD a j = f := ⟨_, rfl⟩; obtain ⟨g, hg⟩ : ∃ g, ceilD b j = g := ⟨_, rfl⟩
 rw [hf, hg] at C1 ⊢
 rw [hf] at of lf; rw [hg] at oc lc
 have EF := Lib.hid hf; have EG := Lib.hid hg; have OF := Lib.hid of; have OC := Lib.hid oc; have LF := Lib.hid lf; have LC := Lib.hid lc
 have HJ := Lib.hid hj; have HA := Lib.hid ha; have HT := Lib.hid hT; clear hf hg of oc lf lc hj ha qle hT
 obtain ⟨X0, XZ, XE⟩ := boxes2 w n1 n2 A B k c m e d1 d2
 have HX0 := Lib.hid X0; have HXZ := Lib.hid XZ; have HXE := Lib.hid XE
 clear X0 XZ XE
 go_enter Tryz.func139, Tryz.ntmps139
 go_upto_region 1 with fail
 go_cut [] (fun wx => OneI w a b A' c' B' e' wx)
 case first =>
  obtain ⟨⟨k0, k1, k2, k3, k4, k5⟩, kz⟩ := HX0.out
  go_wp2_with (go_at_call 87; (with_reducible refine (HA.out.itv _ HXE.out).mono ?_); rintro e1 w1 ⟨rfl, hx⟩; clear k0 k1 k2 k3 k4 k5 kz; obtain ⟨⟨k0, k1, k2, k3, k4, k5⟩, kz⟩ := HX0.out.ext hx; have HX := Lib.hid hx; clear hx)
  go_meet
  exact oneI_of HX0.out HXZ.out HXE.out HX.out
 case rest =>
 clear HX0 HXZ HXE
 obtain ⟨hE, hX0, hXZ⟩ := hcut
 have HE := Lib.hid hE; have HX0 := Lib.hid hX0; have HXZ := Lib.hid hXZ
 clear hE hX0 hXZ
 have lz := HXZ.out.lt
 have hew := HE.out.size
 obtain ⟨⟨k0, k1, k2, k3, k4, k5⟩, kz⟩ := HX0.out
 have H1 : Hid (∀ w', Ext wc w' → Calls Tryz.prog 185 #[dv a.neg A' (len a.m) c' a.den, I j] w' (fun e w'' => ∃ P f1, e = .returned (.tuple #[dv f.neg P (len f.m) f1 f.den, .nilIface]) ∧ Fr w'' w'.heap.size P (len f.m) f1 (dg f.m) ∧ Ext w' w'')) := fun w' x => (floor_any j (HA.out.dya.ext (HE.out.trans x)) (HT.out.ext (HE.out.trans x)) HJ.out).mono fun e1 w'' h => by
  rw [EF.out] at h
  obtain ⟨P, f1, h1, hon, h2⟩ := h
  exact ⟨P, f1, h1, hon.fr, h2⟩
 have H2 : Hid (∀ w', Ext wc w' → Calls Tryz.prog 186 #[dv b.neg B' (len b.m) e' b.den, I j] w' (fun e w'' => ∃ P f1, e = .returned (.tuple #[dv g.neg P (len g.m) f1 g.den, .nilIface]) ∧ Fr w'' w'.heap.size P (len g.m) f1 (dg g.m) ∧ Ext w' w'')) := fun w' x => (ceil_any j (HA.out.dyb.ext (HE.out.trans x)) (HT.out.ext (HE.out.trans x)) HJ.out LB.out).mono fun e1 w'' h => by
  rw [EG.out] at h
  obtain ⟨P, f1, h1, hon, h2⟩ := h
  exact ⟨P, f1, h1, hon.fr, h2⟩
 clear EF EG HJ LB
 go_upto_region 3 with (go_at_call 185; (with_reducible refine (H1.out _ (Ext.refl _)).mono ?_); rintro e1 w1 ⟨P1, f1, rfl, hfr, hx1⟩; have O1 := Lib.hid hfr; have HX1 := Lib.hid hx1; clear hfr hx1 k0 k1 k2 k3 k4 k5 kz)
 obtain ⟨wa, hwa⟩ : ∃ wa, wa = w1.alloc (.cells #[.bool f.neg, .slice P1 (len f.m) f1, I f.den] 56) := ⟨_, rfl⟩
 have hea : Ext w1 wa := by rw [hwa]; exact Ext.alloc _ _
 have hba : Bx wa w1.heap.size (.bool f.neg) (.slice P1 (len f.m) f1) (I f.den) := by rw [hwa]; exact Bx.new _ _ _ _ _
 have hxa := HX1.out.trans hea
 have HBA := Lib.hid hba; have HXA := Lib.hid hxa; have OA := Lib.hid (O1.out.ext hea)
 have hs1 := HX1.out.size
 have hsa : wa.heap.size = w1.heap.size + 1 := by rw [hwa]; simp
 rw [← hwa]
 obtain ⟨⟨k0, k1, k2, k3, k4, k5⟩, _⟩ := HX0.out.ext hxa
 clear hwa hea hba hxa
 go_upto_region 4 with (go_at_call 186; (with_reducible refine (H2.out _ HXA.out).mono ?_); rintro e1 w2 ⟨P2, f2, rfl, hfr, hx2⟩; have O2 := Lib.hid hfr; have HX2 := Lib.hid hx2; clear hfr hx2 k0 k1 k2 k3 k4 k5)
 obtain ⟨wb, hwb⟩ : ∃ wb, wb = w2.alloc (.cells #[.bool g.neg, .slice P2 (len g.m) f2, I g.den] 56) := ⟨_, rfl⟩
 have heb : Ext w2 wb := by rw [hwb]; exact Ext.alloc _ _
 have hbb : Bx wb w2.heap.size (.bool g.neg) (.slice P2 (len g.m) f2) (I g.den) := by rw [hwb]; exact Bx.new _ _ _ _ _
 have hxb : Ext wc wb := (HXA.out.trans HX2.out).trans heb
 have hs2 := HX2.out.size
 have hbb1 := HBA.out.ext (HX2.out.trans heb)
 have HXB := Lib.hid hxb
 have HDA : Hid (Dy wb f.neg P1 (len f.m) f1 f.den f P1 f1) := Dy.valid (OA.out.rd.ext (HX2.out.trans heb)) OA.out.ok OF.out LF.out
 have HDB : Hid (Dy wb g.neg P2 (len g.m) f2 g.den g P2 f2) := Dy.valid (O2.out.rd.ext heb) O2.out.ok OC.out LC.out
 have HLE : Hid (∀ w' gg cap, Ext wb w' → St w' gg (.bool g.neg) (.slice P2 (len g.m) f2) (I g.den) → Calls Tryz.prog 182 #[dv f.neg P1 (len f.m) f1 f.den, .slice (some ⟨gg, 0, none⟩) 1 cap] w' (IvRes f g w')) := fun w' gg cap x hst => by
  have := least1 (cap := cap) (HDA.out.ext x) (HDB.out.ext x) (HT.out.ext ((HE.out.trans HXB.out).trans x)) hst
  rw [C1.out.1, C1.out.2] at this; exact this
 obtain ⟨⟨a0, a1, a2⟩, _⟩ := hbb1
 obtain ⟨⟨b0, b1, b2⟩, _⟩ := hbb
 rw [← hwb]
 clear hwb heb hxb
 go_wp2_with (go_at_call 182; (with_reducible refine (HLE.out _ _ _ (Ext.alloc _ _) (St.mk' (World.cell?_alloc_new _ _ _ 0) (World.cell?_alloc_new _ _ _ 1) (World.cell?_alloc_new _ _ _ 2))).mono ?_); rintro e1 w4 ⟨A4, c4, B4, e4, rfl, hfa, hfb, hx⟩; have FA := Lib.hid hfa; have FB := Lib.hid hfb; have HF := Lib.hid (HXB.out.trans ((Ext.alloc _ _).trans hx)); obtain ⟨⟨r0, r1, r2, r3, r4, r5⟩, rz⟩ := HXZ.out.ext HF.out; clear hfa hfb hx)
 have hs3 := HXB.out.size
 exact bodyPost_ret (v := .tuple #[ivd f A4 c4 g B4 e4, .nilIface]) (by simp [results, Tryz.results139, go_sem, r0, r1, r2, r3, r4, r5]) rfl (IvOk.end6 rfl FA.out FB.out (HE.out.trans HF.out) (by omega) (by (try simp); omega) (by (try simp); omega))
end
section
open Go Go.RowKit
def lngI (x : IV) : Bool := lng x.lo || lng x.hi
theorem lo2_of {u v : DV} (hu : u.ok) (hv : v.ok) (h : u.q ≤ v.q) : lo2 u v = u := DV.uniq (minD_ok hu hv) hu (by show (minD u v).q = _; rw [q_min hu hv]; unfold mnQ; grind)
theorem hi2_of {u v : DV} (hu : u.ok) (hv : v.ok) (h : u.q ≤ v.q) : hi2 u v = v := DV.uniq (maxD_ok hu hv) hv (by show (maxD u v).q = _; rw [q_max hu hv]; unfold mxQ; grind)
theorem lo4_self {u v : DV} (hu : u.ok) (hv : v.ok) (h : u.q ≤ v.q) : lo4 u v u v = u := by
 have e1 : minD u v = u := lo2_of hu hv h
 have e2 : minD u u = u := lo2_of hu hu Rat.le_refl
 unfold lo4; rw [e1, e2, e1]
theorem hi4_self {u v : DV} (hu : u.ok) (hv : v.ok) (h : u.q ≤ v.q) : hi4 u v u v = v := by
 have e1 : maxD u v = v := hi2_of hu hv h
 have e2 : maxD v v = v := hi2_of hv hv Rat.le_refl
 have e3 : maxD v u = v := DV.uniq (maxD_ok hv hu) hv (by rw [q_max hv hu]; unfold mxQ; grind)
 unfold hi4; rw [e1, e3, e2]
theorem mul_lo' {p q r s : DV} (hp : p.ok) (hq : q.ok) (hr : r.ok) (hs : s.ok) : lo4 (lo2 p q) (hi2 p q) (lo2 r s) (hi2 r s) = lo4 p r q s := by
 have m1 := minD_ok hp hq; have m2 := maxD_ok hp hq; have m3 := minD_ok hr hs; have m4 := maxD_ok hr hs
 have m5 := minD_ok m1 m2; have m6 := minD_ok m5 m3; have m7 := minD_ok hp hr; have m8 := minD_ok m7 hq
 refine DV.uniq (minD_ok m6 m4) (minD_ok m8 hs) ?_
 show (minD (minD (minD (minD p q) (maxD p q)) (minD r s)) (maxD r s)).q = (minD (minD (minD p r) q) s).q
 rw [q_min m6 m4, q_min m5 m3, q_min m1 m2, q_min hp hq, q_max hp hq, q_min hr hs, q_max hr hs, q_min m8 hs, q_min m7 hq, q_min hp hr]
 unfold mnQ mxQ; grind
theorem mul_hi' {p q r s : DV} (hp : p.ok) (hq : q.ok) (hr : r.ok) (hs : s.ok) : hi4 (lo2 p q) (hi2 p q) (lo2 r s) (hi2 r s) = hi4 p r q s := by
 have m1 := minD_ok hp hq; have m2 := maxD_ok hp hq; have m3 := minD_ok hr hs; have m4 := maxD_ok hr hs
 have m5 := maxD_ok m1 m2; have m6 := maxD_ok m5 m3; have m7 := maxD_ok hp hr; have m8 := maxD_ok m7 hq
 refine DV.uniq (maxD_ok m6 m4) (maxD_ok m8 hs) ?_
 show (maxD (maxD (maxD (minD p q) (maxD p q)) (minD r s)) (maxD r s)).q = (maxD (maxD (maxD p r) q) s).q
 rw [q_max m6 m4, q_max m5 m3, q_max m1 m2, q_min hp hq, q_max hp hq, q_min hr hs, q_max hr hs, q_max m8 hs, q_max m7 hq, q_max hp hr]
 unfold mnQ mxQ; grind
def GdI (x : IV) : Prop := End x.lo ∧ End x.hi ∧ x.lo.q ≤ x.hi.q
def ShI (x : IV) : Prop := Shr x.lo ∧ Shr x.hi ∧ x.lo.q ≤ x.hi.q
theorem Shr.end_ {d : DV} (h : Shr d) : End d := ⟨h.ok, by have := h.len; omega⟩
theorem ShI.gd {x : IV} (h : ShI x) : GdI x := ⟨h.1.end_, h.2.1.end_, h.2.2⟩
theorem GdI.sh {x : IV} (h : GdI x) (l : lngI x = false) : ShI x := by
 unfold lngI at l; rw [Bool.or_eq_false_iff] at l
 exact ⟨Shr.of l.1 h.1.1, Shr.of l.2 h.2.1.1, h.2.2⟩
theorem CnI.gd {w : World} {r : RI} {x : IV} (h : CnI w r x) : GdI x := ⟨⟨h.lo.ok, h.el⟩, ⟨h.hi.ok, h.eh⟩, h.le⟩
theorem end_min {u v : DV} (hu : End u) (hv : End v) : End (minD u v) := ⟨minD_ok hu.1 hv.1, by unfold minD; split; exact hv.2; exact hu.2⟩
theorem end_max {u v : DV} (hu : End u) (hv : End v) : End (maxD u v) := ⟨maxD_ok hu.1 hv.1, by unfold maxD; split; exact hv.2; exact hu.2⟩
theorem gd_two {u v : DV} (hu : End u) (hv : End v) : GdI ⟨lo2 u v, hi2 u v⟩ := ⟨end_min hu hv, end_max hu hv, by show (minD u v).q ≤ (maxD u v).q; rw [q_min hu.1 hv.1, q_max hu.1 hv.1]; unfold mnQ mxQ; grind⟩
theorem gd_three {u v x : DV} (hu : End u) (hv : End v) (hx : End x) : GdI ⟨lo3 u v x, hi3 u v x⟩ :=
 ⟨end_min (end_min hu hv) hx, end_max (end_max hu hv) hx, by
  show (minD (minD u v) x).q ≤ (maxD (maxD u v) x).q
  rw [q_min (minD_ok hu.1 hv.1) hx.1, q_max (maxD_ok hu.1 hv.1) hx.1, q_min hu.1 hv.1, q_max hu.1 hv.1]; unfold mnQ mxQ; grind⟩
theorem gd_four {u v x y : DV} (hu : End u) (hv : End v) (hx : End x) (hy : End y) : GdI ⟨lo4 u v x y, hi4 u v x y⟩ :=
 ⟨end_min (end_min (end_min hu hv) hx) hy, end_max (end_max (end_max hu hv) hx) hy, by
  show (minD (minD (minD u v) x) y).q ≤ (maxD (maxD (maxD u v) x) y).q
  have a := minD_ok hu.1 hv.1; have b := maxD_ok hu.1 hv.1
  rw [q_min (minD_ok a hx.1) hy.1, q_max (maxD_ok b hx.1) hy.1, q_min a hx.1, q_max b hx.1, q_min hu.1 hv.1, q_max hu.1 hv.1]; unfold mnQ mxQ; grind⟩
theorem end_add {u v : DV} (hu : Shr u) (hv : Shr v) : End (addD u v) := ⟨addD_ok _ _, by have := len_addD hu.len hv.len hu.den hv.den; omega⟩
theorem end_mul {u v : DV} (hu : Shr u) (hv : Shr v) : End (mulD u v) := ⟨mkD_ok _ _ _, by have := lim_mul u v; have := hu.len; have := hv.len; omega⟩
theorem end_neg {u : DV} (hu : End u) : End (negD u) := ⟨negD_ok _, Nat.le_trans (lim_neg u) hu.2⟩
theorem shr_neg {u : DV} (hu : Shr u) : Shr (negD u) := ⟨negD_ok _, Nat.le_trans (lim_neg u) hu.len, Nat.le_trans (negD_den u (by have := hu.den; omega)) hu.den⟩
theorem shr_min {u v : DV} (hu : Shr u) (hv : Shr v) : Shr (minD u v) := by unfold minD; split; exact hv; exact hu
theorem shr_max {u v : DV} (hu : Shr u) (hv : Shr v) : Shr (maxD u v) := by unfold maxD; split; exact hv; exact hu
theorem end_abs {u : DV} (hu : End u) : End (absD u) := ⟨mkD_ok _ _ _, Nat.le_trans (len_mono (mkD_m_le _ _ _)) hu.2⟩
def fI (b : Blk) (x y : IV) : IV :=
 if b.k = 1 then ⟨nmS b.vn b.ve, nmS b.vn b.ve⟩ else
 if b.k = 3 then ⟨lo2 (addD x.lo y.lo) (addD x.hi y.hi), hi2 (addD x.lo y.lo) (addD x.hi y.hi)⟩ else
 if b.k = 4 then ⟨lo2 (addD x.lo (lo2 (negD y.lo) (negD y.hi))) (addD x.hi (hi2 (negD y.lo) (negD y.hi))), hi2 (addD x.lo (lo2 (negD y.lo) (negD y.hi))) (addD x.hi (hi2 (negD y.lo) (negD y.hi)))⟩ else
 if b.k = 5 then ⟨lo2 (negD x.lo) (negD x.hi), hi2 (negD x.lo) (negD x.hi)⟩ else
 if b.k = 6 then ⟨lo2 (mulD x.lo (nmS b.vn b.ve)) (mulD x.hi (nmS b.vn b.ve)), hi2 (mulD x.lo (nmS b.vn b.ve)) (mulD x.hi (nmS b.vn b.ve))⟩ else
 if b.k = 7 then ⟨lo4 (mulD x.lo y.lo) (mulD x.lo y.hi) (mulD x.hi y.lo) (mulD x.hi y.hi), hi4 (mulD x.lo y.lo) (mulD x.lo y.hi) (mulD x.hi y.lo) (mulD x.hi y.hi)⟩ else
 if b.k = 8 then ⟨minD x.lo y.lo, minD x.hi y.hi⟩ else
 if b.k = 9 then ⟨maxD x.lo y.lo, maxD x.hi y.hi⟩ else
 if b.k = 10 then ⟨absL x.lo x.hi, absH x.lo x.hi⟩ else
 ⟨clD x.lo (nmS b.vn b.ve) (nmS b.un b.ue), clD x.hi (nmS b.vn b.ve) (nmS b.un b.ue)⟩
def prtI (p : Prt) : IV := ⟨prtV p p.lo, prtV p p.hi⟩
def bvI (D : Dia) (V : Nat → IV) (i : Nat) : IV := if (D.B i).k = 0 then prtI (D.P (sr D i 0)) else fI (D.B i) (V (sr D i 0)) (V (sr D i 1))
theorem fI_gd {b : Blk} {x y : IV} (hx : ShI x) (hy : 1 < arity b.k → ShI y) (hv : Shr (nmS b.vn b.ve)) (hu : Shr (nmS b.un b.ue)) : GdI (fI b x y) := by
 unfold fI arity at *
 by_cases k1 : b.k = 1
 ·rw [if_pos k1]; exact ⟨hv.end_, hv.end_, Rat.le_refl⟩
 rw [if_neg k1]
 by_cases k3 : b.k = 3
 ·have hy' := hy (by rw [if_neg k1, if_pos (by omega)]; decide)
  rw [if_pos k3]; exact gd_two (end_add hx.1 hy'.1) (end_add hx.2.1 hy'.2.1)
 rw [if_neg k3]
 by_cases k4 : b.k = 4
 ·have hy' := hy (by rw [if_neg k1, if_pos (by omega)]; decide)
  rw [if_pos k4]
  have n1 := shr_neg hy'.1; have n2 := shr_neg hy'.2.1
  exact gd_two (end_add hx.1 (shr_min n1 n2)) (end_add hx.2.1 (shr_max n1 n2))
 rw [if_neg k4]
 by_cases k5 : b.k = 5
 ·rw [if_pos k5]; exact gd_two (end_neg hx.1.end_) (end_neg hx.2.1.end_)
 rw [if_neg k5]
 by_cases k6 : b.k = 6
 ·rw [if_pos k6]; exact gd_two (end_mul hx.1 hv) (end_mul hx.2.1 hv)
 rw [if_neg k6]
 by_cases k7 : b.k = 7
 ·have hy' := hy (by rw [if_neg k1, if_pos (by omega)]; decide)
  rw [if_pos k7]; exact gd_four (end_mul hx.1 hy'.1) (end_mul hx.1 hy'.2.1) (end_mul hx.2.1 hy'.1) (end_mul hx.2.1 hy'.2.1)
 rw [if_neg k7]
 by_cases k8 : b.k = 8
 ·have hy' := hy (by rw [if_neg k1, if_pos (by omega)]; decide)
  rw [if_pos k8]
  refine ⟨end_min hx.1.end_ hy'.1.end_, end_min hx.2.1.end_ hy'.2.1.end_, ?_⟩
  show (minD x.lo y.lo).q ≤ (minD x.hi y.hi).q
  have h1 := hx.2.2; have h2 := hy'.2.2
  rw [q_min hx.1.ok hy'.1.ok, q_min hx.2.1.ok hy'.2.1.ok]; unfold mnQ; grind
 rw [if_neg k8]
 by_cases k9 : b.k = 9
 ·have hy' := hy (by rw [if_neg k1, if_pos (by omega)]; decide)
  rw [if_pos k9]
  refine ⟨end_max hx.1.end_ hy'.1.end_, end_max hx.2.1.end_ hy'.2.1.end_, ?_⟩
  show (maxD x.lo y.lo).q ≤ (maxD x.hi y.hi).q
  have h1 := hx.2.2; have h2 := hy'.2.2
  rw [q_max hx.1.ok hy'.1.ok, q_max hx.2.1.ok hy'.2.1.ok]; unfold mxQ; grind
 rw [if_neg k9]
 by_cases k10 : b.k = 10
 ·rw [if_pos k10]
  have a1 := end_abs hx.1.end_; have a2 := end_abs hx.2.1.end_
  unfold absL absH
  by_cases q : conB x.lo x.hi DV.zero = true
  ·rw [if_pos q, if_pos q]; exact gd_three a1 a2 DV.zero_end
  ·rw [if_neg q, if_neg q]; exact gd_two a1 a2
 rw [if_neg k10]
 refine ⟨end_min (end_max hx.1.end_ hv.end_) hu.end_, end_min (end_max hx.2.1.end_ hv.end_) hu.end_, ?_⟩
 show (minD (maxD x.lo (nmS b.vn b.ve)) (nmS b.un b.ue)).q ≤ (minD (maxD x.hi (nmS b.vn b.ve)) (nmS b.un b.ue)).q
 have h1 := hx.2.2
 rw [q_min (maxD_ok hx.1.ok hv.ok) hu.ok, q_min (maxD_ok hx.2.1.ok hv.ok) hu.ok, q_max hx.1.ok hv.ok, q_max hx.2.1.ok hv.ok]; unfold mnQ mxQ; grind
theorem fI_congr {b : Blk} {x y x' y' : IV} (h0 : 0 < arity b.k → x = x') (h1 : 1 < arity b.k → y = y') : fI b x y = fI b x' y' := by
 unfold fI arity at *
 by_cases e1 : b.k = 1
 ·rw [if_pos e1, if_pos e1]
 ·rw [if_neg e1] at h0 h1
  by_cases e2 : b.k = 3 ∨ b.k = 4 ∨ b.k = 7 ∨ b.k = 8 ∨ b.k = 9
  ·rw [if_pos e2] at h0 h1
   rw [h0 (by decide), h1 (by decide)]
  ·rw [if_neg e2] at h0
   rw [h0 (by decide)]
   have a : ¬ b.k = 3 := by omega
   have b' : ¬ b.k = 4 := by omega
   have c : ¬ b.k = 7 := by omega
   have d : ¬ b.k = 8 := by omega
   have e : ¬ b.k = 9 := by omega
   simp only [if_neg e1, if_neg a, if_neg b', if_neg c, if_neg d, if_neg e]
def mx4' (a b c d : Int) : Int := if d > (if c > (if b > a then b else a) then c else (if b > a then b else a)) then d else (if c > (if b > a then b else a) then c else (if b > a then b else a))
theorem run_max4' {P : Program} (ts : Array TypeId) (t : TypeId) (a b c d : Int) (w : World) : (Builtin.max_ ts t #[I a, I b, I c, I d]).run P w = .ok (I (mx4' a b c d)) w := by
 simp [Builtin.max_, Builtin.max2, mx4']
theorem mx4_lng (x : IV) {a b c d : Int} (h1 : (bitsN x.lo.m : Int) = a) (h2 : (x.lo.den : Int) = b) (h3 : (bitsN x.hi.m : Int) = c) (h4 : (x.hi.den : Int) = d) : decide (4096 < mx4' a b c d) = lngI x := by
 unfold lngI lng
 rw [Bool.eq_iff_iff]
 simp only [decide_eq_true_eq, Bool.or_eq_true]
 unfold mx4'
 (repeat' split) <;> omega
set_option maxRecDepth 100000 in
set_option maxHeartbeats 1000000 in
theorem isLong_any {w : World} {r : RI} {x : IV} (h : CnI w r x) : Calls Tryz.prog 117 #[r.v] w fun e w' => e = .returned (.bool (lngI x)) ∧ Ext w w' := by
 obtain ⟨y1, hy1⟩ : ∃ y : Int, (bitsN x.lo.m : Int) = y := ⟨_, rfl⟩
 obtain ⟨y2, hy2⟩ : ∃ y : Int, (bitsN x.hi.m : Int) = y := ⟨_, rfl⟩
 have hd1 := h.lo.den; have hd2 := h.hi.den
 have hm := mx4_lng x hy1 hd1.symm hy2 hd2.symm
 obtain ⟨⟨n1, A1, k1, c1, d1⟩, ⟨n2, A2, k2, c2, d2⟩⟩ := r
 simp only at hd1 hd2 hm
 show Calls _ _ #[iv n1 A1 k1 c1 d1 n2 A2 k2 c2 d2] _ _
 obtain ⟨W1, hW1⟩ : ∃ W1, W1 = w.alloc (.cells #[.bool n1, .slice A1 k1 c1, I d1, .bool n2, .slice A2 k2 c2, I d2] 58) := ⟨_, rfl⟩
 have hE : Ext w W1 := by rw [hW1]; exact Ext.alloc _ _
 have HB1 : Hid (∀ w', Ext W1 w' → Calls Tryz.prog 165 #[dv n1 A1 k1 c1 d1] w' fun e w'' => e = .returned (I y1) ∧ Ext w' w'') := fun w' e => by
  rw [← hy1]; exact bits_any (h.lo.dy.ext (hE.trans e))
 have HB2 : Hid (∀ w', Ext W1 w' → Calls Tryz.prog 165 #[dv n2 A2 k2 c2 d2] w' fun e w'' => e = .returned (I y2) ∧ Ext w' w'') := fun w' e => by
  rw [← hy2]; exact bits_any (h.hi.dy.ext (hE.trans e))
 have hb0 : B6 W1 w.heap.size (.bool n1) (.slice A1 k1 c1) (I d1) (.bool n2) (.slice A2 k2 c2) (I d2) := by rw [hW1]; exact B6.new _ _ _ _ _ _ _ _
 have hlt0 := hb0.lt
 obtain ⟨⟨k0, k1', k2', k3, k4, k5⟩, _⟩ := hb0
 have HE := Lib.hid hE
 have hM := fun w => run_max4' (P := Tryz.prog) #[ 3, 3, 3, 3 ] 3 y1 d1 y2 d2 w
 generalize mx4' y1 d1 y2 d2 = mm at *
 generalize lngI x = bb at *
 have hb : Ext W1 W1 := Ext.refl _
 clear hE h hy1 hy2 hd1 hd2
 go_enter Tryz.func117, Tryz.ntmps117
 go_upto_region 1 with fail
 rw [← hW1]; clear hW1
 have hL := fun (x : Later _) => (Ext.trans hb x.ext).old.1
 refine wp_region_later (by kernel_rfl) (by kernel_rfl) ?_
 repeat (go_big_quiet_step ((go_at_call 165; first | (with_reducible exact Calls.later (HB1.out _ (Later.ext _))) | (with_reducible exact Calls.later (HB2.out _ (Later.ext _))))))
 refine wpQuiet_nil ?_
 intro w2 hw2
 replace hb := Ext.trans hb (Later.of hw2)
 clear hw2 hL
 obtain ⟨hc, hf⟩ := hb.old
 go_wp2_with fail
 go_ret
 exact ⟨by rw [← hm]; rfl, HE.out.trans hb⟩
end
section
open Go Go.RowKit
def VaQ (d : DV) (w : World) (e : Ending) (w' : World) : Prop := ∃ A c, e = .returned (.tuple #[dv d.neg A (len d.m) c d.den, .nilIface]) ∧ On w' w.heap.size A (len d.m) c (dg d.m) ∧ Ext w w'
set_option maxRecDepth 100000 in
set_option maxHeartbeats 2000000 in
theorem Value_on (n e : Int) (w : World) (hT : Tabs w) (h1 : -2147483648 < n) (h2 : n < 2147483648) (h3 : -62 ≤ e) (h4 : e ≤ 30) : Calls Tryz.prog 200 #[.agg #[I n, I e]] w (VaQ (nmS n e) w) := by
 obtain ⟨W1, hW1⟩ : ∃ W1, W1 = (w.alloc (.cells #[I n, I e] 77)).alloc (.cells #[.bool false, .slice none 0 0, I 0] 56) := ⟨_, rfl⟩
 obtain ⟨X0, X2, XE⟩ := num_boxes w (I n) (I e) (.bool false) (.slice none 0 0) (I 0) 77 56
 rw [← hW1] at X0 X2 XE
 have HX2 := Lib.hid X2; have HXE := Lib.hid XE
 obtain ⟨⟨k0, k1⟩, kf⟩ := X0
 have HNV : Hid (∀ w', Ext W1 w' → Calls Tryz.prog 156 #[.agg #[I n, I e]] w' (DyRes (nmS n e) w')) := fun w' x => enumber_any n e w' (hT.ext (XE.trans x)) h1 h2 h3 h4
 have HZ : Hid (W1.heap.size = w.heap.size + 1 + 1) := by show _ = _; rw [hW1]; simp
 obtain ⟨d', hd'⟩ : ∃ d', nmS n e = d' := ⟨_, rfl⟩
 rw [hd'] at HNV ⊢
 clear hd' hT XE X2 kf
 go_enter Tryz.func200, Tryz.ntmps200
 go_upto_region 1 with fail
 rw [← hW1]; clear hW1
 go_wp2_with (go_at_call 156; (with_reducible refine (HNV.out _ (Ext.refl _)).mono ?_); rintro e1 w1 ⟨A2, c2, rfl, hon, hx2⟩; have HO := Lib.hid hon; have HX := Lib.hid hx2; obtain ⟨⟨r0, r1, r2⟩, rf⟩ := HX2.out.ext hx2; have f0 := rf 0; have f1 := rf 1; have f2 := rf 2; clear rf hon hx2)
 refine bodyPost_ret (v := .tuple #[dv d'.neg A2 (len d'.m) c2 d'.den, .nilIface]) (by simp [results, Tryz.results200, go_sem, r0, r1, r2]) rfl ⟨A2, c2, rfl, ?_, ?_⟩
 ·exact (HO.out.set3 (by have := HZ.out; omega) _ _ _).mono (by have := HZ.out; omega)
 ·exact ext_set3 (HXE.out.trans HX.out) (by omega) _ _ _
set_option maxRecDepth 100000 in
set_option maxHeartbeats 2000000 in
theorem rnum_any (n e : Int) (w : World) (hT : Tabs w) (h1 : -2147483648 < n) (h2 : n < 2147483648) (h3 : -62 ≤ e) (h4 : e ≤ 30) : Calls Tryz.prog 169 #[.agg #[I n, I e]] w (DyRes (nmS n e) w) := by
 obtain ⟨W1, hW1⟩ : ∃ W1, W1 = (w.alloc (.cells #[I n, I e] 77)).alloc (.cells #[.bool false, .slice none 0 0, I 0] 56) := ⟨_, rfl⟩
 obtain ⟨X0, X2, XE⟩ := num_boxes w (I n) (I e) (.bool false) (.slice none 0 0) (I 0) 77 56
 rw [← hW1] at X0 X2 XE
 have HX2 := Lib.hid X2; have HXE := Lib.hid XE
 obtain ⟨⟨k0, k1⟩, kf⟩ := X0
 have HNV : Hid (∀ w', Ext W1 w' → Calls Tryz.prog 200 #[.agg #[I n, I e]] w' (VaQ (nmS n e) w')) := fun w' x => Value_on n e w' (hT.ext (XE.trans x)) h1 h2 h3 h4
 have hz : W1.heap.size = w.heap.size + 1 + 1 := by rw [hW1]; simp
 obtain ⟨d', hd'⟩ : ∃ d', nmS n e = d' := ⟨_, rfl⟩
 rw [hd'] at HNV ⊢
 clear hd' hT XE X2 kf
 go_enter Tryz.func169, Tryz.ntmps169
 go_upto_region 1 with fail
 rw [← hW1]; clear hW1
 go_upto_region 2 with (go_at_call 200; (with_reducible refine (HNV.out _ (Ext.refl _)).mono ?_); rintro e1 w1 ⟨A2, c2, rfl, hon, hx2⟩; have HO := Lib.hid hon; have HX := Lib.hid hx2; have hs := hx2.size; clear hon hx2)
 obtain ⟨wz, hwz⟩ : ∃ wz, wz = w1.alloc (.cells #[.bool d'.neg, .slice A2 (len d'.m) c2, I d'.den] 56) := ⟨_, rfl⟩
 have hEz : Ext w1 wz := by rw [hwz]; exact Ext.alloc _ _
 have hbz : Bx wz w1.heap.size (.bool d'.neg) (.slice A2 (len d'.m) c2) (I d'.den) := by rw [hwz]; exact Bx.new _ _ _ _ _
 have HOZ := Lib.hid (HO.out.ext hEz); have HXZ := Lib.hid (HX.out.trans hEz)
 obtain ⟨⟨b0, b1, b2⟩, _⟩ := hbz
 obtain ⟨⟨r0, r1, r2⟩, rf⟩ := HX2.out.ext HXZ.out
 have f0 := rf 0; have f1 := rf 1; have f2 := rf 2
 have ln : ¬ w.heap.size + 1 = w1.heap.size := by omega
 have ln2 : ¬ w1.heap.size = w.heap.size + 1 := by omega
 rw [← hwz]
 clear hwz hEz rf
 go_wp2_with fail
 exact bodyPost_ret (v := dv d'.neg A2 (len d'.m) c2 d'.den) (by simp [results, Tryz.results169, go_sem, r0, r1, r2]) rfl ⟨A2, c2, rfl, (HOZ.out.set3 (by omega) _ _ _).mono (by omega), ext_set3 (HXE.out.trans HXZ.out) (by omega) _ _ _⟩
def pwD (e : Int) : DV := shiftD (ofI 1 0) e
set_option maxRecDepth 100000 in
set_option maxHeartbeats 1000000 in
theorem rpower_any (e : Int) (w : World) (hT : Tabs w) (h1 : -9223372036854775808 ≤ e) (h2 : e ≤ 9223372036854775807) : Calls Tryz.prog 138 #[I e] w (DyRes (pwD e) w) := by
 obtain ⟨W1, hW1⟩ : ∃ W1, W1 = w.alloc (.cells #[.bool false, .slice none 0 0, I 0] 56) := ⟨_, rfl⟩
 have hE : Ext w W1 := by rw [hW1]; exact Ext.alloc _ _
 have hb : Bx W1 w.heap.size (.bool false) (.slice none 0 0) (I 0) := by rw [hW1]; exact Bx.new _ _ _ _ _
 have HB := Lib.hid hb; have HE := Lib.hid hE
 have hz : W1.heap.size = w.heap.size + 1 := by rw [hW1]; simp
 have HO1 : Hid (∀ w', Ext W1 w' → Calls Tryz.prog 163 #[I 1] w' (DyRes (ofI 1 0) w')) := fun w' x => of_any 1 w' (hT.ext (hE.trans x)) (by omega) (by omega)
 have HL : Hid ((ofI 1 0).ok ∧ len (ofI 1 0).m ≤ 16777216) := ⟨ofI_ok 1 0, Nat.le_trans (len_mono (mkD_m_le _ _ _)) (Nat.le_trans (len_abs (by omega) (by omega)) (by decide))⟩
 have HT := Lib.hid (hT.ext hE)
 have HP : Hid (shiftD (ofI 1 0) e = pwD e) := rfl
 generalize pwD e = d' at *
 clear hb hE hT
 go_enter Tryz.func138, Tryz.ntmps138
 go_upto_region 1 with fail
 rw [← hW1]; clear hW1
 go_wp2_with (first
  | (go_at_call 163; (with_reducible refine (HO1.out _ (Ext.refl _)).mono ?_); rintro e5 w5 ⟨A5, c5, rfl, hon5, hx5⟩; have HX5 := Lib.hid hx5; have hs5 := hx5.size; have HDN := Lib.hid (dy_of_on hon5 HL.out.1 HL.out.2 (Ext.refl _)); clear hon5 hx5)
  | (go_at_call 162; refine (shift_any e HDN.out (HT.out.ext HX5.out) (by omega) (by omega)).mono ?_; rw [HP.out]; rintro e1 w1 ⟨A2, c2, rfl, hon, hx2⟩; have HO := Lib.hid hon; have HX2 := Lib.hid (HX5.out.trans hx2); obtain ⟨⟨r0, r1, r2⟩, rf⟩ := HB.out.ext HX2.out; have f0 := rf 0; have f1 := rf 1; have f2 := rf 2; clear rf hon hx2))
 exact bodyPost_ret (v := dv d'.neg A2 (len d'.m) c2 d'.den) (by simp [results, Tryz.results138, go_sem, r0, r1, r2]) rfl (DyRes.end3 rfl HO.out (HE.out.trans HX2.out) (by omega) (by omega) (by omega))
set_option maxRecDepth 100000 in
set_option maxHeartbeats 1000000 in
theorem rfresh_any {w : World} {r : RI} {x : IV} (h : CnI w r x) (hT : Tabs w) : Calls Tryz.prog 118 #[r.v] w (IvRes x.lo x.hi w) := by
 obtain ⟨W1, hW1⟩ : ∃ W1, W1 = (w.alloc (.cells #[.bool r.lo.neg, .slice r.lo.A r.lo.n r.lo.c, I r.lo.den, .bool r.hi.neg, .slice r.hi.A r.hi.n r.hi.c, I r.hi.den] 58)).alloc (.cells #[.bool false, .slice none 0 0, I 0, .bool false, .slice none 0 0, I 0] 58) := ⟨_, rfl⟩
 have hE : Ext w W1 := by rw [hW1]; exact (Ext.alloc _ _).trans (Ext.alloc _ _)
 have hb0 : B6 W1 w.heap.size (.bool r.lo.neg) (.slice r.lo.A r.lo.n r.lo.c) (I r.lo.den) (.bool r.hi.neg) (.slice r.hi.A r.hi.n r.hi.c) (I r.hi.den) := by rw [hW1]; exact (B6.new _ _ _ _ _ _ _ _).ext (Ext.alloc _ _)
 have hb1 : B6 W1 (w.heap.size + 1) (.bool false) (.slice none 0 0) (I 0) (.bool false) (.slice none 0 0) (I 0) := by
  rw [hW1]; have := B6.new (w.alloc (.cells #[.bool r.lo.neg, .slice r.lo.A r.lo.n r.lo.c, I r.lo.den, .bool r.hi.neg, .slice r.hi.A r.hi.n r.hi.c, I r.hi.den] 58)) (.bool false) (.slice none 0 0) (I 0) (.bool false) (.slice none 0 0) (I 0) 58
  rwa [show (w.alloc (.cells #[.bool r.lo.neg, .slice r.lo.A r.lo.n r.lo.c, I r.lo.den, .bool r.hi.neg, .slice r.hi.A r.hi.n r.hi.c, I r.hi.den] 58)).heap.size = w.heap.size + 1 by simp] at this
 have hz : W1.heap.size = w.heap.size + 1 + 1 := by rw [hW1]; simp
 have HH : Hid (∀ w', Ext W1 w' → Calls Tryz.prog 140 #[r.v, r.v] w' (IvRes x.lo x.hi w')) := fun w' e => by
  have := hull_any (h.ext (hE.trans e)).iw (h.ext (hE.trans e)).iw (hT.ext (hE.trans e))
  rw [lo4_self h.lo.ok h.hi.ok h.le, hi4_self h.lo.ok h.hi.ok h.le] at this; exact this
 have HB1 := Lib.hid hb1; have HE := Lib.hid hE
 obtain ⟨⟨k0, k1, k2, k3, k4, k5⟩, _⟩ := hb0
 obtain ⟨lo, hi⟩ := x
 simp only at HH ⊢
 obtain ⟨⟨n1, A1, m1, c1, d1⟩, ⟨n2, A2, m2, c2, d2⟩⟩ := r
 simp only at hW1 HH k0 k1 k2 k3 k4 k5
 clear hb1 hE hT h
 show Calls _ _ #[iv n1 A1 m1 c1 d1 n2 A2 m2 c2 d2] _ _
 go_enter Tryz.func118, Tryz.ntmps118
 go_upto_region 1 with fail
 rw [← hW1]; clear hW1
 go_wp2_with (go_at_call 140; (with_reducible refine (HH.out _ (Ext.refl _)).mono ?_); rintro e1 w1 ⟨A5, c5, B5', k6, rfl, fa, fb, hx⟩; have FA := Lib.hid fa; have FB := Lib.hid fb; have HX := Lib.hid hx; obtain ⟨⟨r0, r1, r2, r3, r4, r5⟩, rf⟩ := HB1.out.ext hx; have f0 := rf 0; have f1 := rf 1; have f2 := rf 2; have f3 := rf 3; have f4 := rf 4; have f5 := rf 5; clear rf fa fb hx)
 exact bodyPost_ret (v := ivd lo A5 c5 hi B5' k6) (by simp [results, Tryz.results118, go_sem, r0, r1, r2, r3, r4, r5]) rfl (IvRes.end6 rfl FA.out FB.out (HE.out.trans HX.out) (by omega) (by omega) (by omega))
theorem rarg_any {w : World} {g5 g6 b o nb m c ca : Nat} {ba oa x : Nat} {R : Nat → RI} (j : Nat)
  (h6 : w.cell? ⟨g6, 0, none⟩ = some (.slice (some ⟨b, o, none⟩) nb c)) (h5 : w.cell? ⟨g5, 1, none⟩ = some (.slice (some ⟨ba, oa, none⟩) m ca))
  (hj : j < m) (ha : w.cell? ⟨ba, oa + j, none⟩ = some (I x)) (hx : x < nb)
  (hv : w.cell? ⟨b, o + x * 6, none⟩ = some (.bool (R x).lo.neg) ∧ w.cell? ⟨b, o + x * 6 + 1, none⟩ = some (.slice (R x).lo.A (R x).lo.n (R x).lo.c) ∧ w.cell? ⟨b, o + x * 6 + 2, none⟩ = some (I (R x).lo.den) ∧
   w.cell? ⟨b, o + x * 6 + 3, none⟩ = some (.bool (R x).hi.neg) ∧ w.cell? ⟨b, o + x * 6 + 4, none⟩ = some (.slice (R x).hi.A (R x).hi.n (R x).hi.c) ∧ w.cell? ⟨b, o + x * 6 + 5, none⟩ = some (I (R x).hi.den))
  (l6 : g6 < w.heap.size) (l5 : g5 < w.heap.size) (lb : b < w.heap.size) (la : ba < w.heap.size) :
  Calls Tryz.prog 166 #[I j, .pointer (some ⟨g6, 0, none⟩), .pointer (some ⟨g5, 0, none⟩)] w fun e w' => e = .returned (R x).v ∧ Ext w w' := by
 obtain ⟨v0, v1, v2, v3, v4, v5⟩ := hv
 generalize R x = r at *
 obtain ⟨⟨n1, A1, m1, c1, d1⟩, ⟨n2, A2, m2, c2, d2⟩⟩ := r
 show Calls _ _ _ _ (fun e w' => e = .returned (iv n1 A1 m1 c1 d1 n2 A2 m2 c2 d2) ∧ Ext w w')
 simp only at v0 v1 v2 v3 v4 v5
 obtain ⟨W1, hW1⟩ : ∃ W1, W1 = w.alloc (.cells #[.bool false, .slice none 0 0, I 0, .bool false, .slice none 0 0, I 0] 58) := ⟨_, rfl⟩
 have hE : Ext w W1 := by rw [hW1]; exact Ext.alloc _ _
 have hB0 : B6 W1 w.heap.size (.bool false) (.slice none 0 0) (I 0) (.bool false) (.slice none 0 0) (I 0) := by rw [hW1]; exact B6.new w _ _ _ _ _ _ _
 have HB0 := Lib.hid hB0; have HE := Lib.hid hE
 have e6 := (hE.old.1 _ _ l6).trans h6
 have e5 := (hE.old.1 _ _ l5).trans h5
 have ea := (hE.old.1 _ _ la).trans ha
 have e0 := (hE.old.1 _ _ lb).trans v0
 have e1 := (hE.old.1 _ _ lb).trans v1
 have e2 := (hE.old.1 _ _ lb).trans v2
 have e3 := (hE.old.1 _ _ lb).trans v3
 have e4 := (hE.old.1 _ _ lb).trans v4
 have e7 := (hE.old.1 _ _ lb).trans v5
 obtain ⟨⟨r0, r1, r2, r3, r4, r5⟩, rf⟩ := HB0.out
 have f0 := rf 0; have f1 := rf 1; have f2 := rf 2; have f3 := rf 3; have f4 := rf 4; have f5 := rf 5
 have hj' : (j : Int) < (m : Int) := by omega
 have hx' : (x : Int) < (nb : Int) := by omega
 clear h6 h5 ha v0 v1 v2 v3 v4 v5 hE hB0 rf
 go_enter Tryz.func166, Tryz.ntmps166
 go_upto_region 1 with fail
 rw [← hW1]; clear hW1
 go_region
 go_wp2_with fail
 refine bodyPost_ret (v := iv n1 A1 m1 c1 d1 n2 A2 m2 c2 d2) (by simp [results, Tryz.results166, go_sem, r0, r1, r2, r3, r4, r5]) rfl ⟨rfl, ?_⟩
 exact (ext_set6 HE.out (Nat.le_refl _) _ _ _ _ _ _).trans (Ext.drew _)
end
end Go.Proofs.YtgnngldlgcdnfaaGreatDoor
