import Derived.Test.YtgnngldlgcdnfaaGreatDoorRx
import Derived.Test.YtgnngldlgcdnfaaGreatDoorRad
import Derived.Test.YtgnngldlgcdnfaaGreatDoorQaw
import Derived.Test.YtgnngldlgcdnfaaGreatDoorRae
namespace Go.Proofs.YtgnngldlgcdnfaaGreatDoor
section
open Go.RowKit
def BtI (x : IV) (u : DV) : Prop := x.lo.q ≤ u.q ∧ u.q ≤ x.hi.q
theorem abs_okc {a : DV} : (absD a).ok := mkD_ok _ _ _
theorem mul_okc {a b : DV} : (mulD a b).ok := mkD_ok _ _ _
theorem in_neg {a b x : DV} (ha : a.ok) (hb : b.ok) (hx : x.ok) (h : BtI ⟨a, b⟩ x) : BtI ⟨lo2 (negD a) (negD b), hi2 (negD a) (negD b)⟩ (negD x) := by
 obtain ⟨h1, h2⟩ := h
 simp only at h1 h2
 unfold BtI
 rw [q_lo2 (negD_ok a) (negD_ok b), q_hi2 (negD_ok a) (negD_ok b), q_negD ha, q_negD hb, q_negD hx]
 unfold mnQ mxQ; grind
theorem in_abs {a b x : DV} (ha : a.ok) (hb : b.ok) (hx : x.ok) (h : BtI ⟨a, b⟩ x) : BtI ⟨absL a b, absH a b⟩ (absD x) := by
 obtain ⟨h1, h2⟩ := h
 simp only at h1 h2
 have hz : DV.zero.q = 0 := qOf_zero _ _
 have hc : conB a b DV.zero = true ↔ (a.q ≤ 0 ∧ 0 ≤ b.q) := by
  unfold conB; rw [Bool.and_eq_true, decide_eq_true_eq, decide_eq_true_eq, cmp_le ha DV.zero_ok, cmp_le DV.zero_ok hb, hz]
 unfold BtI absL absH
 by_cases q : conB a b DV.zero = true
 ·rw [if_pos q, if_pos q]
  rw [q_lo3 abs_okc abs_okc DV.zero_ok, q_hi3 abs_okc abs_okc DV.zero_ok, q_absD ha, q_absD hb, q_absD hx, hz]
  unfold mnQ mxQ; grind
 ·rw [if_neg q, if_neg q]
  have hn : ¬ (a.q ≤ 0 ∧ 0 ≤ b.q) := fun z => q (hc.2 z)
  rw [q_lo2 abs_okc abs_okc, q_hi2 abs_okc abs_okc, q_absD ha, q_absD hb, q_absD hx]
  unfold mnQ mxQ; grind
theorem in_add {a b x c d y : DV} (ha : a.ok) (hb : b.ok) (hx : x.ok) (h : BtI ⟨a, b⟩ x) (hc : c.ok) (hd : d.ok) (hy : y.ok) (k : BtI ⟨c, d⟩ y) :
  BtI ⟨lo2 (addD a c) (addD b d), hi2 (addD a c) (addD b d)⟩ (addD x y) := by
 obtain ⟨h1, h2⟩ := h; obtain ⟨k1, k2⟩ := k
 simp only at h1 h2 k1 k2
 unfold BtI
 rw [q_lo2 (addD_ok _ _) (addD_ok _ _), q_hi2 (addD_ok _ _) (addD_ok _ _), q_addD ha hc, q_addD hb hd, q_addD hx hy]
 unfold mnQ mxQ; grind
theorem in_sub {a b x c d y : DV} (ha : a.ok) (hb : b.ok) (hx : x.ok) (h : BtI ⟨a, b⟩ x) (hc : c.ok) (hd : d.ok) (hy : y.ok) (k : BtI ⟨c, d⟩ y) :
  BtI ⟨lo2 (addD a (lo2 (negD c) (negD d))) (addD b (hi2 (negD c) (negD d))), hi2 (addD a (lo2 (negD c) (negD d))) (addD b (hi2 (negD c) (negD d)))⟩ (subD x y) := by
 obtain ⟨h1, h2⟩ := h; obtain ⟨k1, k2⟩ := k
 simp only at h1 h2 k1 k2
 have o1 := lo2_ok (negD_ok c) (negD_ok d)
 have o2 := hi2_ok (negD_ok c) (negD_ok d)
 unfold BtI
 rw [q_lo2 (addD_ok _ _) (addD_ok _ _), q_hi2 (addD_ok _ _) (addD_ok _ _), q_addD ha o1, q_addD hb o2, q_lo2 (negD_ok c) (negD_ok d), q_hi2 (negD_ok c) (negD_ok d), q_negD hc, q_negD hd, q_subD hx hy]
 unfold mnQ mxQ; grind
theorem in_min {a b x c d y : DV} (ha : a.ok) (hb : b.ok) (hx : x.ok) (h : BtI ⟨a, b⟩ x) (hc : c.ok) (hd : d.ok) (hy : y.ok) (k : BtI ⟨c, d⟩ y) : BtI ⟨minD a c, minD b d⟩ (minD x y) := by
 obtain ⟨h1, h2⟩ := h; obtain ⟨k1, k2⟩ := k
 simp only at h1 h2 k1 k2
 unfold BtI
 rw [q_min ha hc, q_min hb hd, q_min hx hy]
 unfold mnQ; grind
theorem in_max {a b x c d y : DV} (ha : a.ok) (hb : b.ok) (hx : x.ok) (h : BtI ⟨a, b⟩ x) (hc : c.ok) (hd : d.ok) (hy : y.ok) (k : BtI ⟨c, d⟩ y) : BtI ⟨maxD a c, maxD b d⟩ (maxD x y) := by
 obtain ⟨h1, h2⟩ := h; obtain ⟨k1, k2⟩ := k
 simp only at h1 h2 k1 k2
 unfold BtI
 rw [q_max ha hc, q_max hb hd, q_max hx hy]
 unfold mxQ; grind
theorem in_scl {a b x y : DV} (h : BtI ⟨a, b⟩ x) (d1 : a.den + y.den ≤ 65536) (d2 : b.den + y.den ≤ 65536) (d3 : y.den + x.den ≤ 65536) :
  BtI ⟨lo2 (mulD a y) (mulD b y), hi2 (mulD a y) (mulD b y)⟩ (mulD y x) := by
 obtain ⟨h1, h2⟩ := h
 simp only at h1 h2
 unfold BtI
 rw [q_lo2 mul_okc mul_okc, q_hi2 mul_okc mul_okc, q_mulD d1, q_mulD d2, q_mulD d3]
 have m (p q : Rat) (hp : 0 ≤ p) (hq : 0 ≤ q) : 0 ≤ p * q := Rat.mul_nonneg hp hq
 by_cases hy : 0 ≤ y.q
 ·have e1 := m (x.q - a.q) y.q (by grind) hy
  have e2 := m (b.q - x.q) y.q (by grind) hy
  unfold mnQ mxQ; grind
 ·have e1 := m (x.q - a.q) (-y.q) (by grind) (by grind)
  have e2 := m (b.q - x.q) (-y.q) (by grind) (by grind)
  unfold mnQ mxQ; grind
theorem in_mul {a b x c d y : DV} (h : BtI ⟨a, b⟩ x) (k : BtI ⟨c, d⟩ y) (d1 : a.den + c.den ≤ 65536) (d2 : a.den + d.den ≤ 65536) (d3 : b.den + c.den ≤ 65536) (d4 : b.den + d.den ≤ 65536) (d5 : x.den + y.den ≤ 65536) :
  BtI ⟨lo4 (mulD a c) (mulD a d) (mulD b c) (mulD b d), hi4 (mulD a c) (mulD a d) (mulD b c) (mulD b d)⟩ (mulD x y) := by
 obtain ⟨h1, h2⟩ := h; obtain ⟨k1, k2⟩ := k
 simp only at h1 h2 k1 k2
 unfold BtI
 rw [q_lo4 mul_okc mul_okc mul_okc mul_okc, q_hi4 mul_okc mul_okc mul_okc mul_okc, q_mulD d1, q_mulD d2, q_mulD d3, q_mulD d4, q_mulD d5]
 generalize e1 : a.q * c.q = p1
 generalize e2 : a.q * d.q = p2
 generalize e3 : b.q * c.q = p3
 generalize e4 : b.q * d.q = p4
 refine bilin h1 h2 k1 k2 ?_ ?_ ?_ ?_ ?_ ?_ ?_ ?_
 all_goals (first | rw [e1] | rw [e2] | rw [e3] | rw [e4])
 all_goals (clear e1 e2 e3 e4 h1 h2 k1 k2; (first | unfold mnQ | unfold mxQ); grind)
theorem in_clip {a b x z u : DV} (ha : a.ok) (hb : b.ok) (hx : x.ok) (hz : z.ok) (hu : u.ok) (h : BtI ⟨a, b⟩ x) (hle : z.q ≤ u.q) : BtI ⟨clD a z u, clD b z u⟩ (maxD z (minD x u)) := by
 obtain ⟨h1, h2⟩ := h
 simp only at h1 h2
 unfold BtI clD
 rw [q_min (maxD_ok ha hz) hu, q_min (maxD_ok hb hz) hu, q_max ha hz, q_max hb hz, q_max hz (minD_ok hx hu), q_min hx hu]
 unfold mnQ mxQ; grind
theorem fI_in {b : Blk} {x y : IV} {u v : DV} (hk : b.k = 1 ∨ b.k = 3 ∨ b.k = 4 ∨ b.k = 5 ∨ b.k = 6 ∨ b.k = 7 ∨ b.k = 8 ∨ b.k = 9 ∨ b.k = 10 ∨ b.k = 11)
  (hx : b.k ≠ 1 → ShI x ∧ Shr u ∧ BtI x u) (hy : b.k = 3 ∨ b.k = 4 ∨ b.k = 7 ∨ b.k = 8 ∨ b.k = 9 → ShI y ∧ Shr v ∧ BtI y v)
  (hv : b.k = 6 ∨ b.k = 11 → Shr (nmS b.vn b.ve)) (hu : b.k = 11 → Shr (nmS b.un b.ue) ∧ (nmS b.vn b.ve).q ≤ (nmS b.un b.ue).q) : BtI (fI b x y) (fv b u v) := by
 by_cases k1 : b.k = 1
 ·unfold fI fv; rw [if_pos k1, if_pos k1]; exact ⟨Rat.le_refl, Rat.le_refl⟩
 obtain ⟨sx, su, ix⟩ := hx k1
 obtain ⟨⟨ox, lx, dx⟩, ⟨ox', lx', dx'⟩, _⟩ := sx
 obtain ⟨ou, lu, du⟩ := su
 rcases hk with hk | hk | hk | hk | hk | hk | hk | hk | hk | hk
 ·exact absurd hk k1
 ·obtain ⟨⟨⟨oy, ly, dy⟩, ⟨oy', ly', dy'⟩, _⟩, ⟨ov, lv, dv⟩, iy⟩ := hy (by omega)
  unfold fI fv; simp only [hk, Int.reduceEq, ↓reduceIte]; exact in_add ox ox' ou ix oy oy' ov iy
 ·obtain ⟨⟨⟨oy, ly, dy⟩, ⟨oy', ly', dy'⟩, _⟩, ⟨ov, lv, dv⟩, iy⟩ := hy (by omega)
  unfold fI fv; simp only [hk, Int.reduceEq, ↓reduceIte]; exact in_sub ox ox' ou ix oy oy' ov iy
 ·unfold fI fv; simp only [hk, Int.reduceEq, ↓reduceIte]; exact in_neg ox ox' ou ix
 ·obtain ⟨oz, lz, dz⟩ := hv (by omega)
  unfold fI fv; simp only [hk, Int.reduceEq, ↓reduceIte]; exact in_scl ix (by omega) (by omega) (by omega)
 ·obtain ⟨⟨⟨oy, ly, dy⟩, ⟨oy', ly', dy'⟩, _⟩, ⟨ov, lv, dv⟩, iy⟩ := hy (by omega)
  unfold fI fv; simp only [hk, Int.reduceEq, ↓reduceIte]; exact in_mul ix iy (by omega) (by omega) (by omega) (by omega) (by omega)
 ·obtain ⟨⟨⟨oy, ly, dy⟩, ⟨oy', ly', dy'⟩, _⟩, ⟨ov, lv, dv⟩, iy⟩ := hy (by omega)
  unfold fI fv; simp only [hk, Int.reduceEq, ↓reduceIte]; exact in_min ox ox' ou ix oy oy' ov iy
 ·obtain ⟨⟨⟨oy, ly, dy⟩, ⟨oy', ly', dy'⟩, _⟩, ⟨ov, lv, dv⟩, iy⟩ := hy (by omega)
  unfold fI fv; simp only [hk, Int.reduceEq, ↓reduceIte]; exact in_max ox ox' ou ix oy oy' ov iy
 ·unfold fI fv; simp only [hk, Int.reduceEq, ↓reduceIte]; exact in_abs ox ox' ou ix
 ·obtain ⟨oz, lz, dz⟩ := hv (by omega)
  obtain ⟨⟨ow, lw, dw⟩, hle⟩ := hu hk
  unfold fI fv; simp only [hk, Int.reduceEq, ↓reduceIte]; exact in_clip ox ox' ou oz ow ix hle
theorem prt_in {p : Prt} {n : Int} (h1 : p.lo ≤ n) (h2 : n ≤ p.hi) (h3 : 0 ≤ p.fr) (h4 : p.fr ≤ 30) : BtI (prtI p) (prtV p n) := by
 have mono : ∀ a b : Int, a ≤ b → (nmS a (-p.fr)).q ≤ (nmS b (-p.fr)).q := fun a b h => by
  rw [nmS_q (by omega) (by omega), nmS_q (by omega) (by omega)]
  have hp : 0 < qp 62 := qp_pos 62
  have hc : ((a * 2 ^ (-p.fr + 62).toNat : Int) : Rat) ≤ ((b * 2 ^ (-p.fr + 62).toNat : Int) : Rat) := Rat.intCast_le_intCast.2 (Int.mul_le_mul_of_nonneg_right h (Int.le_of_lt (Int.pow_pos (by decide))))
  rw [Rat.div_def, Rat.div_def]
  exact Rat.mul_le_mul_of_nonneg_right hc (Rat.le_of_lt (Rat.inv_pos.2 hp))
 unfold BtI prtI
 rw [prtV_eq, prtV_eq, prtV_eq]
 exact ⟨mono _ _ h1, mono _ _ h2⟩
theorem tk_in {D : Dia} (ok : OkD D) {S : Nat → IV} {X : Nat → DV} {IN : Nat → Int} (hin : ∀ j, j < D.ni → (D.P j).lo ≤ IN j ∧ IN j ≤ (D.P j).hi) (hS : ∀ k, k < (delL D).length → BtI (S k) (X k))
  (gI : ∀ i, i < D.nb → ShI (tkI D S i)) (gV : ∀ i, i < D.nb → Shr (tkV D X IN i)) : ∀ i, i < D.nb → BtI (tkI D S i) (tkV D X IN i) := by
 have hdel : ∀ i, i < D.nb → isD D i = true → BtI (tkI D S i) (tkV D X IN i) := fun i hi h => by
  rw [tkI_del S h, tk_del X IN h]; exact hS _ (plc_lt hi h).1
 have key : ∀ k, k ≤ (ordL D).length → ∀ m, m < k → BtI (tkI D S ((ordL D).getD m 0)) (tkV D X IN ((ordL D).getD m 0)) := by
  intro k
  induction k with
  | zero => intro _ m hm; omega
  | succ k ih =>
   intro hk m hm
   by_cases e : m = k
   ·subst e
    have hr := ord_rdy (D := D) (k := m) (by omega)
    obtain ⟨_, q1, q2⟩ := rdy_iff.1 hr.2.1
    have harg : ∀ j, j < ns D ((ordL D).getD m 0) → BtI (tkI D S (sr D ((ordL D).getD m 0) j)) (tkV D X IN (sr D ((ordL D).getD m 0) j)) := fun j hj => by
     rcases q2 j hj with q | q
     ·obtain ⟨t, ht, htl, et⟩ := inL_take.1 q
      have := ih (by omega) t ht
      rwa [et] at this
     ·exact hdel _ (ok.src hr.1 hj).2.1 q
    obtain ⟨x, hx⟩ : ∃ x, (ordL D).getD m 0 = x := ⟨_, rfl⟩
    rw [hx] at harg q1 ⊢
    have hxn := hr.1
    rw [hx] at hxn
    rw [tkI_eq ok S hxn q1, tk_eq ok X IN hxn q1]
    unfold bvI bval
    by_cases k0 : (D.B x).k = 0
    ·rw [if_pos k0, if_pos k0]
     have hp := ok.inp hxn k0
     have hb := hin _ hp.1
     have ho := ok.port hp.1
     exact prt_in hb.1 hb.2 (by omega) (by omega)
    ·rw [if_neg k0, if_neg k0]
     have h := ok.k0 x hxn
     have hk2 : (D.B x).k ≠ 2 := fun q => by unfold isD at q1; rw [q] at q1; cases q1
     have har := ok.ar x hxn
     have hns : ns D x = (D.B x).n := by unfold ns; rw [if_neg k0]
     have hA : ∀ j, j < ns D x → ShI (tkI D S (sr D x j)) ∧ Shr (tkV D X IN (sr D x j)) ∧ BtI (tkI D S (sr D x j)) (tkV D X IN (sr D x j)) := fun j hj =>
      ⟨gI _ (ok.src hxn hj).2.1, gV _ (ok.src hxn hj).2.1, harg j hj⟩
     have hval : (D.B x).k = 6 ∨ (D.B x).k = 11 → Shr (nmS (D.B x).vn (D.B x).ve) := fun q => by
      have hv := ok.val hxn (by unfold usesV; rcases q with q | q <;> rw [q] <;> rfl)
      exact Shr.nm (by omega) (by omega) hv.2.2.1 hv.2.2.2
     refine fI_in (by omega) (fun hk1 => hA 0 ?_) (fun hk2 => hA 1 ?_) hval fun hk => ?_
     ·have : 1 ≤ arity (D.B x).k := by unfold arity; rw [if_neg hk1]; split <;> omega
      omega
     ·have : arity (D.B x).k = 2 := by unfold arity; rw [if_neg (by omega), if_pos hk2]
      omega
     ·have hu := ok.upp hxn hk
      have hv := ok.val hxn (by unfold usesV; rw [hk]; decide)
      refine ⟨Shr.nm (by omega) (by omega) hu.2.2.1 hu.2.2.2, ?_⟩
      have h := cmp_gtS hv.2.2.1 hv.2.2.2 hu.2.2.1 hu.2.2.2 (n := (D.B x).vn) (m := (D.B x).un)
      rw [(ok.scal hxn).2.2 hk] at h
      exact (cmp_le (nmS_ok _ _) (nmS_ok _ _)).1 (by have := of_decide_eq_false h; omega)
   ·exact ih (by omega) m (by omega)
 intro i hi
 cases h : isD D i with
 | true => exact hdel i hi h
 | false =>
  obtain ⟨t, h1, _, h3, _⟩ := posP_yes ok hi h
  have := key (ordL D).length (Nat.le_refl _) t h1
  rwa [h3] at this
theorem qOf_intR (n : Int) (X : Nat) (k : Nat) (hX : n.natAbs = X) : qOf (decide (n < 0)) X k = (n : Rat) / qp k := by
 unfold qOf
 by_cases h : n < 0
 ·obtain ⟨m, rfl⟩ : ∃ m : Nat, n = -(m : Int) := ⟨n.natAbs, by omega⟩
  have hm : X = m := by omega
  subst hm
  rw [decide_eq_true h, if_pos rfl]
  have hc : ((X : Int) : Rat) = ((X : Nat) : Rat) := by first | rfl | exact Rat.intCast_natCast X
  rw [Rat.intCast_neg, hc]; grind
 ·obtain ⟨m, rfl⟩ : ∃ m : Nat, n = (m : Int) := ⟨n.natAbs, by omega⟩
  have hm : X = m := by omega
  subst hm
  rw [decide_eq_false h]
  have hc : ((X : Int) : Rat) = ((X : Nat) : Rat) := by first | rfl | exact Rat.intCast_natCast X
  rw [hc]; rfl
theorem q_ofIR (n : Int) : (ofI n 0).q = (n : Rat) := by
 unfold ofI
 rw [q_mkD _ _ (by omega), qOf_intR n n.natAbs 0 rfl, qp_zero]; grind
theorem q_down8 {a : DV} (h : a.den ≤ 65528) : (shiftD a (-8)).q * 256 = a.q := by
 have e : shiftD a (-8) = mkD a.neg a.m (a.den + 8) := by
  unfold shiftD
  rw [show clampN (-8) = -8 by decide, if_pos (by decide), show (- -8 : Int).toNat = 8 by decide]
 have hm : ∀ (neg : Bool) (m k : Nat), qOf neg (m * 2 ^ 8) k = qOf neg m k * 256 := fun neg m k => by
  have e : ((m * 2 ^ 8 : Nat) : Rat) = (m : Rat) * 256 := by
   have : ((m * 2 ^ 8 : Nat) : Rat) = (m : Rat) * ((2 ^ 8 : Nat) : Rat) := by exact_mod_cast rfl
   rw [this]; rfl
  have := qp_ne k
  unfold qOf; rw [e]; cases neg <;> simp <;> grind
 rw [e, q_mkD _ _ (by omega), ← hm, qOf_shift]; rfl
theorem den_add' {a b : DV} (ha : a.den ≤ 65536) (hb : b.den ≤ 65536) : (addD a b).den ≤ max a.den b.den := by
 unfold addD; (repeat' split) <;> exact den_le _ _ _ (by omega)
theorem den_sub' {a b : DV} (ha : a.den ≤ 65536) (hb : b.den ≤ 65536) : (subD a b).den ≤ max a.den b.den := by
 have h1 := den_neg hb
 have := den_add' (a := a) (b := negD b) ha (by omega)
 unfold subD; omega
def stW (x : IV) (k : Int) : DV := mulD (subD x.hi x.lo) (ofI k 0)
def stX (x : IV) (k : Int) : DV := addD x.lo (shiftD (stW x k) (-8))
theorem stX_in {x : IV} (h : ShI x) {k : Int} (h0 : 0 ≤ k) (h1 : k ≤ 255) : BtI x (stX x k) := by
 obtain ⟨⟨ol, ll, dl⟩, ⟨oh, lh, dh⟩, hle⟩ := h
 have ds := den_sub' (a := x.hi) (b := x.lo) (by omega) (by omega)
 have dk : (ofI k 0).den ≤ 0 := den_le _ _ _ (by omega)
 have ds' : (subD x.hi x.lo).den ≤ 32000 := by omega
 have dw : (stW x k).den ≤ 32000 := Nat.le_trans (den_le _ _ ((subD x.hi x.lo).den + (ofI k 0).den) (by omega)) (by omega)
 have qw : (stW x k).q = (x.hi.q - x.lo.q) * (k : Rat) := by
  unfold stW; rw [q_mulD (a := subD x.hi x.lo) (b := ofI k 0) (by omega), q_subD oh ol, q_ofIR]
 have qs := q_down8 (a := stW x k) (by omega)
 have k0 : (0 : Rat) ≤ (k : Rat) := by have := Rat.intCast_le_intCast.2 h0; exact this
 have k1 : (k : Rat) ≤ 255 := by have := Rat.intCast_le_intCast.2 h1; exact this
 have hd : 0 ≤ x.hi.q - x.lo.q := by grind
 have m1 := Rat.mul_nonneg hd k0
 have m2 := Rat.mul_nonneg hd (show (0 : Rat) ≤ 255 - (k : Rat) by grind)
 unfold BtI stX
 rw [q_addD ol (shiftD_ok _ _)]
 rw [qw] at qs
 grind
theorem stX_sz {x : IV} (h : ShI x) (k : Int) (hk : -9223372036854775808 ≤ k ∧ k ≤ 9223372036854775807) : ((subD x.hi x.lo).ok ∧ len (subD x.hi x.lo).m ≤ 1401) ∧ ((ofI k 0).ok ∧ len (ofI k 0).m ≤ 2) ∧ ((stW x k).ok ∧ len (stW x k).m ≤ 1403) ∧ ((shiftD (stW x k) (-8)).ok ∧ len (shiftD (stW x k) (-8)).m ≤ 3452) ∧ (stX x k).ok ∧ len (stX x k).m ≤ 5502 := by
 obtain ⟨⟨ol, ll, dl⟩, ⟨oh, lh, dh⟩, hle⟩ := h
 have a := len_subD lh ll dh dl
 have b : len (ofI k 0).m ≤ 2 := Nat.le_trans (len_mono (mkD_m_le _ _ _)) (len_le (n := 2) (by unfold pB; omega))
 have c : len (stW x k).m ≤ 1403 := Nat.le_trans (lim_mul _ _) (by omega)
 have e := lim_shift (stW x k) (-8)
 have sok := shiftD_ok (stW x k) (-8)
 refine ⟨⟨subD_ok _ _, a⟩, ⟨ofI_ok _ _, b⟩, ⟨mkD_ok _ _ _, c⟩, ⟨sok, by omega⟩, addD_ok _ _, ?_⟩
 have := lim_add (a := x.lo) (b := shiftD (stW x k) (-8)) (by omega) sok.2.1
 unfold stX; omega
theorem con_in {x : IV} {u : DV} (h1 : x.lo.ok) (h2 : x.hi.ok) (h3 : u.ok) (h : BtI x u) : conB x.lo x.hi u = true := by
 unfold conB; rw [Bool.and_eq_true, decide_eq_true_eq, decide_eq_true_eq, cmp_le h1 h3, cmp_le h3 h2]; exact h
end
section
open Go Go.RowKit
def StB (D : Dia) (n : Nat) (S : Nat → DV) (IN : Nat → Int) (w : World) (e : Ending) (w' : World) : Prop :=
 ∃ g R g' R', e = .returned (.tuple #[.slice (some ⟨g, 0, none⟩) n n, .slice (some ⟨g', 0, none⟩) D.nb D.nb, .nilIface]) ∧ LvM w' g n R (nxS D (tkV D S IN)) ∧ LvM w' g' D.nb R' (tkV D S IN) ∧ (w.heap.size ≤ g ∧ ∀ i, i < n → ∀ a, (R i).A = some a → w.heap.size ≤ a.block) ∧ (w.heap.size ≤ g' ∧ ∀ i, i < D.nb → ∀ a, (R' i).A = some a → w.heap.size ≤ a.block) ∧ Ext w w'
set_option maxRecDepth 100000 in
set_option maxHeartbeats 1000000 in
theorem Step_bad {w : World} {D : Dia} {p : Pl} {As Ai : Option Addr} {n cs m ci : Nat} {R : Nat → RN} {S : Nat → DV} {b : Nat → Bool} {IN : Nat → Int} (d : Dm w D p) (hT : Tabs w) (h : chk D = 0)
  (rs : Rn w As n R) (el : ∀ k, k < n → El w (R k) (S k) (b k)) (r : Ri w Ai m IN) (hm : m ≤ maxLen) (hs : stE D n b S m IN ≠ 0) :
  Calls Tryz.prog 29 #[dgv D p, .slice As n cs, .slice Ai m ci] w fun e w' => e = .returned (.tuple #[.slice none 0 0, .slice none 0 0, .iface 48 (I (stE D n b S m IN))]) ∧ Ext w w' := by
 have ok := chk_ok h
 have hb : Ext w w := Ext.refl _
 obtain ⟨lo, hlo⟩ : ∃ lo, (ordL D).length = lo := ⟨_, rfl⟩
 obtain ⟨ld, hld⟩ : ∃ ld, (delL D).length = ld := ⟨_, rfl⟩
 have HP2 : Hid (∀ w', Ext w w' → Calls Tryz.prog 84 #[dgv D p] w' (fun e w'' => ∃ Ao co Ad cd, e = .returned (.tuple #[evv D p Ao lo co Ad ld cd, .nilIface]) ∧ Rl w'' Ao co (ordL D) ∧ Rl w'' Ad cd (delL D) ∧ Ext w' w'')) := fun w' e => (prepare_ok (d.ext e) (hT.ext e) h).mono fun e w'' h => by
  obtain ⟨Ao, co, Ad, cd, he, h1, h2, h3⟩ := h
  rw [hlo, hld] at he
  exact ⟨Ao, co, Ad, cd, he, h1, h2, h3⟩
 have HST : Hid (∀ w' Ao co Ad cd, Ext w w' → Rl w' Ad cd (delL D) → Rl w' Ao co (ordL D) → Calls Tryz.prog 85 #[evv D p Ao lo co Ad ld cd, .slice As n cs, .slice Ai m ci] w' (fun e w'' => e = .returned (.tuple #[.slice none 0 0, .slice none 0 0, .iface 48 (I (stE D n b S m IN))]) ∧ Ext w' w'')) := fun w' Ao co Ad cd e rd ro =>
  (estep_any (cs := cs) (ci := ci) (d.ext e) ok (hT.ext e) hld hlo rd ro (rs.ext e) (fun k hk => (el k hk).ext e) (r.ext e) hm).mono fun e w'' h => by
   rcases h with ⟨h1, h2, h3⟩ | ⟨h1, _⟩
   ·rw [errv_n h1] at h2; exact ⟨h2, h3⟩
   ·exact absurd h1 hs
 clear d hT h ok rs el r hm hs hlo hld
 generalize stE D n b S m IN = code at *
 go_enter Tryz.func29, Tryz.ntmps29
 go_wp2_with (first
  | (go_at_call 84; (with_reducible refine (HP2.out _ (hb.trans (Ext.alloc _ _))).mono ?_); rintro e1 w1 ⟨Ao, co, Ad, cd, rfl, ro, rd, h1⟩; have HRO := Lib.hid ro; have HRD := Lib.hid rd; have HX1 := Lib.hid ((Ext.alloc _ _).trans h1); clear ro rd h1)
  | (go_at_call 85; (with_reducible refine (HST.out _ _ _ _ _ (HX1.out.trans (Ext.alloc _ _)) (HRD.out.ext (Ext.alloc _ _)) (HRO.out.ext (Ext.alloc _ _))).mono ?_); rintro e2 w2 ⟨rfl, h2⟩; have HX2 := Lib.hid ((HX1.out.trans (Ext.alloc _ _)).trans h2); clear h2))
 refine bodyPost_ret (v := .tuple #[.slice none 0 0, .slice none 0 0, .iface 48 (I code)]) (by simp [results, Tryz.results29, go_sem]) rfl ⟨rfl, HX2.out⟩
set_option maxRecDepth 100000 in
set_option maxHeartbeats 1000000 in
theorem Step_good {w : World} {D : Dia} {p : Pl} {As Ai : Option Addr} {n cs m ci : Nat} {R : Nat → RN} {S : Nat → DV} {b : Nat → Bool} {IN : Nat → Int} (d : Dm w D p) (hT : Tabs w) (h : chk D = 0)
  (rs : Rn w As n R) (el : ∀ k, k < n → El w (R k) (S k) (b k)) (r : Ri w Ai m IN) (hm : m ≤ maxLen) (hs : stE D n b S m IN = 0) :
  Calls Tryz.prog 29 #[dgv D p, .slice As n cs, .slice Ai m ci] w (StB D n S IN w) := by
 have ok := chk_ok h
 have hb : Ext w w := Ext.refl _
 obtain ⟨lo, hlo⟩ : ∃ lo, (ordL D).length = lo := ⟨_, rfl⟩
 obtain ⟨ld, hld⟩ : ∃ ld, (delL D).length = ld := ⟨_, rfl⟩
 have HP2 : Hid (∀ w', Ext w w' → Calls Tryz.prog 84 #[dgv D p] w' (fun e w'' => ∃ Ao co Ad cd, e = .returned (.tuple #[evv D p Ao lo co Ad ld cd, .nilIface]) ∧ Rl w'' Ao co (ordL D) ∧ Rl w'' Ad cd (delL D) ∧ Ext w' w'')) := fun w' e => (prepare_ok (d.ext e) (hT.ext e) h).mono fun e w'' h => by
  obtain ⟨Ao, co, Ad, cd, he, h1, h2, h3⟩ := h
  rw [hlo, hld] at he
  exact ⟨Ao, co, Ad, cd, he, h1, h2, h3⟩
 have HST : Hid (∀ w' Ao co Ad cd, Ext w w' → Rl w' Ad cd (delL D) → Rl w' Ao co (ordL D) → Calls Tryz.prog 85 #[evv D p Ao lo co Ad ld cd, .slice As n cs, .slice Ai m ci] w' (StB D n S IN w')) := fun w' Ao co Ad cd e rd ro =>
  (estep_any (cs := cs) (ci := ci) (d.ext e) ok (hT.ext e) hld hlo rd ro (rs.ext e) (fun k hk => (el k hk).ext e) (r.ext e) hm).mono fun e w'' h => by
   rcases h with ⟨h1, _⟩ | ⟨_, h2⟩
   ·exact absurd hs h1
   ·exact h2
 clear d hT h ok rs el r hm hs hlo hld
 go_enter Tryz.func29, Tryz.ntmps29
 go_wp2_with (first
  | (go_at_call 84; (with_reducible refine (HP2.out _ (hb.trans (Ext.alloc _ _))).mono ?_); rintro e1 w1 ⟨Ao, co, Ad, cd, rfl, ro, rd, h1⟩; have HRO := Lib.hid ro; have HRD := Lib.hid rd; have HX1 := Lib.hid ((Ext.alloc _ _).trans h1); clear ro rd h1)
  | (go_at_call 85; (with_reducible refine (HST.out _ _ _ _ _ (HX1.out.trans (Ext.alloc _ _)) (HRD.out.ext (Ext.alloc _ _)) (HRO.out.ext (Ext.alloc _ _))).mono ?_); rintro e2 w2 ⟨g, R2, g', R3, rfl, l1, l2, n1, n2, h2⟩; have HQ := Lib.hid (And.intro l1 (And.intro l2 (And.intro n1 (And.intro n2 h2)))); clear l1 l2 n1 n2 h2))
 have hs := HX1.out.size
 exact bodyPost_ret (v := .tuple #[.slice (some ⟨g, 0, none⟩) n n, .slice (some ⟨g', 0, none⟩) D.nb D.nb, .nilIface]) (by simp [results, Tryz.results29, go_sem]) rfl ⟨g, R2, g', R3, rfl, HQ.out.1, HQ.out.2.1, ⟨by have := HQ.out.2.2.1.1; simp only [World.size_alloc] at this; omega, fun i hi a ha => by have := HQ.out.2.2.1.2 i hi a ha; simp only [World.size_alloc] at this; omega⟩, ⟨by have := HQ.out.2.2.2.1.1; simp only [World.size_alloc] at this; omega, fun i hi a ha => by have := HQ.out.2.2.2.1.2 i hi a ha; simp only [World.size_alloc] at this; omega⟩, (HX1.out.trans (Ext.alloc _ _)).trans HQ.out.2.2.2.2⟩
end
end Go.Proofs.YtgnngldlgcdnfaaGreatDoor
