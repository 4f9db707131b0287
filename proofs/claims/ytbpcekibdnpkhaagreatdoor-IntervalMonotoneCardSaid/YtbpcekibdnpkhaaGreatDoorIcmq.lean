/- Intervals contain the results of numbers: the plain mathematics. -/
import Derived.Test.YtbpcekibdnpkhaaGreatDoorIvn
import Derived.Test.YtbpcekibdnpkhaaGreatDoorIvcd
import Derived.Test.YtbpcekibdnpkhaaGreatDoorRmk
import Derived.Test.YtbpcekibdnpkhaaGreatDoorRefj
import Derived.Test.YtbpcekibdnpkhaaGreatDoorRefm
import Derived.Deep.RegionHeld3
import Derived.Deep.DeepCutAuto
import Derived.Test.YtbpcekibdnpkhaaGreatDoorIvab
namespace Go.Proofs.YtbpcekibdnpkhaaGreatDoor

/-! ### Icm -/
section
/-- x lies between a and b. -/
def Btw (a b x : DV) : Prop := a.q ≤ x.q ∧ x.q ≤ b.q
theorem absD_okc {a : DV} : (absD a).ok := mkD_ok _ _ _
theorem c_neg {a b x : DV} (ha : a.ok) (hb : b.ok) (hx : x.ok) (h : Btw a b x) : Btw (lo2 (negD a) (negD b)) (hi2 (negD a) (negD b)) (negD x) := by
  obtain ⟨h1, h2⟩ := h
  unfold Btw
  rw [q_lo2 (negD_ok a) (negD_ok b), q_hi2 (negD_ok a) (negD_ok b), q_negD ha, q_negD hb, q_negD hx]
  unfold mnQ mxQ; grind
theorem c_abs3 {a b x : DV} (ha : a.ok) (hb : b.ok) (hx : x.ok) (h : Btw a b x) : Btw (lo3 (absD a) (absD b) DV.zero) (hi3 (absD a) (absD b) DV.zero) (absD x) := by
  obtain ⟨h1, h2⟩ := h
  unfold Btw
  have hz : DV.zero.q = 0 := qOf_zero _ _
  rw [q_lo3 absD_okc absD_okc DV.zero_ok, q_hi3 absD_okc absD_okc DV.zero_ok, q_absD ha, q_absD hb, q_absD hx, hz]
  unfold mnQ mxQ; grind
theorem c_abs2 {a b x : DV} (ha : a.ok) (hb : b.ok) (hx : x.ok) (h : Btw a b x) (hn : ¬ (a.q ≤ 0 ∧ 0 ≤ b.q)) : Btw (lo2 (absD a) (absD b)) (hi2 (absD a) (absD b)) (absD x) := by
  obtain ⟨h1, h2⟩ := h
  unfold Btw
  rw [q_lo2 absD_okc absD_okc, q_hi2 absD_okc absD_okc, q_absD ha, q_absD hb, q_absD hx]
  unfold mnQ mxQ; grind
theorem c_add {a b x c d y : DV} (ha : a.ok) (hb : b.ok) (hx : x.ok) (h : Btw a b x) (hc : c.ok) (hd : d.ok) (hy : y.ok) (k : Btw c d y) :
    Btw (lo2 (addD a c) (addD b d)) (hi2 (addD a c) (addD b d)) (addD x y) := by
  obtain ⟨h1, h2⟩ := h; obtain ⟨k1, k2⟩ := k
  unfold Btw
  rw [q_lo2 (addD_ok _ _) (addD_ok _ _), q_hi2 (addD_ok _ _) (addD_ok _ _), q_addD ha hc, q_addD hb hd, q_addD hx hy]
  unfold mnQ mxQ; grind
theorem c_sub {a b x c d y : DV} (ha : a.ok) (hb : b.ok) (hx : x.ok) (h : Btw a b x) (hc : c.ok) (hd : d.ok) (hy : y.ok) (k : Btw c d y) :
    Btw (lo2 (addD a (lo2 (negD c) (negD d))) (addD b (hi2 (negD c) (negD d)))) (hi2 (addD a (lo2 (negD c) (negD d))) (addD b (hi2 (negD c) (negD d)))) (subD x y) := by
  obtain ⟨h1, h2⟩ := h; obtain ⟨k1, k2⟩ := k
  have o1 := lo2_ok (negD_ok c) (negD_ok d)
  have o2 := hi2_ok (negD_ok c) (negD_ok d)
  unfold Btw
  rw [q_lo2 (addD_ok _ _) (addD_ok _ _), q_hi2 (addD_ok _ _) (addD_ok _ _), q_addD ha o1, q_addD hb o2, q_lo2 (negD_ok c) (negD_ok d), q_hi2 (negD_ok c) (negD_ok d), q_negD hc, q_negD hd, q_subD hx hy]
  unfold mnQ mxQ; grind
theorem c_min {a b x c d y : DV} (ha : a.ok) (hb : b.ok) (hx : x.ok) (h : Btw a b x) (hc : c.ok) (hd : d.ok) (hy : y.ok) (k : Btw c d y) :
    Btw (lo2 (minD a c) (minD b d)) (hi2 (minD a c) (minD b d)) (minD x y) := by
  obtain ⟨h1, h2⟩ := h; obtain ⟨k1, k2⟩ := k
  unfold Btw
  rw [q_lo2 (minD_ok ha hc) (minD_ok hb hd), q_hi2 (minD_ok ha hc) (minD_ok hb hd), q_min ha hc, q_min hb hd, q_min hx hy]
  unfold mnQ mxQ; grind
theorem c_max {a b x c d y : DV} (ha : a.ok) (hb : b.ok) (hx : x.ok) (h : Btw a b x) (hc : c.ok) (hd : d.ok) (hy : y.ok) (k : Btw c d y) :
    Btw (lo2 (maxD a c) (maxD b d)) (hi2 (maxD a c) (maxD b d)) (maxD x y) := by
  obtain ⟨h1, h2⟩ := h; obtain ⟨k1, k2⟩ := k
  unfold Btw
  rw [q_lo2 (maxD_ok ha hc) (maxD_ok hb hd), q_hi2 (maxD_ok ha hc) (maxD_ok hb hd), q_max ha hc, q_max hb hd, q_max hx hy]
  unfold mnQ mxQ; grind
theorem c_hul {a b x c d y : DV} (ha : a.ok) (hb : b.ok) (h : Btw a b x) (hc : c.ok) (hd : d.ok) (k : Btw c d y) :
    Btw (lo4 a b c d) (hi4 a b c d) x ∧ Btw (lo4 a b c d) (hi4 a b c d) y := by
  obtain ⟨h1, h2⟩ := h; obtain ⟨k1, k2⟩ := k
  unfold Btw
  rw [q_lo4 ha hb hc hd, q_hi4 ha hb hc hd]
  unfold mnQ mxQ; grind
theorem c_mag {a b x : DV} (ha : a.ok) (hb : b.ok) (hx : x.ok) (h : Btw a b x) : (absD x).q ≤ (maxD (absD a) (absD b)).q := by
  obtain ⟨h1, h2⟩ := h
  rw [q_max absD_okc absD_okc, q_absD ha, q_absD hb, q_absD hx]
  unfold mxQ; grind
theorem mulD_okc {a b : DV} : (mulD a b).ok := mkD_ok _ _ _
theorem c_scl {a b x y : DV} (h : Btw a b x) (d1 : a.den + y.den ≤ 65536) (d2 : b.den + y.den ≤ 65536) (d3 : x.den + y.den ≤ 65536) :
    Btw (lo2 (mulD a y) (mulD b y)) (hi2 (mulD a y) (mulD b y)) (mulD x y) := by
  obtain ⟨h1, h2⟩ := h
  unfold Btw
  rw [q_lo2 mulD_okc mulD_okc, q_hi2 mulD_okc mulD_okc, q_mulD d1, q_mulD d2, q_mulD d3]
  have m (p q : Rat) (hp : 0 ≤ p) (hq : 0 ≤ q) : 0 ≤ p * q := Rat.mul_nonneg hp hq
  by_cases hy : 0 ≤ y.q
  · have e1 := m (x.q - a.q) y.q (by grind) hy
    have e2 := m (b.q - x.q) y.q (by grind) hy
    unfold mnQ mxQ; grind
  · have e1 := m (x.q - a.q) (-y.q) (by grind) (by grind)
    have e2 := m (b.q - x.q) (-y.q) (by grind) (by grind)
    unfold mnQ mxQ; grind
theorem mn_le {x y z : Rat} (h : z ≤ x) (h' : z ≤ y) : z ≤ mnQ x y := by unfold mnQ; split <;> assumption
theorem mn_l (x y : Rat) : mnQ x y ≤ x ∧ mnQ x y ≤ y := by unfold mnQ; constructor <;> split <;> grind
theorem mx_l (x y : Rat) : x ≤ mxQ x y ∧ y ≤ mxQ x y := by unfold mxQ; constructor <;> split <;> grind
theorem c_mul {a b x c d y : DV} (h : Btw a b x) (k : Btw c d y) (d1 : a.den + c.den ≤ 65536) (d2 : a.den + d.den ≤ 65536) (d3 : b.den + c.den ≤ 65536) (d4 : b.den + d.den ≤ 65536) (d5 : x.den + y.den ≤ 65536) :
    Btw (lo4 (lo2 (mulD a c) (mulD b c)) (hi2 (mulD a c) (mulD b c)) (lo2 (mulD a d) (mulD b d)) (hi2 (mulD a d) (mulD b d))) (hi4 (lo2 (mulD a c) (mulD b c)) (hi2 (mulD a c) (mulD b c)) (lo2 (mulD a d) (mulD b d)) (hi2 (mulD a d) (mulD b d))) (mulD x y) := by
  obtain ⟨h1, h2⟩ := h; obtain ⟨k1, k2⟩ := k
  have o1 : (lo2 (mulD a c) (mulD b c)).ok := lo2_ok mulD_okc mulD_okc
  have o2 : (hi2 (mulD a c) (mulD b c)).ok := hi2_ok mulD_okc mulD_okc
  have o3 : (lo2 (mulD a d) (mulD b d)).ok := lo2_ok mulD_okc mulD_okc
  have o4 : (hi2 (mulD a d) (mulD b d)).ok := hi2_ok mulD_okc mulD_okc
  unfold Btw
  rw [q_lo4 o1 o2 o3 o4, q_hi4 o1 o2 o3 o4, q_lo2 mulD_okc mulD_okc, q_hi2 mulD_okc mulD_okc, q_lo2 mulD_okc mulD_okc, q_hi2 mulD_okc mulD_okc, q_mulD d1, q_mulD d2, q_mulD d3, q_mulD d4, q_mulD d5]
  generalize e1 : a.q * c.q = p1
  generalize e2 : a.q * d.q = p2
  generalize e3 : b.q * c.q = p3
  generalize e4 : b.q * d.q = p4
  refine bilin h1 h2 k1 k2 ?_ ?_ ?_ ?_ ?_ ?_ ?_ ?_
  all_goals (first | rw [e1] | rw [e2] | rw [e3] | rw [e4])
  all_goals (unfold mnQ mxQ; clear e1 e2 e3 e4 h1 h2 k1 k2; grind)
/-- The number that lies n sixteenths of the way from a to b behind a. -/
def pickD (a b : DV) (n : Int) : DV := addD a (mulD (ofI n 4) (subD b a))
theorem qp4 : qp 4 = 16 := by unfold qp; first | rfl | grind
theorem sixteen {n : Int} (h0 : 0 ≤ n) (h1 : n ≤ 16) : 0 ≤ (ofI n 4).q ∧ (ofI n 4).q ≤ 1 := by
  obtain ⟨k, rfl⟩ : ∃ k : Nat, n = (k : Int) := ⟨n.toNat, by omega⟩
  have hk : k ≤ 16 := by omega
  have : k = 0 ∨ k = 1 ∨ k = 2 ∨ k = 3 ∨ k = 4 ∨ k = 5 ∨ k = 6 ∨ k = 7 ∨ k = 8 ∨ k = 9 ∨ k = 10 ∨ k = 11 ∨ k = 12 ∨ k = 13 ∨ k = 14 ∨ k = 15 ∨ k = 16 := by omega
  have e : (ofI (k : Int) 4).q = qOf false k 4 := by unfold ofI; rw [q_mkD _ _ (by decide), show decide ((k : Int) < 0) = false by simp, Int.natAbs_natCast]
  rw [e]
  rcases this with rfl | rfl | rfl | rfl | rfl | rfl | rfl | rfl | rfl | rfl | rfl | rfl | rfl | rfl | rfl | rfl | rfl <;> (unfold qOf; rw [qp4]; simp only [Bool.false_eq_true, if_false]; constructor <;> grind)
theorem pick_btw {a b : DV} (ha : a.ok) (hb : b.ok) (h : a.q ≤ b.q) {n : Int} (h0 : 0 ≤ n) (h1 : n ≤ 16) (hd : (ofI n 4).den + (subD b a).den ≤ 65536) : Btw a b (pickD a b n) := by
  obtain ⟨s1, s2⟩ := sixteen h0 h1
  unfold Btw pickD
  rw [q_addD ha mulD_okc, q_mulD hd, q_subD hb ha]
  have e1 := Rat.mul_nonneg (a := (ofI n 4).q) (b := b.q - a.q) s1 (by grind)
  have e2 := Rat.mul_nonneg (a := 1 - (ofI n 4).q) (b := b.q - a.q) (by grind) (by grind)
  constructor <;> grind
end

/-! ### Icn -/
section
open Go.RowKit
attribute [local go_sem ↓] Go.wp_at_zero Go.wp_at_succ

/-- What the first two statements of pick leave. -/
def PickC (w : World) (a b : DV) (A : Option Addr) (c : Nat) (B : Option Addr) (e : Nat) (f : DV) (g : Nat) (F : Option Addr) (cf : Nat) (wx : World) : Prop :=
  Ext w wx ∧ BI wx w.heap.size a A c b B e ∧ Bx wx (w.heap.size + 1) (.bool false) (.slice none 0 0) (I 0) ∧ Bx wx g (.bool f.neg) (.slice F (len f.m) cf) (I f.den) ∧ w.heap.size + 1 < g ∧ Fr wx (w.heap.size + 1) F (len f.m) cf (dg f.m)

set_option maxRecDepth 100000 in
set_option maxHeartbeats 1000000 in
theorem pick_any {w : World} {n1 n2 : Bool} {A B A' B' : Option Addr} {k c m e c' e' : Nat} {d1 d2 : Int} {a b : DV} (ha : Iw w n1 A k c d1 n2 B m e d2 a b A' c' B' e') {i : Int} (i0 : 0 ≤ i) (i1 : i ≤ 255) :
    Calls Tryz.prog 10 #[iv n1 A k c d1 n2 B m e d2, .int .u8 i] w (DyRes (pickD a b (i % 17)) w) := by
  obtain ⟨j, hj⟩ : ∃ j, i % 17 = j := ⟨_, rfl⟩
  have j0 : 0 ≤ j := by omega
  have j1 : j ≤ 16 := by omega
  have hmk : ∀ W, Calls Tryz.prog 66 #[I j, I 4] W (DyNum (ofI j 4) W) := fun W => rmake_any j 4 W (by omega) (by omega) (by decide)
  have lf : len (ofI j 4).m ≤ 2 := Nat.le_trans (len_mono (mkD_m_le _ _ _)) (len_abs (by omega) (by omega))
  have of' : (ofI j 4).ok := mkD_ok _ _ _
  rw [hj]
  show Calls Tryz.prog 10 #[iv n1 A k c d1 n2 B m e d2, .int .u8 i] w (DyRes (addD a (mulD (ofI j 4) (subD b a))) w)
  obtain ⟨f, hf⟩ : ∃ u, ofI j 4 = u := ⟨_, rfl⟩
  rw [hf] at hmk lf of' ⊢
  obtain ⟨s, hs⟩ : ∃ u, subD b a = u := ⟨_, rfl⟩
  have ls : s.ok ∧ len s.m ≤ 1048576 + 2050 := ⟨hs ▸ subD_ok _ _, by have := lim_sub ha.wb.1.2.1 ha.wa.1.2.1; rw [hs] at this; have := ha.wa.2; have := ha.wb.2; omega⟩
  rw [hs]
  obtain ⟨p, hp⟩ : ∃ u, mulD f s = u := ⟨_, rfl⟩
  have lp : p.ok ∧ len p.m ≤ 1048576 + 2052 := ⟨hp ▸ mulD_ok _ _, by have := lim_mul f s; rw [hp] at this; omega⟩
  rw [hp]
  obtain ⟨r, hr⟩ : ∃ u, addD a p = u := ⟨_, rfl⟩
  rw [hr]
  have Es := Lib.hid hs; have Ep := Lib.hid hp; have Er := Lib.hid hr
  have Wf : Hid (f.ok ∧ len f.m ≤ 16777216) := ⟨of', by omega⟩
  have Ws : Hid (s.ok ∧ len s.m ≤ 16777216) := ⟨ls.1, by omega⟩
  have Wp : Hid (p.ok ∧ len p.m ≤ 16777216) := ⟨lp.1, by omega⟩
  have HM := Lib.hid hmk
  have HA := Lib.hid ha
  have hj' : i % 17 = j := hj
  clear hs hp hr ls lp lf of' hf hmk ha
  obtain ⟨X0, X1, XE⟩ := boxesN w n1 n2 A B k c m e d1 d2 false none 0 0 0
  have HX0 := Lib.hid X0; have HX1 := Lib.hid X1; have HXE := Lib.hid XE
  clear X0 X1 XE
  go_enter Tryz.func10, Tryz.ntmps10
  go_upto_region 2 with (first
    | (go_at_call 66; (with_reducible refine (HM.out _).mono ?_); rintro e1 w1 ⟨F, cf, rfl, hon, hx⟩; have XM := Lib.hid hx; have ON := Lib.hid hon; clear hon hx))
  have hsz := Ext.size XM.out
  simp only [World.size_alloc] at hsz
  have XF := Lib.hid (Bx.new w1 (.bool f.neg) (.slice F (len f.m) cf) (I f.den) 24)
  have XA := Lib.hid (XM.out.trans (Ext.alloc w1 (.cells #[.bool f.neg, .slice F (len f.m) cf, I f.den] 24)))
  go_cut [] (fun wx => PickC w a b A' c' B' e' f w1.heap.size F cf wx)
  case first =>
    obtain ⟨⟨k0, k1, k2, k3, k4, k5⟩, kz⟩ := HX0.out.ext XA.out
    go_wp2_with (go_at_call 67; (with_reducible refine (HA.out.nrm _ (HXE.out.trans XA.out)).mono ?_); rintro e1 w2 ⟨rfl, hx⟩; clear k0 k1 k2 k3 k4 k5 kz; have XT := Lib.hid (XA.out.trans hx); have XF2 := Lib.hid (XF.out.ext hx); have NF := Lib.hid (((On.fr ON.out).ext (Ext.alloc _ _)).ext hx); clear hx; obtain ⟨⟨k0, k1, k2, k3, k4, k5⟩, kz⟩ := HX0.out.ext XT.out)
    go_meet
    exact ⟨ext_set6 (HXE.out.trans XT.out) (Nat.le_refl _) _ _ _ _ _ _, (HX0.out.ext XT.out).set6 _ _ _ _ _ _, (HX1.out.ext XT.out).far6 (by omega) _ _ _ _ _ _, XF2.out.far6 (by omega) _ _ _ _ _ _, by omega, (NF.out.mono (by simp)).set6 (by omega) _ _ _ _ _ _⟩
  case rest =>
    clear HX0 HX1 HXE XM ON XF XA
    obtain ⟨hE, hX0, hX1, hXF, hg, hFr⟩ := hcut
    obtain ⟨g, hgg⟩ : ∃ g, w1.heap.size = g := ⟨_, rfl⟩
    rw [hgg] at hXF hg hsz
    simp only [hgg]
    clear hgg
    have HE := Lib.hid hE; have HX0 := Lib.hid hX0; have HX1 := Lib.hid hX1; have HXF := Lib.hid hXF
    have DF := Lib.hid (Dy.valid hFr.rd hFr.ok Wf.out.1 Wf.out.2)
    clear hE hX0 hX1 hXF hFr
    have HS : Hid (∀ w', Ext wc w' → w'.cell? ⟨w.heap.size, 0, none⟩ = some (.bool a.neg) ∧ w'.cell? ⟨w.heap.size, 1, none⟩ = some (.slice A' (len a.m) c') ∧ w'.cell? ⟨w.heap.size, 2, none⟩ = some (I a.den) ∧ w'.cell? ⟨w.heap.size, 3, none⟩ = some (.bool b.neg) ∧ w'.cell? ⟨w.heap.size, 4, none⟩ = some (.slice B' (len b.m) e') ∧ w'.cell? ⟨w.heap.size, 5, none⟩ = some (I b.den) ∧ w'.cell? ⟨g, 0, none⟩ = some (.bool f.neg) ∧ w'.cell? ⟨g, 1, none⟩ = some (.slice F (len f.m) cf) ∧ w'.cell? ⟨g, 2, none⟩ = some (I f.den)) := fun w' e => by
      obtain ⟨⟨i0, i1, i2, i3, i4, i5⟩, iz⟩ := HX0.out.ext e
      obtain ⟨⟨j0, j1, j2⟩, jz⟩ := HXF.out.ext e
      exact ⟨i0, i1, i2, i3, i4, i5, j0, j1, j2⟩
    have HS2 : Hid (∀ w1 u0 u1 u2, Ext wc w1 → (((w1.setCell ⟨w.heap.size + 1, 0, none⟩ u0).setCell ⟨w.heap.size + 1, 1, none⟩ u1).setCell ⟨w.heap.size + 1, 2, none⟩ u2).cell? ⟨w.heap.size, 0, none⟩ = some (.bool a.neg) ∧ (((w1.setCell ⟨w.heap.size + 1, 0, none⟩ u0).setCell ⟨w.heap.size + 1, 1, none⟩ u1).setCell ⟨w.heap.size + 1, 2, none⟩ u2).cell? ⟨w.heap.size, 1, none⟩ = some (.slice A' (len a.m) c') ∧ (((w1.setCell ⟨w.heap.size + 1, 0, none⟩ u0).setCell ⟨w.heap.size + 1, 1, none⟩ u1).setCell ⟨w.heap.size + 1, 2, none⟩ u2).cell? ⟨w.heap.size, 2, none⟩ = some (I a.den) ∧ (((w1.setCell ⟨w.heap.size + 1, 0, none⟩ u0).setCell ⟨w.heap.size + 1, 1, none⟩ u1).setCell ⟨w.heap.size + 1, 2, none⟩ u2).cell? ⟨w.heap.size, 3, none⟩ = some (.bool b.neg) ∧ (((w1.setCell ⟨w.heap.size + 1, 0, none⟩ u0).setCell ⟨w.heap.size + 1, 1, none⟩ u1).setCell ⟨w.heap.size + 1, 2, none⟩ u2).cell? ⟨w.heap.size, 4, none⟩ = some (.slice B' (len b.m) e') ∧ (((w1.setCell ⟨w.heap.size + 1, 0, none⟩ u0).setCell ⟨w.heap.size + 1, 1, none⟩ u1).setCell ⟨w.heap.size + 1, 2, none⟩ u2).cell? ⟨w.heap.size, 5, none⟩ = some (I b.den) ∧ (((w1.setCell ⟨w.heap.size + 1, 0, none⟩ u0).setCell ⟨w.heap.size + 1, 1, none⟩ u1).setCell ⟨w.heap.size + 1, 2, none⟩ u2).cell? ⟨g, 0, none⟩ = some (.bool f.neg) ∧ (((w1.setCell ⟨w.heap.size + 1, 0, none⟩ u0).setCell ⟨w.heap.size + 1, 1, none⟩ u1).setCell ⟨w.heap.size + 1, 2, none⟩ u2).cell? ⟨g, 1, none⟩ = some (.slice F (len f.m) cf) ∧ (((w1.setCell ⟨w.heap.size + 1, 0, none⟩ u0).setCell ⟨w.heap.size + 1, 1, none⟩ u1).setCell ⟨w.heap.size + 1, 2, none⟩ u2).cell? ⟨g, 2, none⟩ = some (I f.den)) := fun w1 u0 u1 u2 e => by
      obtain ⟨⟨i0, i1, i2, i3, i4, i5⟩, iz⟩ := (HX0.out.ext e).far3 (g' := w.heap.size + 1) (by omega) u0 u1 u2
      obtain ⟨⟨j0, j1, j2⟩, jz⟩ := (HXF.out.ext e).far3 (g' := w.heap.size + 1) (by omega) u0 u1 u2
      exact ⟨i0, i1, i2, i3, i4, i5, j0, j1, j2⟩
    have hlx := HX1.out.lt; have hnx := Nat.ne_of_lt hlx; have hq1 : ¬ w.heap.size + 1 = w.heap.size := (by omega); have hq2 : ¬ w.heap.size = w.heap.size + 1 := (by omega); have hq3 : ¬ w.heap.size + 1 = g := (by omega); have hq4 : ¬ g = w.heap.size + 1 := (by omega)
    go_wp2_with fail
    go_region_held3 (fun w' => w'.cell? ⟨w.heap.size, 0, none⟩ = some (.bool a.neg) ∧ w'.cell? ⟨w.heap.size, 1, none⟩ = some (.slice A' (len a.m) c') ∧ w'.cell? ⟨w.heap.size, 2, none⟩ = some (I a.den) ∧ w'.cell? ⟨w.heap.size, 3, none⟩ = some (.bool b.neg) ∧ w'.cell? ⟨w.heap.size, 4, none⟩ = some (.slice B' (len b.m) e') ∧ w'.cell? ⟨w.heap.size, 5, none⟩ = some (I b.den) ∧ w'.cell? ⟨g, 0, none⟩ = some (.bool f.neg) ∧ w'.cell? ⟨g, 1, none⟩ = some (.slice F (len f.m) cf) ∧ w'.cell? ⟨g, 2, none⟩ = some (I f.den)) (first | with_reducible assumption | exact HS.out _ (by (with_reducible (repeat (first | exact Ext.refl _ | assumption | (refine Ext.toSet ?_ (by omega)) | refine Ext.toAlloc ?_ | refine Ext.toDrew ?_ | refine Ext.toDrewN ?_ | refine Ext.trans ?_ (by assumption)))); (first | done | fail "no")) | exact HS2.out _ _ _ _ (by (with_reducible (repeat (first | exact Ext.refl _ | assumption | (refine Ext.toSet ?_ (by omega)) | refine Ext.toAlloc ?_ | refine Ext.toDrew ?_ | refine Ext.toDrewN ?_ | refine Ext.trans ?_ (by assumption)))); (first | done | fail "no")))
      (first
        | (have hg := hx2; clear hg; go_at_call 68; (with_reducible refine (radd_any (HA.out.dya.ext (HE.out.trans (by (with_reducible (repeat (first | exact Ext.refl _ | assumption | (refine Ext.toSet ?_ (by omega)) | refine Ext.toAlloc ?_ | refine Ext.toDrew ?_ | refine Ext.toDrewN ?_ | refine Ext.trans ?_ (by assumption)))); (first | done | fail "no")))) (D2.out.ext (by (with_reducible (repeat (first | exact Ext.refl _ | assumption | (refine Ext.toSet ?_ (by omega)) | refine Ext.toAlloc ?_ | refine Ext.toDrew ?_ | refine Ext.toDrewN ?_ | refine Ext.trans ?_ (by assumption)))); (first | done | fail "no")))).mono ?_); rw [Er.out]; rintro e1 w3 ⟨A3, c3, rfl, hon, hx3⟩; have O3 := Lib.hid hon; clear hon; obtain ⟨⟨r0, r1, r2⟩, rz⟩ := HX1.out.ext (w' := w3) (by (with_reducible (repeat (first | exact Ext.refl _ | assumption | (refine Ext.toSet ?_ (by omega)) | refine Ext.toAlloc ?_ | refine Ext.toDrew ?_ | refine Ext.toDrewN ?_ | refine Ext.trans ?_ (by assumption)))); (first | done | fail "no")))
        | (have hg := hx1; clear hg; go_at_call 69; (with_reducible refine (rmul_any (DF.out.ext (by (with_reducible (repeat (first | exact Ext.refl _ | assumption | (refine Ext.toSet ?_ (by omega)) | refine Ext.toAlloc ?_ | refine Ext.toDrew ?_ | refine Ext.toDrewN ?_ | refine Ext.trans ?_ (by assumption)))); (first | done | fail "no"))) (D1.out.ext (by (with_reducible (repeat (first | exact Ext.refl _ | assumption | (refine Ext.toSet ?_ (by omega)) | refine Ext.toAlloc ?_ | refine Ext.toDrew ?_ | refine Ext.toDrewN ?_ | refine Ext.trans ?_ (by assumption)))); (first | done | fail "no")))).mono ?_); rw [Ep.out]; rintro e1 w2 ⟨A2, c2, rfl, hon, hx2⟩; have D2 := Lib.hid (Dy.of_on hon Wp.out.1 Wp.out.2 (Ext.refl _)); clear hon)
        | (go_at_call 70; (with_reducible refine (rsub_any (HA.out.dyb.ext (HE.out.trans (by (with_reducible (repeat (first | exact Ext.refl _ | assumption | (refine Ext.toSet ?_ (by omega)) | refine Ext.toAlloc ?_ | refine Ext.toDrew ?_ | refine Ext.toDrewN ?_ | refine Ext.trans ?_ (by assumption)))); (first | done | fail "no")))) (HA.out.dya.ext (HE.out.trans (by (with_reducible (repeat (first | exact Ext.refl _ | assumption | (refine Ext.toSet ?_ (by omega)) | refine Ext.toAlloc ?_ | refine Ext.toDrew ?_ | refine Ext.toDrewN ?_ | refine Ext.trans ?_ (by assumption)))); (first | done | fail "no"))))).mono ?_); rw [Es.out]; rintro e1 w1 ⟨A1, c1, rfl, hon, hx1⟩; have D1 := Lib.hid (Dy.of_on hon Ws.out.1 Ws.out.2 (Ext.refl _)); clear hon))
    all_goals
      have HF := Lib.hid (HE.out.trans (show Ext wc w3 from (by (with_reducible (repeat (first | exact Ext.refl _ | assumption | (refine Ext.toSet ?_ (by omega)) | refine Ext.toAlloc ?_ | refine Ext.toDrew ?_ | refine Ext.toDrewN ?_ | refine Ext.trans ?_ (by assumption)))); (first | done | fail "no"))))
      have hz2 := Ext.size (show Ext wc w2 from (by (with_reducible (repeat (first | exact Ext.refl _ | assumption | (refine Ext.toSet ?_ (by omega)) | refine Ext.toAlloc ?_ | refine Ext.toDrew ?_ | refine Ext.toDrewN ?_ | refine Ext.trans ?_ (by assumption)))); (first | done | fail "no")))
      go_wp2_with fail
      exact bodyPost_ret (v := dv r.neg A3 (len r.m) c3 r.den) (by simp [results, Tryz.results10, go_sem, r0, r1, r2]) rfl (DyRes.end3 rfl O3.out HF.out (by (try simp); omega) (by omega) (by (try simp); omega))
end

/-! ### Icq -/
section
open Go.RowKit

/-- An interval in order that contains a number, all of them short. -/
def Tri (L H N : DV) : Prop := End L ∧ End H ∧ L.q ≤ H.q ∧ N.ok ∧ len N.m ≤ 1048576 ∧ conB L H N = true
theorem con_of {a b x : DV} (ha : a.ok) (hb : b.ok) (hx : x.ok) (h : Btw a b x) : conB a b x = true := by
  unfold conB; rw [Bool.and_eq_true, decide_eq_true_eq, decide_eq_true_eq, cmp_le ha hx, cmp_le hx hb]; exact h
theorem con_zero {a b : DV} (ha : a.ok) (hb : b.ok) : conB a b DV.zero = true ↔ (a.q ≤ 0 ∧ 0 ≤ b.q) := by
  unfold conB; rw [Bool.and_eq_true, decide_eq_true_eq, decide_eq_true_eq, cmp_le ha DV.zero_ok, cmp_le DV.zero_ok hb, show DV.zero.q = 0 from qOf_zero _ _]
theorem tri_of {L H N : DV} (h1 : L.ok) (h2 : len L.m ≤ 1048576) (h3 : H.ok) (h4 : len H.m ≤ 1048576) (h5 : N.ok) (h6 : len N.m ≤ 1048576) (h : Btw L H N) : Tri L H N :=
  ⟨⟨h1, h2⟩, ⟨h3, h4⟩, Rat.le_trans h.1 h.2, h5, h6, con_of h1 h3 h5 h⟩
abbrev S1 (d : DV) : Prop := len d.m ≤ 1048576
theorem den_addD {a b : DV} (ha : a.den ≤ 65536) (hb : b.den ≤ 65536) : (addD a b).den ≤ max a.den b.den := by
  unfold addD; (repeat' split) <;> exact den_le _ _ _ (by omega)
theorem den_subD {a b : DV} (ha : a.den ≤ 65536) (hb : b.den ≤ 65536) : (subD a b).den ≤ max a.den b.den := by
  have h1 := den_neg hb
  have := den_addD (a := a) (b := negD b) ha (by omega)
  unfold subD; omega
theorem len_ofI {j : Int} (j0 : 0 ≤ j) (j1 : j ≤ 16) : len (ofI j 4).m ≤ 2 := Nat.le_trans (len_mono (mkD_m_le _ _ _)) (len_abs (by omega) (by omega))
/-- A number picked from a short interval is short, too. -/
theorem pick_small {a b : DV} (ha : a.ok) (hb : b.ok) (la : len a.m ≤ 8) (lb : len b.m ≤ 8) (da : a.den ≤ 200) (db : b.den ≤ 200) {j : Int} (j0 : 0 ≤ j) (j1 : j ≤ 16) (h : a.q ≤ b.q) :
    (pickD a b j).ok ∧ len (pickD a b j).m ≤ 5000 ∧ (pickD a b j).den ≤ 204 ∧ Btw a b (pickD a b j) := by
  have d1 := den_subD (a := b) (b := a) (by omega) (by omega)
  have d2 : (ofI j 4).den ≤ 4 := den_le _ _ _ (by decide)
  have d3 := den_mul (a := ofI j 4) (b := subD b a) (by omega)
  have d4 := den_addD (a := a) (b := mulD (ofI j 4) (subD b a)) (by omega) (by omega)
  have l1 := lim_sub (a := b) (b := a) (by omega) (by omega)
  have l2 := lim_mul (ofI j 4) (subD b a)
  have l3 := len_ofI j0 j1
  have l4 := lim_add (a := a) (b := mulD (ofI j 4) (subD b a)) (by omega) (by omega)
  refine ⟨addD_ok _ _, ?_, ?_, pick_btw ha hb h j0 j1 (by omega)⟩
  · unfold pickD; omega
  · unfold pickD; omega
theorem len_absD (a : DV) : len (absD a).m ≤ len a.m := len_mono (mkD_m_le _ _ _)
/-- Two short intervals with a number each. -/
structure Cx (a b p x y q : DV) : Prop where
  ha : a.ok
  hb : b.ok
  hp : p.ok
  hx : x.ok
  hy : y.ok
  hq : q.ok
  la : len a.m ≤ 8
  lb : len b.m ≤ 8
  lx : len x.m ≤ 8
  ly : len y.m ≤ 8
  lp : len p.m ≤ 5000
  lq : len q.m ≤ 5000
  da : a.den ≤ 200
  db : b.den ≤ 200
  dx : x.den ≤ 200
  dy : y.den ≤ 200
  dp : p.den ≤ 204
  dq : q.den ≤ 204
  h : Btw a b p
  k : Btw x y q
section
variable {a b p x y q : DV}
theorem t_con (z : Cx a b p x y q) : Tri a b p := by
  obtain ⟨ha, hb, hp, hx, hy, hq, la, lb, lx, ly, lp, lq, da, db, dx, dy, dp, dq, h, k⟩ := z
  exact tri_of ha (by omega) hb (by omega) hp (by omega) h
theorem t_neg (z : Cx a b p x y q) : Tri (lo2 (negD a) (negD b)) (hi2 (negD a) (negD b)) (negD p) := by
  obtain ⟨ha, hb, hp, hx, hy, hq, la, lb, lx, ly, lp, lq, da, db, dx, dy, dp, dq, h, k⟩ := z
  have n1 := lim_neg a; have n2 := lim_neg b; have n3 := lim_neg p
  have s1 : S1 (negD a) := by show _ ≤ _; omega
  have s2 : S1 (negD b) := by show _ ≤ _; omega
  exact tri_of (lo2_ok (negD_ok _) (negD_ok _)) (sz_min (P := S1) s1 s2) (hi2_ok (negD_ok _) (negD_ok _)) (sz_max (P := S1) s1 s2) (negD_ok _) (by omega) (c_neg ha hb hp h)
theorem t_abs (z : Cx a b p x y q) : Tri (absL a b) (absH a b) (absD p) := by
  obtain ⟨ha, hb, hp, hx, hy, hq, la, lb, lx, ly, lp, lq, da, db, dx, dy, dp, dq, h, k⟩ := z
  have n1 := len_absD a; have n2 := len_absD b; have n3 := len_absD p
  have s1 : S1 (absD a) := by show _ ≤ _; omega
  have s2 : S1 (absD b) := by show _ ≤ _; omega
  have s3 : S1 DV.zero := by show len _ ≤ _; rw [zero_len]; decide
  unfold absL absH
  by_cases hz : conB a b DV.zero = true
  · rw [if_pos hz, if_pos hz]
    exact tri_of (lo3_ok absD_okc absD_okc DV.zero_ok) (sz_min (P := S1) (sz_min (P := S1) s1 s2) s3) (hi3_ok absD_okc absD_okc DV.zero_ok) (sz_max (P := S1) (sz_max (P := S1) s1 s2) s3) absD_okc (by omega) (c_abs3 ha hb hp h)
  · rw [if_neg hz, if_neg hz]
    exact tri_of (lo2_ok absD_okc absD_okc) (sz_min (P := S1) s1 s2) (hi2_ok absD_okc absD_okc) (sz_max (P := S1) s1 s2) absD_okc (by omega) (c_abs2 ha hb hp h (fun hh => hz ((con_zero ha hb).2 hh)))
theorem t_add (z : Cx a b p x y q) : Tri (lo2 (addD a x) (addD b y)) (hi2 (addD a x) (addD b y)) (addD p q) := by
  obtain ⟨ha, hb, hp, hx, hy, hq, la, lb, lx, ly, lp, lq, da, db, dx, dy, dp, dq, h, k⟩ := z
  have n1 := lim_add (a := a) (b := x) (by omega) (by omega); have n2 := lim_add (a := b) (b := y) (by omega) (by omega); have n3 := lim_add (a := p) (b := q) (by omega) (by omega)
  have s1 : S1 (addD a x) := by show _ ≤ _; omega
  have s2 : S1 (addD b y) := by show _ ≤ _; omega
  exact tri_of (lo2_ok (addD_ok _ _) (addD_ok _ _)) (sz_min (P := S1) s1 s2) (hi2_ok (addD_ok _ _) (addD_ok _ _)) (sz_max (P := S1) s1 s2) (addD_ok _ _) (by omega) (c_add ha hb hp h hx hy hq k)
theorem t_sub (z : Cx a b p x y q) : Tri (lo2 (addD a (lo2 (negD x) (negD y))) (addD b (hi2 (negD x) (negD y)))) (hi2 (addD a (lo2 (negD x) (negD y))) (addD b (hi2 (negD x) (negD y)))) (subD p q) := by
  obtain ⟨ha, hb, hp, hx, hy, hq, la, lb, lx, ly, lp, lq, da, db, dx, dy, dp, dq, h, k⟩ := z
  have m1 := lim_neg x; have m2 := lim_neg y; have m3 := den_neg (a := x) (by omega); have m4 := den_neg (a := y) (by omega)
  have u1 := sz_min (P := fun d => len d.m ≤ 8 ∧ d.den ≤ 200) (a := negD x) (b := negD y) ⟨by omega, by omega⟩ ⟨by omega, by omega⟩
  have u2 := sz_max (P := fun d => len d.m ≤ 8 ∧ d.den ≤ 200) (a := negD x) (b := negD y) ⟨by omega, by omega⟩ ⟨by omega, by omega⟩
  obtain ⟨v1, v2⟩ := u1; obtain ⟨v3, v4⟩ := u2
  have n1 := lim_add (a := a) (b := minD (negD x) (negD y)) (by omega) (by omega); have n2 := lim_add (a := b) (b := maxD (negD x) (negD y)) (by omega) (by omega); have n3 := lim_sub (a := p) (b := q) (by omega) (by omega)
  have s1 : S1 (addD a (lo2 (negD x) (negD y))) := by show len (addD a (minD (negD x) (negD y))).m ≤ _; omega
  have s2 : S1 (addD b (hi2 (negD x) (negD y))) := by show len (addD b (maxD (negD x) (negD y))).m ≤ _; omega
  exact tri_of (lo2_ok (addD_ok _ _) (addD_ok _ _)) (sz_min (P := S1) s1 s2) (hi2_ok (addD_ok _ _) (addD_ok _ _)) (sz_max (P := S1) s1 s2) (subD_ok _ _) (by omega) (c_sub ha hb hp h hx hy hq k)
theorem t_mul (z : Cx a b p x y q) : Tri (lo4 (lo2 (mulD a x) (mulD b x)) (hi2 (mulD a x) (mulD b x)) (lo2 (mulD a y) (mulD b y)) (hi2 (mulD a y) (mulD b y))) (hi4 (lo2 (mulD a x) (mulD b x)) (hi2 (mulD a x) (mulD b x)) (lo2 (mulD a y) (mulD b y)) (hi2 (mulD a y) (mulD b y))) (mulD p q) := by
  obtain ⟨ha, hb, hp, hx, hy, hq, la, lb, lx, ly, lp, lq, da, db, dx, dy, dp, dq, h, k⟩ := z
  have n1 := lim_mul a x; have n2 := lim_mul b x; have n3 := lim_mul a y; have n4 := lim_mul b y; have n5 := lim_mul p q
  have s1 : S1 (mulD a x) := by show _ ≤ _; omega
  have s2 : S1 (mulD b x) := by show _ ≤ _; omega
  have s3 : S1 (mulD a y) := by show _ ≤ _; omega
  have s4 : S1 (mulD b y) := by show _ ≤ _; omega
  have o1 : (lo2 (mulD a x) (mulD b x)).ok := lo2_ok mulD_okc mulD_okc
  have o2 : (hi2 (mulD a x) (mulD b x)).ok := hi2_ok mulD_okc mulD_okc
  have o3 : (lo2 (mulD a y) (mulD b y)).ok := lo2_ok mulD_okc mulD_okc
  have o4 : (hi2 (mulD a y) (mulD b y)).ok := hi2_ok mulD_okc mulD_okc
  have r1 : S1 (lo2 (mulD a x) (mulD b x)) := sz_min (P := S1) s1 s2
  have r2 : S1 (hi2 (mulD a x) (mulD b x)) := sz_max (P := S1) s1 s2
  have r3 : S1 (lo2 (mulD a y) (mulD b y)) := sz_min (P := S1) s3 s4
  have r4 : S1 (hi2 (mulD a y) (mulD b y)) := sz_max (P := S1) s3 s4
  exact tri_of (lo4_ok o1 o2 o3 o4) (sz_min (P := S1) (sz_min (P := S1) (sz_min (P := S1) r1 r2) r3) r4) (hi4_ok o1 o2 o3 o4) (sz_max (P := S1) (sz_max (P := S1) (sz_max (P := S1) r1 r2) r3) r4) mulD_okc (by omega) (c_mul h k (by omega) (by omega) (by omega) (by omega) (by omega))
theorem t_min (z : Cx a b p x y q) : Tri (lo2 (minD a x) (minD b y)) (hi2 (minD a x) (minD b y)) (minD p q) := by
  obtain ⟨ha, hb, hp, hx, hy, hq, la, lb, lx, ly, lp, lq, da, db, dx, dy, dp, dq, h, k⟩ := z
  have s1 : S1 (minD a x) := sz_min (P := S1) (by show _ ≤ _; omega) (by show _ ≤ _; omega)
  have s2 : S1 (minD b y) := sz_min (P := S1) (by show _ ≤ _; omega) (by show _ ≤ _; omega)
  exact tri_of (lo2_ok (minD_ok ha hx) (minD_ok hb hy)) (sz_min (P := S1) s1 s2) (hi2_ok (minD_ok ha hx) (minD_ok hb hy)) (sz_max (P := S1) s1 s2) (minD_ok hp hq) (sz_min (P := S1) (by show _ ≤ _; omega) (by show _ ≤ _; omega)) (c_min ha hb hp h hx hy hq k)
theorem t_max (z : Cx a b p x y q) : Tri (lo2 (maxD a x) (maxD b y)) (hi2 (maxD a x) (maxD b y)) (maxD p q) := by
  obtain ⟨ha, hb, hp, hx, hy, hq, la, lb, lx, ly, lp, lq, da, db, dx, dy, dp, dq, h, k⟩ := z
  have s1 : S1 (maxD a x) := sz_max (P := S1) (by show _ ≤ _; omega) (by show _ ≤ _; omega)
  have s2 : S1 (maxD b y) := sz_max (P := S1) (by show _ ≤ _; omega) (by show _ ≤ _; omega)
  exact tri_of (lo2_ok (maxD_ok ha hx) (maxD_ok hb hy)) (sz_min (P := S1) s1 s2) (hi2_ok (maxD_ok ha hx) (maxD_ok hb hy)) (sz_max (P := S1) s1 s2) (maxD_ok hp hq) (sz_max (P := S1) (by show _ ≤ _; omega) (by show _ ≤ _; omega)) (c_max ha hb hp h hx hy hq k)
theorem t_hul (z : Cx a b p x y q) : Tri (lo4 a b x y) (hi4 a b x y) p ∧ Tri (lo4 a b x y) (hi4 a b x y) q := by
  obtain ⟨ha, hb, hp, hx, hy, hq, la, lb, lx, ly, lp, lq, da, db, dx, dy, dp, dq, h, k⟩ := z
  have s1 : S1 a := by show _ ≤ _; omega
  have s2 : S1 b := by show _ ≤ _; omega
  have s3 : S1 x := by show _ ≤ _; omega
  have s4 : S1 y := by show _ ≤ _; omega
  have l1 : S1 (lo4 a b x y) := sz_min (P := S1) (sz_min (P := S1) (sz_min (P := S1) s1 s2) s3) s4
  have l2 : S1 (hi4 a b x y) := sz_max (P := S1) (sz_max (P := S1) (sz_max (P := S1) s1 s2) s3) s4
  obtain ⟨c1, c2⟩ := c_hul ha hb h hx hy k
  exact ⟨tri_of (lo4_ok ha hb hx hy) l1 (hi4_ok ha hb hx hy) l2 hp (by omega) c1, tri_of (lo4_ok ha hb hx hy) l1 (hi4_ok ha hb hx hy) l2 hq (by omega) c2⟩
theorem t_scl (z : Cx a b p x y q) : Tri (lo2 (mulD a q) (mulD b q)) (hi2 (mulD a q) (mulD b q)) (mulD p q) := by
  obtain ⟨ha, hb, hp, hx, hy, hq, la, lb, lx, ly, lp, lq, da, db, dx, dy, dp, dq, h, k⟩ := z
  have n1 := lim_mul a q; have n2 := lim_mul b q; have n5 := lim_mul p q
  have s1 : S1 (mulD a q) := by show _ ≤ _; omega
  have s2 : S1 (mulD b q) := by show _ ≤ _; omega
  exact tri_of (lo2_ok mulD_okc mulD_okc) (sz_min (P := S1) s1 s2) (hi2_ok mulD_okc mulD_okc) (sz_max (P := S1) s1 s2) mulD_okc (by omega) (c_scl h (by omega) (by omega) (by omega))
theorem t_mag (z : Cx a b p x y q) : cmpD (absD p) (maxD (absD a) (absD b)) ≤ 0 ∧ (absD p).ok ∧ len (absD p).m ≤ 1048576 ∧ (maxD (absD a) (absD b)).ok ∧ len (maxD (absD a) (absD b)).m ≤ 1048576 := by
  obtain ⟨ha, hb, hp, hx, hy, hq, la, lb, lx, ly, lp, lq, da, db, dx, dy, dp, dq, h, k⟩ := z
  have n1 := len_absD a; have n2 := len_absD b; have n3 := len_absD p
  have s1 : S1 (absD a) := by show _ ≤ _; omega
  have s2 : S1 (absD b) := by show _ ≤ _; omega
  exact ⟨(cmp_le absD_okc (maxD_ok absD_okc absD_okc)).2 (c_mag ha hb hp h), absD_okc, by omega, maxD_ok absD_okc absD_okc, sz_max (P := S1) s1 s2⟩
end
end

end Go.Proofs.YtbpcekibdnpkhaaGreatDoor
