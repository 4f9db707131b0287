/- The law IntervalComputes: its mathematics, and where it says nothing (written by gicl.py). -/
import Derived.Test.YtlnphamgmicniaaGreatDoorIrop
import Derived.Test.YtlnphamgmicniaaGreatDoorIvns
import Derived.Test.YtlnphamgmicniaaGreatDoorIvmu
import Derived.Test.YtlnphamgmicniaaGreatDoorIvab
import Derived.Test.YtlnphamgmicniaaGreatDoorIvmx
import Derived.Test.YtlnphamgmicniaaGreatDoorIvtx
import Derived.Test.YtlnphamgmicniaaGreatDoorIvin
import Derived.Test.YtlnphamgmicniaaGreatDoorIvhu
import Derived.Test.YtlnphamgmicniaaGreatDoorIvf
import Derived.Test.YtlnphamgmicniaaGreatDoorIvw
import Derived.Deep.RegionHeld3
import Derived.Deep.DeepCutAuto
namespace Go.Proofs.YtlnphamgmicniaaGreatDoor

/-! ### Icla -/
section
open Go.RowKit

theorem lo2_id {u v : DV} (hu : u.ok) (hv : v.ok) (h : u.q ≤ v.q) : lo2 u v = u := DV.uniq (lo2_ok hu hv) hu (by show (minD u v).q = _; rw [q_min hu hv]; unfold mnQ; grind)
theorem hi2_id {u v : DV} (hu : u.ok) (hv : v.ok) (h : u.q ≤ v.q) : hi2 u v = v := DV.uniq (hi2_ok hu hv) hv (by show (maxD u v).q = _; rw [q_max hu hv]; unfold mxQ; grind)
theorem min_mono {a b x y : DV} (ha : a.ok) (hb : b.ok) (hx : x.ok) (hy : y.ok) (h : a.q ≤ b.q) (k : x.q ≤ y.q) : (minD a x).q ≤ (minD b y).q := by rw [q_min ha hx, q_min hb hy]; unfold mnQ; grind
theorem max_mono {a b x y : DV} (ha : a.ok) (hb : b.ok) (hx : x.ok) (hy : y.ok) (h : a.q ≤ b.q) (k : x.q ≤ y.q) : (maxD a x).q ≤ (maxD b y).q := by rw [q_max ha hx, q_max hb hy]; unfold mxQ; grind
theorem mul_lo {p q r s : DV} (hp : p.ok) (hq : q.ok) (hr : r.ok) (hs : s.ok) : lo4 (lo2 p q) (hi2 p q) (lo2 r s) (hi2 r s) = lo4 p r q s := by
  have m1 := minD_ok hp hq; have m2 := maxD_ok hp hq; have m3 := minD_ok hr hs; have m4 := maxD_ok hr hs
  have m5 := minD_ok m1 m2; have m6 := minD_ok m5 m3; have m7 := minD_ok hp hr; have m8 := minD_ok m7 hq
  refine DV.uniq (minD_ok m6 m4) (minD_ok m8 hs) ?_
  show (minD (minD (minD (minD p q) (maxD p q)) (minD r s)) (maxD r s)).q = (minD (minD (minD p r) q) s).q
  rw [q_min m6 m4, q_min m5 m3, q_min m1 m2, q_min hp hq, q_max hp hq, q_min hr hs, q_max hr hs, q_min m8 hs, q_min m7 hq, q_min hp hr]
  unfold mnQ mxQ; grind
theorem mul_hi {p q r s : DV} (hp : p.ok) (hq : q.ok) (hr : r.ok) (hs : s.ok) : hi4 (lo2 p q) (hi2 p q) (lo2 r s) (hi2 r s) = hi4 p r q s := by
  have m1 := minD_ok hp hq; have m2 := maxD_ok hp hq; have m3 := minD_ok hr hs; have m4 := maxD_ok hr hs
  have m5 := maxD_ok m1 m2; have m6 := maxD_ok m5 m3; have m7 := maxD_ok hp hr; have m8 := maxD_ok m7 hq
  refine DV.uniq (maxD_ok m6 m4) (maxD_ok m8 hs) ?_
  show (maxD (maxD (maxD (minD p q) (maxD p q)) (minD r s)) (maxD r s)).q = (maxD (maxD (maxD p r) q) s).q
  rw [q_max m6 m4, q_max m5 m3, q_max m1 m2, q_min hp hq, q_max hp hq, q_min hr hs, q_max hr hs, q_max m8 hs, q_max m7 hq, q_max hp hr]
  unfold mnQ mxQ; grind
theorem abs_ends {a b : DV} (ha : a.ok) (hb : b.ok) : (conB a b DV.zero = true → absL a b = DV.zero ∧ absH a b = hi2 (absD a) (absD b)) ∧ (conB a b DV.zero = false → absL a b = lo2 (absD a) (absD b) ∧ absH a b = hi2 (absD a) (absD b)) := by
  have oa := absD_ok a; have ob := absD_ok b
  have m1 := minD_ok oa ob; have m2 := maxD_ok oa ob
  constructor
  · intro h
    unfold absL absH
    rw [if_pos h, if_pos h]
    refine ⟨DV.uniq (minD_ok m1 DV.zero_ok) DV.zero_ok ?_, DV.uniq (maxD_ok m2 DV.zero_ok) m2 ?_⟩
    · show (minD (minD (absD a) (absD b)) DV.zero).q = DV.zero.q
      rw [q_min m1 DV.zero_ok, q_min oa ob, q_absD ha, q_absD hb, q_zero]
      unfold mnQ mxQ; grind
    · show (maxD (maxD (absD a) (absD b)) DV.zero).q = (maxD (absD a) (absD b)).q
      rw [q_max m2 DV.zero_ok, q_max oa ob, q_absD ha, q_absD hb, q_zero]
      unfold mxQ; grind
  · intro h
    unfold absL absH
    rw [if_neg (by rw [h]; decide), if_neg (by rw [h]; decide)]
    exact ⟨rfl, rfl⟩
/-- An interval whose words can be read. -/
def RdI (w : World) (u v : DV) (A : Option Addr) (_ : Nat) (B : Option Addr) (_ : Nat) : Prop := Rd w A (len u.m) (dg u.m) ∧ Rd w B (len v.m) (dg v.m)
theorem RdI.ext {w w' : World} {u v : DV} {A B : Option Addr} {c e : Nat} (h : RdI w u v A c B e) (x : Ext w w') : RdI w' u v A c B e := ⟨h.1.ext x, h.2.ext x⟩
theorem same_rd {w : World} {u v : DV} {A B X Y : Option Addr} {c e k l : Nat} (h : RdI w u v A c B e) (h' : RdI w u v X k Y l) (lu : len u.m ≤ 1073741824) (lv : len v.m ≤ 1073741824) :
    Calls Tryz.prog 15 #[ivd u A c v B e, ivd u X k v Y l] w fun e' w' => e' = .returned (.bool true) ∧ Ext w w' := isame_true h.1 h.2 h'.1 h'.2 lu lv
/-- A function returns the interval from L to H. -/
abbrev IvF (f : FuncId) (args : Array Value) (L H : DV) (w : World) : Prop := Calls Tryz.prog f args w fun e w' => ∃ P f Q g, e = .returned (ivd L P f H Q g) ∧ RdI w' L H P f Q g ∧ Ext w w'
theorem ivf {f : FuncId} {args : Array Value} {L H : DV} {w : World} (h : Calls Tryz.prog f args w (IvRes L H w)) : IvF f args L H w := h.mono fun e w' hh => by
  obtain ⟨P, f, Q, g, he, fa, fb, hx⟩ := hh
  exact ⟨P, f, Q, g, he, ⟨fa.rd, fb.rd⟩, hx⟩
/-- A function returns the number d. -/
abbrev DyF (f : FuncId) (args : Array Value) (d : DV) (w : World) : Prop := Calls Tryz.prog f args w fun e w' => ∃ P f, e = .returned (dv d.neg P (len d.m) f d.den) ∧ Rd w' P (len d.m) (dg d.m) ∧ Ext w w'
theorem dyf {f : FuncId} {args : Array Value} {d : DV} {w : World} (h : Calls Tryz.prog f args w (DyRes d w)) : DyF f args d w := h.mono fun e w' hh => by
  obtain ⟨P, f, he, ho, hx⟩ := hh
  exact ⟨P, f, he, ho.rd, hx⟩

theorem ivs2 (w : World) (g : Nat) (hg : w.heap.size = g) {n1 n2 n3 n4 : Bool} {A B X Y : Option Addr} {k1 c1 k2 c2 k3 c3 k4 c4 : Nat} {d1 d2 d3 d4 : Int} (t : TypeId) :
    Ivs (w.alloc (.cells #[.bool n1, .slice A k1 c1, I d1, .bool n2, .slice B k2 c2, I d2, .bool n3, .slice X k3 c3, I d3, .bool n4, .slice Y k4 c4, I d4] t)) g 2 (fun i => if i = 0 then n1 else n3) (fun i => if i = 0 then A else X) (fun i => if i = 0 then k1 else k3) (fun i => if i = 0 then c1 else c3) (fun i => if i = 0 then d1 else d3) (fun i => if i = 0 then n2 else n4) (fun i => if i = 0 then B else Y) (fun i => if i = 0 then k2 else k4) (fun i => if i = 0 then c2 else c4) (fun i => if i = 0 then d2 else d4) := by
  subst hg
  intro i hi
  have : i = 0 ∨ i = 1 := by omega
  rcases this with rfl | rfl
  · exact ⟨by go_simp, by go_simp, by go_simp, by go_simp, by go_simp, by go_simp⟩
  · exact ⟨by go_simp, by go_simp, by go_simp, by go_simp, by go_simp, by go_simp⟩



set_option maxRecDepth 100000 in
set_option maxHeartbeats 1000000 in
theorem comp_off {w : World} {n1 n2 n3 n4 : Bool} {A B X Y : Option Addr} {k1 c1 k2 c2 k3 c3 k4 c4 : Nat} {d1 d2 d3 d4 : Int} (hT : Tabs w) (hP : TabP w) (h : ¬ (∀ i, i < 2 → shOk (if i = 0 then k1 else k3) (if i = 0 then d1 else d3) ∧ shOk (if i = 0 then k2 else k4) (if i = 0 then d2 else d4))) :
    Calls Tryz.prog 4 #[iv n1 A k1 c1 d1 n2 B k2 c2 d2, iv n3 X k3 c3 d3 n4 Y k4 c4 d4] w fun e w' => e = .returned (.bool true) ∧ Ext w w' := by
  have HT := Lib.hid hT; have HP := Lib.hid hP; clear hT hP
  have HFW : Hid (false = true ↔ (∀ i, i < 2 → shOk (if i = 0 then k1 else k3) (if i = 0 then d1 else d3) ∧ shOk (if i = 0 then k2 else k4) (if i = 0 then d2 else d4))) := ⟨fun h => (by cases h), fun hh => absurd hh h⟩
  clear h
  go_enter Tryz.func4, Tryz.ntmps4
  go_wp2_with fail
  have HN := Lib.hid (ivs2 ((w.alloc (.cells #[.bool n1, .slice A k1 c1, I d1, .bool n2, .slice B k2 c2, I d2] 37)).alloc (.cells #[.bool n3, .slice X k3 c3, I d3, .bool n4, .slice Y k4 c4, I d4] 37)) (w.heap.size + 1 + 1) (by simp) (n1 := n1) (n2 := n2) (n3 := n3) (n4 := n4) (A := A) (B := B) (X := X) (Y := Y) (k1 := k1) (c1 := c1) (k2 := k2) (c2 := c2) (k3 := k3) (c3 := c3) (k4 := k4) (c4 := c4) (d1 := d1) (d2 := d2) (d3 := d3) (d4 := d4) 37)
  with_reducible refine (ifew_any HN.out (by simp) (by omega) HFW.out).mono ?_
  rintro e wf ⟨rfl, hx⟩
  have HEF : Hid (Ext w wf) := (((Ext.alloc _ _).trans (Ext.alloc _ _)).trans (Ext.alloc _ _)).trans hx
  clear hx HN HFW
  go_wp2_with fail
  refine (iawake_any _ (HT.out.ext HEF.out) (HP.out.ext HEF.out)).mono ?_
  rintro e w0 ⟨rfl, hx⟩
  have HEW := Lib.hid (HEF.out.trans hx)
  clear hx
  go_wp2_with fail
  go_ret
  exact ⟨rfl, HEW.out⟩
end

/-! ### Icl -/
section
open Go.RowKit
attribute [local go_sem ↓] Go.wp_at_zero Go.wp_at_succ

set_option maxRecDepth 100000 in
set_option maxHeartbeats 80000000 in
theorem comp_true {w : World} {n1 n2 n3 n4 : Bool} {A B X Y A' B' X' Y' : Option Addr} {k1 c1 k2 c2 k3 c3 k4 c4 e1 e2 e3 e4 : Nat} {d1 d2 d3 d4 : Int} {a b x y : DV} (ha : Iw w n1 A k1 c1 d1 n2 B k2 c2 d2 a b A' e1 B' e2) (hb : Iw w n3 X k3 c3 d3 n4 Y k4 c4 d4 x y X' e3 Y' e4) (hT : Tabs w) (hP : TabP w) (h : (∀ i, i < 2 → shOk (if i = 0 then k1 else k3) (if i = 0 then d1 else d3) ∧ shOk (if i = 0 then k2 else k4) (if i = 0 then d2 else d4))) (la : len a.m ≤ 8) (lb : len b.m ≤ 8) (lx : len x.m ≤ 8) (ly : len y.m ≤ 8) :
    Calls Tryz.prog 4 #[iv n1 A k1 c1 d1 n2 B k2 c2 d2, iv n3 X k3 c3 d3 n4 Y k4 c4 d4] w fun e w' => e = .returned (.bool true) ∧ Ext w w' := by
  have HT := Lib.hid hT; have HP := Lib.hid hP
  have HFW := Lib.hid h
  have nx : End (negD x) := ⟨negD_ok _, by have := lim_neg x; omega⟩
  have ny : End (negD y) := ⟨negD_ok _, by have := lim_neg y; omega⟩
  have nl : End (lo2 (negD x) (negD y)) := sz_min (P := End) nx ny
  have nh : End (hi2 (negD x) (negD y)) := sz_max (P := End) nx ny
  have up : ∀ {d : DV}, Bd d → len d.m ≤ 1073741824 := fun h => Nat.le_trans h.2 (by decide)
  have bal : Bd (absL a b) ∧ Bd (absH a b) := by
    cases hc : conB a b DV.zero with
    | true => rw [((abs_ends ha.wa.1 ha.wb.1).1 hc).1, ((abs_ends ha.wa.1 ha.wb.1).1 hc).2]; exact ⟨⟨DV.zero_ok, by rw [zero_len]; decide⟩, sz_max (P := Bd) (bd_abs ha.wa) (bd_abs ha.wb)⟩
    | false => rw [((abs_ends ha.wa.1 ha.wb.1).2 hc).1, ((abs_ends ha.wa.1 ha.wb.1).2 hc).2]; exact ⟨sz_min (P := Bd) (bd_abs ha.wa) (bd_abs ha.wb), sz_max (P := Bd) (bd_abs ha.wa) (bd_abs ha.wb)⟩
  obtain ⟨L0, hL0⟩ : ∃ d, lo2 (negD a) (negD b) = d := ⟨_, rfl⟩; obtain ⟨H0, hH0⟩ : ∃ d, hi2 (negD a) (negD b) = d := ⟨_, rfl⟩
  have CC0 : Hid (∀ w', Ext w w' → IvF 16 #[iv n1 A k1 c1 d1 n2 B k2 c2 d2] L0 H0 w') := by rw [← hL0, ← hH0]; exact fun w' z => ivf (ineg_any (ha.ext z) (hT.ext z))
  have CR0 : Hid (∀ w', Ext w w' → IvF 17 #[iv n1 A k1 c1 d1 n2 B k2 c2 d2] L0 H0 w') := by rw [← hL0, ← hH0]; exact fun w' z => ivf (rineg_any (ha.ext z))
  have LE0 : Hid (len L0.m ≤ 1073741824 ∧ len H0.m ≤ 1073741824) := by rw [← hL0, ← hH0]; exact ⟨up (sz_min (P := Bd) (bd_neg ha.wa) (bd_neg ha.wb)), up (sz_max (P := Bd) (bd_neg ha.wa) (bd_neg ha.wb))⟩
  clear hL0 hH0
  obtain ⟨L1, hL1⟩ : ∃ d, absL a b = d := ⟨_, rfl⟩; obtain ⟨H1, hH1⟩ : ∃ d, absH a b = d := ⟨_, rfl⟩
  have CC1 : Hid (∀ w', Ext w w' → IvF 18 #[iv n1 A k1 c1 d1 n2 B k2 c2 d2] L1 H1 w') := by rw [← hL1, ← hH1]; exact fun w' z => ivf (iabs_any (ha.ext z) (hT.ext z))
  have CR1 : Hid (∀ w', Ext w w' → IvF 19 #[iv n1 A k1 c1 d1 n2 B k2 c2 d2] L1 H1 w') := by rw [← hL1, ← hH1]; exact fun w' z => by cases hc : conB a b DV.zero with | true => rw [((abs_ends ha.wa.1 ha.wb.1).1 hc).1, ((abs_ends ha.wa.1 ha.wb.1).1 hc).2]; exact ivf (riabs_true (ha.ext z) hc) | false => rw [((abs_ends ha.wa.1 ha.wb.1).2 hc).1, ((abs_ends ha.wa.1 ha.wb.1).2 hc).2]; exact ivf (riabs_false (ha.ext z) hc)
  have LE1 : Hid (len L1.m ≤ 1073741824 ∧ len H1.m ≤ 1073741824) := by rw [← hL1, ← hH1]; exact ⟨up (bal.1), up (bal.2)⟩
  clear hL1 hH1
  obtain ⟨L2, hL2⟩ : ∃ d, lo2 (addD a x) (addD b y) = d := ⟨_, rfl⟩; obtain ⟨H2, hH2⟩ : ∃ d, hi2 (addD a x) (addD b y) = d := ⟨_, rfl⟩
  have CC2 : Hid (∀ w', Ext w w' → IvF 20 #[iv n1 A k1 c1 d1 n2 B k2 c2 d2, iv n3 X k3 c3 d3 n4 Y k4 c4 d4] L2 H2 w') := by rw [← hL2, ← hH2]; exact fun w' z => ivf (iadd_any (ha.ext z) (hb.ext z) (hT.ext z))
  have CR2 : Hid (∀ w', Ext w w' → IvF 21 #[iv n1 A k1 c1 d1 n2 B k2 c2 d2, iv n3 X k3 c3 d3 n4 Y k4 c4 d4] L2 H2 w') := by rw [← hL2, ← hH2]; exact fun w' z => ivf (riadd_any (ha.ext z) (hb.ext z))
  have LE2 : Hid (len L2.m ≤ 1073741824 ∧ len H2.m ≤ 1073741824) := by rw [← hL2, ← hH2]; exact ⟨up (sz_min (P := Bd) (bd_add ha.wa hb.wa) (bd_add ha.wb hb.wb)), up (sz_max (P := Bd) (bd_add ha.wa hb.wa) (bd_add ha.wb hb.wb))⟩
  clear hL2 hH2
  obtain ⟨L3, hL3⟩ : ∃ d, lo2 (addD a (lo2 (negD x) (negD y))) (addD b (hi2 (negD x) (negD y))) = d := ⟨_, rfl⟩; obtain ⟨H3, hH3⟩ : ∃ d, hi2 (addD a (lo2 (negD x) (negD y))) (addD b (hi2 (negD x) (negD y))) = d := ⟨_, rfl⟩
  have CC3 : Hid (∀ w', Ext w w' → IvF 22 #[iv n1 A k1 c1 d1 n2 B k2 c2 d2, iv n3 X k3 c3 d3 n4 Y k4 c4 d4] L3 H3 w') := by rw [← hL3, ← hH3]; exact fun w' z => ivf (isub_any (ha.ext z) (hb.ext z) (hT.ext z))
  have CR3 : Hid (∀ w', Ext w w' → IvF 23 #[iv n1 A k1 c1 d1 n2 B k2 c2 d2, iv n3 X k3 c3 d3 n4 Y k4 c4 d4] L3 H3 w') := by rw [← hL3, ← hH3]; exact fun w' z => ivf (risub_any (ha.ext z) (hb.ext z) (by omega) (by omega))
  have LE3 : Hid (len L3.m ≤ 1073741824 ∧ len H3.m ≤ 1073741824) := by rw [← hL3, ← hH3]; exact ⟨up (sz_min (P := Bd) (bd_add ha.wa nl) (bd_add ha.wb nh)), up (sz_max (P := Bd) (bd_add ha.wa nl) (bd_add ha.wb nh))⟩
  clear hL3 hH3
  obtain ⟨L4, hL4⟩ : ∃ d, lo4 (mulD a x) (mulD a y) (mulD b x) (mulD b y) = d := ⟨_, rfl⟩; obtain ⟨H4, hH4⟩ : ∃ d, hi4 (mulD a x) (mulD a y) (mulD b x) (mulD b y) = d := ⟨_, rfl⟩
  have CC4 : Hid (∀ w', Ext w w' → IvF 24 #[iv n1 A k1 c1 d1 n2 B k2 c2 d2, iv n3 X k3 c3 d3 n4 Y k4 c4 d4] L4 H4 w') := by rw [← hL4, ← hH4]; exact fun w' z => by have h0 := imul_any (ha.ext z) (hb.ext z) (hT.ext z) (by omega) (by omega) (by omega) (by omega); rw [mul_lo (mulD_ok _ _) (mulD_ok _ _) (mulD_ok _ _) (mulD_ok _ _), mul_hi (mulD_ok _ _) (mulD_ok _ _) (mulD_ok _ _) (mulD_ok _ _)] at h0; exact ivf h0
  have CR4 : Hid (∀ w', Ext w w' → IvF 25 #[iv n1 A k1 c1 d1 n2 B k2 c2 d2, iv n3 X k3 c3 d3 n4 Y k4 c4 d4] L4 H4 w') := by rw [← hL4, ← hH4]; exact fun w' z => ivf (rimul_any (ha.ext z) (hb.ext z))
  have LE4 : Hid (len L4.m ≤ 1073741824 ∧ len H4.m ≤ 1073741824) := by rw [← hL4, ← hH4]; exact ⟨up (sz_min (P := Bd) (sz_min (P := Bd) (sz_min (P := Bd) (bd_mul ha.wa.2 hb.wa.2) (bd_mul ha.wa.2 hb.wb.2)) (bd_mul ha.wb.2 hb.wa.2)) (bd_mul ha.wb.2 hb.wb.2)), up (sz_max (P := Bd) (sz_max (P := Bd) (sz_max (P := Bd) (bd_mul ha.wa.2 hb.wa.2) (bd_mul ha.wa.2 hb.wb.2)) (bd_mul ha.wb.2 hb.wa.2)) (bd_mul ha.wb.2 hb.wb.2))⟩
  clear hL4 hH4
  obtain ⟨L5, hL5⟩ : ∃ d, minD a x = d := ⟨_, rfl⟩; obtain ⟨H5, hH5⟩ : ∃ d, minD b y = d := ⟨_, rfl⟩
  have CC5 : Hid (∀ w', Ext w w' → IvF 26 #[iv n1 A k1 c1 d1 n2 B k2 c2 d2, iv n3 X k3 c3 d3 n4 Y k4 c4 d4] L5 H5 w') := by rw [← hL5, ← hH5]; exact fun w' z => by have h0 := imin_any (ha.ext z) (hb.ext z) (hT.ext z); rw [lo2_id (minD_ok ha.wa.1 hb.wa.1) (minD_ok ha.wb.1 hb.wb.1) (min_mono ha.wa.1 ha.wb.1 hb.wa.1 hb.wb.1 ha.le hb.le), hi2_id (minD_ok ha.wa.1 hb.wa.1) (minD_ok ha.wb.1 hb.wb.1) (min_mono ha.wa.1 ha.wb.1 hb.wa.1 hb.wb.1 ha.le hb.le)] at h0; exact ivf h0
  have CR5 : Hid (∀ w', Ext w w' → IvF 27 #[iv n1 A k1 c1 d1 n2 B k2 c2 d2, iv n3 X k3 c3 d3 n4 Y k4 c4 d4] L5 H5 w') := by rw [← hL5, ← hH5]; exact fun w' z => ivf (rimin_any (ha.ext z) (hb.ext z))
  have LE5 : Hid (len L5.m ≤ 1073741824 ∧ len H5.m ≤ 1073741824) := by rw [← hL5, ← hH5]; exact ⟨up (bd_min ha.wa hb.wa), up (bd_min ha.wb hb.wb)⟩
  clear hL5 hH5
  obtain ⟨L6, hL6⟩ : ∃ d, maxD a x = d := ⟨_, rfl⟩; obtain ⟨H6, hH6⟩ : ∃ d, maxD b y = d := ⟨_, rfl⟩
  have CC6 : Hid (∀ w', Ext w w' → IvF 28 #[iv n1 A k1 c1 d1 n2 B k2 c2 d2, iv n3 X k3 c3 d3 n4 Y k4 c4 d4] L6 H6 w') := by rw [← hL6, ← hH6]; exact fun w' z => by have h0 := imax_any (ha.ext z) (hb.ext z) (hT.ext z); rw [lo2_id (maxD_ok ha.wa.1 hb.wa.1) (maxD_ok ha.wb.1 hb.wb.1) (max_mono ha.wa.1 ha.wb.1 hb.wa.1 hb.wb.1 ha.le hb.le), hi2_id (maxD_ok ha.wa.1 hb.wa.1) (maxD_ok ha.wb.1 hb.wb.1) (max_mono ha.wa.1 ha.wb.1 hb.wa.1 hb.wb.1 ha.le hb.le)] at h0; exact ivf h0
  have CR6 : Hid (∀ w', Ext w w' → IvF 29 #[iv n1 A k1 c1 d1 n2 B k2 c2 d2, iv n3 X k3 c3 d3 n4 Y k4 c4 d4] L6 H6 w') := by rw [← hL6, ← hH6]; exact fun w' z => ivf (rimax_any (ha.ext z) (hb.ext z))
  have LE6 : Hid (len L6.m ≤ 1073741824 ∧ len H6.m ≤ 1073741824) := by rw [← hL6, ← hH6]; exact ⟨up (bd_max ha.wa hb.wa), up (bd_max ha.wb hb.wb)⟩
  clear hL6 hH6
  obtain ⟨L7, hL7⟩ : ∃ d, lo4 a b x y = d := ⟨_, rfl⟩; obtain ⟨H7, hH7⟩ : ∃ d, hi4 a b x y = d := ⟨_, rfl⟩
  have CC7 : Hid (∀ w', Ext w w' → IvF 30 #[iv n1 A k1 c1 d1 n2 B k2 c2 d2, iv n3 X k3 c3 d3 n4 Y k4 c4 d4] L7 H7 w') := by rw [← hL7, ← hH7]; exact fun w' z => ivf (hull_any (ha.ext z) (hb.ext z) (hT.ext z))
  have CR7 : Hid (∀ w', Ext w w' → IvF 31 #[iv n1 A k1 c1 d1 n2 B k2 c2 d2, iv n3 X k3 c3 d3 n4 Y k4 c4 d4] L7 H7 w') := by rw [← hL7, ← hH7]; exact fun w' z => ivf (rihull_any (ha.ext z) (hb.ext z))
  have LE7 : Hid (len L7.m ≤ 1073741824 ∧ len H7.m ≤ 1073741824) := by rw [← hL7, ← hH7]; exact ⟨up (sz_min (P := Bd) (sz_min (P := Bd) (sz_min (P := Bd) (bd_end ha.wa) (bd_end ha.wb)) (bd_end hb.wa)) (bd_end hb.wb)), up (sz_max (P := Bd) (sz_max (P := Bd) (sz_max (P := Bd) (bd_end ha.wa) (bd_end ha.wb)) (bd_end hb.wa)) (bd_end hb.wb))⟩
  clear hL7 hH7
  obtain ⟨wd, hwd⟩ : ∃ d, subD b a = d := ⟨_, rfl⟩; obtain ⟨mg, hmg⟩ : ∃ d, maxD (absD a) (absD b) = d := ⟨_, rfl⟩
  have CC8 : Hid (∀ w', Ext w w' → DyF 32 #[iv n1 A k1 c1 d1 n2 B k2 c2 d2] wd w') := by rw [← hwd]; exact fun w' z => dyf (iwidth_any (ha.ext z) (hT.ext z))
  have CR8 : Hid (∀ w', Ext w w' → DyF 33 #[iv n1 A k1 c1 d1 n2 B k2 c2 d2] wd w') := by rw [← hwd]; exact fun w' z => dyf (riwidth_any (ha.ext z))
  have CC9 : Hid (∀ w', Ext w w' → DyF 34 #[iv n1 A k1 c1 d1 n2 B k2 c2 d2] mg w') := by rw [← hmg]; exact fun w' z => dyf (imag_any (ha.ext z) (hT.ext z))
  have CR9 : Hid (∀ w', Ext w w' → DyF 35 #[iv n1 A k1 c1 d1 n2 B k2 c2 d2] mg w') := by rw [← hmg]; exact fun w' z => rimag_any (ha.ext z)
  have LE8 : Hid (len wd.m ≤ 1073741824) := by rw [← hwd]; exact Nat.le_trans (bd_sub (bd_end ha.wb) (bd_end ha.wa)).1 (by decide)
  have LE9 : Hid (len mg.m ≤ 1073741824) := by rw [← hmg]; exact up (sz_max (P := Bd) (bd_abs ha.wa) (bd_abs ha.wb))
  obtain ⟨TX, hTX⟩ : ∃ t, ivS a b = t := ⟨_, rfl⟩; obtain ⟨ib, hib⟩ : ∃ t, insB a b x y = t := ⟨_, rfl⟩
  have CCt : Hid (∀ w', Ext w w' → Calls Tryz.prog 36 #[iv n1 A k1 c1 d1 n2 B k2 c2 d2] w' fun e w'' => e = .returned (.string TX) ∧ Ext w' w'') := by rw [← hTX]; exact fun w' z => itext_any (ha.ext z) (hP.ext z)
  have CRt : Hid (∀ w', Ext w w' → Calls Tryz.prog 37 #[iv n1 A k1 c1 d1 n2 B k2 c2 d2] w' fun e w'' => e = .returned (.string TX) ∧ Ext w' w'') := by rw [← hTX]; exact fun w' z => ritext_any (ha.ext z)
  have CCi : Hid (∀ w', Ext w w' → Calls Tryz.prog 38 #[iv n1 A k1 c1 d1 n2 B k2 c2 d2, iv n3 X k3 c3 d3 n4 Y k4 c4 d4] w' fun e w'' => e = .returned (.bool ib) ∧ Ext w' w'') := by rw [← hib]; exact fun w' z => inside_any (ha.ext z) (hb.ext z)
  have CRi : Hid (∀ w', Ext w w' → Calls Tryz.prog 39 #[iv n1 A k1 c1 d1 n2 B k2 c2 d2, iv n3 X k3 c3 d3 n4 Y k4 c4 d4] w' fun e w'' => e = .returned (.bool ib) ∧ Ext w' w'') := by rw [← hib]; exact fun w' z => rinside_any (ha.ext z) (hb.ext z)
  clear hwd hmg hTX hib nx ny nl nh up bal ha hb hT hP h la lb lx ly
  have BX := Lib.hid ((B6.new w (.bool n1) (.slice A k1 c1) (I d1) (.bool n2) (.slice B k2 c2) (I d2) 37).ext (Ext.alloc _ (.cells #[.bool n3, .slice X k3 c3, I d3, .bool n4, .slice Y k4 c4, I d4] 37)))
  have BY : Hid (B6 ((w.alloc (.cells #[.bool n1, .slice A k1 c1, I d1, .bool n2, .slice B k2 c2, I d2] 37)).alloc (.cells #[.bool n3, .slice X k3 c3, I d3, .bool n4, .slice Y k4 c4, I d4] 37)) (w.heap.size + 1) (.bool n3) (.slice X k3 c3) (I d3) (.bool n4) (.slice Y k4 c4) (I d4)) := by
    have s := B6.new (w.alloc (.cells #[.bool n1, .slice A k1 c1, I d1, .bool n2, .slice B k2 c2, I d2] 37)) (.bool n3) (.slice X k3 c3) (I d3) (.bool n4) (.slice Y k4 c4) (I d4) 37
    rw [show (w.alloc (.cells #[.bool n1, .slice A k1 c1, I d1, .bool n2, .slice B k2 c2, I d2] 37)).heap.size = w.heap.size + 1 by simp] at s
    exact s
  go_enter Tryz.func4, Tryz.ntmps4
  go_wp2_with fail
  have HN := Lib.hid (ivs2 ((w.alloc (.cells #[.bool n1, .slice A k1 c1, I d1, .bool n2, .slice B k2 c2, I d2] 37)).alloc (.cells #[.bool n3, .slice X k3 c3, I d3, .bool n4, .slice Y k4 c4, I d4] 37)) (w.heap.size + 1 + 1) (by simp) (n1 := n1) (n2 := n2) (n3 := n3) (n4 := n4) (A := A) (B := B) (X := X) (Y := Y) (k1 := k1) (c1 := c1) (k2 := k2) (c2 := c2) (k3 := k3) (c3 := c3) (k4 := k4) (c4 := c4) (d1 := d1) (d2 := d2) (d3 := d3) (d4 := d4) 37)
  with_reducible refine (ifew_any HN.out (by simp) (by omega) (b := true) ⟨fun _ => HFW.out, fun _ => rfl⟩).mono ?_
  rintro e wf ⟨rfl, hx⟩
  have X0 := Lib.hid ((Ext.alloc w (.cells #[.bool n1, .slice A k1 c1, I d1, .bool n2, .slice B k2 c2, I d2] 37)).trans (Ext.alloc _ (.cells #[.bool n3, .slice X k3 c3, I d3, .bool n4, .slice Y k4 c4, I d4] 37)))
  have X1 := Lib.hid ((Ext.alloc ((w.alloc (.cells #[.bool n1, .slice A k1 c1, I d1, .bool n2, .slice B k2 c2, I d2] 37)).alloc (.cells #[.bool n3, .slice X k3 c3, I d3, .bool n4, .slice Y k4 c4, I d4] 37)) _).trans hx)
  clear hx HN HFW
  generalize (w.alloc (.cells #[.bool n1, .slice A k1 c1, I d1, .bool n2, .slice B k2 c2, I d2] 37)).alloc (.cells #[.bool n3, .slice X k3 c3, I d3, .bool n4, .slice Y k4 c4, I d4] 37) = W0 at *
  go_wp2_with fail
  refine (iawake_any _ (HT.out.ext (X0.out.trans X1.out)) (HP.out.ext (X0.out.trans X1.out))).mono ?_
  rintro e w0 ⟨rfl, hx⟩
  have HE := Lib.hid (X1.out.trans hx)
  have HEW0 := Lib.hid (X0.out.trans HE.out)
  have BX1 := Lib.hid (BX.out.ext HE.out); have BY1 := Lib.hid (BY.out.ext HE.out)
  clear hx X1 HE BX BY HT HP X0
  have HEW := Lib.hid (HEW0.out.trans (Ext.drew w0))
  have HS : Hid (∀ w', Ext w0.drew w' → w'.cell? ⟨w.heap.size, 0, none⟩ = some (.bool n1) ∧ w'.cell? ⟨w.heap.size, 1, none⟩ = some (.slice A k1 c1) ∧ w'.cell? ⟨w.heap.size, 2, none⟩ = some (I d1) ∧ w'.cell? ⟨w.heap.size, 3, none⟩ = some (.bool n2) ∧ w'.cell? ⟨w.heap.size, 4, none⟩ = some (.slice B k2 c2) ∧ w'.cell? ⟨w.heap.size, 5, none⟩ = some (I d2) ∧ w'.cell? ⟨w.heap.size + 1, 0, none⟩ = some (.bool n3) ∧ w'.cell? ⟨w.heap.size + 1, 1, none⟩ = some (.slice X k3 c3) ∧ w'.cell? ⟨w.heap.size + 1, 2, none⟩ = some (I d3) ∧ w'.cell? ⟨w.heap.size + 1, 3, none⟩ = some (.bool n4) ∧ w'.cell? ⟨w.heap.size + 1, 4, none⟩ = some (.slice Y k4 c4) ∧ w'.cell? ⟨w.heap.size + 1, 5, none⟩ = some (I d4)) := fun w' e => by
    have e' := (Ext.drew w0).trans e
    obtain ⟨⟨j0, j1, j2, j3, j4, j5⟩, _⟩ := BX1.out.ext e'
    obtain ⟨⟨l0, l1, l2, l3, l4, l5⟩, _⟩ := BY1.out.ext e'
    exact ⟨j0, j1, j2, j3, j4, j5, l0, l1, l2, l3, l4, l5⟩
  clear BX1 BY1 HEW0
  go_wp2_with fail
  (try dsimp only [List.append])
  refine wp_region_noPanic ?_
  refine wp_region_held_drew (S := fun w' => w'.cell? ⟨w.heap.size, 0, none⟩ = some (.bool n1) ∧ w'.cell? ⟨w.heap.size, 1, none⟩ = some (.slice A k1 c1) ∧ w'.cell? ⟨w.heap.size, 2, none⟩ = some (I d1) ∧ w'.cell? ⟨w.heap.size, 3, none⟩ = some (.bool n2) ∧ w'.cell? ⟨w.heap.size, 4, none⟩ = some (.slice B k2 c2) ∧ w'.cell? ⟨w.heap.size, 5, none⟩ = some (I d2) ∧ w'.cell? ⟨w.heap.size + 1, 0, none⟩ = some (.bool n3) ∧ w'.cell? ⟨w.heap.size + 1, 1, none⟩ = some (.slice X k3 c3) ∧ w'.cell? ⟨w.heap.size + 1, 2, none⟩ = some (I d3) ∧ w'.cell? ⟨w.heap.size + 1, 3, none⟩ = some (.bool n4) ∧ w'.cell? ⟨w.heap.size + 1, 4, none⟩ = some (.slice Y k4 c4) ∧ w'.cell? ⟨w.heap.size + 1, 5, none⟩ = some (I d4)) (by kernel_rfl) ?_ (fun hHeld => ?_)
  · exact HS.out _ (Ext.refl _)
  refine wpAnyH_take (i := 0) (oi := { dst := some 15, op := Op.load 37 (Operand.tmp 2), type := 37, pos := "law.go:59", after := #[], guard := none }) (v := ?_) rfl (by as_aux_lemma => kernel_rfl) (by as_aux_lemma => kernel_rfl) (by as_aux_lemma => kernel_rfl) (fun _ _ _ h => h) (Or.inl ⟨by rfl, ?hy⟩) hHeld ?_
  case hy => ((intro w' hSw; (try dsimp only at hSw); go_simp); (try with_reducible rfl))
  (try simp only [Act.put, List.setIfInBounds_toArray, List.set_cons_zero, List.set_cons_succ])
  refine wpAnyH_take (i := 2) (oi := { dst := some 17, op := Op.load 37 (Operand.tmp 2), type := 37, pos := "law.go:59", after := #[], guard := none }) (v := ?_) rfl (by as_aux_lemma => kernel_rfl) (by as_aux_lemma => kernel_rfl) (by as_aux_lemma => kernel_rfl) (fun _ _ _ h => h) (Or.inl ⟨by rfl, ?hy⟩) hHeld ?_
  case hy => ((intro w' hSw; (try dsimp only at hSw); go_simp); (try with_reducible rfl))
  (try simp only [Act.put, List.setIfInBounds_toArray, List.set_cons_zero, List.set_cons_succ])
  refine wpAnyH_ready (rs := [1]) (by as_aux_lemma => kernel_rfl) (by simp) ?_
  refine AllReadyH.cons (o := { dst := some 16, op := Op.call { callee := Callee.value (Operand.func 16), args := #[Operand.tmp 15], argTypes := #[37] }, type := 37, pos := "law.go:59", after := #[{ on := 0, ground := Ground.data }], guard := none }) rfl (fun K hK => ?_) AllReadyH.nil
  go_simp
  (go_at_call 16; (with_reducible refine (CC0.out _ (HEW.out.trans (by (with_reducible (repeat (first | exact Ext.refl _ | assumption | (refine Ext.toSet ?_ (by omega)) | refine Ext.toAlloc ?_ | refine Ext.toDrew ?_ | refine Ext.toDrewN ?_ | refine Ext.trans ?_ (by assumption)))); (first | done | fail "no")))).mono ?_); rintro e w1 ⟨P1, f1, Q1, g1, rfl, hr, hx1⟩; have K1 := Lib.hid hr; clear hr)
  (try go_wp2_with fail)
  refine hK.out _ _ (HS.out _ (by (with_reducible (repeat (first | exact Ext.refl _ | assumption | (refine Ext.toSet ?_ (by omega)) | refine Ext.toAlloc ?_ | refine Ext.toDrew ?_ | refine Ext.toDrewN ?_ | refine Ext.trans ?_ (by assumption)))); (first | done | fail "no"))) (fun hHeld' => ?_)
  clear hK K hHeld
  have hHeld := hHeld'
  clear hHeld'
  (try simp only [Act.put, List.setIfInBounds_toArray, List.set_cons_zero, List.set_cons_succ])
  refine wpAnyH_ready (rs := [3]) (by as_aux_lemma => kernel_rfl) (by simp) ?_
  refine AllReadyH.cons (o := { dst := some 18, op := Op.call { callee := Callee.value (Operand.func 17), args := #[Operand.tmp 17], argTypes := #[37] }, type := 37, pos := "law.go:59", after := #[{ on := 2, ground := Ground.data }, { on := 1, ground := Ground.chain }], guard := none }) rfl (fun K hK => ?_) AllReadyH.nil
  go_simp
  (go_at_call 17; (with_reducible refine (CR0.out _ (HEW.out.trans (by (with_reducible (repeat (first | exact Ext.refl _ | assumption | (refine Ext.toSet ?_ (by omega)) | refine Ext.toAlloc ?_ | refine Ext.toDrew ?_ | refine Ext.toDrewN ?_ | refine Ext.trans ?_ (by assumption)))); (first | done | fail "no")))).mono ?_); rintro e w2 ⟨P2, f2, Q2, g2, rfl, hr, hx2⟩; have K2 := Lib.hid hr; clear hr)
  (try go_wp2_with fail)
  refine hK.out _ _ (HS.out _ (by (with_reducible (repeat (first | exact Ext.refl _ | assumption | (refine Ext.toSet ?_ (by omega)) | refine Ext.toAlloc ?_ | refine Ext.toDrew ?_ | refine Ext.toDrewN ?_ | refine Ext.trans ?_ (by assumption)))); (first | done | fail "no"))) (fun hHeld' => ?_)
  clear hK K hHeld
  have hHeld := hHeld'
  clear hHeld'
  (try simp only [Act.put, List.setIfInBounds_toArray, List.set_cons_zero, List.set_cons_succ])
  refine wpAnyH_ready (rs := [4]) (by as_aux_lemma => kernel_rfl) (by simp) ?_
  refine AllReadyH.cons (o := { dst := some 19, op := Op.call { callee := Callee.value (Operand.func 15), args := #[Operand.tmp 16, Operand.tmp 18], argTypes := #[37, 37] }, type := 4, pos := "law.go:59", after := #[{ on := 1, ground := Ground.data }, { on := 3, ground := Ground.data }, { on := 3, ground := Ground.chain }], guard := none }) rfl (fun K hK => ?_) AllReadyH.nil
  go_simp
  (go_at_call 15; (with_reducible refine (same_rd (K1.out.ext (by (with_reducible (repeat (first | exact Ext.refl _ | assumption | (refine Ext.toSet ?_ (by omega)) | refine Ext.toAlloc ?_ | refine Ext.toDrew ?_ | refine Ext.toDrewN ?_ | refine Ext.trans ?_ (by assumption)))); (first | done | fail "no"))) (K2.out.ext (by (with_reducible (repeat (first | exact Ext.refl _ | assumption | (refine Ext.toSet ?_ (by omega)) | refine Ext.toAlloc ?_ | refine Ext.toDrew ?_ | refine Ext.toDrewN ?_ | refine Ext.trans ?_ (by assumption)))); (first | done | fail "no"))) LE0.out.1 LE0.out.2).mono ?_); rintro e w3 ⟨rfl, hx3⟩; clear K1 K2)
  (try go_wp2_with fail)
  refine hK.out _ _ (HS.out _ (by (with_reducible (repeat (first | exact Ext.refl _ | assumption | (refine Ext.toSet ?_ (by omega)) | refine Ext.toAlloc ?_ | refine Ext.toDrew ?_ | refine Ext.toDrewN ?_ | refine Ext.trans ?_ (by assumption)))); (first | done | fail "no"))) (fun hHeld' => ?_)
  clear hK K hHeld
  have hHeld := hHeld'
  clear hHeld'
  (try simp only [Act.put, List.setIfInBounds_toArray, List.set_cons_zero, List.set_cons_succ])
  refine wpAnyH_take (i := 5) (oi := { dst := some 20, op := Op.move (Operand.tmp 19), type := 4, pos := "law.go:59", after := #[{ on := 4, ground := Ground.data }, { on := 4, ground := Ground.chain }], guard := none }) (v := ?_) rfl (by as_aux_lemma => kernel_rfl) (by as_aux_lemma => kernel_rfl) (by as_aux_lemma => kernel_rfl) (fun _ _ _ h => h) (Or.inl ⟨by rfl, ?hy⟩) hHeld ?_
  case hy => ((intro w' hSw; (try dsimp only at hSw); go_simp); (try with_reducible rfl))
  (try simp only [Act.put, List.setIfInBounds_toArray, List.set_cons_zero, List.set_cons_succ])
  refine wpAnyH_take (i := 6) (oi := { dst := some 21, op := Op.load 37 (Operand.tmp 2), type := 37, pos := "law.go:59", after := #[{ on := 5, ground := Ground.guard }], guard := some (5, true) }) (v := ?_) rfl (by as_aux_lemma => kernel_rfl) (by as_aux_lemma => kernel_rfl) (by as_aux_lemma => kernel_rfl) (fun _ _ _ h => h) (Or.inl ⟨by rfl, ?hy⟩) hHeld ?_
  case hy => ((intro w' hSw; (try dsimp only at hSw); go_simp); (try with_reducible rfl))
  (try simp only [Act.put, List.setIfInBounds_toArray, List.set_cons_zero, List.set_cons_succ])
  refine wpAnyH_take (i := 8) (oi := { dst := some 23, op := Op.load 37 (Operand.tmp 2), type := 37, pos := "law.go:59", after := #[{ on := 5, ground := Ground.guard }], guard := some (5, true) }) (v := ?_) rfl (by as_aux_lemma => kernel_rfl) (by as_aux_lemma => kernel_rfl) (by as_aux_lemma => kernel_rfl) (fun _ _ _ h => h) (Or.inl ⟨by rfl, ?hy⟩) hHeld ?_
  case hy => ((intro w' hSw; (try dsimp only at hSw); go_simp); (try with_reducible rfl))
  (try simp only [Act.put, List.setIfInBounds_toArray, List.set_cons_zero, List.set_cons_succ])
  refine wpAnyH_ready (rs := [7]) (by as_aux_lemma => kernel_rfl) (by simp) ?_
  refine AllReadyH.cons (o := { dst := some 22, op := Op.call { callee := Callee.value (Operand.func 18), args := #[Operand.tmp 21], argTypes := #[37] }, type := 37, pos := "law.go:59", after := #[{ on := 6, ground := Ground.data }, { on := 5, ground := Ground.chain }, { on := 5, ground := Ground.guard }], guard := some (5, true) }) rfl (fun K hK => ?_) AllReadyH.nil
  go_simp
  (go_at_call 18; (with_reducible refine (CC1.out _ (HEW.out.trans (by (with_reducible (repeat (first | exact Ext.refl _ | assumption | (refine Ext.toSet ?_ (by omega)) | refine Ext.toAlloc ?_ | refine Ext.toDrew ?_ | refine Ext.toDrewN ?_ | refine Ext.trans ?_ (by assumption)))); (first | done | fail "no")))).mono ?_); rintro e w4 ⟨P4, f4, Q4, g4, rfl, hr, hx4⟩; have K4 := Lib.hid hr; clear hr)
  (try go_wp2_with fail)
  refine hK.out _ _ (HS.out _ (by (with_reducible (repeat (first | exact Ext.refl _ | assumption | (refine Ext.toSet ?_ (by omega)) | refine Ext.toAlloc ?_ | refine Ext.toDrew ?_ | refine Ext.toDrewN ?_ | refine Ext.trans ?_ (by assumption)))); (first | done | fail "no"))) (fun hHeld' => ?_)
  clear hK K hHeld
  have hHeld := hHeld'
  clear hHeld'
  (try simp only [Act.put, List.setIfInBounds_toArray, List.set_cons_zero, List.set_cons_succ])
  refine wpAnyH_ready (rs := [9]) (by as_aux_lemma => kernel_rfl) (by simp) ?_
  refine AllReadyH.cons (o := { dst := some 24, op := Op.call { callee := Callee.value (Operand.func 19), args := #[Operand.tmp 23], argTypes := #[37] }, type := 37, pos := "law.go:59", after := #[{ on := 8, ground := Ground.data }, { on := 7, ground := Ground.chain }, { on := 5, ground := Ground.guard }], guard := some (5, true) }) rfl (fun K hK => ?_) AllReadyH.nil
  go_simp
  (go_at_call 19; (with_reducible refine (CR1.out _ (HEW.out.trans (by (with_reducible (repeat (first | exact Ext.refl _ | assumption | (refine Ext.toSet ?_ (by omega)) | refine Ext.toAlloc ?_ | refine Ext.toDrew ?_ | refine Ext.toDrewN ?_ | refine Ext.trans ?_ (by assumption)))); (first | done | fail "no")))).mono ?_); rintro e w5 ⟨P5, f5, Q5, g5, rfl, hr, hx5⟩; have K5 := Lib.hid hr; clear hr)
  (try go_wp2_with fail)
  refine hK.out _ _ (HS.out _ (by (with_reducible (repeat (first | exact Ext.refl _ | assumption | (refine Ext.toSet ?_ (by omega)) | refine Ext.toAlloc ?_ | refine Ext.toDrew ?_ | refine Ext.toDrewN ?_ | refine Ext.trans ?_ (by assumption)))); (first | done | fail "no"))) (fun hHeld' => ?_)
  clear hK K hHeld
  have hHeld := hHeld'
  clear hHeld'
  (try simp only [Act.put, List.setIfInBounds_toArray, List.set_cons_zero, List.set_cons_succ])
  refine wpAnyH_ready (rs := [10]) (by as_aux_lemma => kernel_rfl) (by simp) ?_
  refine AllReadyH.cons (o := { dst := some 25, op := Op.call { callee := Callee.value (Operand.func 15), args := #[Operand.tmp 22, Operand.tmp 24], argTypes := #[37, 37] }, type := 4, pos := "law.go:59", after := #[{ on := 7, ground := Ground.data }, { on := 9, ground := Ground.data }, { on := 9, ground := Ground.chain }, { on := 5, ground := Ground.guard }], guard := some (5, true) }) rfl (fun K hK => ?_) AllReadyH.nil
  go_simp
  (go_at_call 15; (with_reducible refine (same_rd (K4.out.ext (by (with_reducible (repeat (first | exact Ext.refl _ | assumption | (refine Ext.toSet ?_ (by omega)) | refine Ext.toAlloc ?_ | refine Ext.toDrew ?_ | refine Ext.toDrewN ?_ | refine Ext.trans ?_ (by assumption)))); (first | done | fail "no"))) (K5.out.ext (by (with_reducible (repeat (first | exact Ext.refl _ | assumption | (refine Ext.toSet ?_ (by omega)) | refine Ext.toAlloc ?_ | refine Ext.toDrew ?_ | refine Ext.toDrewN ?_ | refine Ext.trans ?_ (by assumption)))); (first | done | fail "no"))) LE1.out.1 LE1.out.2).mono ?_); rintro e w6 ⟨rfl, hx6⟩; clear K4 K5)
  (try go_wp2_with fail)
  refine hK.out _ _ (HS.out _ (by (with_reducible (repeat (first | exact Ext.refl _ | assumption | (refine Ext.toSet ?_ (by omega)) | refine Ext.toAlloc ?_ | refine Ext.toDrew ?_ | refine Ext.toDrewN ?_ | refine Ext.trans ?_ (by assumption)))); (first | done | fail "no"))) (fun hHeld' => ?_)
  clear hK K hHeld
  have hHeld := hHeld'
  clear hHeld'
  (try simp only [Act.put, List.setIfInBounds_toArray, List.set_cons_zero, List.set_cons_succ])
  refine wpAnyH_take (i := 11) (oi := { dst := some 26, op := Op.pick (Operand.tmp 20) (Operand.tmp 25) (Operand.const (Value.bool false)), type := 4, pos := "law.go:59", after := #[{ on := 5, ground := Ground.data }, { on := 10, ground := Ground.data }], guard := none }) (v := ?_) rfl (by as_aux_lemma => kernel_rfl) (by as_aux_lemma => kernel_rfl) (by as_aux_lemma => kernel_rfl) (fun _ _ _ h => h) (Or.inl ⟨by rfl, ?hy⟩) hHeld ?_
  case hy => ((intro w' hSw; (try dsimp only at hSw); go_simp); (try with_reducible rfl))
  (try simp only [Act.put, List.setIfInBounds_toArray, List.set_cons_zero, List.set_cons_succ])
  refine wpAnyH_take (i := 12) (oi := { dst := some 27, op := Op.move (Operand.tmp 26), type := 4, pos := "law.go:59", after := #[{ on := 11, ground := Ground.data }, { on := 10, ground := Ground.chain }], guard := none }) (v := ?_) rfl (by as_aux_lemma => kernel_rfl) (by as_aux_lemma => kernel_rfl) (by as_aux_lemma => kernel_rfl) (fun _ _ _ h => h) (Or.inl ⟨by rfl, ?hy⟩) hHeld ?_
  case hy => ((intro w' hSw; (try dsimp only at hSw); go_simp); (try with_reducible rfl))
  (try simp only [Act.put, List.setIfInBounds_toArray, List.set_cons_zero, List.set_cons_succ])
  refine wpAnyH_take (i := 13) (oi := { dst := some 28, op := Op.load 37 (Operand.tmp 2), type := 37, pos := "law.go:59", after := #[{ on := 12, ground := Ground.guard }], guard := some (12, true) }) (v := ?_) rfl (by as_aux_lemma => kernel_rfl) (by as_aux_lemma => kernel_rfl) (by as_aux_lemma => kernel_rfl) (fun _ _ _ h => h) (Or.inl ⟨by rfl, ?hy⟩) hHeld ?_
  case hy => ((intro w' hSw; (try dsimp only at hSw); go_simp); (try with_reducible rfl))
  (try simp only [Act.put, List.setIfInBounds_toArray, List.set_cons_zero, List.set_cons_succ])
  refine wpAnyH_take (i := 14) (oi := { dst := some 29, op := Op.load 37 (Operand.tmp 3), type := 37, pos := "law.go:59", after := #[{ on := 12, ground := Ground.guard }], guard := some (12, true) }) (v := ?_) rfl (by as_aux_lemma => kernel_rfl) (by as_aux_lemma => kernel_rfl) (by as_aux_lemma => kernel_rfl) (fun _ _ _ h => h) (Or.inl ⟨by rfl, ?hy⟩) hHeld ?_
  case hy => ((intro w' hSw; (try dsimp only at hSw); go_simp); (try with_reducible rfl))
  (try simp only [Act.put, List.setIfInBounds_toArray, List.set_cons_zero, List.set_cons_succ])
  refine wpAnyH_take (i := 16) (oi := { dst := some 31, op := Op.load 37 (Operand.tmp 2), type := 37, pos := "law.go:59", after := #[{ on := 12, ground := Ground.guard }], guard := some (12, true) }) (v := ?_) rfl (by as_aux_lemma => kernel_rfl) (by as_aux_lemma => kernel_rfl) (by as_aux_lemma => kernel_rfl) (fun _ _ _ h => h) (Or.inl ⟨by rfl, ?hy⟩) hHeld ?_
  case hy => ((intro w' hSw; (try dsimp only at hSw); go_simp); (try with_reducible rfl))
  (try simp only [Act.put, List.setIfInBounds_toArray, List.set_cons_zero, List.set_cons_succ])
  refine wpAnyH_take (i := 17) (oi := { dst := some 32, op := Op.load 37 (Operand.tmp 3), type := 37, pos := "law.go:59", after := #[{ on := 12, ground := Ground.guard }], guard := some (12, true) }) (v := ?_) rfl (by as_aux_lemma => kernel_rfl) (by as_aux_lemma => kernel_rfl) (by as_aux_lemma => kernel_rfl) (fun _ _ _ h => h) (Or.inl ⟨by rfl, ?hy⟩) hHeld ?_
  case hy => ((intro w' hSw; (try dsimp only at hSw); go_simp); (try with_reducible rfl))
  (try simp only [Act.put, List.setIfInBounds_toArray, List.set_cons_zero, List.set_cons_succ])
  refine wpAnyH_ready (rs := [15]) (by as_aux_lemma => kernel_rfl) (by simp) ?_
  refine AllReadyH.cons (o := { dst := some 30, op := Op.call { callee := Callee.value (Operand.func 20), args := #[Operand.tmp 28, Operand.tmp 29], argTypes := #[37, 37] }, type := 37, pos := "law.go:59", after := #[{ on := 13, ground := Ground.data }, { on := 14, ground := Ground.data }, { on := 12, ground := Ground.chain }, { on := 12, ground := Ground.guard }], guard := some (12, true) }) rfl (fun K hK => ?_) AllReadyH.nil
  go_simp
  (go_at_call 20; (with_reducible refine (CC2.out _ (HEW.out.trans (by (with_reducible (repeat (first | exact Ext.refl _ | assumption | (refine Ext.toSet ?_ (by omega)) | refine Ext.toAlloc ?_ | refine Ext.toDrew ?_ | refine Ext.toDrewN ?_ | refine Ext.trans ?_ (by assumption)))); (first | done | fail "no")))).mono ?_); rintro e w7 ⟨P7, f7, Q7, g7, rfl, hr, hx7⟩; have K7 := Lib.hid hr; clear hr)
  (try go_wp2_with fail)
  refine hK.out _ _ (HS.out _ (by (with_reducible (repeat (first | exact Ext.refl _ | assumption | (refine Ext.toSet ?_ (by omega)) | refine Ext.toAlloc ?_ | refine Ext.toDrew ?_ | refine Ext.toDrewN ?_ | refine Ext.trans ?_ (by assumption)))); (first | done | fail "no"))) (fun hHeld' => ?_)
  clear hK K hHeld
  have hHeld := hHeld'
  clear hHeld'
  (try simp only [Act.put, List.setIfInBounds_toArray, List.set_cons_zero, List.set_cons_succ])
  refine wpAnyH_ready (rs := [18]) (by as_aux_lemma => kernel_rfl) (by simp) ?_
  refine AllReadyH.cons (o := { dst := some 33, op := Op.call { callee := Callee.value (Operand.func 21), args := #[Operand.tmp 31, Operand.tmp 32], argTypes := #[37, 37] }, type := 37, pos := "law.go:59", after := #[{ on := 16, ground := Ground.data }, { on := 17, ground := Ground.data }, { on := 15, ground := Ground.chain }, { on := 12, ground := Ground.guard }], guard := some (12, true) }) rfl (fun K hK => ?_) AllReadyH.nil
  go_simp
  (go_at_call 21; (with_reducible refine (CR2.out _ (HEW.out.trans (by (with_reducible (repeat (first | exact Ext.refl _ | assumption | (refine Ext.toSet ?_ (by omega)) | refine Ext.toAlloc ?_ | refine Ext.toDrew ?_ | refine Ext.toDrewN ?_ | refine Ext.trans ?_ (by assumption)))); (first | done | fail "no")))).mono ?_); rintro e w8 ⟨P8, f8, Q8, g8, rfl, hr, hx8⟩; have K8 := Lib.hid hr; clear hr)
  (try go_wp2_with fail)
  refine hK.out _ _ (HS.out _ (by (with_reducible (repeat (first | exact Ext.refl _ | assumption | (refine Ext.toSet ?_ (by omega)) | refine Ext.toAlloc ?_ | refine Ext.toDrew ?_ | refine Ext.toDrewN ?_ | refine Ext.trans ?_ (by assumption)))); (first | done | fail "no"))) (fun hHeld' => ?_)
  clear hK K hHeld
  have hHeld := hHeld'
  clear hHeld'
  (try simp only [Act.put, List.setIfInBounds_toArray, List.set_cons_zero, List.set_cons_succ])
  refine wpAnyH_ready (rs := [19]) (by as_aux_lemma => kernel_rfl) (by simp) ?_
  refine AllReadyH.cons (o := { dst := some 34, op := Op.call { callee := Callee.value (Operand.func 15), args := #[Operand.tmp 30, Operand.tmp 33], argTypes := #[37, 37] }, type := 4, pos := "law.go:59", after := #[{ on := 15, ground := Ground.data }, { on := 18, ground := Ground.data }, { on := 18, ground := Ground.chain }, { on := 12, ground := Ground.guard }], guard := some (12, true) }) rfl (fun K hK => ?_) AllReadyH.nil
  go_simp
  (go_at_call 15; (with_reducible refine (same_rd (K7.out.ext (by (with_reducible (repeat (first | exact Ext.refl _ | assumption | (refine Ext.toSet ?_ (by omega)) | refine Ext.toAlloc ?_ | refine Ext.toDrew ?_ | refine Ext.toDrewN ?_ | refine Ext.trans ?_ (by assumption)))); (first | done | fail "no"))) (K8.out.ext (by (with_reducible (repeat (first | exact Ext.refl _ | assumption | (refine Ext.toSet ?_ (by omega)) | refine Ext.toAlloc ?_ | refine Ext.toDrew ?_ | refine Ext.toDrewN ?_ | refine Ext.trans ?_ (by assumption)))); (first | done | fail "no"))) LE2.out.1 LE2.out.2).mono ?_); rintro e w9 ⟨rfl, hx9⟩; clear K7 K8)
  (try go_wp2_with fail)
  refine hK.out _ _ (HS.out _ (by (with_reducible (repeat (first | exact Ext.refl _ | assumption | (refine Ext.toSet ?_ (by omega)) | refine Ext.toAlloc ?_ | refine Ext.toDrew ?_ | refine Ext.toDrewN ?_ | refine Ext.trans ?_ (by assumption)))); (first | done | fail "no"))) (fun hHeld' => ?_)
  clear hK K hHeld
  have hHeld := hHeld'
  clear hHeld'
  (try simp only [Act.put, List.setIfInBounds_toArray, List.set_cons_zero, List.set_cons_succ])
  refine wpAnyH_take (i := 20) (oi := { dst := some 35, op := Op.pick (Operand.tmp 27) (Operand.tmp 34) (Operand.const (Value.bool false)), type := 4, pos := "law.go:59", after := #[{ on := 12, ground := Ground.data }, { on := 19, ground := Ground.data }], guard := none }) (v := ?_) rfl (by as_aux_lemma => kernel_rfl) (by as_aux_lemma => kernel_rfl) (by as_aux_lemma => kernel_rfl) (fun _ _ _ h => h) (Or.inl ⟨by rfl, ?hy⟩) hHeld ?_
  case hy => ((intro w' hSw; (try dsimp only at hSw); go_simp); (try with_reducible rfl))
  (try simp only [Act.put, List.setIfInBounds_toArray, List.set_cons_zero, List.set_cons_succ])
  refine wpAnyH_take (i := 21) (oi := { dst := some 36, op := Op.move (Operand.tmp 35), type := 4, pos := "law.go:59", after := #[{ on := 20, ground := Ground.data }, { on := 19, ground := Ground.chain }], guard := none }) (v := ?_) rfl (by as_aux_lemma => kernel_rfl) (by as_aux_lemma => kernel_rfl) (by as_aux_lemma => kernel_rfl) (fun _ _ _ h => h) (Or.inl ⟨by rfl, ?hy⟩) hHeld ?_
  case hy => ((intro w' hSw; (try dsimp only at hSw); go_simp); (try with_reducible rfl))
  (try simp only [Act.put, List.setIfInBounds_toArray, List.set_cons_zero, List.set_cons_succ])
  refine wpAnyH_take (i := 22) (oi := { dst := some 37, op := Op.load 37 (Operand.tmp 2), type := 37, pos := "law.go:59", after := #[{ on := 21, ground := Ground.guard }], guard := some (21, true) }) (v := ?_) rfl (by as_aux_lemma => kernel_rfl) (by as_aux_lemma => kernel_rfl) (by as_aux_lemma => kernel_rfl) (fun _ _ _ h => h) (Or.inl ⟨by rfl, ?hy⟩) hHeld ?_
  case hy => ((intro w' hSw; (try dsimp only at hSw); go_simp); (try with_reducible rfl))
  (try simp only [Act.put, List.setIfInBounds_toArray, List.set_cons_zero, List.set_cons_succ])
  refine wpAnyH_take (i := 23) (oi := { dst := some 38, op := Op.load 37 (Operand.tmp 3), type := 37, pos := "law.go:59", after := #[{ on := 21, ground := Ground.guard }], guard := some (21, true) }) (v := ?_) rfl (by as_aux_lemma => kernel_rfl) (by as_aux_lemma => kernel_rfl) (by as_aux_lemma => kernel_rfl) (fun _ _ _ h => h) (Or.inl ⟨by rfl, ?hy⟩) hHeld ?_
  case hy => ((intro w' hSw; (try dsimp only at hSw); go_simp); (try with_reducible rfl))
  (try simp only [Act.put, List.setIfInBounds_toArray, List.set_cons_zero, List.set_cons_succ])
  refine wpAnyH_take (i := 25) (oi := { dst := some 40, op := Op.load 37 (Operand.tmp 2), type := 37, pos := "law.go:59", after := #[{ on := 21, ground := Ground.guard }], guard := some (21, true) }) (v := ?_) rfl (by as_aux_lemma => kernel_rfl) (by as_aux_lemma => kernel_rfl) (by as_aux_lemma => kernel_rfl) (fun _ _ _ h => h) (Or.inl ⟨by rfl, ?hy⟩) hHeld ?_
  case hy => ((intro w' hSw; (try dsimp only at hSw); go_simp); (try with_reducible rfl))
  (try simp only [Act.put, List.setIfInBounds_toArray, List.set_cons_zero, List.set_cons_succ])
  refine wpAnyH_take (i := 26) (oi := { dst := some 41, op := Op.load 37 (Operand.tmp 3), type := 37, pos := "law.go:59", after := #[{ on := 21, ground := Ground.guard }], guard := some (21, true) }) (v := ?_) rfl (by as_aux_lemma => kernel_rfl) (by as_aux_lemma => kernel_rfl) (by as_aux_lemma => kernel_rfl) (fun _ _ _ h => h) (Or.inl ⟨by rfl, ?hy⟩) hHeld ?_
  case hy => ((intro w' hSw; (try dsimp only at hSw); go_simp); (try with_reducible rfl))
  (try simp only [Act.put, List.setIfInBounds_toArray, List.set_cons_zero, List.set_cons_succ])
  refine wpAnyH_ready (rs := [24]) (by as_aux_lemma => kernel_rfl) (by simp) ?_
  refine AllReadyH.cons (o := { dst := some 39, op := Op.call { callee := Callee.value (Operand.func 22), args := #[Operand.tmp 37, Operand.tmp 38], argTypes := #[37, 37] }, type := 37, pos := "law.go:60", after := #[{ on := 22, ground := Ground.data }, { on := 23, ground := Ground.data }, { on := 21, ground := Ground.chain }, { on := 21, ground := Ground.guard }], guard := some (21, true) }) rfl (fun K hK => ?_) AllReadyH.nil
  go_simp
  (go_at_call 22; (with_reducible refine (CC3.out _ (HEW.out.trans (by (with_reducible (repeat (first | exact Ext.refl _ | assumption | (refine Ext.toSet ?_ (by omega)) | refine Ext.toAlloc ?_ | refine Ext.toDrew ?_ | refine Ext.toDrewN ?_ | refine Ext.trans ?_ (by assumption)))); (first | done | fail "no")))).mono ?_); rintro e w10 ⟨P10, f10, Q10, g10, rfl, hr, hx10⟩; have K10 := Lib.hid hr; clear hr)
  (try go_wp2_with fail)
  refine hK.out _ _ (HS.out _ (by (with_reducible (repeat (first | exact Ext.refl _ | assumption | (refine Ext.toSet ?_ (by omega)) | refine Ext.toAlloc ?_ | refine Ext.toDrew ?_ | refine Ext.toDrewN ?_ | refine Ext.trans ?_ (by assumption)))); (first | done | fail "no"))) (fun hHeld' => ?_)
  clear hK K hHeld
  have hHeld := hHeld'
  clear hHeld'
  (try simp only [Act.put, List.setIfInBounds_toArray, List.set_cons_zero, List.set_cons_succ])
  refine wpAnyH_ready (rs := [27]) (by as_aux_lemma => kernel_rfl) (by simp) ?_
  refine AllReadyH.cons (o := { dst := some 42, op := Op.call { callee := Callee.value (Operand.func 23), args := #[Operand.tmp 40, Operand.tmp 41], argTypes := #[37, 37] }, type := 37, pos := "law.go:60", after := #[{ on := 25, ground := Ground.data }, { on := 26, ground := Ground.data }, { on := 24, ground := Ground.chain }, { on := 21, ground := Ground.guard }], guard := some (21, true) }) rfl (fun K hK => ?_) AllReadyH.nil
  go_simp
  (go_at_call 23; (with_reducible refine (CR3.out _ (HEW.out.trans (by (with_reducible (repeat (first | exact Ext.refl _ | assumption | (refine Ext.toSet ?_ (by omega)) | refine Ext.toAlloc ?_ | refine Ext.toDrew ?_ | refine Ext.toDrewN ?_ | refine Ext.trans ?_ (by assumption)))); (first | done | fail "no")))).mono ?_); rintro e w11 ⟨P11, f11, Q11, g11, rfl, hr, hx11⟩; have K11 := Lib.hid hr; clear hr)
  (try go_wp2_with fail)
  refine hK.out _ _ (HS.out _ (by (with_reducible (repeat (first | exact Ext.refl _ | assumption | (refine Ext.toSet ?_ (by omega)) | refine Ext.toAlloc ?_ | refine Ext.toDrew ?_ | refine Ext.toDrewN ?_ | refine Ext.trans ?_ (by assumption)))); (first | done | fail "no"))) (fun hHeld' => ?_)
  clear hK K hHeld
  have hHeld := hHeld'
  clear hHeld'
  (try simp only [Act.put, List.setIfInBounds_toArray, List.set_cons_zero, List.set_cons_succ])
  refine wpAnyH_ready (rs := [28]) (by as_aux_lemma => kernel_rfl) (by simp) ?_
  refine AllReadyH.cons (o := { dst := some 43, op := Op.call { callee := Callee.value (Operand.func 15), args := #[Operand.tmp 39, Operand.tmp 42], argTypes := #[37, 37] }, type := 4, pos := "law.go:60", after := #[{ on := 24, ground := Ground.data }, { on := 27, ground := Ground.data }, { on := 27, ground := Ground.chain }, { on := 21, ground := Ground.guard }], guard := some (21, true) }) rfl (fun K hK => ?_) AllReadyH.nil
  go_simp
  (go_at_call 15; (with_reducible refine (same_rd (K10.out.ext (by (with_reducible (repeat (first | exact Ext.refl _ | assumption | (refine Ext.toSet ?_ (by omega)) | refine Ext.toAlloc ?_ | refine Ext.toDrew ?_ | refine Ext.toDrewN ?_ | refine Ext.trans ?_ (by assumption)))); (first | done | fail "no"))) (K11.out.ext (by (with_reducible (repeat (first | exact Ext.refl _ | assumption | (refine Ext.toSet ?_ (by omega)) | refine Ext.toAlloc ?_ | refine Ext.toDrew ?_ | refine Ext.toDrewN ?_ | refine Ext.trans ?_ (by assumption)))); (first | done | fail "no"))) LE3.out.1 LE3.out.2).mono ?_); rintro e w12 ⟨rfl, hx12⟩; clear K10 K11)
  (try go_wp2_with fail)
  refine hK.out _ _ (HS.out _ (by (with_reducible (repeat (first | exact Ext.refl _ | assumption | (refine Ext.toSet ?_ (by omega)) | refine Ext.toAlloc ?_ | refine Ext.toDrew ?_ | refine Ext.toDrewN ?_ | refine Ext.trans ?_ (by assumption)))); (first | done | fail "no"))) (fun hHeld' => ?_)
  clear hK K hHeld
  have hHeld := hHeld'
  clear hHeld'
  (try simp only [Act.put, List.setIfInBounds_toArray, List.set_cons_zero, List.set_cons_succ])
  refine wpAnyH_take (i := 29) (oi := { dst := some 44, op := Op.pick (Operand.tmp 36) (Operand.tmp 43) (Operand.const (Value.bool false)), type := 4, pos := "law.go:59", after := #[{ on := 21, ground := Ground.data }, { on := 28, ground := Ground.data }], guard := none }) (v := ?_) rfl (by as_aux_lemma => kernel_rfl) (by as_aux_lemma => kernel_rfl) (by as_aux_lemma => kernel_rfl) (fun _ _ _ h => h) (Or.inl ⟨by rfl, ?hy⟩) hHeld ?_
  case hy => ((intro w' hSw; (try dsimp only at hSw); go_simp); (try with_reducible rfl))
  (try simp only [Act.put, List.setIfInBounds_toArray, List.set_cons_zero, List.set_cons_succ])
  refine wpAnyH_take (i := 30) (oi := { dst := some 45, op := Op.move (Operand.tmp 44), type := 4, pos := "law.go:59", after := #[{ on := 29, ground := Ground.data }, { on := 28, ground := Ground.chain }], guard := none }) (v := ?_) rfl (by as_aux_lemma => kernel_rfl) (by as_aux_lemma => kernel_rfl) (by as_aux_lemma => kernel_rfl) (fun _ _ _ h => h) (Or.inl ⟨by rfl, ?hy⟩) hHeld ?_
  case hy => ((intro w' hSw; (try dsimp only at hSw); go_simp); (try with_reducible rfl))
  (try simp only [Act.put, List.setIfInBounds_toArray, List.set_cons_zero, List.set_cons_succ])
  refine wpAnyH_take (i := 31) (oi := { dst := some 46, op := Op.load 37 (Operand.tmp 2), type := 37, pos := "law.go:59", after := #[{ on := 30, ground := Ground.guard }], guard := some (30, true) }) (v := ?_) rfl (by as_aux_lemma => kernel_rfl) (by as_aux_lemma => kernel_rfl) (by as_aux_lemma => kernel_rfl) (fun _ _ _ h => h) (Or.inl ⟨by rfl, ?hy⟩) hHeld ?_
  case hy => ((intro w' hSw; (try dsimp only at hSw); go_simp); (try with_reducible rfl))
  (try simp only [Act.put, List.setIfInBounds_toArray, List.set_cons_zero, List.set_cons_succ])
  refine wpAnyH_take (i := 32) (oi := { dst := some 47, op := Op.load 37 (Operand.tmp 3), type := 37, pos := "law.go:59", after := #[{ on := 30, ground := Ground.guard }], guard := some (30, true) }) (v := ?_) rfl (by as_aux_lemma => kernel_rfl) (by as_aux_lemma => kernel_rfl) (by as_aux_lemma => kernel_rfl) (fun _ _ _ h => h) (Or.inl ⟨by rfl, ?hy⟩) hHeld ?_
  case hy => ((intro w' hSw; (try dsimp only at hSw); go_simp); (try with_reducible rfl))
  (try simp only [Act.put, List.setIfInBounds_toArray, List.set_cons_zero, List.set_cons_succ])
  refine wpAnyH_take (i := 34) (oi := { dst := some 49, op := Op.load 37 (Operand.tmp 2), type := 37, pos := "law.go:59", after := #[{ on := 30, ground := Ground.guard }], guard := some (30, true) }) (v := ?_) rfl (by as_aux_lemma => kernel_rfl) (by as_aux_lemma => kernel_rfl) (by as_aux_lemma => kernel_rfl) (fun _ _ _ h => h) (Or.inl ⟨by rfl, ?hy⟩) hHeld ?_
  case hy => ((intro w' hSw; (try dsimp only at hSw); go_simp); (try with_reducible rfl))
  (try simp only [Act.put, List.setIfInBounds_toArray, List.set_cons_zero, List.set_cons_succ])
  refine wpAnyH_take (i := 35) (oi := { dst := some 50, op := Op.load 37 (Operand.tmp 3), type := 37, pos := "law.go:59", after := #[{ on := 30, ground := Ground.guard }], guard := some (30, true) }) (v := ?_) rfl (by as_aux_lemma => kernel_rfl) (by as_aux_lemma => kernel_rfl) (by as_aux_lemma => kernel_rfl) (fun _ _ _ h => h) (Or.inl ⟨by rfl, ?hy⟩) hHeld ?_
  case hy => ((intro w' hSw; (try dsimp only at hSw); go_simp); (try with_reducible rfl))
  (try simp only [Act.put, List.setIfInBounds_toArray, List.set_cons_zero, List.set_cons_succ])
  refine wpAnyH_ready (rs := [33]) (by as_aux_lemma => kernel_rfl) (by simp) ?_
  refine AllReadyH.cons (o := { dst := some 48, op := Op.call { callee := Callee.value (Operand.func 24), args := #[Operand.tmp 46, Operand.tmp 47], argTypes := #[37, 37] }, type := 37, pos := "law.go:60", after := #[{ on := 31, ground := Ground.data }, { on := 32, ground := Ground.data }, { on := 30, ground := Ground.chain }, { on := 30, ground := Ground.guard }], guard := some (30, true) }) rfl (fun K hK => ?_) AllReadyH.nil
  go_simp
  (go_at_call 24; (with_reducible refine (CC4.out _ (HEW.out.trans (by (with_reducible (repeat (first | exact Ext.refl _ | assumption | (refine Ext.toSet ?_ (by omega)) | refine Ext.toAlloc ?_ | refine Ext.toDrew ?_ | refine Ext.toDrewN ?_ | refine Ext.trans ?_ (by assumption)))); (first | done | fail "no")))).mono ?_); rintro e w13 ⟨P13, f13, Q13, g13, rfl, hr, hx13⟩; have K13 := Lib.hid hr; clear hr)
  (try go_wp2_with fail)
  refine hK.out _ _ (HS.out _ (by (with_reducible (repeat (first | exact Ext.refl _ | assumption | (refine Ext.toSet ?_ (by omega)) | refine Ext.toAlloc ?_ | refine Ext.toDrew ?_ | refine Ext.toDrewN ?_ | refine Ext.trans ?_ (by assumption)))); (first | done | fail "no"))) (fun hHeld' => ?_)
  clear hK K hHeld
  have hHeld := hHeld'
  clear hHeld'
  (try simp only [Act.put, List.setIfInBounds_toArray, List.set_cons_zero, List.set_cons_succ])
  refine wpAnyH_ready (rs := [36]) (by as_aux_lemma => kernel_rfl) (by simp) ?_
  refine AllReadyH.cons (o := { dst := some 51, op := Op.call { callee := Callee.value (Operand.func 25), args := #[Operand.tmp 49, Operand.tmp 50], argTypes := #[37, 37] }, type := 37, pos := "law.go:60", after := #[{ on := 34, ground := Ground.data }, { on := 35, ground := Ground.data }, { on := 33, ground := Ground.chain }, { on := 30, ground := Ground.guard }], guard := some (30, true) }) rfl (fun K hK => ?_) AllReadyH.nil
  go_simp
  (go_at_call 25; (with_reducible refine (CR4.out _ (HEW.out.trans (by (with_reducible (repeat (first | exact Ext.refl _ | assumption | (refine Ext.toSet ?_ (by omega)) | refine Ext.toAlloc ?_ | refine Ext.toDrew ?_ | refine Ext.toDrewN ?_ | refine Ext.trans ?_ (by assumption)))); (first | done | fail "no")))).mono ?_); rintro e w14 ⟨P14, f14, Q14, g14, rfl, hr, hx14⟩; have K14 := Lib.hid hr; clear hr)
  (try go_wp2_with fail)
  refine hK.out _ _ (HS.out _ (by (with_reducible (repeat (first | exact Ext.refl _ | assumption | (refine Ext.toSet ?_ (by omega)) | refine Ext.toAlloc ?_ | refine Ext.toDrew ?_ | refine Ext.toDrewN ?_ | refine Ext.trans ?_ (by assumption)))); (first | done | fail "no"))) (fun hHeld' => ?_)
  clear hK K hHeld
  have hHeld := hHeld'
  clear hHeld'
  (try simp only [Act.put, List.setIfInBounds_toArray, List.set_cons_zero, List.set_cons_succ])
  refine wpAnyH_ready (rs := [37]) (by as_aux_lemma => kernel_rfl) (by simp) ?_
  refine AllReadyH.cons (o := { dst := some 52, op := Op.call { callee := Callee.value (Operand.func 15), args := #[Operand.tmp 48, Operand.tmp 51], argTypes := #[37, 37] }, type := 4, pos := "law.go:60", after := #[{ on := 33, ground := Ground.data }, { on := 36, ground := Ground.data }, { on := 36, ground := Ground.chain }, { on := 30, ground := Ground.guard }], guard := some (30, true) }) rfl (fun K hK => ?_) AllReadyH.nil
  go_simp
  (go_at_call 15; (with_reducible refine (same_rd (K13.out.ext (by (with_reducible (repeat (first | exact Ext.refl _ | assumption | (refine Ext.toSet ?_ (by omega)) | refine Ext.toAlloc ?_ | refine Ext.toDrew ?_ | refine Ext.toDrewN ?_ | refine Ext.trans ?_ (by assumption)))); (first | done | fail "no"))) (K14.out.ext (by (with_reducible (repeat (first | exact Ext.refl _ | assumption | (refine Ext.toSet ?_ (by omega)) | refine Ext.toAlloc ?_ | refine Ext.toDrew ?_ | refine Ext.toDrewN ?_ | refine Ext.trans ?_ (by assumption)))); (first | done | fail "no"))) LE4.out.1 LE4.out.2).mono ?_); rintro e w15 ⟨rfl, hx15⟩; clear K13 K14)
  (try go_wp2_with fail)
  refine hK.out _ _ (HS.out _ (by (with_reducible (repeat (first | exact Ext.refl _ | assumption | (refine Ext.toSet ?_ (by omega)) | refine Ext.toAlloc ?_ | refine Ext.toDrew ?_ | refine Ext.toDrewN ?_ | refine Ext.trans ?_ (by assumption)))); (first | done | fail "no"))) (fun hHeld' => ?_)
  clear hK K hHeld
  have hHeld := hHeld'
  clear hHeld'
  (try simp only [Act.put, List.setIfInBounds_toArray, List.set_cons_zero, List.set_cons_succ])
  refine wpAnyH_take (i := 38) (oi := { dst := some 53, op := Op.pick (Operand.tmp 45) (Operand.tmp 52) (Operand.const (Value.bool false)), type := 4, pos := "law.go:59", after := #[{ on := 30, ground := Ground.data }, { on := 37, ground := Ground.data }], guard := none }) (v := ?_) rfl (by as_aux_lemma => kernel_rfl) (by as_aux_lemma => kernel_rfl) (by as_aux_lemma => kernel_rfl) (fun _ _ _ h => h) (Or.inl ⟨by rfl, ?hy⟩) hHeld ?_
  case hy => ((intro w' hSw; (try dsimp only at hSw); go_simp); (try with_reducible rfl))
  (try simp only [Act.put, List.setIfInBounds_toArray, List.set_cons_zero, List.set_cons_succ])
  refine wpAnyH_take (i := 39) (oi := { dst := some 54, op := Op.move (Operand.tmp 53), type := 4, pos := "law.go:59", after := #[{ on := 38, ground := Ground.data }, { on := 37, ground := Ground.chain }], guard := none }) (v := ?_) rfl (by as_aux_lemma => kernel_rfl) (by as_aux_lemma => kernel_rfl) (by as_aux_lemma => kernel_rfl) (fun _ _ _ h => h) (Or.inl ⟨by rfl, ?hy⟩) hHeld ?_
  case hy => ((intro w' hSw; (try dsimp only at hSw); go_simp); (try with_reducible rfl))
  (try simp only [Act.put, List.setIfInBounds_toArray, List.set_cons_zero, List.set_cons_succ])
  refine wpAnyH_take (i := 40) (oi := { dst := some 55, op := Op.load 37 (Operand.tmp 2), type := 37, pos := "law.go:59", after := #[{ on := 39, ground := Ground.guard }], guard := some (39, true) }) (v := ?_) rfl (by as_aux_lemma => kernel_rfl) (by as_aux_lemma => kernel_rfl) (by as_aux_lemma => kernel_rfl) (fun _ _ _ h => h) (Or.inl ⟨by rfl, ?hy⟩) hHeld ?_
  case hy => ((intro w' hSw; (try dsimp only at hSw); go_simp); (try with_reducible rfl))
  (try simp only [Act.put, List.setIfInBounds_toArray, List.set_cons_zero, List.set_cons_succ])
  refine wpAnyH_take (i := 41) (oi := { dst := some 56, op := Op.load 37 (Operand.tmp 3), type := 37, pos := "law.go:59", after := #[{ on := 39, ground := Ground.guard }], guard := some (39, true) }) (v := ?_) rfl (by as_aux_lemma => kernel_rfl) (by as_aux_lemma => kernel_rfl) (by as_aux_lemma => kernel_rfl) (fun _ _ _ h => h) (Or.inl ⟨by rfl, ?hy⟩) hHeld ?_
  case hy => ((intro w' hSw; (try dsimp only at hSw); go_simp); (try with_reducible rfl))
  (try simp only [Act.put, List.setIfInBounds_toArray, List.set_cons_zero, List.set_cons_succ])
  refine wpAnyH_take (i := 43) (oi := { dst := some 58, op := Op.load 37 (Operand.tmp 2), type := 37, pos := "law.go:59", after := #[{ on := 39, ground := Ground.guard }], guard := some (39, true) }) (v := ?_) rfl (by as_aux_lemma => kernel_rfl) (by as_aux_lemma => kernel_rfl) (by as_aux_lemma => kernel_rfl) (fun _ _ _ h => h) (Or.inl ⟨by rfl, ?hy⟩) hHeld ?_
  case hy => ((intro w' hSw; (try dsimp only at hSw); go_simp); (try with_reducible rfl))
  (try simp only [Act.put, List.setIfInBounds_toArray, List.set_cons_zero, List.set_cons_succ])
  refine wpAnyH_take (i := 44) (oi := { dst := some 59, op := Op.load 37 (Operand.tmp 3), type := 37, pos := "law.go:59", after := #[{ on := 39, ground := Ground.guard }], guard := some (39, true) }) (v := ?_) rfl (by as_aux_lemma => kernel_rfl) (by as_aux_lemma => kernel_rfl) (by as_aux_lemma => kernel_rfl) (fun _ _ _ h => h) (Or.inl ⟨by rfl, ?hy⟩) hHeld ?_
  case hy => ((intro w' hSw; (try dsimp only at hSw); go_simp); (try with_reducible rfl))
  (try simp only [Act.put, List.setIfInBounds_toArray, List.set_cons_zero, List.set_cons_succ])
  refine wpAnyH_ready (rs := [42]) (by as_aux_lemma => kernel_rfl) (by simp) ?_
  refine AllReadyH.cons (o := { dst := some 57, op := Op.call { callee := Callee.value (Operand.func 26), args := #[Operand.tmp 55, Operand.tmp 56], argTypes := #[37, 37] }, type := 37, pos := "law.go:60", after := #[{ on := 40, ground := Ground.data }, { on := 41, ground := Ground.data }, { on := 39, ground := Ground.chain }, { on := 39, ground := Ground.guard }], guard := some (39, true) }) rfl (fun K hK => ?_) AllReadyH.nil
  go_simp
  (go_at_call 26; (with_reducible refine (CC5.out _ (HEW.out.trans (by (with_reducible (repeat (first | exact Ext.refl _ | assumption | (refine Ext.toSet ?_ (by omega)) | refine Ext.toAlloc ?_ | refine Ext.toDrew ?_ | refine Ext.toDrewN ?_ | refine Ext.trans ?_ (by assumption)))); (first | done | fail "no")))).mono ?_); rintro e w16 ⟨P16, f16, Q16, g16, rfl, hr, hx16⟩; have K16 := Lib.hid hr; clear hr)
  (try go_wp2_with fail)
  refine hK.out _ _ (HS.out _ (by (with_reducible (repeat (first | exact Ext.refl _ | assumption | (refine Ext.toSet ?_ (by omega)) | refine Ext.toAlloc ?_ | refine Ext.toDrew ?_ | refine Ext.toDrewN ?_ | refine Ext.trans ?_ (by assumption)))); (first | done | fail "no"))) (fun hHeld' => ?_)
  clear hK K hHeld
  have hHeld := hHeld'
  clear hHeld'
  (try simp only [Act.put, List.setIfInBounds_toArray, List.set_cons_zero, List.set_cons_succ])
  refine wpAnyH_ready (rs := [45]) (by as_aux_lemma => kernel_rfl) (by simp) ?_
  refine AllReadyH.cons (o := { dst := some 60, op := Op.call { callee := Callee.value (Operand.func 27), args := #[Operand.tmp 58, Operand.tmp 59], argTypes := #[37, 37] }, type := 37, pos := "law.go:60", after := #[{ on := 43, ground := Ground.data }, { on := 44, ground := Ground.data }, { on := 42, ground := Ground.chain }, { on := 39, ground := Ground.guard }], guard := some (39, true) }) rfl (fun K hK => ?_) AllReadyH.nil
  go_simp
  (go_at_call 27; (with_reducible refine (CR5.out _ (HEW.out.trans (by (with_reducible (repeat (first | exact Ext.refl _ | assumption | (refine Ext.toSet ?_ (by omega)) | refine Ext.toAlloc ?_ | refine Ext.toDrew ?_ | refine Ext.toDrewN ?_ | refine Ext.trans ?_ (by assumption)))); (first | done | fail "no")))).mono ?_); rintro e w17 ⟨P17, f17, Q17, g17, rfl, hr, hx17⟩; have K17 := Lib.hid hr; clear hr)
  (try go_wp2_with fail)
  refine hK.out _ _ (HS.out _ (by (with_reducible (repeat (first | exact Ext.refl _ | assumption | (refine Ext.toSet ?_ (by omega)) | refine Ext.toAlloc ?_ | refine Ext.toDrew ?_ | refine Ext.toDrewN ?_ | refine Ext.trans ?_ (by assumption)))); (first | done | fail "no"))) (fun hHeld' => ?_)
  clear hK K hHeld
  have hHeld := hHeld'
  clear hHeld'
  (try simp only [Act.put, List.setIfInBounds_toArray, List.set_cons_zero, List.set_cons_succ])
  refine wpAnyH_ready (rs := [46]) (by as_aux_lemma => kernel_rfl) (by simp) ?_
  refine AllReadyH.cons (o := { dst := some 61, op := Op.call { callee := Callee.value (Operand.func 15), args := #[Operand.tmp 57, Operand.tmp 60], argTypes := #[37, 37] }, type := 4, pos := "law.go:60", after := #[{ on := 42, ground := Ground.data }, { on := 45, ground := Ground.data }, { on := 45, ground := Ground.chain }, { on := 39, ground := Ground.guard }], guard := some (39, true) }) rfl (fun K hK => ?_) AllReadyH.nil
  go_simp
  (go_at_call 15; (with_reducible refine (same_rd (K16.out.ext (by (with_reducible (repeat (first | exact Ext.refl _ | assumption | (refine Ext.toSet ?_ (by omega)) | refine Ext.toAlloc ?_ | refine Ext.toDrew ?_ | refine Ext.toDrewN ?_ | refine Ext.trans ?_ (by assumption)))); (first | done | fail "no"))) (K17.out.ext (by (with_reducible (repeat (first | exact Ext.refl _ | assumption | (refine Ext.toSet ?_ (by omega)) | refine Ext.toAlloc ?_ | refine Ext.toDrew ?_ | refine Ext.toDrewN ?_ | refine Ext.trans ?_ (by assumption)))); (first | done | fail "no"))) LE5.out.1 LE5.out.2).mono ?_); rintro e w18 ⟨rfl, hx18⟩; clear K16 K17)
  (try go_wp2_with fail)
  refine hK.out _ _ (HS.out _ (by (with_reducible (repeat (first | exact Ext.refl _ | assumption | (refine Ext.toSet ?_ (by omega)) | refine Ext.toAlloc ?_ | refine Ext.toDrew ?_ | refine Ext.toDrewN ?_ | refine Ext.trans ?_ (by assumption)))); (first | done | fail "no"))) (fun hHeld' => ?_)
  clear hK K hHeld
  have hHeld := hHeld'
  clear hHeld'
  (try simp only [Act.put, List.setIfInBounds_toArray, List.set_cons_zero, List.set_cons_succ])
  refine wpAnyH_take (i := 47) (oi := { dst := some 62, op := Op.pick (Operand.tmp 54) (Operand.tmp 61) (Operand.const (Value.bool false)), type := 4, pos := "law.go:59", after := #[{ on := 39, ground := Ground.data }, { on := 46, ground := Ground.data }], guard := none }) (v := ?_) rfl (by as_aux_lemma => kernel_rfl) (by as_aux_lemma => kernel_rfl) (by as_aux_lemma => kernel_rfl) (fun _ _ _ h => h) (Or.inl ⟨by rfl, ?hy⟩) hHeld ?_
  case hy => ((intro w' hSw; (try dsimp only at hSw); go_simp); (try with_reducible rfl))
  (try simp only [Act.put, List.setIfInBounds_toArray, List.set_cons_zero, List.set_cons_succ])
  refine wpAnyH_take (i := 48) (oi := { dst := some 63, op := Op.move (Operand.tmp 62), type := 4, pos := "law.go:59", after := #[{ on := 47, ground := Ground.data }, { on := 46, ground := Ground.chain }], guard := none }) (v := ?_) rfl (by as_aux_lemma => kernel_rfl) (by as_aux_lemma => kernel_rfl) (by as_aux_lemma => kernel_rfl) (fun _ _ _ h => h) (Or.inl ⟨by rfl, ?hy⟩) hHeld ?_
  case hy => ((intro w' hSw; (try dsimp only at hSw); go_simp); (try with_reducible rfl))
  (try simp only [Act.put, List.setIfInBounds_toArray, List.set_cons_zero, List.set_cons_succ])
  refine wpAnyH_take (i := 49) (oi := { dst := some 64, op := Op.load 37 (Operand.tmp 2), type := 37, pos := "law.go:59", after := #[{ on := 48, ground := Ground.guard }], guard := some (48, true) }) (v := ?_) rfl (by as_aux_lemma => kernel_rfl) (by as_aux_lemma => kernel_rfl) (by as_aux_lemma => kernel_rfl) (fun _ _ _ h => h) (Or.inl ⟨by rfl, ?hy⟩) hHeld ?_
  case hy => ((intro w' hSw; (try dsimp only at hSw); go_simp); (try with_reducible rfl))
  (try simp only [Act.put, List.setIfInBounds_toArray, List.set_cons_zero, List.set_cons_succ])
  refine wpAnyH_take (i := 50) (oi := { dst := some 65, op := Op.load 37 (Operand.tmp 3), type := 37, pos := "law.go:59", after := #[{ on := 48, ground := Ground.guard }], guard := some (48, true) }) (v := ?_) rfl (by as_aux_lemma => kernel_rfl) (by as_aux_lemma => kernel_rfl) (by as_aux_lemma => kernel_rfl) (fun _ _ _ h => h) (Or.inl ⟨by rfl, ?hy⟩) hHeld ?_
  case hy => ((intro w' hSw; (try dsimp only at hSw); go_simp); (try with_reducible rfl))
  (try simp only [Act.put, List.setIfInBounds_toArray, List.set_cons_zero, List.set_cons_succ])
  refine wpAnyH_take (i := 52) (oi := { dst := some 67, op := Op.load 37 (Operand.tmp 2), type := 37, pos := "law.go:59", after := #[{ on := 48, ground := Ground.guard }], guard := some (48, true) }) (v := ?_) rfl (by as_aux_lemma => kernel_rfl) (by as_aux_lemma => kernel_rfl) (by as_aux_lemma => kernel_rfl) (fun _ _ _ h => h) (Or.inl ⟨by rfl, ?hy⟩) hHeld ?_
  case hy => ((intro w' hSw; (try dsimp only at hSw); go_simp); (try with_reducible rfl))
  (try simp only [Act.put, List.setIfInBounds_toArray, List.set_cons_zero, List.set_cons_succ])
  refine wpAnyH_take (i := 53) (oi := { dst := some 68, op := Op.load 37 (Operand.tmp 3), type := 37, pos := "law.go:59", after := #[{ on := 48, ground := Ground.guard }], guard := some (48, true) }) (v := ?_) rfl (by as_aux_lemma => kernel_rfl) (by as_aux_lemma => kernel_rfl) (by as_aux_lemma => kernel_rfl) (fun _ _ _ h => h) (Or.inl ⟨by rfl, ?hy⟩) hHeld ?_
  case hy => ((intro w' hSw; (try dsimp only at hSw); go_simp); (try with_reducible rfl))
  (try simp only [Act.put, List.setIfInBounds_toArray, List.set_cons_zero, List.set_cons_succ])
  refine wpAnyH_ready (rs := [51]) (by as_aux_lemma => kernel_rfl) (by simp) ?_
  refine AllReadyH.cons (o := { dst := some 66, op := Op.call { callee := Callee.value (Operand.func 28), args := #[Operand.tmp 64, Operand.tmp 65], argTypes := #[37, 37] }, type := 37, pos := "law.go:61", after := #[{ on := 49, ground := Ground.data }, { on := 50, ground := Ground.data }, { on := 48, ground := Ground.chain }, { on := 48, ground := Ground.guard }], guard := some (48, true) }) rfl (fun K hK => ?_) AllReadyH.nil
  go_simp
  (go_at_call 28; (with_reducible refine (CC6.out _ (HEW.out.trans (by (with_reducible (repeat (first | exact Ext.refl _ | assumption | (refine Ext.toSet ?_ (by omega)) | refine Ext.toAlloc ?_ | refine Ext.toDrew ?_ | refine Ext.toDrewN ?_ | refine Ext.trans ?_ (by assumption)))); (first | done | fail "no")))).mono ?_); rintro e w19 ⟨P19, f19, Q19, g19, rfl, hr, hx19⟩; have K19 := Lib.hid hr; clear hr)
  (try go_wp2_with fail)
  refine hK.out _ _ (HS.out _ (by (with_reducible (repeat (first | exact Ext.refl _ | assumption | (refine Ext.toSet ?_ (by omega)) | refine Ext.toAlloc ?_ | refine Ext.toDrew ?_ | refine Ext.toDrewN ?_ | refine Ext.trans ?_ (by assumption)))); (first | done | fail "no"))) (fun hHeld' => ?_)
  clear hK K hHeld
  have hHeld := hHeld'
  clear hHeld'
  (try simp only [Act.put, List.setIfInBounds_toArray, List.set_cons_zero, List.set_cons_succ])
  refine wpAnyH_ready (rs := [54]) (by as_aux_lemma => kernel_rfl) (by simp) ?_
  refine AllReadyH.cons (o := { dst := some 69, op := Op.call { callee := Callee.value (Operand.func 29), args := #[Operand.tmp 67, Operand.tmp 68], argTypes := #[37, 37] }, type := 37, pos := "law.go:61", after := #[{ on := 52, ground := Ground.data }, { on := 53, ground := Ground.data }, { on := 51, ground := Ground.chain }, { on := 48, ground := Ground.guard }], guard := some (48, true) }) rfl (fun K hK => ?_) AllReadyH.nil
  go_simp
  (go_at_call 29; (with_reducible refine (CR6.out _ (HEW.out.trans (by (with_reducible (repeat (first | exact Ext.refl _ | assumption | (refine Ext.toSet ?_ (by omega)) | refine Ext.toAlloc ?_ | refine Ext.toDrew ?_ | refine Ext.toDrewN ?_ | refine Ext.trans ?_ (by assumption)))); (first | done | fail "no")))).mono ?_); rintro e w20 ⟨P20, f20, Q20, g20, rfl, hr, hx20⟩; have K20 := Lib.hid hr; clear hr)
  (try go_wp2_with fail)
  refine hK.out _ _ (HS.out _ (by (with_reducible (repeat (first | exact Ext.refl _ | assumption | (refine Ext.toSet ?_ (by omega)) | refine Ext.toAlloc ?_ | refine Ext.toDrew ?_ | refine Ext.toDrewN ?_ | refine Ext.trans ?_ (by assumption)))); (first | done | fail "no"))) (fun hHeld' => ?_)
  clear hK K hHeld
  have hHeld := hHeld'
  clear hHeld'
  (try simp only [Act.put, List.setIfInBounds_toArray, List.set_cons_zero, List.set_cons_succ])
  refine wpAnyH_ready (rs := [55]) (by as_aux_lemma => kernel_rfl) (by simp) ?_
  refine AllReadyH.cons (o := { dst := some 70, op := Op.call { callee := Callee.value (Operand.func 15), args := #[Operand.tmp 66, Operand.tmp 69], argTypes := #[37, 37] }, type := 4, pos := "law.go:61", after := #[{ on := 51, ground := Ground.data }, { on := 54, ground := Ground.data }, { on := 54, ground := Ground.chain }, { on := 48, ground := Ground.guard }], guard := some (48, true) }) rfl (fun K hK => ?_) AllReadyH.nil
  go_simp
  (go_at_call 15; (with_reducible refine (same_rd (K19.out.ext (by (with_reducible (repeat (first | exact Ext.refl _ | assumption | (refine Ext.toSet ?_ (by omega)) | refine Ext.toAlloc ?_ | refine Ext.toDrew ?_ | refine Ext.toDrewN ?_ | refine Ext.trans ?_ (by assumption)))); (first | done | fail "no"))) (K20.out.ext (by (with_reducible (repeat (first | exact Ext.refl _ | assumption | (refine Ext.toSet ?_ (by omega)) | refine Ext.toAlloc ?_ | refine Ext.toDrew ?_ | refine Ext.toDrewN ?_ | refine Ext.trans ?_ (by assumption)))); (first | done | fail "no"))) LE6.out.1 LE6.out.2).mono ?_); rintro e w21 ⟨rfl, hx21⟩; clear K19 K20)
  (try go_wp2_with fail)
  refine hK.out _ _ (HS.out _ (by (with_reducible (repeat (first | exact Ext.refl _ | assumption | (refine Ext.toSet ?_ (by omega)) | refine Ext.toAlloc ?_ | refine Ext.toDrew ?_ | refine Ext.toDrewN ?_ | refine Ext.trans ?_ (by assumption)))); (first | done | fail "no"))) (fun hHeld' => ?_)
  clear hK K hHeld
  have hHeld := hHeld'
  clear hHeld'
  (try simp only [Act.put, List.setIfInBounds_toArray, List.set_cons_zero, List.set_cons_succ])
  refine wpAnyH_take (i := 56) (oi := { dst := some 71, op := Op.pick (Operand.tmp 63) (Operand.tmp 70) (Operand.const (Value.bool false)), type := 4, pos := "law.go:59", after := #[{ on := 48, ground := Ground.data }, { on := 55, ground := Ground.data }], guard := none }) (v := ?_) rfl (by as_aux_lemma => kernel_rfl) (by as_aux_lemma => kernel_rfl) (by as_aux_lemma => kernel_rfl) (fun _ _ _ h => h) (Or.inl ⟨by rfl, ?hy⟩) hHeld ?_
  case hy => ((intro w' hSw; (try dsimp only at hSw); go_simp); (try with_reducible rfl))
  (try simp only [Act.put, List.setIfInBounds_toArray, List.set_cons_zero, List.set_cons_succ])
  refine wpAnyH_take (i := 57) (oi := { dst := some 72, op := Op.move (Operand.tmp 71), type := 4, pos := "law.go:59", after := #[{ on := 56, ground := Ground.data }, { on := 55, ground := Ground.chain }], guard := none }) (v := ?_) rfl (by as_aux_lemma => kernel_rfl) (by as_aux_lemma => kernel_rfl) (by as_aux_lemma => kernel_rfl) (fun _ _ _ h => h) (Or.inl ⟨by rfl, ?hy⟩) hHeld ?_
  case hy => ((intro w' hSw; (try dsimp only at hSw); go_simp); (try with_reducible rfl))
  (try simp only [Act.put, List.setIfInBounds_toArray, List.set_cons_zero, List.set_cons_succ])
  refine wpAnyH_take (i := 58) (oi := { dst := some 73, op := Op.load 37 (Operand.tmp 2), type := 37, pos := "law.go:59", after := #[{ on := 57, ground := Ground.guard }], guard := some (57, true) }) (v := ?_) rfl (by as_aux_lemma => kernel_rfl) (by as_aux_lemma => kernel_rfl) (by as_aux_lemma => kernel_rfl) (fun _ _ _ h => h) (Or.inl ⟨by rfl, ?hy⟩) hHeld ?_
  case hy => ((intro w' hSw; (try dsimp only at hSw); go_simp); (try with_reducible rfl))
  (try simp only [Act.put, List.setIfInBounds_toArray, List.set_cons_zero, List.set_cons_succ])
  refine wpAnyH_take (i := 59) (oi := { dst := some 74, op := Op.load 37 (Operand.tmp 3), type := 37, pos := "law.go:59", after := #[{ on := 57, ground := Ground.guard }], guard := some (57, true) }) (v := ?_) rfl (by as_aux_lemma => kernel_rfl) (by as_aux_lemma => kernel_rfl) (by as_aux_lemma => kernel_rfl) (fun _ _ _ h => h) (Or.inl ⟨by rfl, ?hy⟩) hHeld ?_
  case hy => ((intro w' hSw; (try dsimp only at hSw); go_simp); (try with_reducible rfl))
  (try simp only [Act.put, List.setIfInBounds_toArray, List.set_cons_zero, List.set_cons_succ])
  refine wpAnyH_take (i := 61) (oi := { dst := some 76, op := Op.load 37 (Operand.tmp 2), type := 37, pos := "law.go:59", after := #[{ on := 57, ground := Ground.guard }], guard := some (57, true) }) (v := ?_) rfl (by as_aux_lemma => kernel_rfl) (by as_aux_lemma => kernel_rfl) (by as_aux_lemma => kernel_rfl) (fun _ _ _ h => h) (Or.inl ⟨by rfl, ?hy⟩) hHeld ?_
  case hy => ((intro w' hSw; (try dsimp only at hSw); go_simp); (try with_reducible rfl))
  (try simp only [Act.put, List.setIfInBounds_toArray, List.set_cons_zero, List.set_cons_succ])
  refine wpAnyH_take (i := 62) (oi := { dst := some 77, op := Op.load 37 (Operand.tmp 3), type := 37, pos := "law.go:59", after := #[{ on := 57, ground := Ground.guard }], guard := some (57, true) }) (v := ?_) rfl (by as_aux_lemma => kernel_rfl) (by as_aux_lemma => kernel_rfl) (by as_aux_lemma => kernel_rfl) (fun _ _ _ h => h) (Or.inl ⟨by rfl, ?hy⟩) hHeld ?_
  case hy => ((intro w' hSw; (try dsimp only at hSw); go_simp); (try with_reducible rfl))
  (try simp only [Act.put, List.setIfInBounds_toArray, List.set_cons_zero, List.set_cons_succ])
  refine wpAnyH_ready (rs := [60]) (by as_aux_lemma => kernel_rfl) (by simp) ?_
  refine AllReadyH.cons (o := { dst := some 75, op := Op.call { callee := Callee.value (Operand.func 30), args := #[Operand.tmp 73, Operand.tmp 74], argTypes := #[37, 37] }, type := 37, pos := "law.go:61", after := #[{ on := 58, ground := Ground.data }, { on := 59, ground := Ground.data }, { on := 57, ground := Ground.chain }, { on := 57, ground := Ground.guard }], guard := some (57, true) }) rfl (fun K hK => ?_) AllReadyH.nil
  go_simp
  (go_at_call 30; (with_reducible refine (CC7.out _ (HEW.out.trans (by (with_reducible (repeat (first | exact Ext.refl _ | assumption | (refine Ext.toSet ?_ (by omega)) | refine Ext.toAlloc ?_ | refine Ext.toDrew ?_ | refine Ext.toDrewN ?_ | refine Ext.trans ?_ (by assumption)))); (first | done | fail "no")))).mono ?_); rintro e w22 ⟨P22, f22, Q22, g22, rfl, hr, hx22⟩; have K22 := Lib.hid hr; clear hr)
  (try go_wp2_with fail)
  refine hK.out _ _ (HS.out _ (by (with_reducible (repeat (first | exact Ext.refl _ | assumption | (refine Ext.toSet ?_ (by omega)) | refine Ext.toAlloc ?_ | refine Ext.toDrew ?_ | refine Ext.toDrewN ?_ | refine Ext.trans ?_ (by assumption)))); (first | done | fail "no"))) (fun hHeld' => ?_)
  clear hK K hHeld
  have hHeld := hHeld'
  clear hHeld'
  (try simp only [Act.put, List.setIfInBounds_toArray, List.set_cons_zero, List.set_cons_succ])
  refine wpAnyH_ready (rs := [63]) (by as_aux_lemma => kernel_rfl) (by simp) ?_
  refine AllReadyH.cons (o := { dst := some 78, op := Op.call { callee := Callee.value (Operand.func 31), args := #[Operand.tmp 76, Operand.tmp 77], argTypes := #[37, 37] }, type := 37, pos := "law.go:61", after := #[{ on := 61, ground := Ground.data }, { on := 62, ground := Ground.data }, { on := 60, ground := Ground.chain }, { on := 57, ground := Ground.guard }], guard := some (57, true) }) rfl (fun K hK => ?_) AllReadyH.nil
  go_simp
  (go_at_call 31; (with_reducible refine (CR7.out _ (HEW.out.trans (by (with_reducible (repeat (first | exact Ext.refl _ | assumption | (refine Ext.toSet ?_ (by omega)) | refine Ext.toAlloc ?_ | refine Ext.toDrew ?_ | refine Ext.toDrewN ?_ | refine Ext.trans ?_ (by assumption)))); (first | done | fail "no")))).mono ?_); rintro e w23 ⟨P23, f23, Q23, g23, rfl, hr, hx23⟩; have K23 := Lib.hid hr; clear hr)
  (try go_wp2_with fail)
  refine hK.out _ _ (HS.out _ (by (with_reducible (repeat (first | exact Ext.refl _ | assumption | (refine Ext.toSet ?_ (by omega)) | refine Ext.toAlloc ?_ | refine Ext.toDrew ?_ | refine Ext.toDrewN ?_ | refine Ext.trans ?_ (by assumption)))); (first | done | fail "no"))) (fun hHeld' => ?_)
  clear hK K hHeld
  have hHeld := hHeld'
  clear hHeld'
  (try simp only [Act.put, List.setIfInBounds_toArray, List.set_cons_zero, List.set_cons_succ])
  refine wpAnyH_ready (rs := [64]) (by as_aux_lemma => kernel_rfl) (by simp) ?_
  refine AllReadyH.cons (o := { dst := some 79, op := Op.call { callee := Callee.value (Operand.func 15), args := #[Operand.tmp 75, Operand.tmp 78], argTypes := #[37, 37] }, type := 4, pos := "law.go:61", after := #[{ on := 60, ground := Ground.data }, { on := 63, ground := Ground.data }, { on := 63, ground := Ground.chain }, { on := 57, ground := Ground.guard }], guard := some (57, true) }) rfl (fun K hK => ?_) AllReadyH.nil
  go_simp
  (go_at_call 15; (with_reducible refine (same_rd (K22.out.ext (by (with_reducible (repeat (first | exact Ext.refl _ | assumption | (refine Ext.toSet ?_ (by omega)) | refine Ext.toAlloc ?_ | refine Ext.toDrew ?_ | refine Ext.toDrewN ?_ | refine Ext.trans ?_ (by assumption)))); (first | done | fail "no"))) (K23.out.ext (by (with_reducible (repeat (first | exact Ext.refl _ | assumption | (refine Ext.toSet ?_ (by omega)) | refine Ext.toAlloc ?_ | refine Ext.toDrew ?_ | refine Ext.toDrewN ?_ | refine Ext.trans ?_ (by assumption)))); (first | done | fail "no"))) LE7.out.1 LE7.out.2).mono ?_); rintro e w24 ⟨rfl, hx24⟩; clear K22 K23)
  (try go_wp2_with fail)
  refine hK.out _ _ (HS.out _ (by (with_reducible (repeat (first | exact Ext.refl _ | assumption | (refine Ext.toSet ?_ (by omega)) | refine Ext.toAlloc ?_ | refine Ext.toDrew ?_ | refine Ext.toDrewN ?_ | refine Ext.trans ?_ (by assumption)))); (first | done | fail "no"))) (fun hHeld' => ?_)
  clear hK K hHeld
  have hHeld := hHeld'
  clear hHeld'
  (try simp only [Act.put, List.setIfInBounds_toArray, List.set_cons_zero, List.set_cons_succ])
  refine wpAnyH_take (i := 65) (oi := { dst := some 80, op := Op.pick (Operand.tmp 72) (Operand.tmp 79) (Operand.const (Value.bool false)), type := 4, pos := "law.go:59", after := #[{ on := 57, ground := Ground.data }, { on := 64, ground := Ground.data }], guard := none }) (v := ?_) rfl (by as_aux_lemma => kernel_rfl) (by as_aux_lemma => kernel_rfl) (by as_aux_lemma => kernel_rfl) (fun _ _ _ h => h) (Or.inl ⟨by rfl, ?hy⟩) hHeld ?_
  case hy => ((intro w' hSw; (try dsimp only at hSw); go_simp); (try with_reducible rfl))
  (try simp only [Act.put, List.setIfInBounds_toArray, List.set_cons_zero, List.set_cons_succ])
  refine wpAnyH_take (i := 66) (oi := { dst := some 81, op := Op.move (Operand.tmp 80), type := 4, pos := "law.go:59", after := #[{ on := 65, ground := Ground.data }, { on := 64, ground := Ground.chain }], guard := none }) (v := ?_) rfl (by as_aux_lemma => kernel_rfl) (by as_aux_lemma => kernel_rfl) (by as_aux_lemma => kernel_rfl) (fun _ _ _ h => h) (Or.inl ⟨by rfl, ?hy⟩) hHeld ?_
  case hy => ((intro w' hSw; (try dsimp only at hSw); go_simp); (try with_reducible rfl))
  (try simp only [Act.put, List.setIfInBounds_toArray, List.set_cons_zero, List.set_cons_succ])
  refine wpAnyH_take (i := 67) (oi := { dst := some 82, op := Op.load 37 (Operand.tmp 2), type := 37, pos := "law.go:59", after := #[{ on := 66, ground := Ground.guard }], guard := some (66, true) }) (v := ?_) rfl (by as_aux_lemma => kernel_rfl) (by as_aux_lemma => kernel_rfl) (by as_aux_lemma => kernel_rfl) (fun _ _ _ h => h) (Or.inl ⟨by rfl, ?hy⟩) hHeld ?_
  case hy => ((intro w' hSw; (try dsimp only at hSw); go_simp); (try with_reducible rfl))
  (try simp only [Act.put, List.setIfInBounds_toArray, List.set_cons_zero, List.set_cons_succ])
  refine wpAnyH_take (i := 69) (oi := { dst := some 84, op := Op.load 37 (Operand.tmp 2), type := 37, pos := "law.go:59", after := #[{ on := 66, ground := Ground.guard }], guard := some (66, true) }) (v := ?_) rfl (by as_aux_lemma => kernel_rfl) (by as_aux_lemma => kernel_rfl) (by as_aux_lemma => kernel_rfl) (fun _ _ _ h => h) (Or.inl ⟨by rfl, ?hy⟩) hHeld ?_
  case hy => ((intro w' hSw; (try dsimp only at hSw); go_simp); (try with_reducible rfl))
  (try simp only [Act.put, List.setIfInBounds_toArray, List.set_cons_zero, List.set_cons_succ])
  refine wpAnyH_ready (rs := [68]) (by as_aux_lemma => kernel_rfl) (by simp) ?_
  refine AllReadyH.cons (o := { dst := some 83, op := Op.call { callee := Callee.value (Operand.func 32), args := #[Operand.tmp 82], argTypes := #[37] }, type := 25, pos := "law.go:61", after := #[{ on := 67, ground := Ground.data }, { on := 66, ground := Ground.chain }, { on := 66, ground := Ground.guard }], guard := some (66, true) }) rfl (fun K hK => ?_) AllReadyH.nil
  go_simp
  (go_at_call 32; (with_reducible refine (CC8.out _ (HEW.out.trans (by (with_reducible (repeat (first | exact Ext.refl _ | assumption | (refine Ext.toSet ?_ (by omega)) | refine Ext.toAlloc ?_ | refine Ext.toDrew ?_ | refine Ext.toDrewN ?_ | refine Ext.trans ?_ (by assumption)))); (first | done | fail "no")))).mono ?_); rintro e w25 ⟨P25, f25, rfl, hr, hx25⟩; have K25 := Lib.hid hr; clear hr)
  (try go_wp2_with fail)
  refine hK.out _ _ (HS.out _ (by (with_reducible (repeat (first | exact Ext.refl _ | assumption | (refine Ext.toSet ?_ (by omega)) | refine Ext.toAlloc ?_ | refine Ext.toDrew ?_ | refine Ext.toDrewN ?_ | refine Ext.trans ?_ (by assumption)))); (first | done | fail "no"))) (fun hHeld' => ?_)
  clear hK K hHeld
  have hHeld := hHeld'
  clear hHeld'
  (try simp only [Act.put, List.setIfInBounds_toArray, List.set_cons_zero, List.set_cons_succ])
  refine wpAnyH_ready (rs := [70]) (by as_aux_lemma => kernel_rfl) (by simp) ?_
  refine AllReadyH.cons (o := { dst := some 85, op := Op.call { callee := Callee.value (Operand.func 33), args := #[Operand.tmp 84], argTypes := #[37] }, type := 25, pos := "law.go:61", after := #[{ on := 69, ground := Ground.data }, { on := 68, ground := Ground.chain }, { on := 66, ground := Ground.guard }], guard := some (66, true) }) rfl (fun K hK => ?_) AllReadyH.nil
  go_simp
  (go_at_call 33; (with_reducible refine (CR8.out _ (HEW.out.trans (by (with_reducible (repeat (first | exact Ext.refl _ | assumption | (refine Ext.toSet ?_ (by omega)) | refine Ext.toAlloc ?_ | refine Ext.toDrew ?_ | refine Ext.toDrewN ?_ | refine Ext.trans ?_ (by assumption)))); (first | done | fail "no")))).mono ?_); rintro e w26 ⟨P26, f26, rfl, hr, hx26⟩; have K26 := Lib.hid hr; clear hr)
  (try go_wp2_with fail)
  refine hK.out _ _ (HS.out _ (by (with_reducible (repeat (first | exact Ext.refl _ | assumption | (refine Ext.toSet ?_ (by omega)) | refine Ext.toAlloc ?_ | refine Ext.toDrew ?_ | refine Ext.toDrewN ?_ | refine Ext.trans ?_ (by assumption)))); (first | done | fail "no"))) (fun hHeld' => ?_)
  clear hK K hHeld
  have hHeld := hHeld'
  clear hHeld'
  (try simp only [Act.put, List.setIfInBounds_toArray, List.set_cons_zero, List.set_cons_succ])
  refine wpAnyH_ready (rs := [71]) (by as_aux_lemma => kernel_rfl) (by simp) ?_
  refine AllReadyH.cons (o := { dst := some 86, op := Op.call { callee := Callee.value (Operand.func 11), args := #[Operand.tmp 83, Operand.tmp 85], argTypes := #[25, 25] }, type := 4, pos := "law.go:61", after := #[{ on := 68, ground := Ground.data }, { on := 70, ground := Ground.data }, { on := 70, ground := Ground.chain }, { on := 66, ground := Ground.guard }], guard := some (66, true) }) rfl (fun K hK => ?_) AllReadyH.nil
  go_simp
  (go_at_call 11; (with_reducible refine (same_true (K25.out.ext (by (with_reducible (repeat (first | exact Ext.refl _ | assumption | (refine Ext.toSet ?_ (by omega)) | refine Ext.toAlloc ?_ | refine Ext.toDrew ?_ | refine Ext.toDrewN ?_ | refine Ext.trans ?_ (by assumption)))); (first | done | fail "no"))) (K26.out.ext (by (with_reducible (repeat (first | exact Ext.refl _ | assumption | (refine Ext.toSet ?_ (by omega)) | refine Ext.toAlloc ?_ | refine Ext.toDrew ?_ | refine Ext.toDrewN ?_ | refine Ext.trans ?_ (by assumption)))); (first | done | fail "no"))) LE8.out).mono ?_); rintro e w27 ⟨rfl, hx27⟩; clear K25 K26)
  (try go_wp2_with fail)
  refine hK.out _ _ (HS.out _ (by (with_reducible (repeat (first | exact Ext.refl _ | assumption | (refine Ext.toSet ?_ (by omega)) | refine Ext.toAlloc ?_ | refine Ext.toDrew ?_ | refine Ext.toDrewN ?_ | refine Ext.trans ?_ (by assumption)))); (first | done | fail "no"))) (fun hHeld' => ?_)
  clear hK K hHeld
  have hHeld := hHeld'
  clear hHeld'
  (try simp only [Act.put, List.setIfInBounds_toArray, List.set_cons_zero, List.set_cons_succ])
  refine wpAnyH_take (i := 72) (oi := { dst := some 87, op := Op.pick (Operand.tmp 81) (Operand.tmp 86) (Operand.const (Value.bool false)), type := 4, pos := "law.go:59", after := #[{ on := 66, ground := Ground.data }, { on := 71, ground := Ground.data }], guard := none }) (v := ?_) rfl (by as_aux_lemma => kernel_rfl) (by as_aux_lemma => kernel_rfl) (by as_aux_lemma => kernel_rfl) (fun _ _ _ h => h) (Or.inl ⟨by rfl, ?hy⟩) hHeld ?_
  case hy => ((intro w' hSw; (try dsimp only at hSw); go_simp); (try with_reducible rfl))
  (try simp only [Act.put, List.setIfInBounds_toArray, List.set_cons_zero, List.set_cons_succ])
  refine wpAnyH_take (i := 73) (oi := { dst := some 88, op := Op.move (Operand.tmp 87), type := 4, pos := "law.go:59", after := #[{ on := 72, ground := Ground.data }, { on := 71, ground := Ground.chain }], guard := none }) (v := ?_) rfl (by as_aux_lemma => kernel_rfl) (by as_aux_lemma => kernel_rfl) (by as_aux_lemma => kernel_rfl) (fun _ _ _ h => h) (Or.inl ⟨by rfl, ?hy⟩) hHeld ?_
  case hy => ((intro w' hSw; (try dsimp only at hSw); go_simp); (try with_reducible rfl))
  (try simp only [Act.put, List.setIfInBounds_toArray, List.set_cons_zero, List.set_cons_succ])
  refine wpAnyH_take (i := 74) (oi := { dst := some 89, op := Op.load 37 (Operand.tmp 2), type := 37, pos := "law.go:59", after := #[{ on := 73, ground := Ground.guard }], guard := some (73, true) }) (v := ?_) rfl (by as_aux_lemma => kernel_rfl) (by as_aux_lemma => kernel_rfl) (by as_aux_lemma => kernel_rfl) (fun _ _ _ h => h) (Or.inl ⟨by rfl, ?hy⟩) hHeld ?_
  case hy => ((intro w' hSw; (try dsimp only at hSw); go_simp); (try with_reducible rfl))
  (try simp only [Act.put, List.setIfInBounds_toArray, List.set_cons_zero, List.set_cons_succ])
  refine wpAnyH_take (i := 76) (oi := { dst := some 91, op := Op.load 37 (Operand.tmp 2), type := 37, pos := "law.go:59", after := #[{ on := 73, ground := Ground.guard }], guard := some (73, true) }) (v := ?_) rfl (by as_aux_lemma => kernel_rfl) (by as_aux_lemma => kernel_rfl) (by as_aux_lemma => kernel_rfl) (fun _ _ _ h => h) (Or.inl ⟨by rfl, ?hy⟩) hHeld ?_
  case hy => ((intro w' hSw; (try dsimp only at hSw); go_simp); (try with_reducible rfl))
  (try simp only [Act.put, List.setIfInBounds_toArray, List.set_cons_zero, List.set_cons_succ])
  refine wpAnyH_ready (rs := [75]) (by as_aux_lemma => kernel_rfl) (by simp) ?_
  refine AllReadyH.cons (o := { dst := some 90, op := Op.call { callee := Callee.value (Operand.func 34), args := #[Operand.tmp 89], argTypes := #[37] }, type := 25, pos := "law.go:62", after := #[{ on := 74, ground := Ground.data }, { on := 73, ground := Ground.chain }, { on := 73, ground := Ground.guard }], guard := some (73, true) }) rfl (fun K hK => ?_) AllReadyH.nil
  go_simp
  (go_at_call 34; (with_reducible refine (CC9.out _ (HEW.out.trans (by (with_reducible (repeat (first | exact Ext.refl _ | assumption | (refine Ext.toSet ?_ (by omega)) | refine Ext.toAlloc ?_ | refine Ext.toDrew ?_ | refine Ext.toDrewN ?_ | refine Ext.trans ?_ (by assumption)))); (first | done | fail "no")))).mono ?_); rintro e w28 ⟨P28, f28, rfl, hr, hx28⟩; have K28 := Lib.hid hr; clear hr)
  (try go_wp2_with fail)
  refine hK.out _ _ (HS.out _ (by (with_reducible (repeat (first | exact Ext.refl _ | assumption | (refine Ext.toSet ?_ (by omega)) | refine Ext.toAlloc ?_ | refine Ext.toDrew ?_ | refine Ext.toDrewN ?_ | refine Ext.trans ?_ (by assumption)))); (first | done | fail "no"))) (fun hHeld' => ?_)
  clear hK K hHeld
  have hHeld := hHeld'
  clear hHeld'
  (try simp only [Act.put, List.setIfInBounds_toArray, List.set_cons_zero, List.set_cons_succ])
  refine wpAnyH_ready (rs := [77]) (by as_aux_lemma => kernel_rfl) (by simp) ?_
  refine AllReadyH.cons (o := { dst := some 92, op := Op.call { callee := Callee.value (Operand.func 35), args := #[Operand.tmp 91], argTypes := #[37] }, type := 25, pos := "law.go:62", after := #[{ on := 76, ground := Ground.data }, { on := 75, ground := Ground.chain }, { on := 73, ground := Ground.guard }], guard := some (73, true) }) rfl (fun K hK => ?_) AllReadyH.nil
  go_simp
  (go_at_call 35; (with_reducible refine (CR9.out _ (HEW.out.trans (by (with_reducible (repeat (first | exact Ext.refl _ | assumption | (refine Ext.toSet ?_ (by omega)) | refine Ext.toAlloc ?_ | refine Ext.toDrew ?_ | refine Ext.toDrewN ?_ | refine Ext.trans ?_ (by assumption)))); (first | done | fail "no")))).mono ?_); rintro e w29 ⟨P29, f29, rfl, hr, hx29⟩; have K29 := Lib.hid hr; clear hr)
  (try go_wp2_with fail)
  refine hK.out _ _ (HS.out _ (by (with_reducible (repeat (first | exact Ext.refl _ | assumption | (refine Ext.toSet ?_ (by omega)) | refine Ext.toAlloc ?_ | refine Ext.toDrew ?_ | refine Ext.toDrewN ?_ | refine Ext.trans ?_ (by assumption)))); (first | done | fail "no"))) (fun hHeld' => ?_)
  clear hK K hHeld
  have hHeld := hHeld'
  clear hHeld'
  (try simp only [Act.put, List.setIfInBounds_toArray, List.set_cons_zero, List.set_cons_succ])
  refine wpAnyH_ready (rs := [78]) (by as_aux_lemma => kernel_rfl) (by simp) ?_
  refine AllReadyH.cons (o := { dst := some 93, op := Op.call { callee := Callee.value (Operand.func 11), args := #[Operand.tmp 90, Operand.tmp 92], argTypes := #[25, 25] }, type := 4, pos := "law.go:62", after := #[{ on := 75, ground := Ground.data }, { on := 77, ground := Ground.data }, { on := 77, ground := Ground.chain }, { on := 73, ground := Ground.guard }], guard := some (73, true) }) rfl (fun K hK => ?_) AllReadyH.nil
  go_simp
  (go_at_call 11; (with_reducible refine (same_true (K28.out.ext (by (with_reducible (repeat (first | exact Ext.refl _ | assumption | (refine Ext.toSet ?_ (by omega)) | refine Ext.toAlloc ?_ | refine Ext.toDrew ?_ | refine Ext.toDrewN ?_ | refine Ext.trans ?_ (by assumption)))); (first | done | fail "no"))) (K29.out.ext (by (with_reducible (repeat (first | exact Ext.refl _ | assumption | (refine Ext.toSet ?_ (by omega)) | refine Ext.toAlloc ?_ | refine Ext.toDrew ?_ | refine Ext.toDrewN ?_ | refine Ext.trans ?_ (by assumption)))); (first | done | fail "no"))) LE9.out).mono ?_); rintro e w30 ⟨rfl, hx30⟩; clear K28 K29)
  (try go_wp2_with fail)
  refine hK.out _ _ (HS.out _ (by (with_reducible (repeat (first | exact Ext.refl _ | assumption | (refine Ext.toSet ?_ (by omega)) | refine Ext.toAlloc ?_ | refine Ext.toDrew ?_ | refine Ext.toDrewN ?_ | refine Ext.trans ?_ (by assumption)))); (first | done | fail "no"))) (fun hHeld' => ?_)
  clear hK K hHeld
  have hHeld := hHeld'
  clear hHeld'
  (try simp only [Act.put, List.setIfInBounds_toArray, List.set_cons_zero, List.set_cons_succ])
  refine wpAnyH_take (i := 79) (oi := { dst := some 94, op := Op.pick (Operand.tmp 88) (Operand.tmp 93) (Operand.const (Value.bool false)), type := 4, pos := "law.go:59", after := #[{ on := 73, ground := Ground.data }, { on := 78, ground := Ground.data }], guard := none }) (v := ?_) rfl (by as_aux_lemma => kernel_rfl) (by as_aux_lemma => kernel_rfl) (by as_aux_lemma => kernel_rfl) (fun _ _ _ h => h) (Or.inl ⟨by rfl, ?hy⟩) hHeld ?_
  case hy => ((intro w' hSw; (try dsimp only at hSw); go_simp); (try with_reducible rfl))
  (try simp only [Act.put, List.setIfInBounds_toArray, List.set_cons_zero, List.set_cons_succ])
  refine wpAnyH_take (i := 80) (oi := { dst := some 95, op := Op.move (Operand.tmp 94), type := 4, pos := "law.go:59", after := #[{ on := 79, ground := Ground.data }, { on := 78, ground := Ground.chain }], guard := none }) (v := ?_) rfl (by as_aux_lemma => kernel_rfl) (by as_aux_lemma => kernel_rfl) (by as_aux_lemma => kernel_rfl) (fun _ _ _ h => h) (Or.inl ⟨by rfl, ?hy⟩) hHeld ?_
  case hy => ((intro w' hSw; (try dsimp only at hSw); go_simp); (try with_reducible rfl))
  (try simp only [Act.put, List.setIfInBounds_toArray, List.set_cons_zero, List.set_cons_succ])
  refine wpAnyH_take (i := 81) (oi := { dst := some 96, op := Op.load 37 (Operand.tmp 2), type := 37, pos := "law.go:59", after := #[{ on := 80, ground := Ground.guard }], guard := some (80, true) }) (v := ?_) rfl (by as_aux_lemma => kernel_rfl) (by as_aux_lemma => kernel_rfl) (by as_aux_lemma => kernel_rfl) (fun _ _ _ h => h) (Or.inl ⟨by rfl, ?hy⟩) hHeld ?_
  case hy => ((intro w' hSw; (try dsimp only at hSw); go_simp); (try with_reducible rfl))
  (try simp only [Act.put, List.setIfInBounds_toArray, List.set_cons_zero, List.set_cons_succ])
  refine wpAnyH_take (i := 83) (oi := { dst := some 98, op := Op.load 37 (Operand.tmp 2), type := 37, pos := "law.go:59", after := #[{ on := 80, ground := Ground.guard }], guard := some (80, true) }) (v := ?_) rfl (by as_aux_lemma => kernel_rfl) (by as_aux_lemma => kernel_rfl) (by as_aux_lemma => kernel_rfl) (fun _ _ _ h => h) (Or.inl ⟨by rfl, ?hy⟩) hHeld ?_
  case hy => ((intro w' hSw; (try dsimp only at hSw); go_simp); (try with_reducible rfl))
  (try simp only [Act.put, List.setIfInBounds_toArray, List.set_cons_zero, List.set_cons_succ])
  refine wpAnyH_ready (rs := [82]) (by as_aux_lemma => kernel_rfl) (by simp) ?_
  refine AllReadyH.cons (o := { dst := some 97, op := Op.call { callee := Callee.value (Operand.func 36), args := #[Operand.tmp 96], argTypes := #[37] }, type := 9, pos := "law.go:62", after := #[{ on := 81, ground := Ground.data }, { on := 80, ground := Ground.chain }, { on := 80, ground := Ground.guard }], guard := some (80, true) }) rfl (fun K hK => ?_) AllReadyH.nil
  go_simp
  (go_at_call 36; (with_reducible refine (CCt.out _ (HEW.out.trans (by (with_reducible (repeat (first | exact Ext.refl _ | assumption | (refine Ext.toSet ?_ (by omega)) | refine Ext.toAlloc ?_ | refine Ext.toDrew ?_ | refine Ext.toDrewN ?_ | refine Ext.trans ?_ (by assumption)))); (first | done | fail "no")))).mono ?_); rintro e w31 ⟨rfl, hx31⟩)
  (try go_wp2_with fail)
  refine hK.out _ _ (HS.out _ (by (with_reducible (repeat (first | exact Ext.refl _ | assumption | (refine Ext.toSet ?_ (by omega)) | refine Ext.toAlloc ?_ | refine Ext.toDrew ?_ | refine Ext.toDrewN ?_ | refine Ext.trans ?_ (by assumption)))); (first | done | fail "no"))) (fun hHeld' => ?_)
  clear hK K hHeld
  have hHeld := hHeld'
  clear hHeld'
  (try simp only [Act.put, List.setIfInBounds_toArray, List.set_cons_zero, List.set_cons_succ])
  refine wpAnyH_ready (rs := [84]) (by as_aux_lemma => kernel_rfl) (by simp) ?_
  refine AllReadyH.cons (o := { dst := some 99, op := Op.call { callee := Callee.value (Operand.func 37), args := #[Operand.tmp 98], argTypes := #[37] }, type := 9, pos := "law.go:62", after := #[{ on := 83, ground := Ground.data }, { on := 82, ground := Ground.chain }, { on := 80, ground := Ground.guard }], guard := some (80, true) }) rfl (fun K hK => ?_) AllReadyH.nil
  go_simp
  (go_at_call 37; (with_reducible refine (CRt.out _ (HEW.out.trans (by (with_reducible (repeat (first | exact Ext.refl _ | assumption | (refine Ext.toSet ?_ (by omega)) | refine Ext.toAlloc ?_ | refine Ext.toDrew ?_ | refine Ext.toDrewN ?_ | refine Ext.trans ?_ (by assumption)))); (first | done | fail "no")))).mono ?_); rintro e w32 ⟨rfl, hx32⟩)
  (try go_wp2_with fail)
  refine hK.out _ _ (HS.out _ (by (with_reducible (repeat (first | exact Ext.refl _ | assumption | (refine Ext.toSet ?_ (by omega)) | refine Ext.toAlloc ?_ | refine Ext.toDrew ?_ | refine Ext.toDrewN ?_ | refine Ext.trans ?_ (by assumption)))); (first | done | fail "no"))) (fun hHeld' => ?_)
  clear hK K hHeld
  have hHeld := hHeld'
  clear hHeld'
  (try simp only [Act.put, List.setIfInBounds_toArray, List.set_cons_zero, List.set_cons_succ])
  refine wpAnyH_take (i := 85) (oi := { dst := some 100, op := Op.binOp BinOp.eql 9 (Operand.tmp 97) (Operand.tmp 99) 9, type := 4, pos := "law.go:59", after := #[{ on := 82, ground := Ground.data }, { on := 84, ground := Ground.data }, { on := 80, ground := Ground.guard }], guard := some (80, true) }) (v := ?_) rfl (by as_aux_lemma => kernel_rfl) (by as_aux_lemma => kernel_rfl) (by as_aux_lemma => kernel_rfl) (fun _ _ _ h => h) (Or.inl ⟨by rfl, ?hy⟩) hHeld ?_
  case hy => ((intro w' hSw; (try dsimp only at hSw); go_simp); (try with_reducible rfl))
  (try simp only [Act.put, List.setIfInBounds_toArray, List.set_cons_zero, List.set_cons_succ])
  refine wpAnyH_take (i := 86) (oi := { dst := some 101, op := Op.pick (Operand.tmp 95) (Operand.tmp 100) (Operand.const (Value.bool false)), type := 4, pos := "law.go:59", after := #[{ on := 80, ground := Ground.data }, { on := 85, ground := Ground.data }], guard := none }) (v := ?_) rfl (by as_aux_lemma => kernel_rfl) (by as_aux_lemma => kernel_rfl) (by as_aux_lemma => kernel_rfl) (fun _ _ _ h => h) (Or.inl ⟨by rfl, ?hy⟩) hHeld ?_
  case hy => ((intro w' hSw; (try dsimp only at hSw); go_simp); (try with_reducible rfl))
  (try simp only [Act.put, List.setIfInBounds_toArray, List.set_cons_zero, List.set_cons_succ])
  refine wpAnyH_take (i := 87) (oi := { dst := some 102, op := Op.move (Operand.tmp 101), type := 4, pos := "law.go:59", after := #[{ on := 86, ground := Ground.data }, { on := 84, ground := Ground.chain }], guard := none }) (v := ?_) rfl (by as_aux_lemma => kernel_rfl) (by as_aux_lemma => kernel_rfl) (by as_aux_lemma => kernel_rfl) (fun _ _ _ h => h) (Or.inl ⟨by rfl, ?hy⟩) hHeld ?_
  case hy => ((intro w' hSw; (try dsimp only at hSw); go_simp); (try with_reducible rfl))
  (try simp only [Act.put, List.setIfInBounds_toArray, List.set_cons_zero, List.set_cons_succ])
  refine wpAnyH_take (i := 88) (oi := { dst := some 103, op := Op.load 37 (Operand.tmp 2), type := 37, pos := "law.go:59", after := #[{ on := 87, ground := Ground.guard }], guard := some (87, true) }) (v := ?_) rfl (by as_aux_lemma => kernel_rfl) (by as_aux_lemma => kernel_rfl) (by as_aux_lemma => kernel_rfl) (fun _ _ _ h => h) (Or.inl ⟨by rfl, ?hy⟩) hHeld ?_
  case hy => ((intro w' hSw; (try dsimp only at hSw); go_simp); (try with_reducible rfl))
  (try simp only [Act.put, List.setIfInBounds_toArray, List.set_cons_zero, List.set_cons_succ])
  refine wpAnyH_take (i := 89) (oi := { dst := some 104, op := Op.load 37 (Operand.tmp 3), type := 37, pos := "law.go:59", after := #[{ on := 87, ground := Ground.guard }], guard := some (87, true) }) (v := ?_) rfl (by as_aux_lemma => kernel_rfl) (by as_aux_lemma => kernel_rfl) (by as_aux_lemma => kernel_rfl) (fun _ _ _ h => h) (Or.inl ⟨by rfl, ?hy⟩) hHeld ?_
  case hy => ((intro w' hSw; (try dsimp only at hSw); go_simp); (try with_reducible rfl))
  (try simp only [Act.put, List.setIfInBounds_toArray, List.set_cons_zero, List.set_cons_succ])
  refine wpAnyH_take (i := 91) (oi := { dst := some 106, op := Op.load 37 (Operand.tmp 2), type := 37, pos := "law.go:59", after := #[{ on := 87, ground := Ground.guard }], guard := some (87, true) }) (v := ?_) rfl (by as_aux_lemma => kernel_rfl) (by as_aux_lemma => kernel_rfl) (by as_aux_lemma => kernel_rfl) (fun _ _ _ h => h) (Or.inl ⟨by rfl, ?hy⟩) hHeld ?_
  case hy => ((intro w' hSw; (try dsimp only at hSw); go_simp); (try with_reducible rfl))
  (try simp only [Act.put, List.setIfInBounds_toArray, List.set_cons_zero, List.set_cons_succ])
  refine wpAnyH_take (i := 92) (oi := { dst := some 107, op := Op.load 37 (Operand.tmp 3), type := 37, pos := "law.go:59", after := #[{ on := 87, ground := Ground.guard }], guard := some (87, true) }) (v := ?_) rfl (by as_aux_lemma => kernel_rfl) (by as_aux_lemma => kernel_rfl) (by as_aux_lemma => kernel_rfl) (fun _ _ _ h => h) (Or.inl ⟨by rfl, ?hy⟩) hHeld ?_
  case hy => ((intro w' hSw; (try dsimp only at hSw); go_simp); (try with_reducible rfl))
  (try simp only [Act.put, List.setIfInBounds_toArray, List.set_cons_zero, List.set_cons_succ])
  refine wpAnyH_ready (rs := [90]) (by as_aux_lemma => kernel_rfl) (by simp) ?_
  refine AllReadyH.cons (o := { dst := some 105, op := Op.call { callee := Callee.value (Operand.func 38), args := #[Operand.tmp 103, Operand.tmp 104], argTypes := #[37, 37] }, type := 4, pos := "law.go:62", after := #[{ on := 88, ground := Ground.data }, { on := 89, ground := Ground.data }, { on := 87, ground := Ground.chain }, { on := 87, ground := Ground.guard }], guard := some (87, true) }) rfl (fun K hK => ?_) AllReadyH.nil
  go_simp
  (go_at_call 38; (with_reducible refine (CCi.out _ (HEW.out.trans (by (with_reducible (repeat (first | exact Ext.refl _ | assumption | (refine Ext.toSet ?_ (by omega)) | refine Ext.toAlloc ?_ | refine Ext.toDrew ?_ | refine Ext.toDrewN ?_ | refine Ext.trans ?_ (by assumption)))); (first | done | fail "no")))).mono ?_); rintro e w33 ⟨rfl, hx33⟩)
  (try go_wp2_with fail)
  refine hK.out _ _ (HS.out _ (by (with_reducible (repeat (first | exact Ext.refl _ | assumption | (refine Ext.toSet ?_ (by omega)) | refine Ext.toAlloc ?_ | refine Ext.toDrew ?_ | refine Ext.toDrewN ?_ | refine Ext.trans ?_ (by assumption)))); (first | done | fail "no"))) (fun hHeld' => ?_)
  clear hK K hHeld
  have hHeld := hHeld'
  clear hHeld'
  (try simp only [Act.put, List.setIfInBounds_toArray, List.set_cons_zero, List.set_cons_succ])
  refine wpAnyH_ready (rs := [93]) (by as_aux_lemma => kernel_rfl) (by simp) ?_
  refine AllReadyH.cons (o := { dst := some 108, op := Op.call { callee := Callee.value (Operand.func 39), args := #[Operand.tmp 106, Operand.tmp 107], argTypes := #[37, 37] }, type := 4, pos := "law.go:62", after := #[{ on := 91, ground := Ground.data }, { on := 92, ground := Ground.data }, { on := 90, ground := Ground.chain }, { on := 87, ground := Ground.guard }], guard := some (87, true) }) rfl (fun K hK => ?_) AllReadyH.nil
  go_simp
  (go_at_call 39; (with_reducible refine (CRi.out _ (HEW.out.trans (by (with_reducible (repeat (first | exact Ext.refl _ | assumption | (refine Ext.toSet ?_ (by omega)) | refine Ext.toAlloc ?_ | refine Ext.toDrew ?_ | refine Ext.toDrewN ?_ | refine Ext.trans ?_ (by assumption)))); (first | done | fail "no")))).mono ?_); rintro e w34 ⟨rfl, hx34⟩)
  (try go_wp2_with fail)
  refine hK.out _ _ (HS.out _ (by (with_reducible (repeat (first | exact Ext.refl _ | assumption | (refine Ext.toSet ?_ (by omega)) | refine Ext.toAlloc ?_ | refine Ext.toDrew ?_ | refine Ext.toDrewN ?_ | refine Ext.trans ?_ (by assumption)))); (first | done | fail "no"))) (fun hHeld' => ?_)
  clear hK K hHeld
  have hHeld := hHeld'
  clear hHeld'
  (try simp only [Act.put, List.setIfInBounds_toArray, List.set_cons_zero, List.set_cons_succ])
  refine wpAnyH_take (i := 94) (oi := { dst := some 109, op := Op.binOp BinOp.eql 4 (Operand.tmp 105) (Operand.tmp 108) 4, type := 4, pos := "law.go:59", after := #[{ on := 90, ground := Ground.data }, { on := 93, ground := Ground.data }, { on := 87, ground := Ground.guard }], guard := some (87, true) }) (v := ?_) rfl (by as_aux_lemma => kernel_rfl) (by as_aux_lemma => kernel_rfl) (by as_aux_lemma => kernel_rfl) (fun _ _ _ h => h) (Or.inl ⟨by rfl, ?hy⟩) hHeld ?_
  case hy => ((intro w' hSw; (try dsimp only at hSw); go_simp); (try with_reducible rfl))
  (try simp only [Act.put, List.setIfInBounds_toArray, List.set_cons_zero, List.set_cons_succ])
  refine wpAnyH_take (i := 95) (oi := { dst := some 110, op := Op.pick (Operand.tmp 102) (Operand.tmp 109) (Operand.const (Value.bool false)), type := 4, pos := "law.go:59", after := #[{ on := 87, ground := Ground.data }, { on := 94, ground := Ground.data }], guard := none }) (v := ?_) rfl (by as_aux_lemma => kernel_rfl) (by as_aux_lemma => kernel_rfl) (by as_aux_lemma => kernel_rfl) (fun _ _ _ h => h) (Or.inl ⟨by rfl, ?hy⟩) hHeld ?_
  case hy => ((intro w' hSw; (try dsimp only at hSw); go_simp); (try with_reducible rfl))
  (try simp only [Act.put, List.setIfInBounds_toArray, List.set_cons_zero, List.set_cons_succ])
  refine wpAnyH_take (i := 96) (oi := { dst := some 4, op := Op.assign (Operand.tmp 110), type := 4, pos := "law.go:59", after := ([{ on := 95, ground := Ground.data }, { on := 93, ground := Ground.chain }, { on := 0, ground := Ground.phase }, { on := 1, ground := Ground.phase }, { on := 2, ground := Ground.phase }, { on := 3, ground := Ground.phase }, { on := 4, ground := Ground.phase }, { on := 5, ground := Ground.phase }, { on := 6, ground := Ground.phase }, { on := 7, ground := Ground.phase }, { on := 8, ground := Ground.phase }, { on := 9, ground := Ground.phase }, { on := 10, ground := Ground.phase }, { on := 11, ground := Ground.phase }, { on := 12, ground := Ground.phase }, { on := 13, ground := Ground.phase }, { on := 14, ground := Ground.phase }, { on := 15, ground := Ground.phase }, { on := 16, ground := Ground.phase }, { on := 17, ground := Ground.phase }, { on := 18, ground := Ground.phase }, { on := 19, ground := Ground.phase }, { on := 20, ground := Ground.phase }, { on := 21, ground := Ground.phase }, { on := 22, ground := Ground.phase }, { on := 23, ground := Ground.phase }, { on := 24, ground := Ground.phase }, { on := 25, ground := Ground.phase }, { on := 26, ground := Ground.phase }, { on := 27, ground := Ground.phase }, { on := 28, ground := Ground.phase }, { on := 29, ground := Ground.phase }, { on := 30, ground := Ground.phase }, { on := 31, ground := Ground.phase }, { on := 32, ground := Ground.phase }, { on := 33, ground := Ground.phase }, { on := 34, ground := Ground.phase }, { on := 35, ground := Ground.phase }, { on := 36, ground := Ground.phase }, { on := 37, ground := Ground.phase }, { on := 38, ground := Ground.phase }, { on := 39, ground := Ground.phase }, { on := 40, ground := Ground.phase }, { on := 41, ground := Ground.phase }, { on := 42, ground := Ground.phase }, { on := 43, ground := Ground.phase }, { on := 44, ground := Ground.phase }, { on := 45, ground := Ground.phase }, { on := 46, ground := Ground.phase }].append [{ on := 47, ground := Ground.phase }, { on := 48, ground := Ground.phase }, { on := 49, ground := Ground.phase }, { on := 50, ground := Ground.phase }, { on := 51, ground := Ground.phase }, { on := 52, ground := Ground.phase }, { on := 53, ground := Ground.phase }, { on := 54, ground := Ground.phase }, { on := 55, ground := Ground.phase }, { on := 56, ground := Ground.phase }, { on := 57, ground := Ground.phase }, { on := 58, ground := Ground.phase }, { on := 59, ground := Ground.phase }, { on := 60, ground := Ground.phase }, { on := 61, ground := Ground.phase }, { on := 62, ground := Ground.phase }, { on := 63, ground := Ground.phase }, { on := 64, ground := Ground.phase }, { on := 65, ground := Ground.phase }, { on := 66, ground := Ground.phase }, { on := 67, ground := Ground.phase }, { on := 68, ground := Ground.phase }, { on := 69, ground := Ground.phase }, { on := 70, ground := Ground.phase }, { on := 71, ground := Ground.phase }, { on := 72, ground := Ground.phase }, { on := 73, ground := Ground.phase }, { on := 74, ground := Ground.phase }, { on := 75, ground := Ground.phase }, { on := 76, ground := Ground.phase }, { on := 77, ground := Ground.phase }, { on := 78, ground := Ground.phase }, { on := 79, ground := Ground.phase }, { on := 80, ground := Ground.phase }, { on := 81, ground := Ground.phase }, { on := 82, ground := Ground.phase }, { on := 83, ground := Ground.phase }, { on := 84, ground := Ground.phase }, { on := 85, ground := Ground.phase }, { on := 86, ground := Ground.phase }, { on := 87, ground := Ground.phase }, { on := 88, ground := Ground.phase }, { on := 89, ground := Ground.phase }, { on := 90, ground := Ground.phase }, { on := 91, ground := Ground.phase }, { on := 92, ground := Ground.phase }, { on := 93, ground := Ground.phase }, { on := 94, ground := Ground.phase }, { on := 95, ground := Ground.phase }]).toArray, guard := none }) (v := ?_) rfl (by as_aux_lemma => kernel_rfl) (by as_aux_lemma => kernel_rfl) (by as_aux_lemma => kernel_rfl) (fun _ _ _ h => h) (Or.inl ⟨by rfl, ?hy⟩) hHeld ?_
  case hy => ((intro w' hSw; (try dsimp only at hSw); go_simp); (try with_reducible rfl))
  (try simp only [Act.put, List.setIfInBounds_toArray, List.set_cons_zero, List.set_cons_succ])
  refine wpAnyH_done (by as_aux_lemma => kernel_rfl) ?_ _
  (try refine NoPanic.normal ?_)
  have HF := Lib.hid (HEW.out.trans (show Ext w0.drew w34 from (by (with_reducible (repeat (first | exact Ext.refl _ | assumption | (refine Ext.toSet ?_ (by omega)) | refine Ext.toAlloc ?_ | refine Ext.toDrew ?_ | refine Ext.toDrewN ?_ | refine Ext.trans ?_ (by assumption)))); (first | done | fail "no"))))
  go_wp2_with fail
  go_ret
  exact ⟨by simp, HF.out⟩
end

end Go.Proofs.YtlnphamgmicniaaGreatDoor
