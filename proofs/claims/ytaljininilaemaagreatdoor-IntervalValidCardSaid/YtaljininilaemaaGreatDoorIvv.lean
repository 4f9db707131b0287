/- The law IntervalValid. -/
import Derived.Test.YtaljininilaemaaGreatDoorIvw
import Derived.Test.YtaljininilaemaaGreatDoorIvf
import Derived.Test.YtaljininilaemaaGreatDoorIvin
import Derived.Test.YtaljininilaemaaGreatDoorIvme
import Derived.Test.YtaljininilaemaaGreatDoorIvsu
import Derived.Test.YtaljininilaemaaGreatDoorIvmx
import Derived.Deep.RegionHeld3
import Derived.Deep.DeepCutAuto
namespace Go.Proofs.YtaljininilaemaaGreatDoor
open Go.RowKit
attribute [local go_sem ↓] Go.wp_at_zero Go.wp_at_succ

/-- Six cells. -/
def C6 (w : World) (p : Nat) (a : DV) (A : Option Addr) (c : Nat) (b : DV) (B : Option Addr) (e : Nat) : Prop := w.cell? ⟨p, 0, none⟩ = some (.bool a.neg) ∧ w.cell? ⟨p, 1, none⟩ = some (.slice A (len a.m) c) ∧ w.cell? ⟨p, 2, none⟩ = some (I a.den) ∧ w.cell? ⟨p, 3, none⟩ = some (.bool b.neg) ∧ w.cell? ⟨p, 4, none⟩ = some (.slice B (len b.m) e) ∧ w.cell? ⟨p, 5, none⟩ = some (I b.den)
theorem C6.ext {w w' : World} {p : Nat} {a : DV} {A : Option Addr} {c : Nat} {b : DV} {B : Option Addr} {e : Nat} (h : C6 w p a A c b B e) (x : Ext w w') : C6 w' p a A c b B e := by
  have hl := World.block_lt_of_cell? w _ h.1
  obtain ⟨h0, h1, h2, h3, h4, h5⟩ := h
  exact ⟨(x.old.1 _ _ hl).trans h0, (x.old.1 _ _ hl).trans h1, (x.old.1 _ _ hl).trans h2, (x.old.1 _ _ hl).trans h3, (x.old.1 _ _ hl).trans h4, (x.old.1 _ _ hl).trans h5⟩
theorem two6 {w w1 : World} {u0 u1 u2 u3 u4 u5 v0 v1 v2 v3 v4 v5 : Value} {t t' : TypeId} (hx : Ext ((w.alloc (.cells #[u0, u1, u2, u3, u4, u5] t)).alloc (.cells #[v0, v1, v2, v3, v4, v5] t')) w1) : B6 w1 w.heap.size u0 u1 u2 u3 u4 u5 ∧ B6 w1 (w.heap.size + 1) v0 v1 v2 v3 v4 v5 := by
  have s1 := ((B6.new w u0 u1 u2 u3 u4 u5 t).ext (Ext.alloc _ (.cells #[v0, v1, v2, v3, v4, v5] t'))).ext hx
  have s2 := (B6.new (w.alloc (.cells #[u0, u1, u2, u3, u4, u5] t)) v0 v1 v2 v3 v4 v5 t').ext hx
  rw [show (w.alloc (.cells #[u0, u1, u2, u3, u4, u5] t)).heap.size = w.heap.size + 1 by simp] at s2
  exact ⟨s1, s2⟩
theorem two6d {w w1 : World} {u0 u1 u2 u3 u4 u5 v0 v1 v2 v3 v4 v5 : Value} {t t' : TypeId} (hx : Ext ((w.alloc (.cells #[u0, u1, u2, u3, u4, u5] t)).alloc (.cells #[v0, v1, v2, v3, v4, v5] t')).drew w1) : B6 w1 w.heap.size u0 u1 u2 u3 u4 u5 ∧ B6 w1 (w.heap.size + 1) v0 v1 v2 v3 v4 v5 := two6 ((Ext.drew _).trans hx)

theorem ivs2 (w : World) (g : Nat) (hg : w.heap.size = g) {n1 n2 n3 n4 : Bool} {A B X Y : Option Addr} {k1 c1 k2 c2 k3 c3 k4 c4 : Nat} {d1 d2 d3 d4 : Int} (t : TypeId) :
    Ivs (w.alloc (.cells #[.bool n1, .slice A k1 c1, I d1, .bool n2, .slice B k2 c2, I d2, .bool n3, .slice X k3 c3, I d3, .bool n4, .slice Y k4 c4, I d4] t)) g 2 (fun i => if i = 0 then n1 else n3) (fun i => if i = 0 then A else X) (fun i => if i = 0 then k1 else k3) (fun i => if i = 0 then c1 else c3) (fun i => if i = 0 then d1 else d3) (fun i => if i = 0 then n2 else n4) (fun i => if i = 0 then B else Y) (fun i => if i = 0 then k2 else k4) (fun i => if i = 0 then c2 else c4) (fun i => if i = 0 then d2 else d4) := by
  subst hg
  intro i hi
  have : i = 0 ∨ i = 1 := by omega
  rcases this with rfl | rfl
  · exact ⟨by go_simp, by go_simp, by go_simp, by go_simp, by go_simp, by go_simp⟩
  · exact ⟨by go_simp, by go_simp, by go_simp, by go_simp, by go_simp, by go_simp⟩
set_option maxHeartbeats 400000 in
theorem num_nil0 (w : World) : Calls Tryz.prog 19 #[.nilIface] w fun e w' => e = .returned (I 0) ∧ w = w' := by
  go_enter Tryz.func19, Tryz.ntmps19
  go_wp2
  go_ret
  exact ⟨rfl, rfl⟩
set_option maxHeartbeats 400000 in
theorem num_err0 (k : Int) (w : World) : Calls Tryz.prog 19 #[.iface 81 (I k)] w fun e w' => e = .returned (I k) ∧ w = w' := by
  have ta := run_assert_int (P := Tryz.prog) (xT := 29) (v := I k) (w := w) Tryz.underlying81
  go_enter Tryz.func19, Tryz.ntmps19
  go_wp2
  go_ret
  exact ⟨rfl, rfl⟩
abbrev NumIs (ev : Value) (n : Int) : Prop := ∀ w, Calls Tryz.prog 19 #[ev] w fun e w' => e = .returned (I n) ∧ Ext w w'
theorem num_nilE : NumIs .nilIface 0 := fun w => (num_nil0 w).mono fun _ _ ⟨h, hw⟩ => ⟨h, hw ▸ Ext.refl _⟩
theorem num_errE (k : Int) : NumIs (.iface 81 (I k)) k := fun w => (num_err0 k w).mono fun _ _ ⟨h, hw⟩ => ⟨h, hw ▸ Ext.refl _⟩
/-- What Meet returns, whether they meet or not. -/
def MtRes (M N : DV) (ev : Value) (w : World) (e : Ending) (w' : World) : Prop := ∃ A c B k, e = .returned (.tuple #[ivd M A c N B k, ev]) ∧ Rd w' A (len M.m) (dg M.m) ∧ Rd w' B (len N.m) (dg N.m) ∧ Ext w w'
abbrev MeetIs (a b x y M N : DV) (ev : Value) : Prop := ∀ (w : World) (n1 n2 : Bool) (A B A' B' : Option Addr) (k c m e c' e' : Nat) (d1 d2 : Int) (n3 n4 : Bool) (X Y X' Y' : Option Addr) (p q r s q' s' : Nat) (d3 d4 : Int), Iw w n1 A k c d1 n2 B m e d2 a b A' c' B' e' → Iw w n3 X p q d3 n4 Y r s d4 x y X' q' Y' s' → Tabs w → Calls Tryz.prog 23 #[iv n1 A k c d1 n2 B m e d2, iv n3 X p q d3 n4 Y r s d4] w (MtRes M N ev w)
abbrev Sz (d : DV) : Prop := len d.m ≤ 4000000
theorem meet_is (a b x y : DV) (ha : End a) (hb : End b) (hx : End x) (hy : End y) : ∃ M N ev n, Sz M ∧ Sz N ∧ MeetIs a b x y M N ev ∧ NumIs ev n := by
  by_cases h : 0 < cmpD (maxD a x) (minD b y)
  · refine ⟨DV.zero, DV.zero, .iface 81 (I 23), 23, by show len _ ≤ _; rw [zero_len]; decide, by show len _ ≤ _; rw [zero_len]; decide, ?_, num_errE 23⟩
    intro w n1 n2 A B A' B' k c m e c' e' d1 d2 n3 n4 X Y X' Y' p q r s q' s' d3 d4 h1 h2 hT
    refine (meet_err h1 h2 hT h).mono ?_
    rintro e w' ⟨rfl, hx⟩
    refine ⟨none, 0, none, 0, ?_, by rw [zero_len]; exact Rd.none_, by rw [zero_len]; exact Rd.none_, hx⟩
    show _ = Ending.returned (.tuple #[iv _ _ (len DV.zero.m) _ _ _ _ (len DV.zero.m) _ _, _])
    rw [zero_len]; rfl
  · have p1 : Sz (maxD a x) := sz_max (P := Sz) (Nat.le_trans ha.2 (by decide)) (Nat.le_trans hx.2 (by decide))
    have p2 : Sz (minD b y) := sz_min (P := Sz) (Nat.le_trans hb.2 (by decide)) (Nat.le_trans hy.2 (by decide))
    refine ⟨lo2 (maxD a x) (minD b y), hi2 (maxD a x) (minD b y), .nilIface, 0, sz_min (P := Sz) p1 p2, sz_max (P := Sz) p1 p2, ?_, num_nilE⟩
    intro w n1 n2 A B A' B' k c m e c' e' d1 d2 n3 n4 X Y X' Y' p q r s q' s' d3 d4 h1 h2 hT
    refine (meet_ok h1 h2 hT h).mono ?_
    rintro e w' ⟨A3, c3, B3, k3, rfl, hfa, hfb, hx⟩
    exact ⟨A3, c3, B3, k3, rfl, hfa.rd, hfb.rd, hx⟩


set_option maxRecDepth 100000 in
set_option maxHeartbeats 1000000 in
theorem ivalidL_off {w : World} {n1 n2 n3 n4 : Bool} {A B X Y : Option Addr} {k1 c1 k2 c2 k3 c3 k4 c4 : Nat} {d1 d2 d3 d4 : Int} (hT : Tabs w) (hP : TabP w) (h : ¬ (∀ i, i < 2 → shOk (if i = 0 then k1 else k3) (if i = 0 then d1 else d3) ∧ shOk (if i = 0 then k2 else k4) (if i = 0 then d2 else d4))) :
    Calls Tryz.prog 5 #[iv n1 A k1 c1 d1 n2 B k2 c2 d2, iv n3 X k3 c3 d3 n4 Y k4 c4 d4] w fun e w' => e = .returned (.bool true) ∧ Ext w w' := by
  have HT := Lib.hid hT; have HP := Lib.hid hP; clear hT hP
  have HFW : Hid (false = true ↔ (∀ i, i < 2 → shOk (if i = 0 then k1 else k3) (if i = 0 then d1 else d3) ∧ shOk (if i = 0 then k2 else k4) (if i = 0 then d2 else d4))) := ⟨fun h => (by cases h), fun hh => absurd hh h⟩
  clear h
  go_enter Tryz.func5, Tryz.ntmps5
  go_wp2_with fail
  have HN := Lib.hid (ivs2 ((w.alloc (.cells #[.bool n1, .slice A k1 c1, I d1, .bool n2, .slice B k2 c2, I d2] 40)).alloc (.cells #[.bool n3, .slice X k3 c3, I d3, .bool n4, .slice Y k4 c4, I d4] 40)) (w.heap.size + 1 + 1) (by simp) (n1 := n1) (n2 := n2) (n3 := n3) (n4 := n4) (A := A) (B := B) (X := X) (Y := Y) (k1 := k1) (c1 := c1) (k2 := k2) (c2 := c2) (k3 := k3) (c3 := c3) (k4 := k4) (c4 := c4) (d1 := d1) (d2 := d2) (d3 := d3) (d4 := d4) 40)
  with_reducible refine (ifew_any HN.out (by simp) (by omega) HFW.out).mono ?_
  rintro e wf ⟨rfl, hx⟩
  have HEF : Hid (Ext w wf) := (((Ext.alloc _ _).trans (Ext.alloc _ _)).trans (Ext.alloc _ _)).trans hx
  clear hx HN HFW
  go_wp2_with fail
  refine (iawake_any _ (HT.out.ext HEF.out) (HP.out.ext HEF.out)).mono ?_
  rintro e w0 ⟨rfl, hx⟩
  have HEW := Lib.hid (HEF.out.trans hx)
  clear hx
  go_wp2_with fail
  go_ret
  exact ⟨rfl, HEW.out⟩

set_option maxRecDepth 100000 in
set_option maxHeartbeats 16000000 in
theorem ivalidL_true {w : World} {n1 n2 n3 n4 : Bool} {A B X Y A' B' X' Y' : Option Addr} {k1 c1 k2 c2 k3 c3 k4 c4 e1 e2 e3 e4 : Nat} {d1 d2 d3 d4 : Int} {a b x y : DV} (ha : Iw w n1 A k1 c1 d1 n2 B k2 c2 d2 a b A' e1 B' e2) (hb : Iw w n3 X k3 c3 d3 n4 Y k4 c4 d4 x y X' e3 Y' e4) (hT : Tabs w) (hP : TabP w) (h : (∀ i, i < 2 → shOk (if i = 0 then k1 else k3) (if i = 0 then d1 else d3) ∧ shOk (if i = 0 then k2 else k4) (if i = 0 then d2 else d4))) (la : len a.m ≤ 8) (lb : len b.m ≤ 8) (lx : len x.m ≤ 8) (ly : len y.m ≤ 8) {va vb : Bool}
    (hva : IvVal va (iv n1 A k1 c1 d1 n2 B k2 c2 d2) w) (hra : IvValR va (iv n1 A k1 c1 d1 n2 B k2 c2 d2) w) (hvb : IvVal vb (iv n3 X k3 c3 d3 n4 Y k4 c4 d4) w) (hrb : IvValR vb (iv n3 X k3 c3 d3 n4 Y k4 c4 d4) w) {M N : DV} {ev : Value} {nu : Int} (hM : Sz M) (hN : Sz N) (hQ : MeetIs a b x y M N ev) (hNu : NumIs ev nu) :
    Calls Tryz.prog 5 #[iv n1 A k1 c1 d1 n2 B k2 c2 d2, iv n3 X k3 c3 d3 n4 Y k4 c4 d4] w fun e w' => e = .returned (.bool true) ∧ Ext w w' := by
  have HT := Lib.hid hT; have HP := Lib.hid hP; have HA := Lib.hid ha; have HB := Lib.hid hb
  have HVa : Hid (∀ w', Ext w w' → Calls Tryz.prog 24 #[iv n1 A k1 c1 d1 n2 B k2 c2 d2] w' fun e w'' => e = .returned (.bool va) ∧ Ext w' w'') := hva
  have HRa : Hid (∀ w', Ext w w' → Calls Tryz.prog 25 #[iv n1 A k1 c1 d1 n2 B k2 c2 d2] w' fun e w'' => e = .returned (.bool va) ∧ Ext w' w'') := hra
  have HVb : Hid (∀ w', Ext w w' → Calls Tryz.prog 24 #[iv n3 X k3 c3 d3 n4 Y k4 c4 d4] w' fun e w'' => e = .returned (.bool vb) ∧ Ext w' w'') := hvb
  have HRb : Hid (∀ w', Ext w w' → Calls Tryz.prog 25 #[iv n3 X k3 c3 d3 n4 Y k4 c4 d4] w' fun e w'' => e = .returned (.bool vb) ∧ Ext w' w'') := hrb
  have HQ : Hid (MeetIs a b x y M N ev) := hQ; have HNu : Hid (NumIs ev nu) := hNu
  have HFW := Lib.hid h
  have HNA := Lib.hid (iv_ok ha.ra ha.sa ha.wa ha.rb ha.sb ha.wb ha.le); have HNB := Lib.hid (iv_ok hb.ra hb.sa hb.wa hb.rb hb.sb hb.wb hb.le)
  have oa := ha.wa.1; have ob := ha.wb.1; have ox := hb.wa.1; have oy := hb.wb.1
  have n1' (d : DV) (h : len d.m ≤ 8) : Sz (negD d) := by have := lim_neg d; show _ ≤ _; omega
  have s1' (d f : DV) (hd : d.ok) (hf : f.ok) (h : len d.m ≤ 8) (h2 : len f.m ≤ 8) : Sz (addD d f) := by have := lim_add hd.2.1 hf.2.1; show _ ≤ _; omega
  have m1' (d f : DV) (h : len d.m ≤ 8) (h2 : len f.m ≤ 8) : Sz (mulD d f) := by have := lim_mul d f; show _ ≤ _; omega
  have t1' (d : DV) (h : len d.m ≤ 8) : Sz d := by show _ ≤ _; omega
  have a1' (d : DV) (hd : End d) : Sz (absD d) := by have h1 := len_mono (mkD_m_le false d.m d.den); have h2 : (absD d).m = (mkD false d.m d.den).m := rfl; rw [← h2] at h1; have := hd.2; show _ ≤ _; omega
  have z1' : Sz DV.zero := by show len _ ≤ _; rw [zero_len]; decide
  have ng8 (d : DV) (h : len d.m ≤ 8) : len (negD d).m ≤ 8 := Nat.le_trans (lim_neg d) h
  have ul := sz_min (P := fun d => len d.m ≤ 8) (ng8 _ lx) (ng8 _ ly)
  have uh := sz_max (P := fun d => len d.m ≤ 8) (ng8 _ lx) (ng8 _ ly)
  have uo := minD_ok (negD_ok x) (negD_ok y)
  have up := maxD_ok (negD_ok x) (negD_ok y)
  clear hT hP ha hb hva hra hvb hrb hQ hNu h
  have znegL : Sz (lo2 (negD a) (negD b)) := sz_min (P := Sz) (n1' _ la) (n1' _ lb)
  obtain ⟨negL, hnegL⟩ : ∃ d, lo2 (negD a) (negD b) = d := ⟨_, rfl⟩
  rw [hnegL] at znegL; have EnegL := Lib.hid hnegL
  have LnegL : Hid (len negL.m ≤ 1073741824) := Nat.le_trans znegL (by decide)
  clear hnegL znegL
  have znegH : Sz (hi2 (negD a) (negD b)) := sz_max (P := Sz) (n1' _ la) (n1' _ lb)
  obtain ⟨negH, hnegH⟩ : ∃ d, hi2 (negD a) (negD b) = d := ⟨_, rfl⟩
  rw [hnegH] at znegH; have EnegH := Lib.hid hnegH
  have LnegH : Hid (len negH.m ≤ 1073741824) := Nat.le_trans znegH (by decide)
  clear hnegH znegH
  have zabsL : Sz (absL a b) := by unfold absL; split; exact sz_min (P := Sz) (sz_min (P := Sz) (a1' _ HA.out.wa) (a1' _ HA.out.wb)) z1'; exact sz_min (P := Sz) (a1' _ HA.out.wa) (a1' _ HA.out.wb)
  obtain ⟨absL, habsL⟩ : ∃ d, absL a b = d := ⟨_, rfl⟩
  rw [habsL] at zabsL; have EabsL := Lib.hid habsL
  have LabsL : Hid (len absL.m ≤ 1073741824) := Nat.le_trans zabsL (by decide)
  clear habsL zabsL
  have zabsH : Sz (absH a b) := by unfold absH; split; exact sz_max (P := Sz) (sz_max (P := Sz) (a1' _ HA.out.wa) (a1' _ HA.out.wb)) z1'; exact sz_max (P := Sz) (a1' _ HA.out.wa) (a1' _ HA.out.wb)
  obtain ⟨absH, habsH⟩ : ∃ d, absH a b = d := ⟨_, rfl⟩
  rw [habsH] at zabsH; have EabsH := Lib.hid habsH
  have LabsH : Hid (len absH.m ≤ 1073741824) := Nat.le_trans zabsH (by decide)
  clear habsH zabsH
  have zaddL : Sz (lo2 (addD a x) (addD b y)) := sz_min (P := Sz) (s1' _ _ oa ox la lx) (s1' _ _ ob oy lb ly)
  obtain ⟨addL, haddL⟩ : ∃ d, lo2 (addD a x) (addD b y) = d := ⟨_, rfl⟩
  rw [haddL] at zaddL; have EaddL := Lib.hid haddL
  have LaddL : Hid (len addL.m ≤ 1073741824) := Nat.le_trans zaddL (by decide)
  clear haddL zaddL
  have zaddH : Sz (hi2 (addD a x) (addD b y)) := sz_max (P := Sz) (s1' _ _ oa ox la lx) (s1' _ _ ob oy lb ly)
  obtain ⟨addH, haddH⟩ : ∃ d, hi2 (addD a x) (addD b y) = d := ⟨_, rfl⟩
  rw [haddH] at zaddH; have EaddH := Lib.hid haddH
  have LaddH : Hid (len addH.m ≤ 1073741824) := Nat.le_trans zaddH (by decide)
  clear haddH zaddH
  have zsubL : Sz (lo2 (addD a (lo2 (negD x) (negD y))) (addD b (hi2 (negD x) (negD y)))) := sz_min (P := Sz) (s1' _ _ oa uo la ul) (s1' _ _ ob up lb uh)
  obtain ⟨subL, hsubL⟩ : ∃ d, lo2 (addD a (lo2 (negD x) (negD y))) (addD b (hi2 (negD x) (negD y))) = d := ⟨_, rfl⟩
  rw [hsubL] at zsubL; have EsubL := Lib.hid hsubL
  have LsubL : Hid (len subL.m ≤ 1073741824) := Nat.le_trans zsubL (by decide)
  clear hsubL zsubL
  have zsubH : Sz (hi2 (addD a (lo2 (negD x) (negD y))) (addD b (hi2 (negD x) (negD y)))) := sz_max (P := Sz) (s1' _ _ oa uo la ul) (s1' _ _ ob up lb uh)
  obtain ⟨subH, hsubH⟩ : ∃ d, hi2 (addD a (lo2 (negD x) (negD y))) (addD b (hi2 (negD x) (negD y))) = d := ⟨_, rfl⟩
  rw [hsubH] at zsubH; have EsubH := Lib.hid hsubH
  have LsubH : Hid (len subH.m ≤ 1073741824) := Nat.le_trans zsubH (by decide)
  clear hsubH zsubH
  have zmulL : Sz (lo4 (lo2 (mulD a x) (mulD b x)) (hi2 (mulD a x) (mulD b x)) (lo2 (mulD a y) (mulD b y)) (hi2 (mulD a y) (mulD b y))) := sz_min (P := Sz) (sz_min (P := Sz) (sz_min (P := Sz) (sz_min (P := Sz) (m1' _ _ la lx) (m1' _ _ lb lx)) (sz_max (P := Sz) (m1' _ _ la lx) (m1' _ _ lb lx))) (sz_min (P := Sz) (m1' _ _ la ly) (m1' _ _ lb ly))) (sz_max (P := Sz) (m1' _ _ la ly) (m1' _ _ lb ly))
  obtain ⟨mulL, hmulL⟩ : ∃ d, lo4 (lo2 (mulD a x) (mulD b x)) (hi2 (mulD a x) (mulD b x)) (lo2 (mulD a y) (mulD b y)) (hi2 (mulD a y) (mulD b y)) = d := ⟨_, rfl⟩
  rw [hmulL] at zmulL; have EmulL := Lib.hid hmulL
  have LmulL : Hid (len mulL.m ≤ 1073741824) := Nat.le_trans zmulL (by decide)
  clear hmulL zmulL
  have zmulH : Sz (hi4 (lo2 (mulD a x) (mulD b x)) (hi2 (mulD a x) (mulD b x)) (lo2 (mulD a y) (mulD b y)) (hi2 (mulD a y) (mulD b y))) := sz_max (P := Sz) (sz_max (P := Sz) (sz_max (P := Sz) (sz_min (P := Sz) (m1' _ _ la lx) (m1' _ _ lb lx)) (sz_max (P := Sz) (m1' _ _ la lx) (m1' _ _ lb lx))) (sz_min (P := Sz) (m1' _ _ la ly) (m1' _ _ lb ly))) (sz_max (P := Sz) (m1' _ _ la ly) (m1' _ _ lb ly))
  obtain ⟨mulH, hmulH⟩ : ∃ d, hi4 (lo2 (mulD a x) (mulD b x)) (hi2 (mulD a x) (mulD b x)) (lo2 (mulD a y) (mulD b y)) (hi2 (mulD a y) (mulD b y)) = d := ⟨_, rfl⟩
  rw [hmulH] at zmulH; have EmulH := Lib.hid hmulH
  have LmulH : Hid (len mulH.m ≤ 1073741824) := Nat.le_trans zmulH (by decide)
  clear hmulH zmulH
  have zminL : Sz (lo2 (minD a x) (minD b y)) := sz_min (P := Sz) (sz_min (P := Sz) (t1' _ la) (t1' _ lx)) (sz_min (P := Sz) (t1' _ lb) (t1' _ ly))
  obtain ⟨minL, hminL⟩ : ∃ d, lo2 (minD a x) (minD b y) = d := ⟨_, rfl⟩
  rw [hminL] at zminL; have EminL := Lib.hid hminL
  have LminL : Hid (len minL.m ≤ 1073741824) := Nat.le_trans zminL (by decide)
  clear hminL zminL
  have zminH : Sz (hi2 (minD a x) (minD b y)) := sz_max (P := Sz) (sz_min (P := Sz) (t1' _ la) (t1' _ lx)) (sz_min (P := Sz) (t1' _ lb) (t1' _ ly))
  obtain ⟨minH, hminH⟩ : ∃ d, hi2 (minD a x) (minD b y) = d := ⟨_, rfl⟩
  rw [hminH] at zminH; have EminH := Lib.hid hminH
  have LminH : Hid (len minH.m ≤ 1073741824) := Nat.le_trans zminH (by decide)
  clear hminH zminH
  have zmaxL : Sz (lo2 (maxD a x) (maxD b y)) := sz_min (P := Sz) (sz_max (P := Sz) (t1' _ la) (t1' _ lx)) (sz_max (P := Sz) (t1' _ lb) (t1' _ ly))
  obtain ⟨maxL, hmaxL⟩ : ∃ d, lo2 (maxD a x) (maxD b y) = d := ⟨_, rfl⟩
  rw [hmaxL] at zmaxL; have EmaxL := Lib.hid hmaxL
  have LmaxL : Hid (len maxL.m ≤ 1073741824) := Nat.le_trans zmaxL (by decide)
  clear hmaxL zmaxL
  have zmaxH : Sz (hi2 (maxD a x) (maxD b y)) := sz_max (P := Sz) (sz_max (P := Sz) (t1' _ la) (t1' _ lx)) (sz_max (P := Sz) (t1' _ lb) (t1' _ ly))
  obtain ⟨maxH, hmaxH⟩ : ∃ d, hi2 (maxD a x) (maxD b y) = d := ⟨_, rfl⟩
  rw [hmaxH] at zmaxH; have EmaxH := Lib.hid hmaxH
  have LmaxH : Hid (len maxH.m ≤ 1073741824) := Nat.le_trans zmaxH (by decide)
  clear hmaxH zmaxH
  have zhulL : Sz (lo4 a b x y) := sz_min (P := Sz) (sz_min (P := Sz) (sz_min (P := Sz) (t1' _ la) (t1' _ lb)) (t1' _ lx)) (t1' _ ly)
  obtain ⟨hulL, hhulL⟩ : ∃ d, lo4 a b x y = d := ⟨_, rfl⟩
  rw [hhulL] at zhulL; have EhulL := Lib.hid hhulL
  have LhulL : Hid (len hulL.m ≤ 1073741824) := Nat.le_trans zhulL (by decide)
  clear hhulL zhulL
  have zhulH : Sz (hi4 a b x y) := sz_max (P := Sz) (sz_max (P := Sz) (sz_max (P := Sz) (t1' _ la) (t1' _ lb)) (t1' _ lx)) (t1' _ ly)
  obtain ⟨hulH, hhulH⟩ : ∃ d, hi4 a b x y = d := ⟨_, rfl⟩
  rw [hhulH] at zhulH; have EhulH := Lib.hid hhulH
  have LhulH : Hid (len hulH.m ≤ 1073741824) := Nat.le_trans zhulH (by decide)
  clear hhulH zhulH
  have LM1 : Hid (len a.m + len x.m ≤ 1048576) := by show _ ≤ _; omega
  have LM2 : Hid (len b.m + len x.m ≤ 1048576) := by show _ ≤ _; omega
  have LM3 : Hid (len a.m + len y.m ≤ 1048576) := by show _ ≤ _; omega
  have LM4 : Hid (len b.m + len y.m ≤ 1048576) := by show _ ≤ _; omega
  obtain ⟨mg, hmg⟩ : ∃ d, maxD (absD a) (absD b) = d := ⟨_, rfl⟩
  have zmg : Sz (maxD (absD a) (absD b)) := sz_max (P := Sz) (a1' _ HA.out.wa) (a1' _ HA.out.wb)
  rw [hmg] at zmg; have Emg := Lib.hid hmg; have Lmg : Hid (len mg.m ≤ 1073741824) := Nat.le_trans zmg (by decide)
  obtain ⟨tx, htx⟩ : ∃ t, ivS a b = t := ⟨_, rfl⟩; have Etx := Lib.hid htx
  obtain ⟨iz, hiz⟩ : ∃ t, insB a b x y = t := ⟨_, rfl⟩; have Eiz := Lib.hid hiz
  have LMM : Hid (len M.m ≤ 1073741824) := Nat.le_trans hM (by decide); have LNN : Hid (len N.m ≤ 1073741824) := Nat.le_trans hN (by decide)
  clear hmg zmg htx hiz hM hN oa ob ox oy n1' s1' m1' t1' a1' z1' ng8 ul uh uo up la lb lx ly
  go_enter Tryz.func5, Tryz.ntmps5
  go_wp2_with fail
  have HN := Lib.hid (ivs2 ((w.alloc (.cells #[.bool n1, .slice A k1 c1, I d1, .bool n2, .slice B k2 c2, I d2] 40)).alloc (.cells #[.bool n3, .slice X k3 c3, I d3, .bool n4, .slice Y k4 c4, I d4] 40)) (w.heap.size + 1 + 1) (by simp) (n1 := n1) (n2 := n2) (n3 := n3) (n4 := n4) (A := A) (B := B) (X := X) (Y := Y) (k1 := k1) (c1 := c1) (k2 := k2) (c2 := c2) (k3 := k3) (c3 := c3) (k4 := k4) (c4 := c4) (d1 := d1) (d2 := d2) (d3 := d3) (d4 := d4) 40)
  with_reducible refine (ifew_any (b := true) HN.out (by simp) (by omega) ⟨fun _ => HFW.out, fun _ => rfl⟩).mono ?_
  rintro e wf ⟨rfl, hx⟩
  have HEF : Hid (Ext w wf) := (((Ext.alloc _ _).trans (Ext.alloc _ _)).trans (Ext.alloc _ _)).trans hx
  have Y0 : Hid (B6 wf w.heap.size (.bool n1) (.slice A k1 c1) (I d1) (.bool n2) (.slice B k2 c2) (I d2)) := (((B6.new w _ _ _ _ _ _ _).ext (Ext.alloc _ _)).ext (Ext.alloc _ _)).ext hx
  have Y1 : Hid (B6 wf (w.heap.size + 1) (.bool n3) (.slice X k3 c3) (I d3) (.bool n4) (.slice Y k4 c4) (I d4)) := by
    have s := B6.new (w.alloc (.cells #[.bool n1, .slice A k1 c1, I d1, .bool n2, .slice B k2 c2, I d2] 40)) (.bool n3) (.slice X k3 c3) (I d3) (.bool n4) (.slice Y k4 c4) (I d4) 40
    rw [show (w.alloc (.cells #[.bool n1, .slice A k1 c1, I d1, .bool n2, .slice B k2 c2, I d2] 40)).heap.size = w.heap.size + 1 by simp] at s
    exact (s.ext (Ext.alloc _ _)).ext hx
  clear hx HN HFW
  go_wp2_with fail
  refine (iawake_any _ (HT.out.ext HEF.out) (HP.out.ext HEF.out)).mono ?_
  rintro e w0 ⟨rfl, hx⟩
  have X0 := Lib.hid (HEF.out.trans hx)
  have Z0 := Lib.hid (Y0.out.ext hx); have Z1 := Lib.hid (Y1.out.ext hx)
  clear hx Y0 Y1 HEF
  go_upto_region 3 with fail
  have HN1 := Lib.hid HA.out.nrm; have HN2 := Lib.hid HB.out.nrm
  have HS3 : Hid (∀ w', Ext w0 w' → w'.cell? ⟨w.heap.size, 0, none⟩ = some (.bool n1) ∧ w'.cell? ⟨w.heap.size, 1, none⟩ = some (.slice A k1 c1) ∧ w'.cell? ⟨w.heap.size, 2, none⟩ = some (I d1) ∧ w'.cell? ⟨w.heap.size, 3, none⟩ = some (.bool n2) ∧ w'.cell? ⟨w.heap.size, 4, none⟩ = some (.slice B k2 c2) ∧ w'.cell? ⟨w.heap.size, 5, none⟩ = some (I d2) ∧ w'.cell? ⟨w.heap.size + 1, 0, none⟩ = some (.bool n3) ∧ w'.cell? ⟨w.heap.size + 1, 1, none⟩ = some (.slice X k3 c3) ∧ w'.cell? ⟨w.heap.size + 1, 2, none⟩ = some (I d3) ∧ w'.cell? ⟨w.heap.size + 1, 3, none⟩ = some (.bool n4) ∧ w'.cell? ⟨w.heap.size + 1, 4, none⟩ = some (.slice Y k4 c4) ∧ w'.cell? ⟨w.heap.size + 1, 5, none⟩ = some (I d4)) := fun w' e => by
    obtain ⟨⟨i0, i1, i2, i3, i4, i5⟩, iz⟩ := Z0.out.ext e; obtain ⟨⟨j0, j1, j2, j3, j4, j5⟩, jz⟩ := Z1.out.ext e
    exact ⟨i0, i1, i2, i3, i4, i5, j0, j1, j2, j3, j4, j5⟩
  go_cut [5, 6] (fun s5 s6 wx => ∃ p q, s5 = .pointer (some ⟨p, 0, none⟩) ∧ s6 = .pointer (some ⟨q, 0, none⟩) ∧ Hid (Ext w0 wx ∧ C6 wx p a A' e1 b B' e2 ∧ C6 wx q x X' e3 y Y' e4))
  case first =>
    clear HA HB HNA HNB HT HP HVa HRa HVb HRb HQ HNu Z0 Z1 EnegL LnegL EnegH LnegH EabsL LabsL EabsH LabsH EaddL LaddL EaddH LaddH EsubL LsubL EsubH LsubH EmulL LmulL EmulH LmulH EminL LminL EminH LminH EmaxL LmaxL EmaxH LmaxH EhulL LhulL EhulH LhulH LM1 LM2 LM3 LM4 Emg Lmg Etx Eiz LMM LNN
    go_region_held3 (fun w' => w'.cell? ⟨w.heap.size, 0, none⟩ = some (.bool n1) ∧ w'.cell? ⟨w.heap.size, 1, none⟩ = some (.slice A k1 c1) ∧ w'.cell? ⟨w.heap.size, 2, none⟩ = some (I d1) ∧ w'.cell? ⟨w.heap.size, 3, none⟩ = some (.bool n2) ∧ w'.cell? ⟨w.heap.size, 4, none⟩ = some (.slice B k2 c2) ∧ w'.cell? ⟨w.heap.size, 5, none⟩ = some (I d2) ∧ w'.cell? ⟨w.heap.size + 1, 0, none⟩ = some (.bool n3) ∧ w'.cell? ⟨w.heap.size + 1, 1, none⟩ = some (.slice X k3 c3) ∧ w'.cell? ⟨w.heap.size + 1, 2, none⟩ = some (I d3) ∧ w'.cell? ⟨w.heap.size + 1, 3, none⟩ = some (.bool n4) ∧ w'.cell? ⟨w.heap.size + 1, 4, none⟩ = some (.slice Y k4 c4) ∧ w'.cell? ⟨w.heap.size + 1, 5, none⟩ = some (I d4)) (first | with_reducible assumption | exact HS3.out _ (by (with_reducible (repeat (first | exact Ext.refl _ | assumption | (refine Ext.toSet ?_ (by omega)) | refine Ext.toAlloc ?_ | refine Ext.toDrew ?_ | refine Ext.toDrewN ?_ | refine Ext.trans ?_ (by assumption)))); (first | done | fail "no")))
      (first
        | (have hg := hx1; clear hg; go_at_call 22; (with_reducible refine (HN2.out _ (X0.out.trans (by (with_reducible (repeat (first | exact Ext.refl _ | assumption | (refine Ext.toSet ?_ (by omega)) | refine Ext.toAlloc ?_ | refine Ext.toDrew ?_ | refine Ext.toDrewN ?_ | refine Ext.trans ?_ (by assumption)))); (first | done | fail "no")))).mono ?_); rintro e w2 ⟨rfl, hx2⟩; have g2 := Ext.size hx2; (try simp only [World.size_alloc] at g2); (first | (have V1 := Lib.hid (U1.out.ext hx2); have V2 := Lib.hid (U2.out.ext hx2); obtain ⟨⟨v10, v11, v12, v13, v14, v15⟩, v1z⟩ := V1.out; obtain ⟨⟨v20, v21, v22, v23, v24, v25⟩, v2z⟩ := V2.out; have l1 := V1.out.lt; have m1 := Nat.ne_of_lt l1; have r1 := Nat.ne_of_gt l1; have l2 := V2.out.lt; have m2 := Nat.ne_of_lt l2; have r2 := Nat.ne_of_gt l2) | ((with_reducible have u2 := one6 hx2); have V2 := Lib.hid u2; have V1 := Lib.hid (U1.out.ext ((Ext.alloc _ _).trans hx2)); clear u2; obtain ⟨⟨v10, v11, v12, v13, v14, v15⟩, v1z⟩ := V1.out; obtain ⟨⟨v20, v21, v22, v23, v24, v25⟩, v2z⟩ := V2.out; have l1 := V1.out.lt; have m1 := Nat.ne_of_lt l1; have r1 := Nat.ne_of_gt l1; have l2 := V2.out.lt; have m2 := Nat.ne_of_lt l2; have r2 := Nat.ne_of_gt l2) | (have V1 := Lib.hid (U1.out.ext hx2); obtain ⟨⟨v10, v11, v12, v13, v14, v15⟩, v1z⟩ := V1.out; have l1 := V1.out.lt; have m1 := Nat.ne_of_lt l1; have r1 := Nat.ne_of_gt l1) | ((with_reducible have uu := two6 hx2); obtain ⟨u1, u2⟩ := uu; have V1 := Lib.hid u1; have V2 := Lib.hid u2; clear u1 u2; obtain ⟨⟨v10, v11, v12, v13, v14, v15⟩, v1z⟩ := V1.out; obtain ⟨⟨v20, v21, v22, v23, v24, v25⟩, v2z⟩ := V2.out; have l1 := V1.out.lt; have m1 := Nat.ne_of_lt l1; have r1 := Nat.ne_of_gt l1; have l2 := V2.out.lt; have m2 := Nat.ne_of_lt l2; have r2 := Nat.ne_of_gt l2) | ((with_reducible have u1 := one6 hx2); have V1 := Lib.hid u1; clear u1; obtain ⟨⟨v10, v11, v12, v13, v14, v15⟩, v1z⟩ := V1.out; have l1 := V1.out.lt; have m1 := Nat.ne_of_lt l1; have r1 := Nat.ne_of_gt l1) | skip))
        | (go_at_call 22; (with_reducible refine (HN1.out _ (X0.out.trans (by (with_reducible (repeat (first | exact Ext.refl _ | assumption | (refine Ext.toSet ?_ (by omega)) | refine Ext.toAlloc ?_ | refine Ext.toDrew ?_ | refine Ext.toDrewN ?_ | refine Ext.trans ?_ (by assumption)))); (first | done | fail "no")))).mono ?_); rintro e w1 ⟨rfl, hx1⟩; have g1 := Ext.size hx1; (try simp only [World.size_drew, World.size_alloc] at g1); (first | ((with_reducible have uu := two6d hx1); obtain ⟨u1, u2⟩ := uu; have U1 := Lib.hid u1; have U2 := Lib.hid u2; clear u1 u2) | ((with_reducible have u1 := one6d hx1); have U1 := Lib.hid u1; clear u1) | skip)))
    all_goals
      go_wp2_with fail
      go_meet
      exact ⟨_, _, rfl, rfl, (by (with_reducible (repeat (first | exact Ext.refl _ | assumption | (refine Ext.toSet ?_ (by omega)) | refine Ext.toAlloc ?_ | refine Ext.toDrew ?_ | refine Ext.toDrewN ?_ | refine Ext.trans ?_ (by assumption)))); (first | done | fail "no")), ⟨by go_simp, by go_simp, by go_simp, by go_simp, by go_simp, by go_simp⟩, ⟨by go_simp, by go_simp, by go_simp, by go_simp, by go_simp, by go_simp⟩⟩
  case rest =>
    obtain ⟨p, q, rfl, rfl, hc⟩ := hcut
    obtain ⟨x6, hp, hq⟩ := hc.out
    have XC := Lib.hid (X0.out.trans x6)
    have P0 := Lib.hid hp; have P1 := Lib.hid hq
    have G0 := Lib.hid (Z0.out.ext x6); have G1 := Lib.hid (Z1.out.ext x6)
    clear hc x6 hp hq Z0 Z1 X0 HN1 HN2 HS3
    obtain ⟨⟨ka0, ka1, ka2, ka3, ka4, ka5⟩, kaz⟩ := G0.out; obtain ⟨⟨lb0, lb1, lb2, lb3, lb4, lb5⟩, lbz⟩ := G1.out
    go_wp2_with (first
      | (have hg := X1; clear hg; go_at_call 23; (with_reducible refine (HQ.out _ _ _ _ _ _ _ _ _ _ _ _ _ _ _ _ _ _ _ _ _ _ _ _ _ _ _ _ _ (HNA.out.ext (T1.out.trans (Ext.alloc _ _))) (HNB.out.ext (T1.out.trans (Ext.alloc _ _))) (HT.out.ext (T1.out.trans (Ext.alloc _ _)))).mono ?_); rintro e1 w2 ⟨AM2, cM2, BM2, kM2, rfl, hra1, hrb1, hx⟩; have X2 := Lib.hid hx; have RA2 := Lib.hid hra1; have RB2 := Lib.hid hrb1; clear hra1 hrb1 hx)
      | (go_at_call 23; (with_reducible refine (HQ.out _ _ _ _ _ _ _ _ _ _ _ _ _ _ _ _ _ _ _ _ _ _ _ _ _ _ _ _ _ (HA.out.ext XC.out) (HB.out.ext XC.out) (HT.out.ext XC.out)).mono ?_); rintro e1 w1 ⟨AM1, cM1, BM1, kM1, rfl, hra1, hrb1, hx⟩; have X1 := Lib.hid hx; have RA1 := Lib.hid hra1; have RB1 := Lib.hid hrb1; have T1 := Lib.hid (XC.out.trans hx); clear hra1 hrb1; obtain ⟨f0, f1, f2, f3, f4, f5⟩ := P0.out.ext (hx.trans (Ext.alloc _ (.cells #[.bool M.neg, .slice AM1 (len M.m) cM1, I M.den, .bool N.neg, .slice BM1 (len N.m) kM1, I N.den] 40))); obtain ⟨g0, g1, g2, g3, g4, g5⟩ := P1.out.ext (hx.trans (Ext.alloc _ (.cells #[.bool M.neg, .slice AM1 (len M.m) cM1, I M.den, .bool N.neg, .slice BM1 (len N.m) kM1, I N.den] 40))); clear hx))
    have X16 := Lib.hid ((Ext.alloc w1 (.cells #[.bool M.neg, .slice AM1 (len M.m) cM1, I M.den, .bool N.neg, .slice BM1 (len N.m) kM1, I N.den] 40)).trans (X2.out.trans (Ext.alloc w2 (.cells #[.bool M.neg, .slice AM2 (len M.m) cM2, I M.den, .bool N.neg, .slice BM2 (len N.m) kM2, I N.den] 40))))
    have XW := Lib.hid (XC.out.trans (X1.out.trans X16.out))
    have Q0 := Lib.hid (G0.out.ext (X1.out.trans X16.out)); have Q1 := Lib.hid (G1.out.ext (X1.out.trans X16.out)); have QP := Lib.hid (P0.out.ext (X1.out.trans X16.out)); have QQ := Lib.hid (P1.out.ext (X1.out.trans X16.out))
    have QM : Hid (B6 (w2.alloc (.cells #[.bool M.neg, .slice AM2 (len M.m) cM2, I M.den, .bool N.neg, .slice BM2 (len N.m) kM2, I N.den] 40)) w1.heap.size (.bool M.neg) (.slice AM1 (len M.m) cM1) (I M.den) (.bool N.neg) (.slice BM1 (len N.m) kM1) (I N.den)) := ((B6.new w1 _ _ _ _ _ _ _).ext X2.out).ext (Ext.alloc _ _)
    have QN : Hid (B6 (w2.alloc (.cells #[.bool M.neg, .slice AM2 (len M.m) cM2, I M.den, .bool N.neg, .slice BM2 (len N.m) kM2, I N.den] 40)) w2.heap.size (.bool M.neg) (.slice AM2 (len M.m) cM2) (I M.den) (.bool N.neg) (.slice BM2 (len N.m) kM2) (I N.den)) := B6.new w2 _ _ _ _ _ _ _
    have RM1 := Lib.hid (RA1.out.ext X16.out); have RN1 := Lib.hid (RB1.out.ext X16.out); have RM2 := Lib.hid (RA2.out.ext (Ext.alloc w2 (.cells #[.bool M.neg, .slice AM2 (len M.m) cM2, I M.den, .bool N.neg, .slice BM2 (len N.m) kM2, I N.den] 40))); have RN2 := Lib.hid (RB2.out.ext (Ext.alloc w2 (.cells #[.bool M.neg, .slice AM2 (len M.m) cM2, I M.den, .bool N.neg, .slice BM2 (len N.m) kM2, I N.den] 40)))
    clear RA1 RB1 RA2 RB2 G0 G1 P0 P1 XC X1 X2 X16 T1 HQ
    generalize (w2.alloc (.cells #[.bool M.neg, .slice AM2 (len M.m) cM2, I M.den, .bool N.neg, .slice BM2 (len N.m) kM2, I N.den] 40)) = W6 at *
    generalize w1.heap.size = gm at *
    generalize w2.heap.size = gn at *
    have HS : Hid (∀ w', Ext W6 w' → w'.cell? ⟨w.heap.size, 0, none⟩ = some (.bool n1) ∧ w'.cell? ⟨w.heap.size, 1, none⟩ = some (.slice A k1 c1) ∧ w'.cell? ⟨w.heap.size, 2, none⟩ = some (I d1) ∧ w'.cell? ⟨w.heap.size, 3, none⟩ = some (.bool n2) ∧ w'.cell? ⟨w.heap.size, 4, none⟩ = some (.slice B k2 c2) ∧ w'.cell? ⟨w.heap.size, 5, none⟩ = some (I d2) ∧ w'.cell? ⟨w.heap.size + 1, 0, none⟩ = some (.bool n3) ∧ w'.cell? ⟨w.heap.size + 1, 1, none⟩ = some (.slice X k3 c3) ∧ w'.cell? ⟨w.heap.size + 1, 2, none⟩ = some (I d3) ∧ w'.cell? ⟨w.heap.size + 1, 3, none⟩ = some (.bool n4) ∧ w'.cell? ⟨w.heap.size + 1, 4, none⟩ = some (.slice Y k4 c4) ∧ w'.cell? ⟨w.heap.size + 1, 5, none⟩ = some (I d4) ∧ w'.cell? ⟨p, 0, none⟩ = some (.bool a.neg) ∧ w'.cell? ⟨p, 1, none⟩ = some (.slice A' (len a.m) e1) ∧ w'.cell? ⟨p, 2, none⟩ = some (I a.den) ∧ w'.cell? ⟨p, 3, none⟩ = some (.bool b.neg) ∧ w'.cell? ⟨p, 4, none⟩ = some (.slice B' (len b.m) e2) ∧ w'.cell? ⟨p, 5, none⟩ = some (I b.den) ∧ w'.cell? ⟨q, 0, none⟩ = some (.bool x.neg) ∧ w'.cell? ⟨q, 1, none⟩ = some (.slice X' (len x.m) e3) ∧ w'.cell? ⟨q, 2, none⟩ = some (I x.den) ∧ w'.cell? ⟨q, 3, none⟩ = some (.bool y.neg) ∧ w'.cell? ⟨q, 4, none⟩ = some (.slice Y' (len y.m) e4) ∧ w'.cell? ⟨q, 5, none⟩ = some (I y.den) ∧ w'.cell? ⟨gm, 0, none⟩ = some (.bool M.neg) ∧ w'.cell? ⟨gm, 1, none⟩ = some (.slice AM1 (len M.m) cM1) ∧ w'.cell? ⟨gm, 2, none⟩ = some (I M.den) ∧ w'.cell? ⟨gm, 3, none⟩ = some (.bool N.neg) ∧ w'.cell? ⟨gm, 4, none⟩ = some (.slice BM1 (len N.m) kM1) ∧ w'.cell? ⟨gm, 5, none⟩ = some (I N.den) ∧ w'.cell? ⟨gn, 0, none⟩ = some (.bool M.neg) ∧ w'.cell? ⟨gn, 1, none⟩ = some (.slice AM2 (len M.m) cM2) ∧ w'.cell? ⟨gn, 2, none⟩ = some (I M.den) ∧ w'.cell? ⟨gn, 3, none⟩ = some (.bool N.neg) ∧ w'.cell? ⟨gn, 4, none⟩ = some (.slice BM2 (len N.m) kM2) ∧ w'.cell? ⟨gn, 5, none⟩ = some (I N.den)) := fun w' e => by
      obtain ⟨⟨i0, i1, i2, i3, i4, i5⟩, iz⟩ := Q0.out.ext e
      obtain ⟨⟨j0, j1, j2, j3, j4, j5⟩, jz⟩ := Q1.out.ext e
      obtain ⟨⟨s0, s1, s2, s3, s4, s5⟩, sz⟩ := QM.out.ext e
      obtain ⟨⟨t0, t1, t2, t3, t4, t5⟩, tz⟩ := QN.out.ext e
      obtain ⟨u0, u1, u2, u3, u4, u5⟩ := QP.out.ext e
      obtain ⟨v0, v1, v2, v3, v4, v5⟩ := QQ.out.ext e
      exact ⟨i0, i1, i2, i3, i4, i5, j0, j1, j2, j3, j4, j5, u0, u1, u2, u3, u4, u5, v0, v1, v2, v3, v4, v5, s0, s1, s2, s3, s4, s5, t0, t1, t2, t3, t4, t5⟩
    clear Q0 Q1 QP QQ QM QN
    have HC0 := Lib.hid (Ext.drew W6)
    have hk := HS.out _ HC0.out
    (try dsimp only [List.append])
    refine wp_region_noPanic ?_
    refine wp_region_held_drew (S := fun w' => w'.cell? ⟨w.heap.size, 0, none⟩ = some (.bool n1) ∧ w'.cell? ⟨w.heap.size, 1, none⟩ = some (.slice A k1 c1) ∧ w'.cell? ⟨w.heap.size, 2, none⟩ = some (I d1) ∧ w'.cell? ⟨w.heap.size, 3, none⟩ = some (.bool n2) ∧ w'.cell? ⟨w.heap.size, 4, none⟩ = some (.slice B k2 c2) ∧ w'.cell? ⟨w.heap.size, 5, none⟩ = some (I d2) ∧ w'.cell? ⟨w.heap.size + 1, 0, none⟩ = some (.bool n3) ∧ w'.cell? ⟨w.heap.size + 1, 1, none⟩ = some (.slice X k3 c3) ∧ w'.cell? ⟨w.heap.size + 1, 2, none⟩ = some (I d3) ∧ w'.cell? ⟨w.heap.size + 1, 3, none⟩ = some (.bool n4) ∧ w'.cell? ⟨w.heap.size + 1, 4, none⟩ = some (.slice Y k4 c4) ∧ w'.cell? ⟨w.heap.size + 1, 5, none⟩ = some (I d4) ∧ w'.cell? ⟨p, 0, none⟩ = some (.bool a.neg) ∧ w'.cell? ⟨p, 1, none⟩ = some (.slice A' (len a.m) e1) ∧ w'.cell? ⟨p, 2, none⟩ = some (I a.den) ∧ w'.cell? ⟨p, 3, none⟩ = some (.bool b.neg) ∧ w'.cell? ⟨p, 4, none⟩ = some (.slice B' (len b.m) e2) ∧ w'.cell? ⟨p, 5, none⟩ = some (I b.den) ∧ w'.cell? ⟨q, 0, none⟩ = some (.bool x.neg) ∧ w'.cell? ⟨q, 1, none⟩ = some (.slice X' (len x.m) e3) ∧ w'.cell? ⟨q, 2, none⟩ = some (I x.den) ∧ w'.cell? ⟨q, 3, none⟩ = some (.bool y.neg) ∧ w'.cell? ⟨q, 4, none⟩ = some (.slice Y' (len y.m) e4) ∧ w'.cell? ⟨q, 5, none⟩ = some (I y.den) ∧ w'.cell? ⟨gm, 0, none⟩ = some (.bool M.neg) ∧ w'.cell? ⟨gm, 1, none⟩ = some (.slice AM1 (len M.m) cM1) ∧ w'.cell? ⟨gm, 2, none⟩ = some (I M.den) ∧ w'.cell? ⟨gm, 3, none⟩ = some (.bool N.neg) ∧ w'.cell? ⟨gm, 4, none⟩ = some (.slice BM1 (len N.m) kM1) ∧ w'.cell? ⟨gm, 5, none⟩ = some (I N.den) ∧ w'.cell? ⟨gn, 0, none⟩ = some (.bool M.neg) ∧ w'.cell? ⟨gn, 1, none⟩ = some (.slice AM2 (len M.m) cM2) ∧ w'.cell? ⟨gn, 2, none⟩ = some (I M.den) ∧ w'.cell? ⟨gn, 3, none⟩ = some (.bool N.neg) ∧ w'.cell? ⟨gn, 4, none⟩ = some (.slice BM2 (len N.m) kM2) ∧ w'.cell? ⟨gn, 5, none⟩ = some (I N.den)) (by kernel_rfl) ?_ (fun hHeld => ?_)
    · exact hk
    refine wpAnyH_take (i := 0) (oi := { dst := some 37, op := Op.load 40 (Operand.tmp 2), type := 40, pos := "law.go:48", after := #[], guard := none }) (v := ?_) rfl (by as_aux_lemma => kernel_rfl) (by as_aux_lemma => kernel_rfl) (by as_aux_lemma => kernel_rfl) (fun _ _ _ h => h) (Or.inl ⟨by rfl, ?hy⟩) hHeld ?_
    case hy => ((intro w' hSw; (try dsimp only at hSw); go_simp); (try with_reducible rfl))
    (try simp only [Act.put, List.setIfInBounds_toArray, List.set_cons_zero, List.set_cons_succ])
    refine wpAnyH_take (i := 2) (oi := { dst := some 39, op := Op.load 40 (Operand.tmp 2), type := 40, pos := "law.go:48", after := #[], guard := none }) (v := ?_) rfl (by as_aux_lemma => kernel_rfl) (by as_aux_lemma => kernel_rfl) (by as_aux_lemma => kernel_rfl) (fun _ _ _ h => h) (Or.inl ⟨by rfl, ?hy⟩) hHeld ?_
    case hy => ((intro w' hSw; (try dsimp only at hSw); go_simp); (try with_reducible rfl))
    (try simp only [Act.put, List.setIfInBounds_toArray, List.set_cons_zero, List.set_cons_succ])
    refine wpAnyH_ready (rs := [1]) (by as_aux_lemma => kernel_rfl) (by simp) ?_
    refine AllReadyH.cons (o := { dst := some 38, op := Op.call { callee := Callee.value (Operand.func 24), args := #[Operand.tmp 37], argTypes := #[40] }, type := 4, pos := "law.go:48", after := #[{ on := 0, ground := Ground.data }], guard := none }) rfl (fun K hK => ?_) AllReadyH.nil
    go_simp
    (go_at_call 24; (with_reducible refine (HVa.out _ (XW.out.trans HC0.out)).mono ?_); rintro e w11 ⟨rfl, hx⟩; have HC1 := Lib.hid (Ext.trans HC0.out hx); have HL1 := Lib.hid hx; clear hx hk; have hk := HS.out _ HC1.out)
    (try go_wp2_with fail)
    refine hK.out _ _ hk (fun hHeld' => ?_)
    clear hK K hHeld
    have hHeld := hHeld'
    clear hHeld'
    (try simp only [Act.put, List.setIfInBounds_toArray, List.set_cons_zero, List.set_cons_succ])
    refine wpAnyH_ready (rs := [3]) (by as_aux_lemma => kernel_rfl) (by simp) ?_
    refine AllReadyH.cons (o := { dst := some 40, op := Op.call { callee := Callee.value (Operand.func 25), args := #[Operand.tmp 39], argTypes := #[40] }, type := 4, pos := "law.go:48", after := #[{ on := 2, ground := Ground.data }, { on := 1, ground := Ground.chain }], guard := none }) rfl (fun K hK => ?_) AllReadyH.nil
    go_simp
    (go_at_call 25; (with_reducible refine (HRa.out _ (XW.out.trans HC1.out)).mono ?_); rintro e w12 ⟨rfl, hx⟩; have HC2 := Lib.hid (Ext.trans HC1.out hx); have HL2 := Lib.hid hx; clear hx hk; have hk := HS.out _ HC2.out)
    (try go_wp2_with fail)
    refine hK.out _ _ hk (fun hHeld' => ?_)
    clear hK K hHeld
    have hHeld := hHeld'
    clear hHeld'
    (try simp only [Act.put, List.setIfInBounds_toArray, List.set_cons_zero, List.set_cons_succ])
    refine wpAnyH_take (i := 4) (oi := { dst := some 41, op := Op.binOp BinOp.eql 4 (Operand.tmp 38) (Operand.tmp 40) 4, type := 4, pos := "law.go:48", after := #[{ on := 1, ground := Ground.data }, { on := 3, ground := Ground.data }], guard := none }) (v := ?_) rfl (by as_aux_lemma => kernel_rfl) (by as_aux_lemma => kernel_rfl) (by as_aux_lemma => kernel_rfl) (fun _ _ _ h => h) (Or.inl ⟨by rfl, ?hy⟩) hHeld ?_
    case hy => ((intro w' hSw; (try dsimp only at hSw); go_simp); (try with_reducible rfl))
    (try simp only [Act.put, List.setIfInBounds_toArray, List.set_cons_zero, List.set_cons_succ])
    refine wpAnyH_take (i := 5) (oi := { dst := some 42, op := Op.move (Operand.tmp 41), type := 4, pos := "law.go:48", after := #[{ on := 4, ground := Ground.data }, { on := 3, ground := Ground.chain }], guard := none }) (v := ?_) rfl (by as_aux_lemma => kernel_rfl) (by as_aux_lemma => kernel_rfl) (by as_aux_lemma => kernel_rfl) (fun _ _ _ h => h) (Or.inl ⟨by rfl, ?hy⟩) hHeld ?_
    case hy => ((intro w' hSw; (try dsimp only at hSw); go_simp); (try with_reducible rfl))
    (try simp only [Act.put, List.setIfInBounds_toArray, List.set_cons_zero, List.set_cons_succ])
    refine wpAnyH_take (i := 6) (oi := { dst := some 43, op := Op.load 40 (Operand.tmp 3), type := 40, pos := "law.go:48", after := #[{ on := 5, ground := Ground.guard }], guard := some (5, true) }) (v := ?_) rfl (by as_aux_lemma => kernel_rfl) (by as_aux_lemma => kernel_rfl) (by as_aux_lemma => kernel_rfl) (fun _ _ _ h => h) (Or.inl ⟨by rfl, ?hy⟩) hHeld ?_
    case hy => ((intro w' hSw; (try dsimp only at hSw); go_simp); (try with_reducible rfl))
    (try simp only [Act.put, List.setIfInBounds_toArray, List.set_cons_zero, List.set_cons_succ])
    refine wpAnyH_take (i := 8) (oi := { dst := some 45, op := Op.load 40 (Operand.tmp 3), type := 40, pos := "law.go:48", after := #[{ on := 5, ground := Ground.guard }], guard := some (5, true) }) (v := ?_) rfl (by as_aux_lemma => kernel_rfl) (by as_aux_lemma => kernel_rfl) (by as_aux_lemma => kernel_rfl) (fun _ _ _ h => h) (Or.inl ⟨by rfl, ?hy⟩) hHeld ?_
    case hy => ((intro w' hSw; (try dsimp only at hSw); go_simp); (try with_reducible rfl))
    (try simp only [Act.put, List.setIfInBounds_toArray, List.set_cons_zero, List.set_cons_succ])
    refine wpAnyH_ready (rs := [7]) (by as_aux_lemma => kernel_rfl) (by simp) ?_
    refine AllReadyH.cons (o := { dst := some 44, op := Op.call { callee := Callee.value (Operand.func 24), args := #[Operand.tmp 43], argTypes := #[40] }, type := 4, pos := "law.go:48", after := #[{ on := 6, ground := Ground.data }, { on := 5, ground := Ground.chain }, { on := 5, ground := Ground.guard }], guard := some (5, true) }) rfl (fun K hK => ?_) AllReadyH.nil
    go_simp
    (go_at_call 24; (with_reducible refine (HVb.out _ (XW.out.trans HC2.out)).mono ?_); rintro e w13 ⟨rfl, hx⟩; have HC3 := Lib.hid (Ext.trans HC2.out hx); have HL3 := Lib.hid hx; clear hx hk; have hk := HS.out _ HC3.out)
    (try go_wp2_with fail)
    refine hK.out _ _ hk (fun hHeld' => ?_)
    clear hK K hHeld
    have hHeld := hHeld'
    clear hHeld'
    (try simp only [Act.put, List.setIfInBounds_toArray, List.set_cons_zero, List.set_cons_succ])
    refine wpAnyH_ready (rs := [9]) (by as_aux_lemma => kernel_rfl) (by simp) ?_
    refine AllReadyH.cons (o := { dst := some 46, op := Op.call { callee := Callee.value (Operand.func 25), args := #[Operand.tmp 45], argTypes := #[40] }, type := 4, pos := "law.go:48", after := #[{ on := 8, ground := Ground.data }, { on := 7, ground := Ground.chain }, { on := 5, ground := Ground.guard }], guard := some (5, true) }) rfl (fun K hK => ?_) AllReadyH.nil
    go_simp
    (go_at_call 25; (with_reducible refine (HRb.out _ (XW.out.trans HC3.out)).mono ?_); rintro e w14 ⟨rfl, hx⟩; have HC4 := Lib.hid (Ext.trans HC3.out hx); have HL4 := Lib.hid hx; clear hx hk; have hk := HS.out _ HC4.out)
    (try go_wp2_with fail)
    refine hK.out _ _ hk (fun hHeld' => ?_)
    clear hK K hHeld
    have hHeld := hHeld'
    clear hHeld'
    (try simp only [Act.put, List.setIfInBounds_toArray, List.set_cons_zero, List.set_cons_succ])
    refine wpAnyH_take (i := 10) (oi := { dst := some 47, op := Op.binOp BinOp.eql 4 (Operand.tmp 44) (Operand.tmp 46) 4, type := 4, pos := "law.go:48", after := #[{ on := 7, ground := Ground.data }, { on := 9, ground := Ground.data }, { on := 5, ground := Ground.guard }], guard := some (5, true) }) (v := ?_) rfl (by as_aux_lemma => kernel_rfl) (by as_aux_lemma => kernel_rfl) (by as_aux_lemma => kernel_rfl) (fun _ _ _ h => h) (Or.inl ⟨by rfl, ?hy⟩) hHeld ?_
    case hy => ((intro w' hSw; (try dsimp only at hSw); go_simp); (try with_reducible rfl))
    (try simp only [Act.put, List.setIfInBounds_toArray, List.set_cons_zero, List.set_cons_succ])
    refine wpAnyH_take (i := 11) (oi := { dst := some 48, op := Op.pick (Operand.tmp 42) (Operand.tmp 47) (Operand.const (Value.bool false)), type := 4, pos := "law.go:48", after := #[{ on := 5, ground := Ground.data }, { on := 10, ground := Ground.data }], guard := none }) (v := ?_) rfl (by as_aux_lemma => kernel_rfl) (by as_aux_lemma => kernel_rfl) (by as_aux_lemma => kernel_rfl) (fun _ _ _ h => h) (Or.inl ⟨by rfl, ?hy⟩) hHeld ?_
    case hy => ((intro w' hSw; (try dsimp only at hSw); go_simp); (try with_reducible rfl))
    (try simp only [Act.put, List.setIfInBounds_toArray, List.set_cons_zero, List.set_cons_succ])
    refine wpAnyH_take (i := 12) (oi := { dst := some 49, op := Op.move (Operand.tmp 48), type := 4, pos := "law.go:48", after := #[{ on := 11, ground := Ground.data }, { on := 9, ground := Ground.chain }], guard := none }) (v := ?_) rfl (by as_aux_lemma => kernel_rfl) (by as_aux_lemma => kernel_rfl) (by as_aux_lemma => kernel_rfl) (fun _ _ _ h => h) (Or.inl ⟨by rfl, ?hy⟩) hHeld ?_
    case hy => ((intro w' hSw; (try dsimp only at hSw); go_simp); (try with_reducible rfl))
    (try simp only [Act.put, List.setIfInBounds_toArray, List.set_cons_zero, List.set_cons_succ])
    refine wpAnyH_take (i := 13) (oi := { dst := some 50, op := Op.load 40 (Operand.tmp 2), type := 40, pos := "law.go:48", after := #[{ on := 12, ground := Ground.guard }], guard := some (12, true) }) (v := ?_) rfl (by as_aux_lemma => kernel_rfl) (by as_aux_lemma => kernel_rfl) (by as_aux_lemma => kernel_rfl) (fun _ _ _ h => h) (Or.inl ⟨by rfl, ?hy⟩) hHeld ?_
    case hy => ((intro w' hSw; (try dsimp only at hSw); go_simp); (try with_reducible rfl))
    (try simp only [Act.put, List.setIfInBounds_toArray, List.set_cons_zero, List.set_cons_succ])
    refine wpAnyH_take (i := 15) (oi := { dst := some 52, op := Op.load 40 (Operand.tmp 5), type := 40, pos := "law.go:48", after := #[{ on := 12, ground := Ground.guard }], guard := some (12, true) }) (v := ?_) rfl (by as_aux_lemma => kernel_rfl) (by as_aux_lemma => kernel_rfl) (by as_aux_lemma => kernel_rfl) (fun _ _ _ h => h) (Or.inl ⟨by rfl, ?hy⟩) hHeld ?_
    case hy => ((intro w' hSw; (try dsimp only at hSw); go_simp); (try with_reducible rfl))
    (try simp only [Act.put, List.setIfInBounds_toArray, List.set_cons_zero, List.set_cons_succ])
    refine wpAnyH_ready (rs := [14]) (by as_aux_lemma => kernel_rfl) (by simp) ?_
    refine AllReadyH.cons (o := { dst := some 51, op := Op.call { callee := Callee.value (Operand.func 27), args := #[Operand.tmp 50], argTypes := #[40] }, type := 40, pos := "law.go:48", after := #[{ on := 13, ground := Ground.data }, { on := 12, ground := Ground.chain }, { on := 12, ground := Ground.guard }], guard := some (12, true) }) rfl (fun K hK => ?_) AllReadyH.nil
    go_simp
    (go_at_call 27; (with_reducible refine (ineg_any (HA.out.ext (XW.out.trans HC4.out)) (HT.out.ext (XW.out.trans HC4.out))).mono ?_); rw [EnegL.out, EnegH.out]; rintro e w15 ⟨A25, c25, B25, k25, rfl, hfa, hfb, hx⟩; have HC5 := Lib.hid (Ext.trans HC4.out hx); have HL5 := Lib.hid hx; have RA1 := Lib.hid hfa.rd; have RB1 := Lib.hid hfb.rd; clear hfa hfb; clear hx hk; have hk := HS.out _ HC5.out)
    (try go_wp2_with fail)
    refine hK.out _ _ hk (fun hHeld' => ?_)
    clear hK K hHeld
    have hHeld := hHeld'
    clear hHeld'
    (try simp only [Act.put, List.setIfInBounds_toArray, List.set_cons_zero, List.set_cons_succ])
    refine wpAnyH_ready (rs := [16]) (by as_aux_lemma => kernel_rfl) (by simp) ?_
    refine AllReadyH.cons (o := { dst := some 53, op := Op.call { callee := Callee.value (Operand.func 27), args := #[Operand.tmp 52], argTypes := #[40] }, type := 40, pos := "law.go:48", after := #[{ on := 15, ground := Ground.data }, { on := 14, ground := Ground.chain }, { on := 12, ground := Ground.guard }], guard := some (12, true) }) rfl (fun K hK => ?_) AllReadyH.nil
    go_simp
    (go_at_call 27; (with_reducible refine (ineg_any (HNA.out.ext (XW.out.trans HC5.out)) (HT.out.ext (XW.out.trans HC5.out))).mono ?_); rw [EnegL.out, EnegH.out]; rintro e w16 ⟨A26, c26, B26, k26, rfl, hfa, hfb, hx⟩; have HC6 := Lib.hid (Ext.trans HC5.out hx); have HL6 := Lib.hid hx; have RA2 := Lib.hid hfa.rd; have RB2 := Lib.hid hfb.rd; clear hfa hfb; clear hx hk; have hk := HS.out _ HC6.out)
    (try go_wp2_with fail)
    refine hK.out _ _ hk (fun hHeld' => ?_)
    clear hK K hHeld
    have hHeld := hHeld'
    clear hHeld'
    (try simp only [Act.put, List.setIfInBounds_toArray, List.set_cons_zero, List.set_cons_succ])
    refine wpAnyH_ready (rs := [17]) (by as_aux_lemma => kernel_rfl) (by simp) ?_
    refine AllReadyH.cons (o := { dst := some 54, op := Op.call { callee := Callee.value (Operand.func 26), args := #[Operand.tmp 51, Operand.tmp 53], argTypes := #[40, 40] }, type := 4, pos := "law.go:48", after := #[{ on := 14, ground := Ground.data }, { on := 16, ground := Ground.data }, { on := 16, ground := Ground.chain }, { on := 12, ground := Ground.guard }], guard := some (12, true) }) rfl (fun K hK => ?_) AllReadyH.nil
    go_simp
    (go_at_call 26; (with_reducible refine (isame_true (RA1.out.ext HL6.out) (RB1.out.ext HL6.out) RA2.out RB2.out LnegL.out LnegH.out).mono ?_); rintro e w17 ⟨rfl, hx⟩; have HC7 := Lib.hid (Ext.trans HC6.out hx); have HL7 := Lib.hid hx; clear RA1 RB1 RA2 RB2; clear hx hk; have hk := HS.out _ HC7.out)
    (try go_wp2_with fail)
    refine hK.out _ _ hk (fun hHeld' => ?_)
    clear hK K hHeld
    have hHeld := hHeld'
    clear hHeld'
    (try simp only [Act.put, List.setIfInBounds_toArray, List.set_cons_zero, List.set_cons_succ])
    refine wpAnyH_take (i := 18) (oi := { dst := some 55, op := Op.pick (Operand.tmp 49) (Operand.tmp 54) (Operand.const (Value.bool false)), type := 4, pos := "law.go:48", after := #[{ on := 12, ground := Ground.data }, { on := 17, ground := Ground.data }], guard := none }) (v := ?_) rfl (by as_aux_lemma => kernel_rfl) (by as_aux_lemma => kernel_rfl) (by as_aux_lemma => kernel_rfl) (fun _ _ _ h => h) (Or.inl ⟨by rfl, ?hy⟩) hHeld ?_
    case hy => ((intro w' hSw; (try dsimp only at hSw); go_simp); (try with_reducible rfl))
    (try simp only [Act.put, List.setIfInBounds_toArray, List.set_cons_zero, List.set_cons_succ])
    refine wpAnyH_take (i := 19) (oi := { dst := some 56, op := Op.move (Operand.tmp 55), type := 4, pos := "law.go:48", after := #[{ on := 18, ground := Ground.data }, { on := 17, ground := Ground.chain }], guard := none }) (v := ?_) rfl (by as_aux_lemma => kernel_rfl) (by as_aux_lemma => kernel_rfl) (by as_aux_lemma => kernel_rfl) (fun _ _ _ h => h) (Or.inl ⟨by rfl, ?hy⟩) hHeld ?_
    case hy => ((intro w' hSw; (try dsimp only at hSw); go_simp); (try with_reducible rfl))
    (try simp only [Act.put, List.setIfInBounds_toArray, List.set_cons_zero, List.set_cons_succ])
    refine wpAnyH_take (i := 20) (oi := { dst := some 57, op := Op.load 40 (Operand.tmp 2), type := 40, pos := "law.go:48", after := #[{ on := 19, ground := Ground.guard }], guard := some (19, true) }) (v := ?_) rfl (by as_aux_lemma => kernel_rfl) (by as_aux_lemma => kernel_rfl) (by as_aux_lemma => kernel_rfl) (fun _ _ _ h => h) (Or.inl ⟨by rfl, ?hy⟩) hHeld ?_
    case hy => ((intro w' hSw; (try dsimp only at hSw); go_simp); (try with_reducible rfl))
    (try simp only [Act.put, List.setIfInBounds_toArray, List.set_cons_zero, List.set_cons_succ])
    refine wpAnyH_take (i := 22) (oi := { dst := some 59, op := Op.load 40 (Operand.tmp 5), type := 40, pos := "law.go:48", after := #[{ on := 19, ground := Ground.guard }], guard := some (19, true) }) (v := ?_) rfl (by as_aux_lemma => kernel_rfl) (by as_aux_lemma => kernel_rfl) (by as_aux_lemma => kernel_rfl) (fun _ _ _ h => h) (Or.inl ⟨by rfl, ?hy⟩) hHeld ?_
    case hy => ((intro w' hSw; (try dsimp only at hSw); go_simp); (try with_reducible rfl))
    (try simp only [Act.put, List.setIfInBounds_toArray, List.set_cons_zero, List.set_cons_succ])
    refine wpAnyH_ready (rs := [21]) (by as_aux_lemma => kernel_rfl) (by simp) ?_
    refine AllReadyH.cons (o := { dst := some 58, op := Op.call { callee := Callee.value (Operand.func 28), args := #[Operand.tmp 57], argTypes := #[40] }, type := 40, pos := "law.go:48", after := #[{ on := 20, ground := Ground.data }, { on := 19, ground := Ground.chain }, { on := 19, ground := Ground.guard }], guard := some (19, true) }) rfl (fun K hK => ?_) AllReadyH.nil
    go_simp
    (go_at_call 28; (with_reducible refine (iabs_any (HA.out.ext (XW.out.trans HC7.out)) (HT.out.ext (XW.out.trans HC7.out))).mono ?_); rw [EabsL.out, EabsH.out]; rintro e w18 ⟨A28, c28, B28, k28, rfl, hfa, hfb, hx⟩; have HC8 := Lib.hid (Ext.trans HC7.out hx); have HL8 := Lib.hid hx; have RA1 := Lib.hid hfa.rd; have RB1 := Lib.hid hfb.rd; clear hfa hfb; clear hx hk; have hk := HS.out _ HC8.out)
    (try go_wp2_with fail)
    refine hK.out _ _ hk (fun hHeld' => ?_)
    clear hK K hHeld
    have hHeld := hHeld'
    clear hHeld'
    (try simp only [Act.put, List.setIfInBounds_toArray, List.set_cons_zero, List.set_cons_succ])
    refine wpAnyH_ready (rs := [23]) (by as_aux_lemma => kernel_rfl) (by simp) ?_
    refine AllReadyH.cons (o := { dst := some 60, op := Op.call { callee := Callee.value (Operand.func 28), args := #[Operand.tmp 59], argTypes := #[40] }, type := 40, pos := "law.go:48", after := #[{ on := 22, ground := Ground.data }, { on := 21, ground := Ground.chain }, { on := 19, ground := Ground.guard }], guard := some (19, true) }) rfl (fun K hK => ?_) AllReadyH.nil
    go_simp
    (go_at_call 28; (with_reducible refine (iabs_any (HNA.out.ext (XW.out.trans HC8.out)) (HT.out.ext (XW.out.trans HC8.out))).mono ?_); rw [EabsL.out, EabsH.out]; rintro e w19 ⟨A29, c29, B29, k29, rfl, hfa, hfb, hx⟩; have HC9 := Lib.hid (Ext.trans HC8.out hx); have HL9 := Lib.hid hx; have RA2 := Lib.hid hfa.rd; have RB2 := Lib.hid hfb.rd; clear hfa hfb; clear hx hk; have hk := HS.out _ HC9.out)
    (try go_wp2_with fail)
    refine hK.out _ _ hk (fun hHeld' => ?_)
    clear hK K hHeld
    have hHeld := hHeld'
    clear hHeld'
    (try simp only [Act.put, List.setIfInBounds_toArray, List.set_cons_zero, List.set_cons_succ])
    refine wpAnyH_ready (rs := [24]) (by as_aux_lemma => kernel_rfl) (by simp) ?_
    refine AllReadyH.cons (o := { dst := some 61, op := Op.call { callee := Callee.value (Operand.func 26), args := #[Operand.tmp 58, Operand.tmp 60], argTypes := #[40, 40] }, type := 4, pos := "law.go:48", after := #[{ on := 21, ground := Ground.data }, { on := 23, ground := Ground.data }, { on := 23, ground := Ground.chain }, { on := 19, ground := Ground.guard }], guard := some (19, true) }) rfl (fun K hK => ?_) AllReadyH.nil
    go_simp
    (go_at_call 26; (with_reducible refine (isame_true (RA1.out.ext HL9.out) (RB1.out.ext HL9.out) RA2.out RB2.out LabsL.out LabsH.out).mono ?_); rintro e w20 ⟨rfl, hx⟩; have HC10 := Lib.hid (Ext.trans HC9.out hx); have HL10 := Lib.hid hx; clear RA1 RB1 RA2 RB2; clear hx hk; have hk := HS.out _ HC10.out)
    (try go_wp2_with fail)
    refine hK.out _ _ hk (fun hHeld' => ?_)
    clear hK K hHeld
    have hHeld := hHeld'
    clear hHeld'
    (try simp only [Act.put, List.setIfInBounds_toArray, List.set_cons_zero, List.set_cons_succ])
    refine wpAnyH_take (i := 25) (oi := { dst := some 62, op := Op.pick (Operand.tmp 56) (Operand.tmp 61) (Operand.const (Value.bool false)), type := 4, pos := "law.go:48", after := #[{ on := 19, ground := Ground.data }, { on := 24, ground := Ground.data }], guard := none }) (v := ?_) rfl (by as_aux_lemma => kernel_rfl) (by as_aux_lemma => kernel_rfl) (by as_aux_lemma => kernel_rfl) (fun _ _ _ h => h) (Or.inl ⟨by rfl, ?hy⟩) hHeld ?_
    case hy => ((intro w' hSw; (try dsimp only at hSw); go_simp); (try with_reducible rfl))
    (try simp only [Act.put, List.setIfInBounds_toArray, List.set_cons_zero, List.set_cons_succ])
    refine wpAnyH_take (i := 26) (oi := { dst := some 63, op := Op.move (Operand.tmp 62), type := 4, pos := "law.go:48", after := #[{ on := 25, ground := Ground.data }, { on := 24, ground := Ground.chain }], guard := none }) (v := ?_) rfl (by as_aux_lemma => kernel_rfl) (by as_aux_lemma => kernel_rfl) (by as_aux_lemma => kernel_rfl) (fun _ _ _ h => h) (Or.inl ⟨by rfl, ?hy⟩) hHeld ?_
    case hy => ((intro w' hSw; (try dsimp only at hSw); go_simp); (try with_reducible rfl))
    (try simp only [Act.put, List.setIfInBounds_toArray, List.set_cons_zero, List.set_cons_succ])
    refine wpAnyH_take (i := 27) (oi := { dst := some 64, op := Op.load 40 (Operand.tmp 2), type := 40, pos := "law.go:48", after := #[{ on := 26, ground := Ground.guard }], guard := some (26, true) }) (v := ?_) rfl (by as_aux_lemma => kernel_rfl) (by as_aux_lemma => kernel_rfl) (by as_aux_lemma => kernel_rfl) (fun _ _ _ h => h) (Or.inl ⟨by rfl, ?hy⟩) hHeld ?_
    case hy => ((intro w' hSw; (try dsimp only at hSw); go_simp); (try with_reducible rfl))
    (try simp only [Act.put, List.setIfInBounds_toArray, List.set_cons_zero, List.set_cons_succ])
    refine wpAnyH_take (i := 28) (oi := { dst := some 65, op := Op.load 40 (Operand.tmp 3), type := 40, pos := "law.go:48", after := #[{ on := 26, ground := Ground.guard }], guard := some (26, true) }) (v := ?_) rfl (by as_aux_lemma => kernel_rfl) (by as_aux_lemma => kernel_rfl) (by as_aux_lemma => kernel_rfl) (fun _ _ _ h => h) (Or.inl ⟨by rfl, ?hy⟩) hHeld ?_
    case hy => ((intro w' hSw; (try dsimp only at hSw); go_simp); (try with_reducible rfl))
    (try simp only [Act.put, List.setIfInBounds_toArray, List.set_cons_zero, List.set_cons_succ])
    refine wpAnyH_take (i := 30) (oi := { dst := some 67, op := Op.load 40 (Operand.tmp 5), type := 40, pos := "law.go:48", after := #[{ on := 26, ground := Ground.guard }], guard := some (26, true) }) (v := ?_) rfl (by as_aux_lemma => kernel_rfl) (by as_aux_lemma => kernel_rfl) (by as_aux_lemma => kernel_rfl) (fun _ _ _ h => h) (Or.inl ⟨by rfl, ?hy⟩) hHeld ?_
    case hy => ((intro w' hSw; (try dsimp only at hSw); go_simp); (try with_reducible rfl))
    (try simp only [Act.put, List.setIfInBounds_toArray, List.set_cons_zero, List.set_cons_succ])
    refine wpAnyH_take (i := 31) (oi := { dst := some 68, op := Op.load 40 (Operand.tmp 6), type := 40, pos := "law.go:48", after := #[{ on := 26, ground := Ground.guard }], guard := some (26, true) }) (v := ?_) rfl (by as_aux_lemma => kernel_rfl) (by as_aux_lemma => kernel_rfl) (by as_aux_lemma => kernel_rfl) (fun _ _ _ h => h) (Or.inl ⟨by rfl, ?hy⟩) hHeld ?_
    case hy => ((intro w' hSw; (try dsimp only at hSw); go_simp); (try with_reducible rfl))
    (try simp only [Act.put, List.setIfInBounds_toArray, List.set_cons_zero, List.set_cons_succ])
    refine wpAnyH_ready (rs := [29]) (by as_aux_lemma => kernel_rfl) (by simp) ?_
    refine AllReadyH.cons (o := { dst := some 66, op := Op.call { callee := Callee.value (Operand.func 29), args := #[Operand.tmp 64, Operand.tmp 65], argTypes := #[40, 40] }, type := 40, pos := "law.go:49", after := #[{ on := 27, ground := Ground.data }, { on := 28, ground := Ground.data }, { on := 26, ground := Ground.chain }, { on := 26, ground := Ground.guard }], guard := some (26, true) }) rfl (fun K hK => ?_) AllReadyH.nil
    go_simp
    (go_at_call 29; (with_reducible refine (iadd_any (HA.out.ext (XW.out.trans HC10.out)) (HB.out.ext (XW.out.trans HC10.out)) (HT.out.ext (XW.out.trans HC10.out))).mono ?_); rw [EaddL.out, EaddH.out]; rintro e w21 ⟨A31, c31, B31, k31, rfl, hfa, hfb, hx⟩; have HC11 := Lib.hid (Ext.trans HC10.out hx); have HL11 := Lib.hid hx; have RA1 := Lib.hid hfa.rd; have RB1 := Lib.hid hfb.rd; clear hfa hfb; clear hx hk; have hk := HS.out _ HC11.out)
    (try go_wp2_with fail)
    refine hK.out _ _ hk (fun hHeld' => ?_)
    clear hK K hHeld
    have hHeld := hHeld'
    clear hHeld'
    (try simp only [Act.put, List.setIfInBounds_toArray, List.set_cons_zero, List.set_cons_succ])
    refine wpAnyH_ready (rs := [32]) (by as_aux_lemma => kernel_rfl) (by simp) ?_
    refine AllReadyH.cons (o := { dst := some 69, op := Op.call { callee := Callee.value (Operand.func 29), args := #[Operand.tmp 67, Operand.tmp 68], argTypes := #[40, 40] }, type := 40, pos := "law.go:49", after := #[{ on := 30, ground := Ground.data }, { on := 31, ground := Ground.data }, { on := 29, ground := Ground.chain }, { on := 26, ground := Ground.guard }], guard := some (26, true) }) rfl (fun K hK => ?_) AllReadyH.nil
    go_simp
    (go_at_call 29; (with_reducible refine (iadd_any (HNA.out.ext (XW.out.trans HC11.out)) (HNB.out.ext (XW.out.trans HC11.out)) (HT.out.ext (XW.out.trans HC11.out))).mono ?_); rw [EaddL.out, EaddH.out]; rintro e w22 ⟨A32, c32, B32, k32, rfl, hfa, hfb, hx⟩; have HC12 := Lib.hid (Ext.trans HC11.out hx); have HL12 := Lib.hid hx; have RA2 := Lib.hid hfa.rd; have RB2 := Lib.hid hfb.rd; clear hfa hfb; clear hx hk; have hk := HS.out _ HC12.out)
    (try go_wp2_with fail)
    refine hK.out _ _ hk (fun hHeld' => ?_)
    clear hK K hHeld
    have hHeld := hHeld'
    clear hHeld'
    (try simp only [Act.put, List.setIfInBounds_toArray, List.set_cons_zero, List.set_cons_succ])
    refine wpAnyH_ready (rs := [33]) (by as_aux_lemma => kernel_rfl) (by simp) ?_
    refine AllReadyH.cons (o := { dst := some 70, op := Op.call { callee := Callee.value (Operand.func 26), args := #[Operand.tmp 66, Operand.tmp 69], argTypes := #[40, 40] }, type := 4, pos := "law.go:49", after := #[{ on := 29, ground := Ground.data }, { on := 32, ground := Ground.data }, { on := 32, ground := Ground.chain }, { on := 26, ground := Ground.guard }], guard := some (26, true) }) rfl (fun K hK => ?_) AllReadyH.nil
    go_simp
    (go_at_call 26; (with_reducible refine (isame_true (RA1.out.ext HL12.out) (RB1.out.ext HL12.out) RA2.out RB2.out LaddL.out LaddH.out).mono ?_); rintro e w23 ⟨rfl, hx⟩; have HC13 := Lib.hid (Ext.trans HC12.out hx); have HL13 := Lib.hid hx; clear RA1 RB1 RA2 RB2; clear hx hk; have hk := HS.out _ HC13.out)
    (try go_wp2_with fail)
    refine hK.out _ _ hk (fun hHeld' => ?_)
    clear hK K hHeld
    have hHeld := hHeld'
    clear hHeld'
    (try simp only [Act.put, List.setIfInBounds_toArray, List.set_cons_zero, List.set_cons_succ])
    refine wpAnyH_take (i := 34) (oi := { dst := some 71, op := Op.pick (Operand.tmp 63) (Operand.tmp 70) (Operand.const (Value.bool false)), type := 4, pos := "law.go:48", after := #[{ on := 26, ground := Ground.data }, { on := 33, ground := Ground.data }], guard := none }) (v := ?_) rfl (by as_aux_lemma => kernel_rfl) (by as_aux_lemma => kernel_rfl) (by as_aux_lemma => kernel_rfl) (fun _ _ _ h => h) (Or.inl ⟨by rfl, ?hy⟩) hHeld ?_
    case hy => ((intro w' hSw; (try dsimp only at hSw); go_simp); (try with_reducible rfl))
    (try simp only [Act.put, List.setIfInBounds_toArray, List.set_cons_zero, List.set_cons_succ])
    refine wpAnyH_take (i := 35) (oi := { dst := some 72, op := Op.move (Operand.tmp 71), type := 4, pos := "law.go:48", after := #[{ on := 34, ground := Ground.data }, { on := 33, ground := Ground.chain }], guard := none }) (v := ?_) rfl (by as_aux_lemma => kernel_rfl) (by as_aux_lemma => kernel_rfl) (by as_aux_lemma => kernel_rfl) (fun _ _ _ h => h) (Or.inl ⟨by rfl, ?hy⟩) hHeld ?_
    case hy => ((intro w' hSw; (try dsimp only at hSw); go_simp); (try with_reducible rfl))
    (try simp only [Act.put, List.setIfInBounds_toArray, List.set_cons_zero, List.set_cons_succ])
    refine wpAnyH_take (i := 36) (oi := { dst := some 73, op := Op.load 40 (Operand.tmp 2), type := 40, pos := "law.go:48", after := #[{ on := 35, ground := Ground.guard }], guard := some (35, true) }) (v := ?_) rfl (by as_aux_lemma => kernel_rfl) (by as_aux_lemma => kernel_rfl) (by as_aux_lemma => kernel_rfl) (fun _ _ _ h => h) (Or.inl ⟨by rfl, ?hy⟩) hHeld ?_
    case hy => ((intro w' hSw; (try dsimp only at hSw); go_simp); (try with_reducible rfl))
    (try simp only [Act.put, List.setIfInBounds_toArray, List.set_cons_zero, List.set_cons_succ])
    refine wpAnyH_take (i := 37) (oi := { dst := some 74, op := Op.load 40 (Operand.tmp 3), type := 40, pos := "law.go:48", after := #[{ on := 35, ground := Ground.guard }], guard := some (35, true) }) (v := ?_) rfl (by as_aux_lemma => kernel_rfl) (by as_aux_lemma => kernel_rfl) (by as_aux_lemma => kernel_rfl) (fun _ _ _ h => h) (Or.inl ⟨by rfl, ?hy⟩) hHeld ?_
    case hy => ((intro w' hSw; (try dsimp only at hSw); go_simp); (try with_reducible rfl))
    (try simp only [Act.put, List.setIfInBounds_toArray, List.set_cons_zero, List.set_cons_succ])
    refine wpAnyH_take (i := 39) (oi := { dst := some 76, op := Op.load 40 (Operand.tmp 5), type := 40, pos := "law.go:48", after := #[{ on := 35, ground := Ground.guard }], guard := some (35, true) }) (v := ?_) rfl (by as_aux_lemma => kernel_rfl) (by as_aux_lemma => kernel_rfl) (by as_aux_lemma => kernel_rfl) (fun _ _ _ h => h) (Or.inl ⟨by rfl, ?hy⟩) hHeld ?_
    case hy => ((intro w' hSw; (try dsimp only at hSw); go_simp); (try with_reducible rfl))
    (try simp only [Act.put, List.setIfInBounds_toArray, List.set_cons_zero, List.set_cons_succ])
    refine wpAnyH_take (i := 40) (oi := { dst := some 77, op := Op.load 40 (Operand.tmp 6), type := 40, pos := "law.go:48", after := #[{ on := 35, ground := Ground.guard }], guard := some (35, true) }) (v := ?_) rfl (by as_aux_lemma => kernel_rfl) (by as_aux_lemma => kernel_rfl) (by as_aux_lemma => kernel_rfl) (fun _ _ _ h => h) (Or.inl ⟨by rfl, ?hy⟩) hHeld ?_
    case hy => ((intro w' hSw; (try dsimp only at hSw); go_simp); (try with_reducible rfl))
    (try simp only [Act.put, List.setIfInBounds_toArray, List.set_cons_zero, List.set_cons_succ])
    refine wpAnyH_ready (rs := [38]) (by as_aux_lemma => kernel_rfl) (by simp) ?_
    refine AllReadyH.cons (o := { dst := some 75, op := Op.call { callee := Callee.value (Operand.func 30), args := #[Operand.tmp 73, Operand.tmp 74], argTypes := #[40, 40] }, type := 40, pos := "law.go:49", after := #[{ on := 36, ground := Ground.data }, { on := 37, ground := Ground.data }, { on := 35, ground := Ground.chain }, { on := 35, ground := Ground.guard }], guard := some (35, true) }) rfl (fun K hK => ?_) AllReadyH.nil
    go_simp
    (go_at_call 30; (with_reducible refine (isub_any (HA.out.ext (XW.out.trans HC13.out)) (HB.out.ext (XW.out.trans HC13.out)) (HT.out.ext (XW.out.trans HC13.out))).mono ?_); rw [EsubL.out, EsubH.out]; rintro e w24 ⟨A34, c34, B34, k34, rfl, hfa, hfb, hx⟩; have HC14 := Lib.hid (Ext.trans HC13.out hx); have HL14 := Lib.hid hx; have RA1 := Lib.hid hfa.rd; have RB1 := Lib.hid hfb.rd; clear hfa hfb; clear hx hk; have hk := HS.out _ HC14.out)
    (try go_wp2_with fail)
    refine hK.out _ _ hk (fun hHeld' => ?_)
    clear hK K hHeld
    have hHeld := hHeld'
    clear hHeld'
    (try simp only [Act.put, List.setIfInBounds_toArray, List.set_cons_zero, List.set_cons_succ])
    refine wpAnyH_ready (rs := [41]) (by as_aux_lemma => kernel_rfl) (by simp) ?_
    refine AllReadyH.cons (o := { dst := some 78, op := Op.call { callee := Callee.value (Operand.func 30), args := #[Operand.tmp 76, Operand.tmp 77], argTypes := #[40, 40] }, type := 40, pos := "law.go:49", after := #[{ on := 39, ground := Ground.data }, { on := 40, ground := Ground.data }, { on := 38, ground := Ground.chain }, { on := 35, ground := Ground.guard }], guard := some (35, true) }) rfl (fun K hK => ?_) AllReadyH.nil
    go_simp
    (go_at_call 30; (with_reducible refine (isub_any (HNA.out.ext (XW.out.trans HC14.out)) (HNB.out.ext (XW.out.trans HC14.out)) (HT.out.ext (XW.out.trans HC14.out))).mono ?_); rw [EsubL.out, EsubH.out]; rintro e w25 ⟨A35, c35, B35, k35, rfl, hfa, hfb, hx⟩; have HC15 := Lib.hid (Ext.trans HC14.out hx); have HL15 := Lib.hid hx; have RA2 := Lib.hid hfa.rd; have RB2 := Lib.hid hfb.rd; clear hfa hfb; clear hx hk; have hk := HS.out _ HC15.out)
    (try go_wp2_with fail)
    refine hK.out _ _ hk (fun hHeld' => ?_)
    clear hK K hHeld
    have hHeld := hHeld'
    clear hHeld'
    (try simp only [Act.put, List.setIfInBounds_toArray, List.set_cons_zero, List.set_cons_succ])
    refine wpAnyH_ready (rs := [42]) (by as_aux_lemma => kernel_rfl) (by simp) ?_
    refine AllReadyH.cons (o := { dst := some 79, op := Op.call { callee := Callee.value (Operand.func 26), args := #[Operand.tmp 75, Operand.tmp 78], argTypes := #[40, 40] }, type := 4, pos := "law.go:49", after := #[{ on := 38, ground := Ground.data }, { on := 41, ground := Ground.data }, { on := 41, ground := Ground.chain }, { on := 35, ground := Ground.guard }], guard := some (35, true) }) rfl (fun K hK => ?_) AllReadyH.nil
    go_simp
    (go_at_call 26; (with_reducible refine (isame_true (RA1.out.ext HL15.out) (RB1.out.ext HL15.out) RA2.out RB2.out LsubL.out LsubH.out).mono ?_); rintro e w26 ⟨rfl, hx⟩; have HC16 := Lib.hid (Ext.trans HC15.out hx); have HL16 := Lib.hid hx; clear RA1 RB1 RA2 RB2; clear hx hk; have hk := HS.out _ HC16.out)
    (try go_wp2_with fail)
    refine hK.out _ _ hk (fun hHeld' => ?_)
    clear hK K hHeld
    have hHeld := hHeld'
    clear hHeld'
    (try simp only [Act.put, List.setIfInBounds_toArray, List.set_cons_zero, List.set_cons_succ])
    refine wpAnyH_take (i := 43) (oi := { dst := some 80, op := Op.pick (Operand.tmp 72) (Operand.tmp 79) (Operand.const (Value.bool false)), type := 4, pos := "law.go:48", after := #[{ on := 35, ground := Ground.data }, { on := 42, ground := Ground.data }], guard := none }) (v := ?_) rfl (by as_aux_lemma => kernel_rfl) (by as_aux_lemma => kernel_rfl) (by as_aux_lemma => kernel_rfl) (fun _ _ _ h => h) (Or.inl ⟨by rfl, ?hy⟩) hHeld ?_
    case hy => ((intro w' hSw; (try dsimp only at hSw); go_simp); (try with_reducible rfl))
    (try simp only [Act.put, List.setIfInBounds_toArray, List.set_cons_zero, List.set_cons_succ])
    refine wpAnyH_take (i := 44) (oi := { dst := some 81, op := Op.move (Operand.tmp 80), type := 4, pos := "law.go:48", after := #[{ on := 43, ground := Ground.data }, { on := 42, ground := Ground.chain }], guard := none }) (v := ?_) rfl (by as_aux_lemma => kernel_rfl) (by as_aux_lemma => kernel_rfl) (by as_aux_lemma => kernel_rfl) (fun _ _ _ h => h) (Or.inl ⟨by rfl, ?hy⟩) hHeld ?_
    case hy => ((intro w' hSw; (try dsimp only at hSw); go_simp); (try with_reducible rfl))
    (try simp only [Act.put, List.setIfInBounds_toArray, List.set_cons_zero, List.set_cons_succ])
    refine wpAnyH_take (i := 45) (oi := { dst := some 82, op := Op.load 40 (Operand.tmp 2), type := 40, pos := "law.go:48", after := #[{ on := 44, ground := Ground.guard }], guard := some (44, true) }) (v := ?_) rfl (by as_aux_lemma => kernel_rfl) (by as_aux_lemma => kernel_rfl) (by as_aux_lemma => kernel_rfl) (fun _ _ _ h => h) (Or.inl ⟨by rfl, ?hy⟩) hHeld ?_
    case hy => ((intro w' hSw; (try dsimp only at hSw); go_simp); (try with_reducible rfl))
    (try simp only [Act.put, List.setIfInBounds_toArray, List.set_cons_zero, List.set_cons_succ])
    refine wpAnyH_take (i := 46) (oi := { dst := some 83, op := Op.load 40 (Operand.tmp 3), type := 40, pos := "law.go:48", after := #[{ on := 44, ground := Ground.guard }], guard := some (44, true) }) (v := ?_) rfl (by as_aux_lemma => kernel_rfl) (by as_aux_lemma => kernel_rfl) (by as_aux_lemma => kernel_rfl) (fun _ _ _ h => h) (Or.inl ⟨by rfl, ?hy⟩) hHeld ?_
    case hy => ((intro w' hSw; (try dsimp only at hSw); go_simp); (try with_reducible rfl))
    (try simp only [Act.put, List.setIfInBounds_toArray, List.set_cons_zero, List.set_cons_succ])
    refine wpAnyH_take (i := 48) (oi := { dst := some 85, op := Op.load 40 (Operand.tmp 5), type := 40, pos := "law.go:48", after := #[{ on := 44, ground := Ground.guard }], guard := some (44, true) }) (v := ?_) rfl (by as_aux_lemma => kernel_rfl) (by as_aux_lemma => kernel_rfl) (by as_aux_lemma => kernel_rfl) (fun _ _ _ h => h) (Or.inl ⟨by rfl, ?hy⟩) hHeld ?_
    case hy => ((intro w' hSw; (try dsimp only at hSw); go_simp); (try with_reducible rfl))
    (try simp only [Act.put, List.setIfInBounds_toArray, List.set_cons_zero, List.set_cons_succ])
    refine wpAnyH_take (i := 49) (oi := { dst := some 86, op := Op.load 40 (Operand.tmp 6), type := 40, pos := "law.go:48", after := #[{ on := 44, ground := Ground.guard }], guard := some (44, true) }) (v := ?_) rfl (by as_aux_lemma => kernel_rfl) (by as_aux_lemma => kernel_rfl) (by as_aux_lemma => kernel_rfl) (fun _ _ _ h => h) (Or.inl ⟨by rfl, ?hy⟩) hHeld ?_
    case hy => ((intro w' hSw; (try dsimp only at hSw); go_simp); (try with_reducible rfl))
    (try simp only [Act.put, List.setIfInBounds_toArray, List.set_cons_zero, List.set_cons_succ])
    refine wpAnyH_ready (rs := [47]) (by as_aux_lemma => kernel_rfl) (by simp) ?_
    refine AllReadyH.cons (o := { dst := some 84, op := Op.call { callee := Callee.value (Operand.func 31), args := #[Operand.tmp 82, Operand.tmp 83], argTypes := #[40, 40] }, type := 40, pos := "law.go:49", after := #[{ on := 45, ground := Ground.data }, { on := 46, ground := Ground.data }, { on := 44, ground := Ground.chain }, { on := 44, ground := Ground.guard }], guard := some (44, true) }) rfl (fun K hK => ?_) AllReadyH.nil
    go_simp
    (go_at_call 31; (with_reducible refine (imul_any (HA.out.ext (XW.out.trans HC16.out)) (HB.out.ext (XW.out.trans HC16.out)) (HT.out.ext (XW.out.trans HC16.out)) LM1.out LM2.out LM3.out LM4.out).mono ?_); rw [EmulL.out, EmulH.out]; rintro e w27 ⟨A37, c37, B37, k37, rfl, hfa, hfb, hx⟩; have HC17 := Lib.hid (Ext.trans HC16.out hx); have HL17 := Lib.hid hx; have RA1 := Lib.hid hfa.rd; have RB1 := Lib.hid hfb.rd; clear hfa hfb; clear hx hk; have hk := HS.out _ HC17.out)
    (try go_wp2_with fail)
    refine hK.out _ _ hk (fun hHeld' => ?_)
    clear hK K hHeld
    have hHeld := hHeld'
    clear hHeld'
    (try simp only [Act.put, List.setIfInBounds_toArray, List.set_cons_zero, List.set_cons_succ])
    refine wpAnyH_ready (rs := [50]) (by as_aux_lemma => kernel_rfl) (by simp) ?_
    refine AllReadyH.cons (o := { dst := some 87, op := Op.call { callee := Callee.value (Operand.func 31), args := #[Operand.tmp 85, Operand.tmp 86], argTypes := #[40, 40] }, type := 40, pos := "law.go:49", after := #[{ on := 48, ground := Ground.data }, { on := 49, ground := Ground.data }, { on := 47, ground := Ground.chain }, { on := 44, ground := Ground.guard }], guard := some (44, true) }) rfl (fun K hK => ?_) AllReadyH.nil
    go_simp
    (go_at_call 31; (with_reducible refine (imul_any (HNA.out.ext (XW.out.trans HC17.out)) (HNB.out.ext (XW.out.trans HC17.out)) (HT.out.ext (XW.out.trans HC17.out)) LM1.out LM2.out LM3.out LM4.out).mono ?_); rw [EmulL.out, EmulH.out]; rintro e w28 ⟨A38, c38, B38, k38, rfl, hfa, hfb, hx⟩; have HC18 := Lib.hid (Ext.trans HC17.out hx); have HL18 := Lib.hid hx; have RA2 := Lib.hid hfa.rd; have RB2 := Lib.hid hfb.rd; clear hfa hfb; clear hx hk; have hk := HS.out _ HC18.out)
    (try go_wp2_with fail)
    refine hK.out _ _ hk (fun hHeld' => ?_)
    clear hK K hHeld
    have hHeld := hHeld'
    clear hHeld'
    (try simp only [Act.put, List.setIfInBounds_toArray, List.set_cons_zero, List.set_cons_succ])
    refine wpAnyH_ready (rs := [51]) (by as_aux_lemma => kernel_rfl) (by simp) ?_
    refine AllReadyH.cons (o := { dst := some 88, op := Op.call { callee := Callee.value (Operand.func 26), args := #[Operand.tmp 84, Operand.tmp 87], argTypes := #[40, 40] }, type := 4, pos := "law.go:49", after := #[{ on := 47, ground := Ground.data }, { on := 50, ground := Ground.data }, { on := 50, ground := Ground.chain }, { on := 44, ground := Ground.guard }], guard := some (44, true) }) rfl (fun K hK => ?_) AllReadyH.nil
    go_simp
    (go_at_call 26; (with_reducible refine (isame_true (RA1.out.ext HL18.out) (RB1.out.ext HL18.out) RA2.out RB2.out LmulL.out LmulH.out).mono ?_); rintro e w29 ⟨rfl, hx⟩; have HC19 := Lib.hid (Ext.trans HC18.out hx); have HL19 := Lib.hid hx; clear RA1 RB1 RA2 RB2; clear hx hk; have hk := HS.out _ HC19.out)
    (try go_wp2_with fail)
    refine hK.out _ _ hk (fun hHeld' => ?_)
    clear hK K hHeld
    have hHeld := hHeld'
    clear hHeld'
    (try simp only [Act.put, List.setIfInBounds_toArray, List.set_cons_zero, List.set_cons_succ])
    refine wpAnyH_take (i := 52) (oi := { dst := some 89, op := Op.pick (Operand.tmp 81) (Operand.tmp 88) (Operand.const (Value.bool false)), type := 4, pos := "law.go:48", after := #[{ on := 44, ground := Ground.data }, { on := 51, ground := Ground.data }], guard := none }) (v := ?_) rfl (by as_aux_lemma => kernel_rfl) (by as_aux_lemma => kernel_rfl) (by as_aux_lemma => kernel_rfl) (fun _ _ _ h => h) (Or.inl ⟨by rfl, ?hy⟩) hHeld ?_
    case hy => ((intro w' hSw; (try dsimp only at hSw); go_simp); (try with_reducible rfl))
    (try simp only [Act.put, List.setIfInBounds_toArray, List.set_cons_zero, List.set_cons_succ])
    refine wpAnyH_take (i := 53) (oi := { dst := some 90, op := Op.move (Operand.tmp 89), type := 4, pos := "law.go:48", after := #[{ on := 52, ground := Ground.data }, { on := 51, ground := Ground.chain }], guard := none }) (v := ?_) rfl (by as_aux_lemma => kernel_rfl) (by as_aux_lemma => kernel_rfl) (by as_aux_lemma => kernel_rfl) (fun _ _ _ h => h) (Or.inl ⟨by rfl, ?hy⟩) hHeld ?_
    case hy => ((intro w' hSw; (try dsimp only at hSw); go_simp); (try with_reducible rfl))
    (try simp only [Act.put, List.setIfInBounds_toArray, List.set_cons_zero, List.set_cons_succ])
    refine wpAnyH_take (i := 54) (oi := { dst := some 91, op := Op.load 40 (Operand.tmp 2), type := 40, pos := "law.go:48", after := #[{ on := 53, ground := Ground.guard }], guard := some (53, true) }) (v := ?_) rfl (by as_aux_lemma => kernel_rfl) (by as_aux_lemma => kernel_rfl) (by as_aux_lemma => kernel_rfl) (fun _ _ _ h => h) (Or.inl ⟨by rfl, ?hy⟩) hHeld ?_
    case hy => ((intro w' hSw; (try dsimp only at hSw); go_simp); (try with_reducible rfl))
    (try simp only [Act.put, List.setIfInBounds_toArray, List.set_cons_zero, List.set_cons_succ])
    refine wpAnyH_take (i := 55) (oi := { dst := some 92, op := Op.load 40 (Operand.tmp 3), type := 40, pos := "law.go:48", after := #[{ on := 53, ground := Ground.guard }], guard := some (53, true) }) (v := ?_) rfl (by as_aux_lemma => kernel_rfl) (by as_aux_lemma => kernel_rfl) (by as_aux_lemma => kernel_rfl) (fun _ _ _ h => h) (Or.inl ⟨by rfl, ?hy⟩) hHeld ?_
    case hy => ((intro w' hSw; (try dsimp only at hSw); go_simp); (try with_reducible rfl))
    (try simp only [Act.put, List.setIfInBounds_toArray, List.set_cons_zero, List.set_cons_succ])
    refine wpAnyH_take (i := 57) (oi := { dst := some 94, op := Op.load 40 (Operand.tmp 5), type := 40, pos := "law.go:48", after := #[{ on := 53, ground := Ground.guard }], guard := some (53, true) }) (v := ?_) rfl (by as_aux_lemma => kernel_rfl) (by as_aux_lemma => kernel_rfl) (by as_aux_lemma => kernel_rfl) (fun _ _ _ h => h) (Or.inl ⟨by rfl, ?hy⟩) hHeld ?_
    case hy => ((intro w' hSw; (try dsimp only at hSw); go_simp); (try with_reducible rfl))
    (try simp only [Act.put, List.setIfInBounds_toArray, List.set_cons_zero, List.set_cons_succ])
    refine wpAnyH_take (i := 58) (oi := { dst := some 95, op := Op.load 40 (Operand.tmp 6), type := 40, pos := "law.go:48", after := #[{ on := 53, ground := Ground.guard }], guard := some (53, true) }) (v := ?_) rfl (by as_aux_lemma => kernel_rfl) (by as_aux_lemma => kernel_rfl) (by as_aux_lemma => kernel_rfl) (fun _ _ _ h => h) (Or.inl ⟨by rfl, ?hy⟩) hHeld ?_
    case hy => ((intro w' hSw; (try dsimp only at hSw); go_simp); (try with_reducible rfl))
    (try simp only [Act.put, List.setIfInBounds_toArray, List.set_cons_zero, List.set_cons_succ])
    refine wpAnyH_ready (rs := [56]) (by as_aux_lemma => kernel_rfl) (by simp) ?_
    refine AllReadyH.cons (o := { dst := some 93, op := Op.call { callee := Callee.value (Operand.func 32), args := #[Operand.tmp 91, Operand.tmp 92], argTypes := #[40, 40] }, type := 40, pos := "law.go:50", after := #[{ on := 54, ground := Ground.data }, { on := 55, ground := Ground.data }, { on := 53, ground := Ground.chain }, { on := 53, ground := Ground.guard }], guard := some (53, true) }) rfl (fun K hK => ?_) AllReadyH.nil
    go_simp
    (go_at_call 32; (with_reducible refine (imin_any (HA.out.ext (XW.out.trans HC19.out)) (HB.out.ext (XW.out.trans HC19.out)) (HT.out.ext (XW.out.trans HC19.out))).mono ?_); rw [EminL.out, EminH.out]; rintro e w30 ⟨A40, c40, B40, k40, rfl, hfa, hfb, hx⟩; have HC20 := Lib.hid (Ext.trans HC19.out hx); have HL20 := Lib.hid hx; have RA1 := Lib.hid hfa.rd; have RB1 := Lib.hid hfb.rd; clear hfa hfb; clear hx hk; have hk := HS.out _ HC20.out)
    (try go_wp2_with fail)
    refine hK.out _ _ hk (fun hHeld' => ?_)
    clear hK K hHeld
    have hHeld := hHeld'
    clear hHeld'
    (try simp only [Act.put, List.setIfInBounds_toArray, List.set_cons_zero, List.set_cons_succ])
    refine wpAnyH_ready (rs := [59]) (by as_aux_lemma => kernel_rfl) (by simp) ?_
    refine AllReadyH.cons (o := { dst := some 96, op := Op.call { callee := Callee.value (Operand.func 32), args := #[Operand.tmp 94, Operand.tmp 95], argTypes := #[40, 40] }, type := 40, pos := "law.go:50", after := #[{ on := 57, ground := Ground.data }, { on := 58, ground := Ground.data }, { on := 56, ground := Ground.chain }, { on := 53, ground := Ground.guard }], guard := some (53, true) }) rfl (fun K hK => ?_) AllReadyH.nil
    go_simp
    (go_at_call 32; (with_reducible refine (imin_any (HNA.out.ext (XW.out.trans HC20.out)) (HNB.out.ext (XW.out.trans HC20.out)) (HT.out.ext (XW.out.trans HC20.out))).mono ?_); rw [EminL.out, EminH.out]; rintro e w31 ⟨A41, c41, B41, k41, rfl, hfa, hfb, hx⟩; have HC21 := Lib.hid (Ext.trans HC20.out hx); have HL21 := Lib.hid hx; have RA2 := Lib.hid hfa.rd; have RB2 := Lib.hid hfb.rd; clear hfa hfb; clear hx hk; have hk := HS.out _ HC21.out)
    (try go_wp2_with fail)
    refine hK.out _ _ hk (fun hHeld' => ?_)
    clear hK K hHeld
    have hHeld := hHeld'
    clear hHeld'
    (try simp only [Act.put, List.setIfInBounds_toArray, List.set_cons_zero, List.set_cons_succ])
    refine wpAnyH_ready (rs := [60]) (by as_aux_lemma => kernel_rfl) (by simp) ?_
    refine AllReadyH.cons (o := { dst := some 97, op := Op.call { callee := Callee.value (Operand.func 26), args := #[Operand.tmp 93, Operand.tmp 96], argTypes := #[40, 40] }, type := 4, pos := "law.go:50", after := #[{ on := 56, ground := Ground.data }, { on := 59, ground := Ground.data }, { on := 59, ground := Ground.chain }, { on := 53, ground := Ground.guard }], guard := some (53, true) }) rfl (fun K hK => ?_) AllReadyH.nil
    go_simp
    (go_at_call 26; (with_reducible refine (isame_true (RA1.out.ext HL21.out) (RB1.out.ext HL21.out) RA2.out RB2.out LminL.out LminH.out).mono ?_); rintro e w32 ⟨rfl, hx⟩; have HC22 := Lib.hid (Ext.trans HC21.out hx); have HL22 := Lib.hid hx; clear RA1 RB1 RA2 RB2; clear hx hk; have hk := HS.out _ HC22.out)
    (try go_wp2_with fail)
    refine hK.out _ _ hk (fun hHeld' => ?_)
    clear hK K hHeld
    have hHeld := hHeld'
    clear hHeld'
    (try simp only [Act.put, List.setIfInBounds_toArray, List.set_cons_zero, List.set_cons_succ])
    refine wpAnyH_take (i := 61) (oi := { dst := some 98, op := Op.pick (Operand.tmp 90) (Operand.tmp 97) (Operand.const (Value.bool false)), type := 4, pos := "law.go:48", after := #[{ on := 53, ground := Ground.data }, { on := 60, ground := Ground.data }], guard := none }) (v := ?_) rfl (by as_aux_lemma => kernel_rfl) (by as_aux_lemma => kernel_rfl) (by as_aux_lemma => kernel_rfl) (fun _ _ _ h => h) (Or.inl ⟨by rfl, ?hy⟩) hHeld ?_
    case hy => ((intro w' hSw; (try dsimp only at hSw); go_simp); (try with_reducible rfl))
    (try simp only [Act.put, List.setIfInBounds_toArray, List.set_cons_zero, List.set_cons_succ])
    refine wpAnyH_take (i := 62) (oi := { dst := some 99, op := Op.move (Operand.tmp 98), type := 4, pos := "law.go:48", after := #[{ on := 61, ground := Ground.data }, { on := 60, ground := Ground.chain }], guard := none }) (v := ?_) rfl (by as_aux_lemma => kernel_rfl) (by as_aux_lemma => kernel_rfl) (by as_aux_lemma => kernel_rfl) (fun _ _ _ h => h) (Or.inl ⟨by rfl, ?hy⟩) hHeld ?_
    case hy => ((intro w' hSw; (try dsimp only at hSw); go_simp); (try with_reducible rfl))
    (try simp only [Act.put, List.setIfInBounds_toArray, List.set_cons_zero, List.set_cons_succ])
    refine wpAnyH_take (i := 63) (oi := { dst := some 100, op := Op.load 40 (Operand.tmp 2), type := 40, pos := "law.go:48", after := #[{ on := 62, ground := Ground.guard }], guard := some (62, true) }) (v := ?_) rfl (by as_aux_lemma => kernel_rfl) (by as_aux_lemma => kernel_rfl) (by as_aux_lemma => kernel_rfl) (fun _ _ _ h => h) (Or.inl ⟨by rfl, ?hy⟩) hHeld ?_
    case hy => ((intro w' hSw; (try dsimp only at hSw); go_simp); (try with_reducible rfl))
    (try simp only [Act.put, List.setIfInBounds_toArray, List.set_cons_zero, List.set_cons_succ])
    refine wpAnyH_take (i := 64) (oi := { dst := some 101, op := Op.load 40 (Operand.tmp 3), type := 40, pos := "law.go:48", after := #[{ on := 62, ground := Ground.guard }], guard := some (62, true) }) (v := ?_) rfl (by as_aux_lemma => kernel_rfl) (by as_aux_lemma => kernel_rfl) (by as_aux_lemma => kernel_rfl) (fun _ _ _ h => h) (Or.inl ⟨by rfl, ?hy⟩) hHeld ?_
    case hy => ((intro w' hSw; (try dsimp only at hSw); go_simp); (try with_reducible rfl))
    (try simp only [Act.put, List.setIfInBounds_toArray, List.set_cons_zero, List.set_cons_succ])
    refine wpAnyH_take (i := 66) (oi := { dst := some 103, op := Op.load 40 (Operand.tmp 5), type := 40, pos := "law.go:48", after := #[{ on := 62, ground := Ground.guard }], guard := some (62, true) }) (v := ?_) rfl (by as_aux_lemma => kernel_rfl) (by as_aux_lemma => kernel_rfl) (by as_aux_lemma => kernel_rfl) (fun _ _ _ h => h) (Or.inl ⟨by rfl, ?hy⟩) hHeld ?_
    case hy => ((intro w' hSw; (try dsimp only at hSw); go_simp); (try with_reducible rfl))
    (try simp only [Act.put, List.setIfInBounds_toArray, List.set_cons_zero, List.set_cons_succ])
    refine wpAnyH_take (i := 67) (oi := { dst := some 104, op := Op.load 40 (Operand.tmp 6), type := 40, pos := "law.go:48", after := #[{ on := 62, ground := Ground.guard }], guard := some (62, true) }) (v := ?_) rfl (by as_aux_lemma => kernel_rfl) (by as_aux_lemma => kernel_rfl) (by as_aux_lemma => kernel_rfl) (fun _ _ _ h => h) (Or.inl ⟨by rfl, ?hy⟩) hHeld ?_
    case hy => ((intro w' hSw; (try dsimp only at hSw); go_simp); (try with_reducible rfl))
    (try simp only [Act.put, List.setIfInBounds_toArray, List.set_cons_zero, List.set_cons_succ])
    refine wpAnyH_ready (rs := [65]) (by as_aux_lemma => kernel_rfl) (by simp) ?_
    refine AllReadyH.cons (o := { dst := some 102, op := Op.call { callee := Callee.value (Operand.func 33), args := #[Operand.tmp 100, Operand.tmp 101], argTypes := #[40, 40] }, type := 40, pos := "law.go:50", after := #[{ on := 63, ground := Ground.data }, { on := 64, ground := Ground.data }, { on := 62, ground := Ground.chain }, { on := 62, ground := Ground.guard }], guard := some (62, true) }) rfl (fun K hK => ?_) AllReadyH.nil
    go_simp
    (go_at_call 33; (with_reducible refine (imax_any (HA.out.ext (XW.out.trans HC22.out)) (HB.out.ext (XW.out.trans HC22.out)) (HT.out.ext (XW.out.trans HC22.out))).mono ?_); rw [EmaxL.out, EmaxH.out]; rintro e w33 ⟨A43, c43, B43, k43, rfl, hfa, hfb, hx⟩; have HC23 := Lib.hid (Ext.trans HC22.out hx); have HL23 := Lib.hid hx; have RA1 := Lib.hid hfa.rd; have RB1 := Lib.hid hfb.rd; clear hfa hfb; clear hx hk; have hk := HS.out _ HC23.out)
    (try go_wp2_with fail)
    refine hK.out _ _ hk (fun hHeld' => ?_)
    clear hK K hHeld
    have hHeld := hHeld'
    clear hHeld'
    (try simp only [Act.put, List.setIfInBounds_toArray, List.set_cons_zero, List.set_cons_succ])
    refine wpAnyH_ready (rs := [68]) (by as_aux_lemma => kernel_rfl) (by simp) ?_
    refine AllReadyH.cons (o := { dst := some 105, op := Op.call { callee := Callee.value (Operand.func 33), args := #[Operand.tmp 103, Operand.tmp 104], argTypes := #[40, 40] }, type := 40, pos := "law.go:50", after := #[{ on := 66, ground := Ground.data }, { on := 67, ground := Ground.data }, { on := 65, ground := Ground.chain }, { on := 62, ground := Ground.guard }], guard := some (62, true) }) rfl (fun K hK => ?_) AllReadyH.nil
    go_simp
    (go_at_call 33; (with_reducible refine (imax_any (HNA.out.ext (XW.out.trans HC23.out)) (HNB.out.ext (XW.out.trans HC23.out)) (HT.out.ext (XW.out.trans HC23.out))).mono ?_); rw [EmaxL.out, EmaxH.out]; rintro e w34 ⟨A44, c44, B44, k44, rfl, hfa, hfb, hx⟩; have HC24 := Lib.hid (Ext.trans HC23.out hx); have HL24 := Lib.hid hx; have RA2 := Lib.hid hfa.rd; have RB2 := Lib.hid hfb.rd; clear hfa hfb; clear hx hk; have hk := HS.out _ HC24.out)
    (try go_wp2_with fail)
    refine hK.out _ _ hk (fun hHeld' => ?_)
    clear hK K hHeld
    have hHeld := hHeld'
    clear hHeld'
    (try simp only [Act.put, List.setIfInBounds_toArray, List.set_cons_zero, List.set_cons_succ])
    refine wpAnyH_ready (rs := [69]) (by as_aux_lemma => kernel_rfl) (by simp) ?_
    refine AllReadyH.cons (o := { dst := some 106, op := Op.call { callee := Callee.value (Operand.func 26), args := #[Operand.tmp 102, Operand.tmp 105], argTypes := #[40, 40] }, type := 4, pos := "law.go:50", after := #[{ on := 65, ground := Ground.data }, { on := 68, ground := Ground.data }, { on := 68, ground := Ground.chain }, { on := 62, ground := Ground.guard }], guard := some (62, true) }) rfl (fun K hK => ?_) AllReadyH.nil
    go_simp
    (go_at_call 26; (with_reducible refine (isame_true (RA1.out.ext HL24.out) (RB1.out.ext HL24.out) RA2.out RB2.out LmaxL.out LmaxH.out).mono ?_); rintro e w35 ⟨rfl, hx⟩; have HC25 := Lib.hid (Ext.trans HC24.out hx); have HL25 := Lib.hid hx; clear RA1 RB1 RA2 RB2; clear hx hk; have hk := HS.out _ HC25.out)
    (try go_wp2_with fail)
    refine hK.out _ _ hk (fun hHeld' => ?_)
    clear hK K hHeld
    have hHeld := hHeld'
    clear hHeld'
    (try simp only [Act.put, List.setIfInBounds_toArray, List.set_cons_zero, List.set_cons_succ])
    refine wpAnyH_take (i := 70) (oi := { dst := some 107, op := Op.pick (Operand.tmp 99) (Operand.tmp 106) (Operand.const (Value.bool false)), type := 4, pos := "law.go:48", after := #[{ on := 62, ground := Ground.data }, { on := 69, ground := Ground.data }], guard := none }) (v := ?_) rfl (by as_aux_lemma => kernel_rfl) (by as_aux_lemma => kernel_rfl) (by as_aux_lemma => kernel_rfl) (fun _ _ _ h => h) (Or.inl ⟨by rfl, ?hy⟩) hHeld ?_
    case hy => ((intro w' hSw; (try dsimp only at hSw); go_simp); (try with_reducible rfl))
    (try simp only [Act.put, List.setIfInBounds_toArray, List.set_cons_zero, List.set_cons_succ])
    refine wpAnyH_take (i := 71) (oi := { dst := some 108, op := Op.move (Operand.tmp 107), type := 4, pos := "law.go:48", after := #[{ on := 70, ground := Ground.data }, { on := 69, ground := Ground.chain }], guard := none }) (v := ?_) rfl (by as_aux_lemma => kernel_rfl) (by as_aux_lemma => kernel_rfl) (by as_aux_lemma => kernel_rfl) (fun _ _ _ h => h) (Or.inl ⟨by rfl, ?hy⟩) hHeld ?_
    case hy => ((intro w' hSw; (try dsimp only at hSw); go_simp); (try with_reducible rfl))
    (try simp only [Act.put, List.setIfInBounds_toArray, List.set_cons_zero, List.set_cons_succ])
    refine wpAnyH_take (i := 72) (oi := { dst := some 109, op := Op.load 40 (Operand.tmp 2), type := 40, pos := "law.go:48", after := #[{ on := 71, ground := Ground.guard }], guard := some (71, true) }) (v := ?_) rfl (by as_aux_lemma => kernel_rfl) (by as_aux_lemma => kernel_rfl) (by as_aux_lemma => kernel_rfl) (fun _ _ _ h => h) (Or.inl ⟨by rfl, ?hy⟩) hHeld ?_
    case hy => ((intro w' hSw; (try dsimp only at hSw); go_simp); (try with_reducible rfl))
    (try simp only [Act.put, List.setIfInBounds_toArray, List.set_cons_zero, List.set_cons_succ])
    refine wpAnyH_take (i := 73) (oi := { dst := some 110, op := Op.load 40 (Operand.tmp 3), type := 40, pos := "law.go:48", after := #[{ on := 71, ground := Ground.guard }], guard := some (71, true) }) (v := ?_) rfl (by as_aux_lemma => kernel_rfl) (by as_aux_lemma => kernel_rfl) (by as_aux_lemma => kernel_rfl) (fun _ _ _ h => h) (Or.inl ⟨by rfl, ?hy⟩) hHeld ?_
    case hy => ((intro w' hSw; (try dsimp only at hSw); go_simp); (try with_reducible rfl))
    (try simp only [Act.put, List.setIfInBounds_toArray, List.set_cons_zero, List.set_cons_succ])
    refine wpAnyH_take (i := 75) (oi := { dst := some 112, op := Op.load 40 (Operand.tmp 5), type := 40, pos := "law.go:48", after := #[{ on := 71, ground := Ground.guard }], guard := some (71, true) }) (v := ?_) rfl (by as_aux_lemma => kernel_rfl) (by as_aux_lemma => kernel_rfl) (by as_aux_lemma => kernel_rfl) (fun _ _ _ h => h) (Or.inl ⟨by rfl, ?hy⟩) hHeld ?_
    case hy => ((intro w' hSw; (try dsimp only at hSw); go_simp); (try with_reducible rfl))
    (try simp only [Act.put, List.setIfInBounds_toArray, List.set_cons_zero, List.set_cons_succ])
    refine wpAnyH_take (i := 76) (oi := { dst := some 113, op := Op.load 40 (Operand.tmp 6), type := 40, pos := "law.go:48", after := #[{ on := 71, ground := Ground.guard }], guard := some (71, true) }) (v := ?_) rfl (by as_aux_lemma => kernel_rfl) (by as_aux_lemma => kernel_rfl) (by as_aux_lemma => kernel_rfl) (fun _ _ _ h => h) (Or.inl ⟨by rfl, ?hy⟩) hHeld ?_
    case hy => ((intro w' hSw; (try dsimp only at hSw); go_simp); (try with_reducible rfl))
    (try simp only [Act.put, List.setIfInBounds_toArray, List.set_cons_zero, List.set_cons_succ])
    refine wpAnyH_ready (rs := [74]) (by as_aux_lemma => kernel_rfl) (by simp) ?_
    refine AllReadyH.cons (o := { dst := some 111, op := Op.call { callee := Callee.value (Operand.func 34), args := #[Operand.tmp 109, Operand.tmp 110], argTypes := #[40, 40] }, type := 40, pos := "law.go:50", after := #[{ on := 72, ground := Ground.data }, { on := 73, ground := Ground.data }, { on := 71, ground := Ground.chain }, { on := 71, ground := Ground.guard }], guard := some (71, true) }) rfl (fun K hK => ?_) AllReadyH.nil
    go_simp
    (go_at_call 34; (with_reducible refine (hull_any (HA.out.ext (XW.out.trans HC25.out)) (HB.out.ext (XW.out.trans HC25.out)) (HT.out.ext (XW.out.trans HC25.out))).mono ?_); rw [EhulL.out, EhulH.out]; rintro e w36 ⟨A46, c46, B46, k46, rfl, hfa, hfb, hx⟩; have HC26 := Lib.hid (Ext.trans HC25.out hx); have HL26 := Lib.hid hx; have RA1 := Lib.hid hfa.rd; have RB1 := Lib.hid hfb.rd; clear hfa hfb; clear hx hk; have hk := HS.out _ HC26.out)
    (try go_wp2_with fail)
    refine hK.out _ _ hk (fun hHeld' => ?_)
    clear hK K hHeld
    have hHeld := hHeld'
    clear hHeld'
    (try simp only [Act.put, List.setIfInBounds_toArray, List.set_cons_zero, List.set_cons_succ])
    refine wpAnyH_ready (rs := [77]) (by as_aux_lemma => kernel_rfl) (by simp) ?_
    refine AllReadyH.cons (o := { dst := some 114, op := Op.call { callee := Callee.value (Operand.func 34), args := #[Operand.tmp 112, Operand.tmp 113], argTypes := #[40, 40] }, type := 40, pos := "law.go:50", after := #[{ on := 75, ground := Ground.data }, { on := 76, ground := Ground.data }, { on := 74, ground := Ground.chain }, { on := 71, ground := Ground.guard }], guard := some (71, true) }) rfl (fun K hK => ?_) AllReadyH.nil
    go_simp
    (go_at_call 34; (with_reducible refine (hull_any (HNA.out.ext (XW.out.trans HC26.out)) (HNB.out.ext (XW.out.trans HC26.out)) (HT.out.ext (XW.out.trans HC26.out))).mono ?_); rw [EhulL.out, EhulH.out]; rintro e w37 ⟨A47, c47, B47, k47, rfl, hfa, hfb, hx⟩; have HC27 := Lib.hid (Ext.trans HC26.out hx); have HL27 := Lib.hid hx; have RA2 := Lib.hid hfa.rd; have RB2 := Lib.hid hfb.rd; clear hfa hfb; clear hx hk; have hk := HS.out _ HC27.out)
    (try go_wp2_with fail)
    refine hK.out _ _ hk (fun hHeld' => ?_)
    clear hK K hHeld
    have hHeld := hHeld'
    clear hHeld'
    (try simp only [Act.put, List.setIfInBounds_toArray, List.set_cons_zero, List.set_cons_succ])
    refine wpAnyH_ready (rs := [78]) (by as_aux_lemma => kernel_rfl) (by simp) ?_
    refine AllReadyH.cons (o := { dst := some 115, op := Op.call { callee := Callee.value (Operand.func 26), args := #[Operand.tmp 111, Operand.tmp 114], argTypes := #[40, 40] }, type := 4, pos := "law.go:50", after := #[{ on := 74, ground := Ground.data }, { on := 77, ground := Ground.data }, { on := 77, ground := Ground.chain }, { on := 71, ground := Ground.guard }], guard := some (71, true) }) rfl (fun K hK => ?_) AllReadyH.nil
    go_simp
    (go_at_call 26; (with_reducible refine (isame_true (RA1.out.ext HL27.out) (RB1.out.ext HL27.out) RA2.out RB2.out LhulL.out LhulH.out).mono ?_); rintro e w38 ⟨rfl, hx⟩; have HC28 := Lib.hid (Ext.trans HC27.out hx); have HL28 := Lib.hid hx; clear RA1 RB1 RA2 RB2; clear hx hk; have hk := HS.out _ HC28.out)
    (try go_wp2_with fail)
    refine hK.out _ _ hk (fun hHeld' => ?_)
    clear hK K hHeld
    have hHeld := hHeld'
    clear hHeld'
    (try simp only [Act.put, List.setIfInBounds_toArray, List.set_cons_zero, List.set_cons_succ])
    refine wpAnyH_take (i := 79) (oi := { dst := some 116, op := Op.pick (Operand.tmp 108) (Operand.tmp 115) (Operand.const (Value.bool false)), type := 4, pos := "law.go:48", after := #[{ on := 71, ground := Ground.data }, { on := 78, ground := Ground.data }], guard := none }) (v := ?_) rfl (by as_aux_lemma => kernel_rfl) (by as_aux_lemma => kernel_rfl) (by as_aux_lemma => kernel_rfl) (fun _ _ _ h => h) (Or.inl ⟨by rfl, ?hy⟩) hHeld ?_
    case hy => ((intro w' hSw; (try dsimp only at hSw); go_simp); (try with_reducible rfl))
    (try simp only [Act.put, List.setIfInBounds_toArray, List.set_cons_zero, List.set_cons_succ])
    refine wpAnyH_take (i := 80) (oi := { dst := some 117, op := Op.move (Operand.tmp 116), type := 4, pos := "law.go:48", after := #[{ on := 79, ground := Ground.data }, { on := 78, ground := Ground.chain }], guard := none }) (v := ?_) rfl (by as_aux_lemma => kernel_rfl) (by as_aux_lemma => kernel_rfl) (by as_aux_lemma => kernel_rfl) (fun _ _ _ h => h) (Or.inl ⟨by rfl, ?hy⟩) hHeld ?_
    case hy => ((intro w' hSw; (try dsimp only at hSw); go_simp); (try with_reducible rfl))
    (try simp only [Act.put, List.setIfInBounds_toArray, List.set_cons_zero, List.set_cons_succ])
    refine wpAnyH_take (i := 81) (oi := { dst := some 118, op := Op.load 40 (Operand.tmp 7), type := 40, pos := "law.go:48", after := #[{ on := 80, ground := Ground.guard }], guard := some (80, true) }) (v := ?_) rfl (by as_aux_lemma => kernel_rfl) (by as_aux_lemma => kernel_rfl) (by as_aux_lemma => kernel_rfl) (fun _ _ _ h => h) (Or.inl ⟨by rfl, ?hy⟩) hHeld ?_
    case hy => ((intro w' hSw; (try dsimp only at hSw); go_simp); (try with_reducible rfl))
    (try simp only [Act.put, List.setIfInBounds_toArray, List.set_cons_zero, List.set_cons_succ])
    refine wpAnyH_take (i := 82) (oi := { dst := some 119, op := Op.load 40 (Operand.tmp 9), type := 40, pos := "law.go:48", after := #[{ on := 80, ground := Ground.guard }], guard := some (80, true) }) (v := ?_) rfl (by as_aux_lemma => kernel_rfl) (by as_aux_lemma => kernel_rfl) (by as_aux_lemma => kernel_rfl) (fun _ _ _ h => h) (Or.inl ⟨by rfl, ?hy⟩) hHeld ?_
    case hy => ((intro w' hSw; (try dsimp only at hSw); go_simp); (try with_reducible rfl))
    (try simp only [Act.put, List.setIfInBounds_toArray, List.set_cons_zero, List.set_cons_succ])
    refine wpAnyH_ready (rs := [83]) (by as_aux_lemma => kernel_rfl) (by simp) ?_
    refine AllReadyH.cons (o := { dst := some 120, op := Op.call { callee := Callee.value (Operand.func 26), args := #[Operand.tmp 118, Operand.tmp 119], argTypes := #[40, 40] }, type := 4, pos := "law.go:51", after := #[{ on := 81, ground := Ground.data }, { on := 82, ground := Ground.data }, { on := 80, ground := Ground.chain }, { on := 80, ground := Ground.guard }], guard := some (80, true) }) rfl (fun K hK => ?_) AllReadyH.nil
    go_simp
    (go_at_call 26; (with_reducible refine (isame_true (RM1.out.ext HC28.out) (RN1.out.ext HC28.out) (RM2.out.ext HC28.out) (RN2.out.ext HC28.out) LMM.out LNN.out).mono ?_); rintro e w39 ⟨rfl, hx⟩; have HC29 := Lib.hid (Ext.trans HC28.out hx); have HL29 := Lib.hid hx; clear hx hk; have hk := HS.out _ HC29.out)
    (try go_wp2_with fail)
    refine hK.out _ _ hk (fun hHeld' => ?_)
    clear hK K hHeld
    have hHeld := hHeld'
    clear hHeld'
    (try simp only [Act.put, List.setIfInBounds_toArray, List.set_cons_zero, List.set_cons_succ])
    refine wpAnyH_take (i := 84) (oi := { dst := some 121, op := Op.pick (Operand.tmp 117) (Operand.tmp 120) (Operand.const (Value.bool false)), type := 4, pos := "law.go:48", after := #[{ on := 80, ground := Ground.data }, { on := 83, ground := Ground.data }], guard := none }) (v := ?_) rfl (by as_aux_lemma => kernel_rfl) (by as_aux_lemma => kernel_rfl) (by as_aux_lemma => kernel_rfl) (fun _ _ _ h => h) (Or.inl ⟨by rfl, ?hy⟩) hHeld ?_
    case hy => ((intro w' hSw; (try dsimp only at hSw); go_simp); (try with_reducible rfl))
    (try simp only [Act.put, List.setIfInBounds_toArray, List.set_cons_zero, List.set_cons_succ])
    refine wpAnyH_take (i := 85) (oi := { dst := some 122, op := Op.move (Operand.tmp 121), type := 4, pos := "law.go:48", after := #[{ on := 84, ground := Ground.data }, { on := 83, ground := Ground.chain }], guard := none }) (v := ?_) rfl (by as_aux_lemma => kernel_rfl) (by as_aux_lemma => kernel_rfl) (by as_aux_lemma => kernel_rfl) (fun _ _ _ h => h) (Or.inl ⟨by rfl, ?hy⟩) hHeld ?_
    case hy => ((intro w' hSw; (try dsimp only at hSw); go_simp); (try with_reducible rfl))
    (try simp only [Act.put, List.setIfInBounds_toArray, List.set_cons_zero, List.set_cons_succ])
    refine wpAnyH_take (i := 86) (oi := { dst := some 123, op := Op.move (Operand.tmp 8), type := 29, pos := "law.go:48", after := #[{ on := 85, ground := Ground.guard }], guard := some (85, true) }) (v := ?_) rfl (by as_aux_lemma => kernel_rfl) (by as_aux_lemma => kernel_rfl) (by as_aux_lemma => kernel_rfl) (fun _ _ _ h => h) (Or.inl ⟨by rfl, ?hy⟩) hHeld ?_
    case hy => ((intro w' hSw; (try dsimp only at hSw); go_simp); (try with_reducible rfl))
    (try simp only [Act.put, List.setIfInBounds_toArray, List.set_cons_zero, List.set_cons_succ])
    refine wpAnyH_take (i := 88) (oi := { dst := some 125, op := Op.move (Operand.tmp 10), type := 29, pos := "law.go:48", after := #[{ on := 85, ground := Ground.guard }], guard := some (85, true) }) (v := ?_) rfl (by as_aux_lemma => kernel_rfl) (by as_aux_lemma => kernel_rfl) (by as_aux_lemma => kernel_rfl) (fun _ _ _ h => h) (Or.inl ⟨by rfl, ?hy⟩) hHeld ?_
    case hy => ((intro w' hSw; (try dsimp only at hSw); go_simp); (try with_reducible rfl))
    (try simp only [Act.put, List.setIfInBounds_toArray, List.set_cons_zero, List.set_cons_succ])
    refine wpAnyH_ready (rs := [87]) (by as_aux_lemma => kernel_rfl) (by simp) ?_
    refine AllReadyH.cons (o := { dst := some 124, op := Op.call { callee := Callee.value (Operand.func 19), args := #[Operand.tmp 123], argTypes := #[29] }, type := 3, pos := "law.go:51", after := #[{ on := 86, ground := Ground.data }, { on := 85, ground := Ground.chain }, { on := 85, ground := Ground.guard }], guard := some (85, true) }) rfl (fun K hK => ?_) AllReadyH.nil
    go_simp
    (go_at_call 19; (with_reducible refine (HNu.out _).mono ?_); rintro e w40 ⟨rfl, hx⟩; have HC30 := Lib.hid (Ext.trans HC29.out hx); have HL30 := Lib.hid hx; clear hx hk; have hk := HS.out _ HC30.out)
    (try go_wp2_with fail)
    refine hK.out _ _ hk (fun hHeld' => ?_)
    clear hK K hHeld
    have hHeld := hHeld'
    clear hHeld'
    (try simp only [Act.put, List.setIfInBounds_toArray, List.set_cons_zero, List.set_cons_succ])
    refine wpAnyH_ready (rs := [89]) (by as_aux_lemma => kernel_rfl) (by simp) ?_
    refine AllReadyH.cons (o := { dst := some 126, op := Op.call { callee := Callee.value (Operand.func 19), args := #[Operand.tmp 125], argTypes := #[29] }, type := 3, pos := "law.go:51", after := #[{ on := 88, ground := Ground.data }, { on := 87, ground := Ground.chain }, { on := 85, ground := Ground.guard }], guard := some (85, true) }) rfl (fun K hK => ?_) AllReadyH.nil
    go_simp
    (go_at_call 19; (with_reducible refine (HNu.out _).mono ?_); rintro e w41 ⟨rfl, hx⟩; have HC31 := Lib.hid (Ext.trans HC30.out hx); have HL31 := Lib.hid hx; clear hx hk; have hk := HS.out _ HC31.out)
    (try go_wp2_with fail)
    refine hK.out _ _ hk (fun hHeld' => ?_)
    clear hK K hHeld
    have hHeld := hHeld'
    clear hHeld'
    (try simp only [Act.put, List.setIfInBounds_toArray, List.set_cons_zero, List.set_cons_succ])
    refine wpAnyH_take (i := 90) (oi := { dst := some 127, op := Op.binOp BinOp.eql 3 (Operand.tmp 124) (Operand.tmp 126) 3, type := 4, pos := "law.go:48", after := #[{ on := 87, ground := Ground.data }, { on := 89, ground := Ground.data }, { on := 85, ground := Ground.guard }], guard := some (85, true) }) (v := ?_) rfl (by as_aux_lemma => kernel_rfl) (by as_aux_lemma => kernel_rfl) (by as_aux_lemma => kernel_rfl) (fun _ _ _ h => h) (Or.inl ⟨by rfl, ?hy⟩) hHeld ?_
    case hy => ((intro w' hSw; (try dsimp only at hSw); go_simp); (try with_reducible rfl))
    (try simp only [Act.put, List.setIfInBounds_toArray, List.set_cons_zero, List.set_cons_succ])
    refine wpAnyH_take (i := 91) (oi := { dst := some 128, op := Op.pick (Operand.tmp 122) (Operand.tmp 127) (Operand.const (Value.bool false)), type := 4, pos := "law.go:48", after := #[{ on := 85, ground := Ground.data }, { on := 90, ground := Ground.data }], guard := none }) (v := ?_) rfl (by as_aux_lemma => kernel_rfl) (by as_aux_lemma => kernel_rfl) (by as_aux_lemma => kernel_rfl) (fun _ _ _ h => h) (Or.inl ⟨by rfl, ?hy⟩) hHeld ?_
    case hy => ((intro w' hSw; (try dsimp only at hSw); go_simp); (try with_reducible rfl))
    (try simp only [Act.put, List.setIfInBounds_toArray, List.set_cons_zero, List.set_cons_succ])
    refine wpAnyH_take (i := 92) (oi := { dst := some 129, op := Op.move (Operand.tmp 128), type := 4, pos := "law.go:48", after := #[{ on := 91, ground := Ground.data }, { on := 89, ground := Ground.chain }], guard := none }) (v := ?_) rfl (by as_aux_lemma => kernel_rfl) (by as_aux_lemma => kernel_rfl) (by as_aux_lemma => kernel_rfl) (fun _ _ _ h => h) (Or.inl ⟨by rfl, ?hy⟩) hHeld ?_
    case hy => ((intro w' hSw; (try dsimp only at hSw); go_simp); (try with_reducible rfl))
    (try simp only [Act.put, List.setIfInBounds_toArray, List.set_cons_zero, List.set_cons_succ])
    refine wpAnyH_take (i := 93) (oi := { dst := some 130, op := Op.load 40 (Operand.tmp 2), type := 40, pos := "law.go:48", after := #[{ on := 92, ground := Ground.guard }], guard := some (92, true) }) (v := ?_) rfl (by as_aux_lemma => kernel_rfl) (by as_aux_lemma => kernel_rfl) (by as_aux_lemma => kernel_rfl) (fun _ _ _ h => h) (Or.inl ⟨by rfl, ?hy⟩) hHeld ?_
    case hy => ((intro w' hSw; (try dsimp only at hSw); go_simp); (try with_reducible rfl))
    (try simp only [Act.put, List.setIfInBounds_toArray, List.set_cons_zero, List.set_cons_succ])
    refine wpAnyH_take (i := 94) (oi := { dst := some 131, op := Op.load 40 (Operand.tmp 3), type := 40, pos := "law.go:48", after := #[{ on := 92, ground := Ground.guard }], guard := some (92, true) }) (v := ?_) rfl (by as_aux_lemma => kernel_rfl) (by as_aux_lemma => kernel_rfl) (by as_aux_lemma => kernel_rfl) (fun _ _ _ h => h) (Or.inl ⟨by rfl, ?hy⟩) hHeld ?_
    case hy => ((intro w' hSw; (try dsimp only at hSw); go_simp); (try with_reducible rfl))
    (try simp only [Act.put, List.setIfInBounds_toArray, List.set_cons_zero, List.set_cons_succ])
    refine wpAnyH_take (i := 96) (oi := { dst := some 133, op := Op.load 40 (Operand.tmp 5), type := 40, pos := "law.go:48", after := #[{ on := 92, ground := Ground.guard }], guard := some (92, true) }) (v := ?_) rfl (by as_aux_lemma => kernel_rfl) (by as_aux_lemma => kernel_rfl) (by as_aux_lemma => kernel_rfl) (fun _ _ _ h => h) (Or.inl ⟨by rfl, ?hy⟩) hHeld ?_
    case hy => ((intro w' hSw; (try dsimp only at hSw); go_simp); (try with_reducible rfl))
    (try simp only [Act.put, List.setIfInBounds_toArray, List.set_cons_zero, List.set_cons_succ])
    refine wpAnyH_take (i := 97) (oi := { dst := some 134, op := Op.load 40 (Operand.tmp 6), type := 40, pos := "law.go:48", after := #[{ on := 92, ground := Ground.guard }], guard := some (92, true) }) (v := ?_) rfl (by as_aux_lemma => kernel_rfl) (by as_aux_lemma => kernel_rfl) (by as_aux_lemma => kernel_rfl) (fun _ _ _ h => h) (Or.inl ⟨by rfl, ?hy⟩) hHeld ?_
    case hy => ((intro w' hSw; (try dsimp only at hSw); go_simp); (try with_reducible rfl))
    (try simp only [Act.put, List.setIfInBounds_toArray, List.set_cons_zero, List.set_cons_succ])
    refine wpAnyH_ready (rs := [95]) (by as_aux_lemma => kernel_rfl) (by simp) ?_
    refine AllReadyH.cons (o := { dst := some 132, op := Op.call { callee := Callee.value (Operand.func 35), args := #[Operand.tmp 130, Operand.tmp 131], argTypes := #[40, 40] }, type := 4, pos := "law.go:51", after := #[{ on := 93, ground := Ground.data }, { on := 94, ground := Ground.data }, { on := 92, ground := Ground.chain }, { on := 92, ground := Ground.guard }], guard := some (92, true) }) rfl (fun K hK => ?_) AllReadyH.nil
    go_simp
    (go_at_call 35; (with_reducible refine (inside_any (HA.out.ext (XW.out.trans HC31.out)) (HB.out.ext (XW.out.trans HC31.out))).mono ?_); rw [Eiz.out]; rintro e w42 ⟨rfl, hx⟩; have HC32 := Lib.hid (Ext.trans HC31.out hx); have HL32 := Lib.hid hx; clear hx hk; have hk := HS.out _ HC32.out)
    (try go_wp2_with fail)
    refine hK.out _ _ hk (fun hHeld' => ?_)
    clear hK K hHeld
    have hHeld := hHeld'
    clear hHeld'
    (try simp only [Act.put, List.setIfInBounds_toArray, List.set_cons_zero, List.set_cons_succ])
    refine wpAnyH_ready (rs := [98]) (by as_aux_lemma => kernel_rfl) (by simp) ?_
    refine AllReadyH.cons (o := { dst := some 135, op := Op.call { callee := Callee.value (Operand.func 35), args := #[Operand.tmp 133, Operand.tmp 134], argTypes := #[40, 40] }, type := 4, pos := "law.go:51", after := #[{ on := 96, ground := Ground.data }, { on := 97, ground := Ground.data }, { on := 95, ground := Ground.chain }, { on := 92, ground := Ground.guard }], guard := some (92, true) }) rfl (fun K hK => ?_) AllReadyH.nil
    go_simp
    (go_at_call 35; (with_reducible refine (inside_any (HNA.out.ext (XW.out.trans HC32.out)) (HNB.out.ext (XW.out.trans HC32.out))).mono ?_); rw [Eiz.out]; rintro e w43 ⟨rfl, hx⟩; have HC33 := Lib.hid (Ext.trans HC32.out hx); have HL33 := Lib.hid hx; clear hx hk; have hk := HS.out _ HC33.out)
    (try go_wp2_with fail)
    refine hK.out _ _ hk (fun hHeld' => ?_)
    clear hK K hHeld
    have hHeld := hHeld'
    clear hHeld'
    (try simp only [Act.put, List.setIfInBounds_toArray, List.set_cons_zero, List.set_cons_succ])
    refine wpAnyH_take (i := 99) (oi := { dst := some 136, op := Op.binOp BinOp.eql 4 (Operand.tmp 132) (Operand.tmp 135) 4, type := 4, pos := "law.go:48", after := #[{ on := 95, ground := Ground.data }, { on := 98, ground := Ground.data }, { on := 92, ground := Ground.guard }], guard := some (92, true) }) (v := ?_) rfl (by as_aux_lemma => kernel_rfl) (by as_aux_lemma => kernel_rfl) (by as_aux_lemma => kernel_rfl) (fun _ _ _ h => h) (Or.inl ⟨by rfl, ?hy⟩) hHeld ?_
    case hy => ((intro w' hSw; (try dsimp only at hSw); go_simp); (try with_reducible rfl))
    (try simp only [Act.put, List.setIfInBounds_toArray, List.set_cons_zero, List.set_cons_succ])
    refine wpAnyH_take (i := 100) (oi := { dst := some 137, op := Op.pick (Operand.tmp 129) (Operand.tmp 136) (Operand.const (Value.bool false)), type := 4, pos := "law.go:48", after := #[{ on := 92, ground := Ground.data }, { on := 99, ground := Ground.data }], guard := none }) (v := ?_) rfl (by as_aux_lemma => kernel_rfl) (by as_aux_lemma => kernel_rfl) (by as_aux_lemma => kernel_rfl) (fun _ _ _ h => h) (Or.inl ⟨by rfl, ?hy⟩) hHeld ?_
    case hy => ((intro w' hSw; (try dsimp only at hSw); go_simp); (try with_reducible rfl))
    (try simp only [Act.put, List.setIfInBounds_toArray, List.set_cons_zero, List.set_cons_succ])
    refine wpAnyH_take (i := 101) (oi := { dst := some 138, op := Op.move (Operand.tmp 137), type := 4, pos := "law.go:48", after := #[{ on := 100, ground := Ground.data }, { on := 98, ground := Ground.chain }], guard := none }) (v := ?_) rfl (by as_aux_lemma => kernel_rfl) (by as_aux_lemma => kernel_rfl) (by as_aux_lemma => kernel_rfl) (fun _ _ _ h => h) (Or.inl ⟨by rfl, ?hy⟩) hHeld ?_
    case hy => ((intro w' hSw; (try dsimp only at hSw); go_simp); (try with_reducible rfl))
    (try simp only [Act.put, List.setIfInBounds_toArray, List.set_cons_zero, List.set_cons_succ])
    refine wpAnyH_take (i := 102) (oi := { dst := some 139, op := Op.load 40 (Operand.tmp 2), type := 40, pos := "law.go:48", after := #[{ on := 101, ground := Ground.guard }], guard := some (101, true) }) (v := ?_) rfl (by as_aux_lemma => kernel_rfl) (by as_aux_lemma => kernel_rfl) (by as_aux_lemma => kernel_rfl) (fun _ _ _ h => h) (Or.inl ⟨by rfl, ?hy⟩) hHeld ?_
    case hy => ((intro w' hSw; (try dsimp only at hSw); go_simp); (try with_reducible rfl))
    (try simp only [Act.put, List.setIfInBounds_toArray, List.set_cons_zero, List.set_cons_succ])
    refine wpAnyH_take (i := 104) (oi := { dst := some 141, op := Op.load 40 (Operand.tmp 5), type := 40, pos := "law.go:48", after := #[{ on := 101, ground := Ground.guard }], guard := some (101, true) }) (v := ?_) rfl (by as_aux_lemma => kernel_rfl) (by as_aux_lemma => kernel_rfl) (by as_aux_lemma => kernel_rfl) (fun _ _ _ h => h) (Or.inl ⟨by rfl, ?hy⟩) hHeld ?_
    case hy => ((intro w' hSw; (try dsimp only at hSw); go_simp); (try with_reducible rfl))
    (try simp only [Act.put, List.setIfInBounds_toArray, List.set_cons_zero, List.set_cons_succ])
    refine wpAnyH_ready (rs := [103]) (by as_aux_lemma => kernel_rfl) (by simp) ?_
    refine AllReadyH.cons (o := { dst := some 140, op := Op.call { callee := Callee.value (Operand.func 36), args := #[Operand.tmp 139], argTypes := #[40] }, type := 9, pos := "law.go:51", after := #[{ on := 102, ground := Ground.data }, { on := 101, ground := Ground.chain }, { on := 101, ground := Ground.guard }], guard := some (101, true) }) rfl (fun K hK => ?_) AllReadyH.nil
    go_simp
    (go_at_call 36; (with_reducible refine (itext_any (HA.out.ext (XW.out.trans HC33.out)) (HP.out.ext (XW.out.trans HC33.out))).mono ?_); rw [Etx.out]; rintro e w44 ⟨rfl, hx⟩; have HC34 := Lib.hid (Ext.trans HC33.out hx); have HL34 := Lib.hid hx; clear hx hk; have hk := HS.out _ HC34.out)
    (try go_wp2_with fail)
    refine hK.out _ _ hk (fun hHeld' => ?_)
    clear hK K hHeld
    have hHeld := hHeld'
    clear hHeld'
    (try simp only [Act.put, List.setIfInBounds_toArray, List.set_cons_zero, List.set_cons_succ])
    refine wpAnyH_ready (rs := [105]) (by as_aux_lemma => kernel_rfl) (by simp) ?_
    refine AllReadyH.cons (o := { dst := some 142, op := Op.call { callee := Callee.value (Operand.func 36), args := #[Operand.tmp 141], argTypes := #[40] }, type := 9, pos := "law.go:51", after := #[{ on := 104, ground := Ground.data }, { on := 103, ground := Ground.chain }, { on := 101, ground := Ground.guard }], guard := some (101, true) }) rfl (fun K hK => ?_) AllReadyH.nil
    go_simp
    (go_at_call 36; (with_reducible refine (itext_any (HNA.out.ext (XW.out.trans HC34.out)) (HP.out.ext (XW.out.trans HC34.out))).mono ?_); rw [Etx.out]; rintro e w45 ⟨rfl, hx⟩; have HC35 := Lib.hid (Ext.trans HC34.out hx); have HL35 := Lib.hid hx; clear hx hk; have hk := HS.out _ HC35.out)
    (try go_wp2_with fail)
    refine hK.out _ _ hk (fun hHeld' => ?_)
    clear hK K hHeld
    have hHeld := hHeld'
    clear hHeld'
    (try simp only [Act.put, List.setIfInBounds_toArray, List.set_cons_zero, List.set_cons_succ])
    refine wpAnyH_take (i := 106) (oi := { dst := some 143, op := Op.binOp BinOp.eql 9 (Operand.tmp 140) (Operand.tmp 142) 9, type := 4, pos := "law.go:48", after := #[{ on := 103, ground := Ground.data }, { on := 105, ground := Ground.data }, { on := 101, ground := Ground.guard }], guard := some (101, true) }) (v := ?_) rfl (by as_aux_lemma => kernel_rfl) (by as_aux_lemma => kernel_rfl) (by as_aux_lemma => kernel_rfl) (fun _ _ _ h => h) (Or.inl ⟨by rfl, ?hy⟩) hHeld ?_
    case hy => ((intro w' hSw; (try dsimp only at hSw); go_simp); (try with_reducible rfl))
    (try simp only [Act.put, List.setIfInBounds_toArray, List.set_cons_zero, List.set_cons_succ])
    refine wpAnyH_take (i := 107) (oi := { dst := some 144, op := Op.pick (Operand.tmp 138) (Operand.tmp 143) (Operand.const (Value.bool false)), type := 4, pos := "law.go:48", after := #[{ on := 101, ground := Ground.data }, { on := 106, ground := Ground.data }], guard := none }) (v := ?_) rfl (by as_aux_lemma => kernel_rfl) (by as_aux_lemma => kernel_rfl) (by as_aux_lemma => kernel_rfl) (fun _ _ _ h => h) (Or.inl ⟨by rfl, ?hy⟩) hHeld ?_
    case hy => ((intro w' hSw; (try dsimp only at hSw); go_simp); (try with_reducible rfl))
    (try simp only [Act.put, List.setIfInBounds_toArray, List.set_cons_zero, List.set_cons_succ])
    refine wpAnyH_take (i := 108) (oi := { dst := some 145, op := Op.move (Operand.tmp 144), type := 4, pos := "law.go:48", after := #[{ on := 107, ground := Ground.data }, { on := 105, ground := Ground.chain }], guard := none }) (v := ?_) rfl (by as_aux_lemma => kernel_rfl) (by as_aux_lemma => kernel_rfl) (by as_aux_lemma => kernel_rfl) (fun _ _ _ h => h) (Or.inl ⟨by rfl, ?hy⟩) hHeld ?_
    case hy => ((intro w' hSw; (try dsimp only at hSw); go_simp); (try with_reducible rfl))
    (try simp only [Act.put, List.setIfInBounds_toArray, List.set_cons_zero, List.set_cons_succ])
    refine wpAnyH_take (i := 109) (oi := { dst := some 146, op := Op.load 40 (Operand.tmp 2), type := 40, pos := "law.go:48", after := #[{ on := 108, ground := Ground.guard }], guard := some (108, true) }) (v := ?_) rfl (by as_aux_lemma => kernel_rfl) (by as_aux_lemma => kernel_rfl) (by as_aux_lemma => kernel_rfl) (fun _ _ _ h => h) (Or.inl ⟨by rfl, ?hy⟩) hHeld ?_
    case hy => ((intro w' hSw; (try dsimp only at hSw); go_simp); (try with_reducible rfl))
    (try simp only [Act.put, List.setIfInBounds_toArray, List.set_cons_zero, List.set_cons_succ])
    refine wpAnyH_take (i := 111) (oi := { dst := some 148, op := Op.load 40 (Operand.tmp 5), type := 40, pos := "law.go:48", after := #[{ on := 108, ground := Ground.guard }], guard := some (108, true) }) (v := ?_) rfl (by as_aux_lemma => kernel_rfl) (by as_aux_lemma => kernel_rfl) (by as_aux_lemma => kernel_rfl) (fun _ _ _ h => h) (Or.inl ⟨by rfl, ?hy⟩) hHeld ?_
    case hy => ((intro w' hSw; (try dsimp only at hSw); go_simp); (try with_reducible rfl))
    (try simp only [Act.put, List.setIfInBounds_toArray, List.set_cons_zero, List.set_cons_succ])
    refine wpAnyH_ready (rs := [110]) (by as_aux_lemma => kernel_rfl) (by simp) ?_
    refine AllReadyH.cons (o := { dst := some 147, op := Op.call { callee := Callee.value (Operand.func 37), args := #[Operand.tmp 146], argTypes := #[40] }, type := 24, pos := "law.go:51", after := #[{ on := 109, ground := Ground.data }, { on := 108, ground := Ground.chain }, { on := 108, ground := Ground.guard }], guard := some (108, true) }) rfl (fun K hK => ?_) AllReadyH.nil
    go_simp
    (go_at_call 37; (with_reducible refine (imag_any (HA.out.ext (XW.out.trans HC35.out)) (HT.out.ext (XW.out.trans HC35.out))).mono ?_); rw [Emg.out]; rintro e w46 ⟨A56, c56, rfl, hon, hx⟩; have HC36 := Lib.hid (Ext.trans HC35.out hx); have HL36 := Lib.hid hx; have RA1 := Lib.hid hon.rd; clear hon; clear hx hk; have hk := HS.out _ HC36.out)
    (try go_wp2_with fail)
    refine hK.out _ _ hk (fun hHeld' => ?_)
    clear hK K hHeld
    have hHeld := hHeld'
    clear hHeld'
    (try simp only [Act.put, List.setIfInBounds_toArray, List.set_cons_zero, List.set_cons_succ])
    refine wpAnyH_ready (rs := [112]) (by as_aux_lemma => kernel_rfl) (by simp) ?_
    refine AllReadyH.cons (o := { dst := some 149, op := Op.call { callee := Callee.value (Operand.func 37), args := #[Operand.tmp 148], argTypes := #[40] }, type := 24, pos := "law.go:51", after := #[{ on := 111, ground := Ground.data }, { on := 110, ground := Ground.chain }, { on := 108, ground := Ground.guard }], guard := some (108, true) }) rfl (fun K hK => ?_) AllReadyH.nil
    go_simp
    (go_at_call 37; (with_reducible refine (imag_any (HNA.out.ext (XW.out.trans HC36.out)) (HT.out.ext (XW.out.trans HC36.out))).mono ?_); rw [Emg.out]; rintro e w47 ⟨A57, c57, rfl, hon, hx⟩; have HC37 := Lib.hid (Ext.trans HC36.out hx); have HL37 := Lib.hid hx; have RA2 := Lib.hid hon.rd; clear hon; clear hx hk; have hk := HS.out _ HC37.out)
    (try go_wp2_with fail)
    refine hK.out _ _ hk (fun hHeld' => ?_)
    clear hK K hHeld
    have hHeld := hHeld'
    clear hHeld'
    (try simp only [Act.put, List.setIfInBounds_toArray, List.set_cons_zero, List.set_cons_succ])
    refine wpAnyH_ready (rs := [113]) (by as_aux_lemma => kernel_rfl) (by simp) ?_
    refine AllReadyH.cons (o := { dst := some 150, op := Op.call { callee := Callee.value (Operand.func 16), args := #[Operand.tmp 147, Operand.tmp 149], argTypes := #[24, 24] }, type := 4, pos := "law.go:51", after := #[{ on := 110, ground := Ground.data }, { on := 112, ground := Ground.data }, { on := 112, ground := Ground.chain }, { on := 108, ground := Ground.guard }], guard := some (108, true) }) rfl (fun K hK => ?_) AllReadyH.nil
    go_simp
    (go_at_call 16; (with_reducible refine (same_true (d := mg) (RA1.out.ext HL37.out) RA2.out Lmg.out).mono ?_); rintro e w48 ⟨rfl, hx⟩; have HC38 := Lib.hid (Ext.trans HC37.out hx); have HL38 := Lib.hid hx; clear hx hk; have hk := HS.out _ HC38.out)
    (try go_wp2_with fail)
    refine hK.out _ _ hk (fun hHeld' => ?_)
    clear hK K hHeld
    have hHeld := hHeld'
    clear hHeld'
    (try simp only [Act.put, List.setIfInBounds_toArray, List.set_cons_zero, List.set_cons_succ])
    refine wpAnyH_take (i := 114) (oi := { dst := some 151, op := Op.pick (Operand.tmp 145) (Operand.tmp 150) (Operand.const (Value.bool false)), type := 4, pos := "law.go:48", after := #[{ on := 108, ground := Ground.data }, { on := 113, ground := Ground.data }], guard := none }) (v := ?_) rfl (by as_aux_lemma => kernel_rfl) (by as_aux_lemma => kernel_rfl) (by as_aux_lemma => kernel_rfl) (fun _ _ _ h => h) (Or.inl ⟨by rfl, ?hy⟩) hHeld ?_
    case hy => ((intro w' hSw; (try dsimp only at hSw); go_simp); (try with_reducible rfl))
    (try simp only [Act.put, List.setIfInBounds_toArray, List.set_cons_zero, List.set_cons_succ])
    refine wpAnyH_take (i := 115) (oi := { dst := some 4, op := Op.assign (Operand.tmp 151), type := 4, pos := "law.go:48", after := ([{ on := 114, ground := Ground.data }, { on := 113, ground := Ground.chain }, { on := 0, ground := Ground.phase }, { on := 1, ground := Ground.phase }, { on := 2, ground := Ground.phase }, { on := 3, ground := Ground.phase }, { on := 4, ground := Ground.phase }, { on := 5, ground := Ground.phase }, { on := 6, ground := Ground.phase }, { on := 7, ground := Ground.phase }, { on := 8, ground := Ground.phase }, { on := 9, ground := Ground.phase }, { on := 10, ground := Ground.phase }, { on := 11, ground := Ground.phase }, { on := 12, ground := Ground.phase }, { on := 13, ground := Ground.phase }, { on := 14, ground := Ground.phase }, { on := 15, ground := Ground.phase }, { on := 16, ground := Ground.phase }, { on := 17, ground := Ground.phase }, { on := 18, ground := Ground.phase }, { on := 19, ground := Ground.phase }, { on := 20, ground := Ground.phase }, { on := 21, ground := Ground.phase }, { on := 22, ground := Ground.phase }, { on := 23, ground := Ground.phase }, { on := 24, ground := Ground.phase }, { on := 25, ground := Ground.phase }, { on := 26, ground := Ground.phase }, { on := 27, ground := Ground.phase }, { on := 28, ground := Ground.phase }, { on := 29, ground := Ground.phase }, { on := 30, ground := Ground.phase }, { on := 31, ground := Ground.phase }, { on := 32, ground := Ground.phase }, { on := 33, ground := Ground.phase }, { on := 34, ground := Ground.phase }, { on := 35, ground := Ground.phase }, { on := 36, ground := Ground.phase }, { on := 37, ground := Ground.phase }, { on := 38, ground := Ground.phase }, { on := 39, ground := Ground.phase }, { on := 40, ground := Ground.phase }, { on := 41, ground := Ground.phase }, { on := 42, ground := Ground.phase }, { on := 43, ground := Ground.phase }, { on := 44, ground := Ground.phase }, { on := 45, ground := Ground.phase }, { on := 46, ground := Ground.phase }, { on := 47, ground := Ground.phase }, { on := 48, ground := Ground.phase }, { on := 49, ground := Ground.phase }, { on := 50, ground := Ground.phase }, { on := 51, ground := Ground.phase }, { on := 52, ground := Ground.phase }, { on := 53, ground := Ground.phase }, { on := 54, ground := Ground.phase }, { on := 55, ground := Ground.phase }].append [{ on := 56, ground := Ground.phase }, { on := 57, ground := Ground.phase }, { on := 58, ground := Ground.phase }, { on := 59, ground := Ground.phase }, { on := 60, ground := Ground.phase }, { on := 61, ground := Ground.phase }, { on := 62, ground := Ground.phase }, { on := 63, ground := Ground.phase }, { on := 64, ground := Ground.phase }, { on := 65, ground := Ground.phase }, { on := 66, ground := Ground.phase }, { on := 67, ground := Ground.phase }, { on := 68, ground := Ground.phase }, { on := 69, ground := Ground.phase }, { on := 70, ground := Ground.phase }, { on := 71, ground := Ground.phase }, { on := 72, ground := Ground.phase }, { on := 73, ground := Ground.phase }, { on := 74, ground := Ground.phase }, { on := 75, ground := Ground.phase }, { on := 76, ground := Ground.phase }, { on := 77, ground := Ground.phase }, { on := 78, ground := Ground.phase }, { on := 79, ground := Ground.phase }, { on := 80, ground := Ground.phase }, { on := 81, ground := Ground.phase }, { on := 82, ground := Ground.phase }, { on := 83, ground := Ground.phase }, { on := 84, ground := Ground.phase }, { on := 85, ground := Ground.phase }, { on := 86, ground := Ground.phase }, { on := 87, ground := Ground.phase }, { on := 88, ground := Ground.phase }, { on := 89, ground := Ground.phase }, { on := 90, ground := Ground.phase }, { on := 91, ground := Ground.phase }, { on := 92, ground := Ground.phase }, { on := 93, ground := Ground.phase }, { on := 94, ground := Ground.phase }, { on := 95, ground := Ground.phase }, { on := 96, ground := Ground.phase }, { on := 97, ground := Ground.phase }, { on := 98, ground := Ground.phase }, { on := 99, ground := Ground.phase }, { on := 100, ground := Ground.phase }, { on := 101, ground := Ground.phase }, { on := 102, ground := Ground.phase }, { on := 103, ground := Ground.phase }, { on := 104, ground := Ground.phase }, { on := 105, ground := Ground.phase }, { on := 106, ground := Ground.phase }, { on := 107, ground := Ground.phase }, { on := 108, ground := Ground.phase }, { on := 109, ground := Ground.phase }, { on := 110, ground := Ground.phase }, { on := 111, ground := Ground.phase }, { on := 112, ground := Ground.phase }, { on := 113, ground := Ground.phase }, { on := 114, ground := Ground.phase }]).toArray, guard := none }) (v := ?_) rfl (by as_aux_lemma => kernel_rfl) (by as_aux_lemma => kernel_rfl) (by as_aux_lemma => kernel_rfl) (fun _ _ _ h => h) (Or.inl ⟨by rfl, ?hy⟩) hHeld ?_
    case hy => ((intro w' hSw; (try dsimp only at hSw); go_simp); (try with_reducible rfl))
    (try simp only [Act.put, List.setIfInBounds_toArray, List.set_cons_zero, List.set_cons_succ])
    refine wpAnyH_done (by as_aux_lemma => kernel_rfl) ?_ _
    (try refine NoPanic.normal ?_)
    go_wp2_with fail
    go_ret
    exact ⟨rfl, XW.out.trans HC38.out⟩

end Go.Proofs.YtaljininilaemaaGreatDoor
