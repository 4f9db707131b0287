/- The law IntervalContains. -/
import Derived.Test.YtbpcekibdnpkhaaGreatDoorIvw
import Derived.Test.YtbpcekibdnpkhaaGreatDoorIvf
import Derived.Test.YtbpcekibdnpkhaaGreatDoorIvns
import Derived.Test.YtbpcekibdnpkhaaGreatDoorIvmx
import Derived.Test.YtbpcekibdnpkhaaGreatDoorIcmq
import Derived.Deep.RegionHeld3
import Derived.Deep.DeepCutAuto
namespace Go.Proofs.YtbpcekibdnpkhaaGreatDoor
open Go.RowKit
attribute [local go_sem ↓] Go.wp_at_zero Go.wp_at_succ

/-- Two cells; three cells. -/
def B2 (w : World) (g : Nat) (v0 v1 : Value) : Prop := w.cell? ⟨g, 0, none⟩ = some v0 ∧ w.cell? ⟨g, 1, none⟩ = some v1
theorem B2.ext {w w' : World} {g : Nat} {v0 v1 : Value} (h : B2 w g v0 v1) (x : Ext w w') : B2 w' g v0 v1 := by
  have hl := World.block_lt_of_cell? w _ h.1
  exact ⟨(x.old.1 _ _ hl).trans h.1, (x.old.1 _ _ hl).trans h.2⟩
def C3 (w : World) (p : Nat) (d : DV) (A : Option Addr) (c : Nat) : Prop := w.cell? ⟨p, 0, none⟩ = some (.bool d.neg) ∧ w.cell? ⟨p, 1, none⟩ = some (.slice A (len d.m) c) ∧ w.cell? ⟨p, 2, none⟩ = some (I d.den)
theorem C3.ext {w w' : World} {p : Nat} {d : DV} {A : Option Addr} {c : Nat} (h : C3 w p d A c) (x : Ext w w') : C3 w' p d A c := by
  have hl := World.block_lt_of_cell? w _ h.1
  exact ⟨(x.old.1 _ _ hl).trans h.1, (x.old.1 _ _ hl).trans h.2.1, (x.old.1 _ _ hl).trans h.2.2⟩
/-- Words in blocks from lo on, below hi. -/
def Nr (w : World) (lo hi : Nat) (A : Option Addr) (n c : Nat) (f : Nat → Nat) : Prop := Rd w A n f ∧ SlOk A n c ∧ (0 < n → ∀ a, A = some a → lo ≤ a.block ∧ a.block < hi)
theorem Nr.of_on {w : World} {base n c : Nat} {A : Option Addr} {f : Nat → Nat} (h : On w base A n c f) : Nr w base w.heap.size A n c f := by
  have hf := On.fr h
  refine ⟨hf.1, hf.2.1, fun hn a ha => ⟨hf.2.2 hn a ha, ?_⟩⟩
  obtain ⟨b, o, e, hb, _⟩ := hf.1 hn
  rw [e] at ha; cases ha; exact hb
theorem Nr.ext {w w' : World} {lo hi n c : Nat} {A : Option Addr} {f : Nat → Nat} (h : Nr w lo hi A n c f) (x : Ext w w') : Nr w' lo hi A n c f := ⟨h.1.ext x, h.2.1, h.2.2⟩
theorem Nr.done {w : World} {lo hi n c : Nat} {A : Option Addr} {f : Nat → Nat} (h : Nr w lo hi A n c f) : Rd w A n f ∧ SlOk A n c := ⟨h.1, h.2.1⟩
theorem Nr.all {w : World} {base n c : Nat} {A : Option Addr} {f : Nat → Nat} (h : On w base A n c f) : ∃ lo hi, (base ≤ lo ∧ lo ≤ base ∧ w.heap.size ≤ hi ∧ hi ≤ w.heap.size) ∧ Nr w lo hi A n c f :=
  ⟨_, _, ⟨Nat.le_refl _, Nat.le_refl _, Nat.le_refl _, Nat.le_refl _⟩, Nr.of_on h⟩
theorem Nr.toAlloc {w : World} {lo hi n c : Nat} {A : Option Addr} {f : Nat → Nat} {ob : Obj} (h : Nr w lo hi A n c f) : Nr (w.alloc ob) lo hi A n c f := h.ext (Ext.alloc _ _)
theorem Nr.toSet {w : World} {lo hi n c g i : Nat} {A : Option Addr} {f : Nat → Nat} {u : Value} (h : Nr w lo hi A n c f) (hg : g < lo ∨ hi ≤ g) : Nr (w.setCell ⟨g, i, none⟩ u) lo hi A n c f :=
  ⟨h.1.set' (fun hn a ha => by have := h.2.2 hn a ha; omega) i u, h.2.1, h.2.2⟩
theorem ivs2 (w : World) (g : Nat) (hg : w.heap.size = g) {n1 n2 n3 n4 : Bool} {A B X Y : Option Addr} {k1 c1 k2 c2 k3 c3 k4 c4 : Nat} {d1 d2 d3 d4 : Int} (t : TypeId) :
    Ivs (w.alloc (.cells #[.bool n1, .slice A k1 c1, I d1, .bool n2, .slice B k2 c2, I d2, .bool n3, .slice X k3 c3, I d3, .bool n4, .slice Y k4 c4, I d4] t)) g 2 (fun i => if i = 0 then n1 else n3) (fun i => if i = 0 then A else X) (fun i => if i = 0 then k1 else k3) (fun i => if i = 0 then c1 else c3) (fun i => if i = 0 then d1 else d3) (fun i => if i = 0 then n2 else n4) (fun i => if i = 0 then B else Y) (fun i => if i = 0 then k2 else k4) (fun i => if i = 0 then c2 else c4) (fun i => if i = 0 then d2 else d4) := by
  subst hg
  intro i hi
  have : i = 0 ∨ i = 1 := by omega
  rcases this with rfl | rfl
  · exact ⟨by go_simp, by go_simp, by go_simp, by go_simp, by go_simp, by go_simp⟩
  · exact ⟨by go_simp, by go_simp, by go_simp, by go_simp, by go_simp, by go_simp⟩


set_option maxRecDepth 100000 in
set_option maxHeartbeats 1000000 in
theorem icontL_off {w : World} {n1 n2 n3 n4 : Bool} {A B X Y : Option Addr} {k1 c1 k2 c2 k3 c3 k4 c4 : Nat} {d1 d2 d3 d4 : Int} {s t : Int} (hT : Tabs w) (hP : TabP w) (h : ¬ (∀ i, i < 2 → shOk (if i = 0 then k1 else k3) (if i = 0 then d1 else d3) ∧ shOk (if i = 0 then k2 else k4) (if i = 0 then d2 else d4))) :
    Calls Tryz.prog 3 #[iv n1 A k1 c1 d1 n2 B k2 c2 d2, iv n3 X k3 c3 d3 n4 Y k4 c4 d4, .agg #[.int .u8 s, .int .u8 t]] w fun e w' => e = .returned (.bool true) ∧ Ext w w' := by
  have HT := Lib.hid hT; have HP := Lib.hid hP; clear hT hP
  have HFW : Hid (false = true ↔ (∀ i, i < 2 → shOk (if i = 0 then k1 else k3) (if i = 0 then d1 else d3) ∧ shOk (if i = 0 then k2 else k4) (if i = 0 then d2 else d4))) := ⟨fun h => (by cases h), fun hh => absurd hh h⟩
  clear h
  go_enter Tryz.func3, Tryz.ntmps3
  go_wp2_with fail
  have HN := Lib.hid (ivs2 (((w.alloc (.cells #[.bool n1, .slice A k1 c1, I d1, .bool n2, .slice B k2 c2, I d2] 26)).alloc (.cells #[.bool n3, .slice X k3 c3, I d3, .bool n4, .slice Y k4 c4, I d4] 26)).alloc (.cells #[.int .u8 s, .int .u8 t] 27)) (w.heap.size + 1 + 1 + 1) (by simp) (n1 := n1) (n2 := n2) (n3 := n3) (n4 := n4) (A := A) (B := B) (X := X) (Y := Y) (k1 := k1) (c1 := c1) (k2 := k2) (c2 := c2) (k3 := k3) (c3 := c3) (k4 := k4) (c4 := c4) (d1 := d1) (d2 := d2) (d3 := d3) (d4 := d4) 26)
  with_reducible refine (ifew_any HN.out (by simp) (by omega) HFW.out).mono ?_
  rintro e wf ⟨rfl, hx⟩
  have HEF : Hid (Ext w wf) := ((((Ext.alloc _ _).trans (Ext.alloc _ _)).trans (Ext.alloc _ _)).trans (Ext.alloc _ _)).trans hx
  clear hx HN HFW
  go_wp2_with fail
  refine (iawake_any _ (HT.out.ext HEF.out) (HP.out.ext HEF.out)).mono ?_
  rintro e w0 ⟨rfl, hx⟩
  have HEW := Lib.hid (HEF.out.trans hx)
  clear hx
  go_wp2_with fail
  go_ret
  exact ⟨rfl, HEW.out⟩

set_option maxRecDepth 100000 in
set_option maxHeartbeats 16000000 in
theorem icontL_true {w : World} {n1 n2 n3 n4 : Bool} {A B X Y A' B' X' Y' : Option Addr} {k1 c1 k2 c2 k3 c3 k4 c4 e1 e2 e3 e4 : Nat} {d1 d2 d3 d4 : Int} {a b x y : DV} {s t : Int} (ha : Iw w n1 A k1 c1 d1 n2 B k2 c2 d2 a b A' e1 B' e2) (hb : Iw w n3 X k3 c3 d3 n4 Y k4 c4 d4 x y X' e3 Y' e4) (hT : Tabs w) (hP : TabP w) (h : (∀ i, i < 2 → shOk (if i = 0 then k1 else k3) (if i = 0 then d1 else d3) ∧ shOk (if i = 0 then k2 else k4) (if i = 0 then d2 else d4))) (la : len a.m ≤ 8) (lb : len b.m ≤ 8) (lx : len x.m ≤ 8) (ly : len y.m ≤ 8) (da : a.den ≤ 200) (db : b.den ≤ 200) (dx : x.den ≤ 200) (dy : y.den ≤ 200) (s0 : 0 ≤ s ∧ s ≤ 255) (t0 : 0 ≤ t ∧ t ≤ 255) :
    Calls Tryz.prog 3 #[iv n1 A k1 c1 d1 n2 B k2 c2 d2, iv n3 X k3 c3 d3 n4 Y k4 c4 d4, .agg #[.int .u8 s, .int .u8 t]] w fun e w' => e = .returned (.bool true) ∧ Ext w w' := by
  have HT := Lib.hid hT; have HP := Lib.hid hP; have HA := Lib.hid ha; have HB := Lib.hid hb
  have HFW := Lib.hid h
  obtain ⟨p1, hp1⟩ : ∃ d, pickD a b (s % 17) = d := ⟨_, rfl⟩
  obtain ⟨p2, hp2⟩ : ∃ d, pickD x y (t % 17) = d := ⟨_, rfl⟩
  have q1 := pick_small ha.wa.1 ha.wb.1 la lb da db (show 0 ≤ s % 17 by omega) (show s % 17 ≤ 16 by omega) ha.le
  have q2 := pick_small hb.wa.1 hb.wb.1 lx ly dx dy (show 0 ≤ t % 17 by omega) (show t % 17 ≤ 16 by omega) hb.le
  rw [hp1] at q1; rw [hp2] at q2
  obtain ⟨o1, l1, z1, b1⟩ := q1; obtain ⟨o2, l2, z2, b2⟩ := q2
  have W1 : Hid (p1.ok ∧ len p1.m ≤ 1048576) := ⟨o1, by omega⟩
  have W2 : Hid (p2.ok ∧ len p2.m ≤ 1048576) := ⟨o2, by omega⟩
  have P1 := Lib.hid hp1; have P2 := Lib.hid hp2; have HS0 := Lib.hid s0; have HT0 := Lib.hid t0
  have CX : Cx a b p1 x y p2 := ⟨ha.wa.1, ha.wb.1, o1, hb.wa.1, hb.wb.1, o2, la, lb, lx, ly, l1, l2, da, db, dx, dy, z1, z2, b1, b2⟩
  have Tcon := Lib.hid (t_con CX)
  have tneg := t_neg CX
  obtain ⟨negL, hnegL⟩ : ∃ d, lo2 (negD a) (negD b) = d := ⟨_, rfl⟩
  rw [hnegL] at tneg; have EnegL := Lib.hid hnegL; clear hnegL
  obtain ⟨negH, hnegH⟩ : ∃ d, hi2 (negD a) (negD b) = d := ⟨_, rfl⟩
  rw [hnegH] at tneg; have EnegH := Lib.hid hnegH; clear hnegH
  obtain ⟨negN, hnegN⟩ : ∃ d, negD p1 = d := ⟨_, rfl⟩
  rw [hnegN] at tneg; have EnegN := Lib.hid hnegN; clear hnegN
  have Tneg := Lib.hid tneg; clear tneg
  have tabs := t_abs CX
  obtain ⟨absL, habsL⟩ : ∃ d, absL a b = d := ⟨_, rfl⟩
  rw [habsL] at tabs; have EabsL := Lib.hid habsL; clear habsL
  obtain ⟨absH, habsH⟩ : ∃ d, absH a b = d := ⟨_, rfl⟩
  rw [habsH] at tabs; have EabsH := Lib.hid habsH; clear habsH
  obtain ⟨absN, habsN⟩ : ∃ d, absD p1 = d := ⟨_, rfl⟩
  rw [habsN] at tabs; have EabsN := Lib.hid habsN; clear habsN
  have Tabs := Lib.hid tabs; clear tabs
  have tadd := t_add CX
  obtain ⟨addL, haddL⟩ : ∃ d, lo2 (addD a x) (addD b y) = d := ⟨_, rfl⟩
  rw [haddL] at tadd; have EaddL := Lib.hid haddL; clear haddL
  obtain ⟨addH, haddH⟩ : ∃ d, hi2 (addD a x) (addD b y) = d := ⟨_, rfl⟩
  rw [haddH] at tadd; have EaddH := Lib.hid haddH; clear haddH
  obtain ⟨addN, haddN⟩ : ∃ d, addD p1 p2 = d := ⟨_, rfl⟩
  rw [haddN] at tadd; have EaddN := Lib.hid haddN; clear haddN
  have Tadd := Lib.hid tadd; clear tadd
  have tsub := t_sub CX
  obtain ⟨subL, hsubL⟩ : ∃ d, lo2 (addD a (lo2 (negD x) (negD y))) (addD b (hi2 (negD x) (negD y))) = d := ⟨_, rfl⟩
  rw [hsubL] at tsub; have EsubL := Lib.hid hsubL; clear hsubL
  obtain ⟨subH, hsubH⟩ : ∃ d, hi2 (addD a (lo2 (negD x) (negD y))) (addD b (hi2 (negD x) (negD y))) = d := ⟨_, rfl⟩
  rw [hsubH] at tsub; have EsubH := Lib.hid hsubH; clear hsubH
  obtain ⟨subN, hsubN⟩ : ∃ d, subD p1 p2 = d := ⟨_, rfl⟩
  rw [hsubN] at tsub; have EsubN := Lib.hid hsubN; clear hsubN
  have Tsub := Lib.hid tsub; clear tsub
  have tmul := t_mul CX
  obtain ⟨mulL, hmulL⟩ : ∃ d, lo4 (lo2 (mulD a x) (mulD b x)) (hi2 (mulD a x) (mulD b x)) (lo2 (mulD a y) (mulD b y)) (hi2 (mulD a y) (mulD b y)) = d := ⟨_, rfl⟩
  rw [hmulL] at tmul; have EmulL := Lib.hid hmulL; clear hmulL
  obtain ⟨mulH, hmulH⟩ : ∃ d, hi4 (lo2 (mulD a x) (mulD b x)) (hi2 (mulD a x) (mulD b x)) (lo2 (mulD a y) (mulD b y)) (hi2 (mulD a y) (mulD b y)) = d := ⟨_, rfl⟩
  rw [hmulH] at tmul; have EmulH := Lib.hid hmulH; clear hmulH
  obtain ⟨mulN, hmulN⟩ : ∃ d, mulD p1 p2 = d := ⟨_, rfl⟩
  rw [hmulN] at tmul; have EmulN := Lib.hid hmulN; clear hmulN
  have Tmul := Lib.hid tmul; clear tmul
  have tmin := t_min CX
  obtain ⟨minL, hminL⟩ : ∃ d, lo2 (minD a x) (minD b y) = d := ⟨_, rfl⟩
  rw [hminL] at tmin; have EminL := Lib.hid hminL; clear hminL
  obtain ⟨minH, hminH⟩ : ∃ d, hi2 (minD a x) (minD b y) = d := ⟨_, rfl⟩
  rw [hminH] at tmin; have EminH := Lib.hid hminH; clear hminH
  obtain ⟨minN, hminN⟩ : ∃ d, minD p1 p2 = d := ⟨_, rfl⟩
  rw [hminN] at tmin; have EminN := Lib.hid hminN; clear hminN
  have Tmin := Lib.hid tmin; clear tmin
  have tmax := t_max CX
  obtain ⟨maxL, hmaxL⟩ : ∃ d, lo2 (maxD a x) (maxD b y) = d := ⟨_, rfl⟩
  rw [hmaxL] at tmax; have EmaxL := Lib.hid hmaxL; clear hmaxL
  obtain ⟨maxH, hmaxH⟩ : ∃ d, hi2 (maxD a x) (maxD b y) = d := ⟨_, rfl⟩
  rw [hmaxH] at tmax; have EmaxH := Lib.hid hmaxH; clear hmaxH
  obtain ⟨maxN, hmaxN⟩ : ∃ d, maxD p1 p2 = d := ⟨_, rfl⟩
  rw [hmaxN] at tmax; have EmaxN := Lib.hid hmaxN; clear hmaxN
  have Tmax := Lib.hid tmax; clear tmax
  have tscl := t_scl CX
  obtain ⟨sclL, hsclL⟩ : ∃ d, lo2 (mulD a p2) (mulD b p2) = d := ⟨_, rfl⟩
  rw [hsclL] at tscl; have EsclL := Lib.hid hsclL; clear hsclL
  obtain ⟨sclH, hsclH⟩ : ∃ d, hi2 (mulD a p2) (mulD b p2) = d := ⟨_, rfl⟩
  rw [hsclH] at tscl; have EsclH := Lib.hid hsclH; clear hsclH
  obtain ⟨sclN, hsclN⟩ : ∃ d, mulD p1 p2 = d := ⟨_, rfl⟩
  rw [hsclN] at tscl; have EsclN := Lib.hid hsclN; clear hsclN
  have Tscl := Lib.hid tscl; clear tscl
  have thul := t_hul CX
  obtain ⟨hulL, hhulL⟩ : ∃ d, lo4 a b x y = d := ⟨_, rfl⟩
  rw [hhulL] at thul; have EhulL := Lib.hid hhulL; clear hhulL
  obtain ⟨hulH, hhulH⟩ : ∃ d, hi4 a b x y = d := ⟨_, rfl⟩
  rw [hhulH] at thul; have EhulH := Lib.hid hhulH; clear hhulH
  have Thul := Lib.hid thul.1; have Thum := Lib.hid thul.2; clear thul
  have tmag := t_mag CX
  obtain ⟨mgN, hmgN⟩ : ∃ d, absD p1 = d := ⟨_, rfl⟩; rw [hmgN] at tmag; have EmgN := Lib.hid hmgN; clear hmgN
  obtain ⟨mg, hmg⟩ : ∃ d, maxD (absD a) (absD b) = d := ⟨_, rfl⟩; rw [hmg] at tmag; have Emg := Lib.hid hmg; clear hmg
  obtain ⟨cv, hcv⟩ : ∃ d, cmpD mgN mg = d := ⟨_, rfl⟩; rw [hcv] at tmag; have Ecv := Lib.hid hcv; clear hcv
  obtain ⟨hcv0, tm1, tm2, tm3, tm4⟩ := tmag; have Tmg1 : Hid (mgN.ok ∧ len mgN.m ≤ 16777216) := ⟨tm1, by omega⟩; have Tmg2 : Hid (mg.ok ∧ len mg.m ≤ 16777216) := ⟨tm3, by omega⟩; clear tm1 tm2 tm3 tm4
  have LM1 : Hid (len a.m + len x.m ≤ 1048576) := by show _ ≤ _; omega
  have LM2 : Hid (len b.m + len x.m ≤ 1048576) := by show _ ≤ _; omega
  have LM3 : Hid (len a.m + len y.m ≤ 1048576) := by show _ ≤ _; omega
  have LM4 : Hid (len b.m + len y.m ≤ 1048576) := by show _ ≤ _; omega
  clear CX hT hP ha hb h la lb lx ly da db dx dy s0 t0 o1 l1 z1 b1 o2 l2 z2 b2 hp1 hp2
  go_enter Tryz.func3, Tryz.ntmps3
  go_wp2_with fail
  have HN := Lib.hid (ivs2 (((w.alloc (.cells #[.bool n1, .slice A k1 c1, I d1, .bool n2, .slice B k2 c2, I d2] 26)).alloc (.cells #[.bool n3, .slice X k3 c3, I d3, .bool n4, .slice Y k4 c4, I d4] 26)).alloc (.cells #[.int .u8 s, .int .u8 t] 27)) (w.heap.size + 1 + 1 + 1) (by simp) (n1 := n1) (n2 := n2) (n3 := n3) (n4 := n4) (A := A) (B := B) (X := X) (Y := Y) (k1 := k1) (c1 := c1) (k2 := k2) (c2 := c2) (k3 := k3) (c3 := c3) (k4 := k4) (c4 := c4) (d1 := d1) (d2 := d2) (d3 := d3) (d4 := d4) 26)
  with_reducible refine (ifew_any (b := true) HN.out (by simp) (by omega) ⟨fun _ => HFW.out, fun _ => rfl⟩).mono ?_
  rintro e wf ⟨rfl, hx⟩
  have HEF : Hid (Ext w wf) := ((((Ext.alloc _ _).trans (Ext.alloc _ _)).trans (Ext.alloc _ _)).trans (Ext.alloc _ _)).trans hx
  have Y0 : Hid (B6 wf w.heap.size (.bool n1) (.slice A k1 c1) (I d1) (.bool n2) (.slice B k2 c2) (I d2)) := ((((B6.new w _ _ _ _ _ _ _).ext (Ext.alloc _ _)).ext (Ext.alloc _ _)).ext (Ext.alloc _ _)).ext hx
  have Y1 : Hid (B6 wf (w.heap.size + 1) (.bool n3) (.slice X k3 c3) (I d3) (.bool n4) (.slice Y k4 c4) (I d4)) := by
    have z := B6.new (w.alloc (.cells #[.bool n1, .slice A k1 c1, I d1, .bool n2, .slice B k2 c2, I d2] 26)) (.bool n3) (.slice X k3 c3) (I d3) (.bool n4) (.slice Y k4 c4) (I d4) 26
    rw [show (w.alloc (.cells #[.bool n1, .slice A k1 c1, I d1, .bool n2, .slice B k2 c2, I d2] 26)).heap.size = w.heap.size + 1 by simp] at z
    exact ((z.ext (Ext.alloc _ _)).ext (Ext.alloc _ _)).ext hx
  have Y2 : Hid (B2 wf (w.heap.size + 1 + 1) (.int .u8 s) (.int .u8 t)) := by
    have z : B2 (((w.alloc (.cells #[.bool n1, .slice A k1 c1, I d1, .bool n2, .slice B k2 c2, I d2] 26)).alloc (.cells #[.bool n3, .slice X k3 c3, I d3, .bool n4, .slice Y k4 c4, I d4] 26)).alloc (.cells #[.int .u8 s, .int .u8 t] 27)) (w.heap.size + 1 + 1) (.int .u8 s) (.int .u8 t) := ⟨by go_simp, by go_simp⟩
    exact (z.ext (Ext.alloc _ _)).ext hx
  clear hx HN HFW
  go_wp2_with fail
  refine (iawake_any _ (HT.out.ext HEF.out) (HP.out.ext HEF.out)).mono ?_
  rintro e w0 ⟨rfl, hx⟩
  have X0 := Lib.hid (HEF.out.trans hx)
  have Z0 := Lib.hid (Y0.out.ext hx); have Z1 := Lib.hid (Y1.out.ext hx); have Z2 := Lib.hid (Y2.out.ext hx)
  clear hx Y0 Y1 Y2 HEF
  go_upto_region 3 with fail
  have HS3 : Hid (∀ w', Ext w0 w' → w'.cell? ⟨w.heap.size, 0, none⟩ = some (.bool n1) ∧ w'.cell? ⟨w.heap.size, 1, none⟩ = some (.slice A k1 c1) ∧ w'.cell? ⟨w.heap.size, 2, none⟩ = some (I d1) ∧ w'.cell? ⟨w.heap.size, 3, none⟩ = some (.bool n2) ∧ w'.cell? ⟨w.heap.size, 4, none⟩ = some (.slice B k2 c2) ∧ w'.cell? ⟨w.heap.size, 5, none⟩ = some (I d2) ∧ w'.cell? ⟨w.heap.size + 1, 0, none⟩ = some (.bool n3) ∧ w'.cell? ⟨w.heap.size + 1, 1, none⟩ = some (.slice X k3 c3) ∧ w'.cell? ⟨w.heap.size + 1, 2, none⟩ = some (I d3) ∧ w'.cell? ⟨w.heap.size + 1, 3, none⟩ = some (.bool n4) ∧ w'.cell? ⟨w.heap.size + 1, 4, none⟩ = some (.slice Y k4 c4) ∧ w'.cell? ⟨w.heap.size + 1, 5, none⟩ = some (I d4) ∧ w'.cell? ⟨w.heap.size + 1 + 1, 0, none⟩ = some (.int .u8 s) ∧ w'.cell? ⟨w.heap.size + 1 + 1, 1, none⟩ = some (.int .u8 t)) := fun w' e => by
    obtain ⟨⟨i0, i1, i2, i3, i4, i5⟩, iz⟩ := Z0.out.ext e; obtain ⟨⟨j0, j1, j2, j3, j4, j5⟩, jz⟩ := Z1.out.ext e; obtain ⟨u0, u1⟩ := Z2.out.ext e
    exact ⟨i0, i1, i2, i3, i4, i5, j0, j1, j2, j3, j4, j5, u0, u1⟩
  have hz0 : w.heap.size + 1 + 1 < w0.heap.size := World.block_lt_of_cell? w0 _ Z2.out.1
  go_cut [7, 8] (fun s7 s8 wx => ∃ p q F1 f1 F2 f2, s7 = .pointer (some ⟨p, 0, none⟩) ∧ s8 = .pointer (some ⟨q, 0, none⟩) ∧ Hid (Ext w0 wx ∧ C3 wx p p1 F1 f1 ∧ C3 wx q p2 F2 f2 ∧ (Rd wx F1 (len p1.m) (dg p1.m) ∧ SlOk F1 (len p1.m) f1) ∧ (Rd wx F2 (len p2.m) (dg p2.m) ∧ SlOk F2 (len p2.m) f2)))
  case first =>
    clear HT HP Tcon Thul Thum EhulL EhulH EmgN Emg Ecv Tmg1 Tmg2 hcv0 LM1 LM2 LM3 LM4 W1 W2 Z0 Z1 Z2 EnegL EnegH EnegN EabsL EabsH EabsN EaddL EaddH EaddN EsubL EsubH EsubN EmulL EmulH EmulN EminL EminH EminN EmaxL EmaxH EmaxN EsclL EsclH EsclN Tneg Tabs Tadd Tsub Tmul Tmin Tmax Tscl
    go_region_held3 (fun w' => w'.cell? ⟨w.heap.size, 0, none⟩ = some (.bool n1) ∧ w'.cell? ⟨w.heap.size, 1, none⟩ = some (.slice A k1 c1) ∧ w'.cell? ⟨w.heap.size, 2, none⟩ = some (I d1) ∧ w'.cell? ⟨w.heap.size, 3, none⟩ = some (.bool n2) ∧ w'.cell? ⟨w.heap.size, 4, none⟩ = some (.slice B k2 c2) ∧ w'.cell? ⟨w.heap.size, 5, none⟩ = some (I d2) ∧ w'.cell? ⟨w.heap.size + 1, 0, none⟩ = some (.bool n3) ∧ w'.cell? ⟨w.heap.size + 1, 1, none⟩ = some (.slice X k3 c3) ∧ w'.cell? ⟨w.heap.size + 1, 2, none⟩ = some (I d3) ∧ w'.cell? ⟨w.heap.size + 1, 3, none⟩ = some (.bool n4) ∧ w'.cell? ⟨w.heap.size + 1, 4, none⟩ = some (.slice Y k4 c4) ∧ w'.cell? ⟨w.heap.size + 1, 5, none⟩ = some (I d4) ∧ w'.cell? ⟨w.heap.size + 1 + 1, 0, none⟩ = some (.int .u8 s) ∧ w'.cell? ⟨w.heap.size + 1 + 1, 1, none⟩ = some (.int .u8 t)) (first | with_reducible assumption | exact HS3.out _ (by (with_reducible (repeat (first | exact Ext.refl _ | assumption | (refine Ext.toSet ?_ (by omega)) | refine Ext.toAlloc ?_ | refine Ext.toDrew ?_ | refine Ext.toDrewN ?_ | refine Ext.trans ?_ (by assumption)))); (first | done | fail "no")))
      (first
        | (have hg := hx1; clear hg; go_at_call 10; (with_reducible refine (pick_any (HB.out.ext (X0.out.trans (by (with_reducible (repeat (first | exact Ext.refl _ | assumption | (refine Ext.toSet ?_ (by omega)) | refine Ext.toAlloc ?_ | refine Ext.toDrew ?_ | refine Ext.toDrewN ?_ | refine Ext.trans ?_ (by assumption)))); (first | done | fail "no")))) HT0.out.1 HT0.out.2).mono ?_); rw [P2.out]; rintro e w2 ⟨F2, f2, rfl, hon, hx2⟩; obtain ⟨lo2, hi2, ⟨y5, y6, y7, y8⟩, hn⟩ := Nr.all hon; have N2 := Lib.hid hn; clear hn hon; (try simp only [World.size_alloc] at y5 y6); have M1 := Lib.hid (N1.out.ext (show Ext w1 w2 from (by (with_reducible (repeat (first | exact Ext.refl _ | assumption | (refine Ext.toSet ?_ (by omega)) | refine Ext.toAlloc ?_ | refine Ext.toDrew ?_ | refine Ext.toDrewN ?_ | refine Ext.trans ?_ (by assumption)))); (first | done | fail "no")))); have g2 := Ext.size hx2; (try simp only [World.size_alloc] at g2); (first | (have V1 := Lib.hid (U1.out.ext hx2); have V2 := Lib.hid (U2.out.ext hx2); obtain ⟨⟨v10, v11, v12⟩, v1z⟩ := V1.out; obtain ⟨⟨v20, v21, v22⟩, v2z⟩ := V2.out; have l1 := V1.out.lt; have m1 := Nat.ne_of_lt l1; have r1 := Nat.ne_of_gt l1; have l2 := V2.out.lt; have m2 := Nat.ne_of_lt l2; have r2 := Nat.ne_of_gt l2) | ((with_reducible have u2 := one_new hx2); have V2 := Lib.hid u2; have V1 := Lib.hid (U1.out.ext ((Ext.alloc _ _).trans hx2)); clear u2; obtain ⟨⟨v10, v11, v12⟩, v1z⟩ := V1.out; obtain ⟨⟨v20, v21, v22⟩, v2z⟩ := V2.out; have l1 := V1.out.lt; have m1 := Nat.ne_of_lt l1; have r1 := Nat.ne_of_gt l1; have l2 := V2.out.lt; have m2 := Nat.ne_of_lt l2; have r2 := Nat.ne_of_gt l2) | (have V1 := Lib.hid (U1.out.ext hx2); obtain ⟨⟨v10, v11, v12⟩, v1z⟩ := V1.out; have l1 := V1.out.lt; have m1 := Nat.ne_of_lt l1; have r1 := Nat.ne_of_gt l1) | ((with_reducible have uu := two_new hx2); obtain ⟨u1, u2⟩ := uu; have V1 := Lib.hid u1; have V2 := Lib.hid u2; clear u1 u2; obtain ⟨⟨v10, v11, v12⟩, v1z⟩ := V1.out; obtain ⟨⟨v20, v21, v22⟩, v2z⟩ := V2.out; have l1 := V1.out.lt; have m1 := Nat.ne_of_lt l1; have r1 := Nat.ne_of_gt l1; have l2 := V2.out.lt; have m2 := Nat.ne_of_lt l2; have r2 := Nat.ne_of_gt l2) | ((with_reducible have u1 := one_new hx2); have V1 := Lib.hid u1; clear u1; obtain ⟨⟨v10, v11, v12⟩, v1z⟩ := V1.out; have l1 := V1.out.lt; have m1 := Nat.ne_of_lt l1; have r1 := Nat.ne_of_gt l1) | skip))
        | (go_at_call 10; (with_reducible refine (pick_any (HA.out.ext (X0.out.trans (by (with_reducible (repeat (first | exact Ext.refl _ | assumption | (refine Ext.toSet ?_ (by omega)) | refine Ext.toAlloc ?_ | refine Ext.toDrew ?_ | refine Ext.toDrewN ?_ | refine Ext.trans ?_ (by assumption)))); (first | done | fail "no")))) HS0.out.1 HS0.out.2).mono ?_); rw [P1.out]; rintro e w1 ⟨F1, f1, rfl, hon, hx1⟩; obtain ⟨lo1, hi1, ⟨y1, y2, y3, y4⟩, hn⟩ := Nr.all hon; have N1 := Lib.hid hn; clear hn hon; (try simp only [World.size_drew, World.size_alloc] at y1 y2); have g1 := Ext.size hx1; (try simp only [World.size_drew, World.size_alloc] at g1); (first | ((with_reducible have uu := two_newd hx1); obtain ⟨u1, u2⟩ := uu; have U1 := Lib.hid u1; have U2 := Lib.hid u2; clear u1 u2) | ((with_reducible have u1 := one_newd hx1); have U1 := Lib.hid u1; clear u1) | skip)))
    all_goals
      go_wp2_with fail
      go_meet
      refine ⟨_, _, F1, f1, F2, f2, rfl, rfl, (by (with_reducible (repeat (first | exact Ext.refl _ | assumption | (refine Ext.toSet ?_ (by omega)) | refine Ext.toAlloc ?_ | refine Ext.toDrew ?_ | refine Ext.toDrewN ?_ | refine Ext.trans ?_ (by assumption)))); (first | done | fail "no")), ⟨by go_simp, by go_simp, by go_simp⟩, ⟨by go_simp, by go_simp, by go_simp⟩, ?_, ?_⟩
      · exact Nr.done (lo := lo1) (hi := hi1) (by (with_reducible (repeat (first | exact M1.out | exact N2.out | (refine Nr.toSet ?_ (by omega)) | refine Nr.toAlloc ?_))))
      · exact Nr.done (lo := lo2) (hi := hi2) (by (with_reducible (repeat (first | exact M1.out | exact N2.out | (refine Nr.toSet ?_ (by omega)) | refine Nr.toAlloc ?_))))
  case rest =>
    obtain ⟨p, q, F1, f1, F2, f2, rfl, rfl, hc⟩ := hcut
    obtain ⟨x6, hp, hq, h1, h2⟩ := hc.out
    have XW := Lib.hid (X0.out.trans x6)
    have DX := Lib.hid (Dy.valid h1.1 h1.2 W1.out.1 (Nat.le_trans W1.out.2 (by decide)))
    have DY := Lib.hid (Dy.valid h2.1 h2.2 W2.out.1 (Nat.le_trans W2.out.2 (by decide)))
    have Q0 := Lib.hid (Z0.out.ext x6); have Q1 := Lib.hid (Z1.out.ext x6); have QP := Lib.hid hp; have QQ := Lib.hid hq
    clear hc x6 hp hq h1 h2 Z0 Z1 Z2 X0 HS3 hz0 HS0 HT0 P1 P2 W1
    go_upto_region 4 with fail
    have HS : Hid (∀ w', Ext wc w' → w'.cell? ⟨w.heap.size, 0, none⟩ = some (.bool n1) ∧ w'.cell? ⟨w.heap.size, 1, none⟩ = some (.slice A k1 c1) ∧ w'.cell? ⟨w.heap.size, 2, none⟩ = some (I d1) ∧ w'.cell? ⟨w.heap.size, 3, none⟩ = some (.bool n2) ∧ w'.cell? ⟨w.heap.size, 4, none⟩ = some (.slice B k2 c2) ∧ w'.cell? ⟨w.heap.size, 5, none⟩ = some (I d2) ∧ w'.cell? ⟨w.heap.size + 1, 0, none⟩ = some (.bool n3) ∧ w'.cell? ⟨w.heap.size + 1, 1, none⟩ = some (.slice X k3 c3) ∧ w'.cell? ⟨w.heap.size + 1, 2, none⟩ = some (I d3) ∧ w'.cell? ⟨w.heap.size + 1, 3, none⟩ = some (.bool n4) ∧ w'.cell? ⟨w.heap.size + 1, 4, none⟩ = some (.slice Y k4 c4) ∧ w'.cell? ⟨w.heap.size + 1, 5, none⟩ = some (I d4) ∧ w'.cell? ⟨p, 0, none⟩ = some (.bool p1.neg) ∧ w'.cell? ⟨p, 1, none⟩ = some (.slice F1 (len p1.m) f1) ∧ w'.cell? ⟨p, 2, none⟩ = some (I p1.den) ∧ w'.cell? ⟨q, 0, none⟩ = some (.bool p2.neg) ∧ w'.cell? ⟨q, 1, none⟩ = some (.slice F2 (len p2.m) f2) ∧ w'.cell? ⟨q, 2, none⟩ = some (I p2.den)) := fun w' e => by
      obtain ⟨⟨i0, i1, i2, i3, i4, i5⟩, iz⟩ := Q0.out.ext e; obtain ⟨⟨j0, j1, j2, j3, j4, j5⟩, jz⟩ := Q1.out.ext e; obtain ⟨s0, s1, s2⟩ := QP.out.ext e; obtain ⟨t0, t1, t2⟩ := QQ.out.ext e
      exact ⟨i0, i1, i2, i3, i4, i5, j0, j1, j2, j3, j4, j5, s0, s1, s2, t0, t1, t2⟩
    clear Q0 Q1 QP QQ
    have HC0 := Lib.hid (Ext.drew wc)
    have hk := HS.out _ HC0.out
    (try dsimp only [List.append])
    refine wp_region_noPanic ?_
    refine wp_region_held_drew (S := fun w' => w'.cell? ⟨w.heap.size, 0, none⟩ = some (.bool n1) ∧ w'.cell? ⟨w.heap.size, 1, none⟩ = some (.slice A k1 c1) ∧ w'.cell? ⟨w.heap.size, 2, none⟩ = some (I d1) ∧ w'.cell? ⟨w.heap.size, 3, none⟩ = some (.bool n2) ∧ w'.cell? ⟨w.heap.size, 4, none⟩ = some (.slice B k2 c2) ∧ w'.cell? ⟨w.heap.size, 5, none⟩ = some (I d2) ∧ w'.cell? ⟨w.heap.size + 1, 0, none⟩ = some (.bool n3) ∧ w'.cell? ⟨w.heap.size + 1, 1, none⟩ = some (.slice X k3 c3) ∧ w'.cell? ⟨w.heap.size + 1, 2, none⟩ = some (I d3) ∧ w'.cell? ⟨w.heap.size + 1, 3, none⟩ = some (.bool n4) ∧ w'.cell? ⟨w.heap.size + 1, 4, none⟩ = some (.slice Y k4 c4) ∧ w'.cell? ⟨w.heap.size + 1, 5, none⟩ = some (I d4) ∧ w'.cell? ⟨p, 0, none⟩ = some (.bool p1.neg) ∧ w'.cell? ⟨p, 1, none⟩ = some (.slice F1 (len p1.m) f1) ∧ w'.cell? ⟨p, 2, none⟩ = some (I p1.den) ∧ w'.cell? ⟨q, 0, none⟩ = some (.bool p2.neg) ∧ w'.cell? ⟨q, 1, none⟩ = some (.slice F2 (len p2.m) f2) ∧ w'.cell? ⟨q, 2, none⟩ = some (I p2.den)) (by kernel_rfl) ?_ (fun hHeld => ?_)
    · exact hk
    refine wpAnyH_take (i := 0) (oi := { dst := some 27, op := Op.load 26 (Operand.tmp 3), type := 26, pos := "law.go:108", after := #[], guard := none }) (v := ?_) rfl (by as_aux_lemma => kernel_rfl) (by as_aux_lemma => kernel_rfl) (by as_aux_lemma => kernel_rfl) (fun _ _ _ h => h) (Or.inl ⟨by rfl, ?hy⟩) hHeld ?_
    case hy => ((intro w' hSw; (try dsimp only at hSw); go_simp); (try with_reducible rfl))
    (try simp only [Act.put, List.setIfInBounds_toArray, List.set_cons_zero, List.set_cons_succ])
    refine wpAnyH_take (i := 1) (oi := { dst := some 28, op := Op.load 24 (Operand.tmp 7), type := 24, pos := "law.go:108", after := #[], guard := none }) (v := ?_) rfl (by as_aux_lemma => kernel_rfl) (by as_aux_lemma => kernel_rfl) (by as_aux_lemma => kernel_rfl) (fun _ _ _ h => h) (Or.inl ⟨by rfl, ?hy⟩) hHeld ?_
    case hy => ((intro w' hSw; (try dsimp only at hSw); go_simp); (try with_reducible rfl))
    (try simp only [Act.put, List.setIfInBounds_toArray, List.set_cons_zero, List.set_cons_succ])
    refine wpAnyH_ready (rs := [2]) (by as_aux_lemma => kernel_rfl) (by simp) ?_
    refine AllReadyH.cons (o := { dst := some 29, op := Op.call { callee := Callee.value (Operand.func 11), args := #[Operand.tmp 27, Operand.tmp 28], argTypes := #[26, 24] }, type := 4, pos := "law.go:108", after := #[{ on := 0, ground := Ground.data }, { on := 1, ground := Ground.data }], guard := none }) rfl (fun K hK => ?_) AllReadyH.nil
    go_simp
    (go_at_call 11; (with_reducible refine (contains_any (HA.out.ext (XW.out.trans HC0.out)) (DX.out.ext HC0.out)).mono ?_); rw [Tcon.out.2.2.2.2.2]; rintro e w11 ⟨rfl, hx⟩; have HC1 := Lib.hid (Ext.trans HC0.out hx); have HL1 := Lib.hid hx; clear hx hk; have hk := HS.out _ HC1.out)
    (try go_wp2_with fail)
    refine hK.out _ _ hk (fun hHeld' => ?_)
    clear hK K hHeld
    have hHeld := hHeld'
    clear hHeld'
    (try simp only [Act.put, List.setIfInBounds_toArray, List.set_cons_zero, List.set_cons_succ])
    refine wpAnyH_take (i := 3) (oi := { dst := some 30, op := Op.move (Operand.tmp 29), type := 4, pos := "law.go:108", after := #[{ on := 2, ground := Ground.data }, { on := 2, ground := Ground.chain }], guard := none }) (v := ?_) rfl (by as_aux_lemma => kernel_rfl) (by as_aux_lemma => kernel_rfl) (by as_aux_lemma => kernel_rfl) (fun _ _ _ h => h) (Or.inl ⟨by rfl, ?hy⟩) hHeld ?_
    case hy => ((intro w' hSw; (try dsimp only at hSw); go_simp); (try with_reducible rfl))
    (try simp only [Act.put, List.setIfInBounds_toArray, List.set_cons_zero, List.set_cons_succ])
    refine wpAnyH_take (i := 4) (oi := { dst := some 31, op := Op.load 26 (Operand.tmp 3), type := 26, pos := "law.go:108", after := #[{ on := 3, ground := Ground.guard }], guard := some (3, true) }) (v := ?_) rfl (by as_aux_lemma => kernel_rfl) (by as_aux_lemma => kernel_rfl) (by as_aux_lemma => kernel_rfl) (fun _ _ _ h => h) (Or.inl ⟨by rfl, ?hy⟩) hHeld ?_
    case hy => ((intro w' hSw; (try dsimp only at hSw); go_simp); (try with_reducible rfl))
    (try simp only [Act.put, List.setIfInBounds_toArray, List.set_cons_zero, List.set_cons_succ])
    refine wpAnyH_take (i := 6) (oi := { dst := some 33, op := Op.load 24 (Operand.tmp 7), type := 24, pos := "law.go:108", after := #[{ on := 3, ground := Ground.guard }], guard := some (3, true) }) (v := ?_) rfl (by as_aux_lemma => kernel_rfl) (by as_aux_lemma => kernel_rfl) (by as_aux_lemma => kernel_rfl) (fun _ _ _ h => h) (Or.inl ⟨by rfl, ?hy⟩) hHeld ?_
    case hy => ((intro w' hSw; (try dsimp only at hSw); go_simp); (try with_reducible rfl))
    (try simp only [Act.put, List.setIfInBounds_toArray, List.set_cons_zero, List.set_cons_succ])
    refine wpAnyH_ready (rs := [5]) (by as_aux_lemma => kernel_rfl) (by simp) ?_
    refine AllReadyH.cons (o := { dst := some 32, op := Op.call { callee := Callee.value (Operand.func 12), args := #[Operand.tmp 31], argTypes := #[26] }, type := 26, pos := "law.go:108", after := #[{ on := 4, ground := Ground.data }, { on := 3, ground := Ground.chain }, { on := 3, ground := Ground.guard }], guard := some (3, true) }) rfl (fun K hK => ?_) AllReadyH.nil
    go_simp
    (go_at_call 12; (with_reducible refine (ineg_any (HA.out.ext (XW.out.trans HC1.out)) (HT.out.ext (XW.out.trans HC1.out))).mono ?_); rw [EnegL.out, EnegH.out]; rintro e w12 ⟨A22, c22, B22, k22, rfl, hfa, hfb, hx⟩; have HC2 := Lib.hid (Ext.trans HC1.out hx); have HL2 := Lib.hid hx; have IR := Lib.hid (IvRes.at_ hfa hfb Tneg.out.1 Tneg.out.2.1 Tneg.out.2.2.1 (Ext.refl _)); clear hfa hfb; clear hx hk; have hk := HS.out _ HC2.out)
    (try go_wp2_with fail)
    refine hK.out _ _ hk (fun hHeld' => ?_)
    clear hK K hHeld
    have hHeld := hHeld'
    clear hHeld'
    (try simp only [Act.put, List.setIfInBounds_toArray, List.set_cons_zero, List.set_cons_succ])
    refine wpAnyH_ready (rs := [7]) (by as_aux_lemma => kernel_rfl) (by simp) ?_
    refine AllReadyH.cons (o := { dst := some 34, op := Op.call { callee := Callee.value (Operand.func 13), args := #[Operand.tmp 33], argTypes := #[24] }, type := 24, pos := "law.go:108", after := #[{ on := 6, ground := Ground.data }, { on := 5, ground := Ground.chain }, { on := 3, ground := Ground.guard }], guard := some (3, true) }) rfl (fun K hK => ?_) AllReadyH.nil
    go_simp
    (go_at_call 13; (with_reducible refine (neg_any (DX.out.ext HC2.out) (HT.out.ext (XW.out.trans HC2.out))).mono ?_); rw [EnegN.out]; rintro e w13 ⟨A23, c23, rfl, hon, hx⟩; have HC3 := Lib.hid (Ext.trans HC2.out hx); have HL3 := Lib.hid hx; have DR := Lib.hid (Dy.of_on hon Tneg.out.2.2.2.1 (Nat.le_trans Tneg.out.2.2.2.2.1 (by decide)) (Ext.refl _)); clear hon; clear hx hk; have hk := HS.out _ HC3.out)
    (try go_wp2_with fail)
    refine hK.out _ _ hk (fun hHeld' => ?_)
    clear hK K hHeld
    have hHeld := hHeld'
    clear hHeld'
    (try simp only [Act.put, List.setIfInBounds_toArray, List.set_cons_zero, List.set_cons_succ])
    refine wpAnyH_ready (rs := [8]) (by as_aux_lemma => kernel_rfl) (by simp) ?_
    refine AllReadyH.cons (o := { dst := some 35, op := Op.call { callee := Callee.value (Operand.func 11), args := #[Operand.tmp 32, Operand.tmp 34], argTypes := #[26, 24] }, type := 4, pos := "law.go:108", after := #[{ on := 5, ground := Ground.data }, { on := 7, ground := Ground.data }, { on := 7, ground := Ground.chain }, { on := 3, ground := Ground.guard }], guard := some (3, true) }) rfl (fun K hK => ?_) AllReadyH.nil
    go_simp
    (go_at_call 11; (with_reducible refine (contains_any (IR.out.ext HL3.out) DR.out).mono ?_); rw [Tneg.out.2.2.2.2.2]; rintro e w14 ⟨rfl, hx⟩; have HC4 := Lib.hid (Ext.trans HC3.out hx); have HL4 := Lib.hid hx; clear hx hk IR DR; have hk := HS.out _ HC4.out)
    (try go_wp2_with fail)
    refine hK.out _ _ hk (fun hHeld' => ?_)
    clear hK K hHeld
    have hHeld := hHeld'
    clear hHeld'
    (try simp only [Act.put, List.setIfInBounds_toArray, List.set_cons_zero, List.set_cons_succ])
    refine wpAnyH_take (i := 9) (oi := { dst := some 36, op := Op.pick (Operand.tmp 30) (Operand.tmp 35) (Operand.const (Value.bool false)), type := 4, pos := "law.go:108", after := #[{ on := 3, ground := Ground.data }, { on := 8, ground := Ground.data }], guard := none }) (v := ?_) rfl (by as_aux_lemma => kernel_rfl) (by as_aux_lemma => kernel_rfl) (by as_aux_lemma => kernel_rfl) (fun _ _ _ h => h) (Or.inl ⟨by rfl, ?hy⟩) hHeld ?_
    case hy => ((intro w' hSw; (try dsimp only at hSw); go_simp); (try with_reducible rfl))
    (try simp only [Act.put, List.setIfInBounds_toArray, List.set_cons_zero, List.set_cons_succ])
    refine wpAnyH_take (i := 10) (oi := { dst := some 37, op := Op.move (Operand.tmp 36), type := 4, pos := "law.go:108", after := #[{ on := 9, ground := Ground.data }, { on := 8, ground := Ground.chain }], guard := none }) (v := ?_) rfl (by as_aux_lemma => kernel_rfl) (by as_aux_lemma => kernel_rfl) (by as_aux_lemma => kernel_rfl) (fun _ _ _ h => h) (Or.inl ⟨by rfl, ?hy⟩) hHeld ?_
    case hy => ((intro w' hSw; (try dsimp only at hSw); go_simp); (try with_reducible rfl))
    (try simp only [Act.put, List.setIfInBounds_toArray, List.set_cons_zero, List.set_cons_succ])
    refine wpAnyH_take (i := 11) (oi := { dst := some 38, op := Op.load 26 (Operand.tmp 3), type := 26, pos := "law.go:108", after := #[{ on := 10, ground := Ground.guard }], guard := some (10, true) }) (v := ?_) rfl (by as_aux_lemma => kernel_rfl) (by as_aux_lemma => kernel_rfl) (by as_aux_lemma => kernel_rfl) (fun _ _ _ h => h) (Or.inl ⟨by rfl, ?hy⟩) hHeld ?_
    case hy => ((intro w' hSw; (try dsimp only at hSw); go_simp); (try with_reducible rfl))
    (try simp only [Act.put, List.setIfInBounds_toArray, List.set_cons_zero, List.set_cons_succ])
    refine wpAnyH_take (i := 13) (oi := { dst := some 40, op := Op.load 24 (Operand.tmp 7), type := 24, pos := "law.go:108", after := #[{ on := 10, ground := Ground.guard }], guard := some (10, true) }) (v := ?_) rfl (by as_aux_lemma => kernel_rfl) (by as_aux_lemma => kernel_rfl) (by as_aux_lemma => kernel_rfl) (fun _ _ _ h => h) (Or.inl ⟨by rfl, ?hy⟩) hHeld ?_
    case hy => ((intro w' hSw; (try dsimp only at hSw); go_simp); (try with_reducible rfl))
    (try simp only [Act.put, List.setIfInBounds_toArray, List.set_cons_zero, List.set_cons_succ])
    refine wpAnyH_ready (rs := [12]) (by as_aux_lemma => kernel_rfl) (by simp) ?_
    refine AllReadyH.cons (o := { dst := some 39, op := Op.call { callee := Callee.value (Operand.func 14), args := #[Operand.tmp 38], argTypes := #[26] }, type := 26, pos := "law.go:108", after := #[{ on := 11, ground := Ground.data }, { on := 10, ground := Ground.chain }, { on := 10, ground := Ground.guard }], guard := some (10, true) }) rfl (fun K hK => ?_) AllReadyH.nil
    go_simp
    (go_at_call 14; (with_reducible refine (iabs_any (HA.out.ext (XW.out.trans HC4.out)) (HT.out.ext (XW.out.trans HC4.out))).mono ?_); rw [EabsL.out, EabsH.out]; rintro e w15 ⟨A25, c25, B25, k25, rfl, hfa, hfb, hx⟩; have HC5 := Lib.hid (Ext.trans HC4.out hx); have HL5 := Lib.hid hx; have IR := Lib.hid (IvRes.at_ hfa hfb Tabs.out.1 Tabs.out.2.1 Tabs.out.2.2.1 (Ext.refl _)); clear hfa hfb; clear hx hk; have hk := HS.out _ HC5.out)
    (try go_wp2_with fail)
    refine hK.out _ _ hk (fun hHeld' => ?_)
    clear hK K hHeld
    have hHeld := hHeld'
    clear hHeld'
    (try simp only [Act.put, List.setIfInBounds_toArray, List.set_cons_zero, List.set_cons_succ])
    refine wpAnyH_ready (rs := [14]) (by as_aux_lemma => kernel_rfl) (by simp) ?_
    refine AllReadyH.cons (o := { dst := some 41, op := Op.call { callee := Callee.value (Operand.func 15), args := #[Operand.tmp 40], argTypes := #[24] }, type := 24, pos := "law.go:108", after := #[{ on := 13, ground := Ground.data }, { on := 12, ground := Ground.chain }, { on := 10, ground := Ground.guard }], guard := some (10, true) }) rfl (fun K hK => ?_) AllReadyH.nil
    go_simp
    (go_at_call 15; (with_reducible refine (abs_any (DX.out.ext HC5.out) (HT.out.ext (XW.out.trans HC5.out))).mono ?_); rw [EabsN.out]; rintro e w16 ⟨A26, c26, rfl, hon, hx⟩; have HC6 := Lib.hid (Ext.trans HC5.out hx); have HL6 := Lib.hid hx; have DR := Lib.hid (Dy.of_on hon Tabs.out.2.2.2.1 (Nat.le_trans Tabs.out.2.2.2.2.1 (by decide)) (Ext.refl _)); clear hon; clear hx hk; have hk := HS.out _ HC6.out)
    (try go_wp2_with fail)
    refine hK.out _ _ hk (fun hHeld' => ?_)
    clear hK K hHeld
    have hHeld := hHeld'
    clear hHeld'
    (try simp only [Act.put, List.setIfInBounds_toArray, List.set_cons_zero, List.set_cons_succ])
    refine wpAnyH_ready (rs := [15]) (by as_aux_lemma => kernel_rfl) (by simp) ?_
    refine AllReadyH.cons (o := { dst := some 42, op := Op.call { callee := Callee.value (Operand.func 11), args := #[Operand.tmp 39, Operand.tmp 41], argTypes := #[26, 24] }, type := 4, pos := "law.go:108", after := #[{ on := 12, ground := Ground.data }, { on := 14, ground := Ground.data }, { on := 14, ground := Ground.chain }, { on := 10, ground := Ground.guard }], guard := some (10, true) }) rfl (fun K hK => ?_) AllReadyH.nil
    go_simp
    (go_at_call 11; (with_reducible refine (contains_any (IR.out.ext HL6.out) DR.out).mono ?_); rw [Tabs.out.2.2.2.2.2]; rintro e w17 ⟨rfl, hx⟩; have HC7 := Lib.hid (Ext.trans HC6.out hx); have HL7 := Lib.hid hx; clear hx hk IR DR; have hk := HS.out _ HC7.out)
    (try go_wp2_with fail)
    refine hK.out _ _ hk (fun hHeld' => ?_)
    clear hK K hHeld
    have hHeld := hHeld'
    clear hHeld'
    (try simp only [Act.put, List.setIfInBounds_toArray, List.set_cons_zero, List.set_cons_succ])
    refine wpAnyH_take (i := 16) (oi := { dst := some 43, op := Op.pick (Operand.tmp 37) (Operand.tmp 42) (Operand.const (Value.bool false)), type := 4, pos := "law.go:108", after := #[{ on := 10, ground := Ground.data }, { on := 15, ground := Ground.data }], guard := none }) (v := ?_) rfl (by as_aux_lemma => kernel_rfl) (by as_aux_lemma => kernel_rfl) (by as_aux_lemma => kernel_rfl) (fun _ _ _ h => h) (Or.inl ⟨by rfl, ?hy⟩) hHeld ?_
    case hy => ((intro w' hSw; (try dsimp only at hSw); go_simp); (try with_reducible rfl))
    (try simp only [Act.put, List.setIfInBounds_toArray, List.set_cons_zero, List.set_cons_succ])
    refine wpAnyH_take (i := 17) (oi := { dst := some 44, op := Op.move (Operand.tmp 43), type := 4, pos := "law.go:108", after := #[{ on := 16, ground := Ground.data }, { on := 15, ground := Ground.chain }], guard := none }) (v := ?_) rfl (by as_aux_lemma => kernel_rfl) (by as_aux_lemma => kernel_rfl) (by as_aux_lemma => kernel_rfl) (fun _ _ _ h => h) (Or.inl ⟨by rfl, ?hy⟩) hHeld ?_
    case hy => ((intro w' hSw; (try dsimp only at hSw); go_simp); (try with_reducible rfl))
    (try simp only [Act.put, List.setIfInBounds_toArray, List.set_cons_zero, List.set_cons_succ])
    refine wpAnyH_take (i := 18) (oi := { dst := some 45, op := Op.load 26 (Operand.tmp 3), type := 26, pos := "law.go:108", after := #[{ on := 17, ground := Ground.guard }], guard := some (17, true) }) (v := ?_) rfl (by as_aux_lemma => kernel_rfl) (by as_aux_lemma => kernel_rfl) (by as_aux_lemma => kernel_rfl) (fun _ _ _ h => h) (Or.inl ⟨by rfl, ?hy⟩) hHeld ?_
    case hy => ((intro w' hSw; (try dsimp only at hSw); go_simp); (try with_reducible rfl))
    (try simp only [Act.put, List.setIfInBounds_toArray, List.set_cons_zero, List.set_cons_succ])
    refine wpAnyH_take (i := 19) (oi := { dst := some 46, op := Op.load 26 (Operand.tmp 4), type := 26, pos := "law.go:108", after := #[{ on := 17, ground := Ground.guard }], guard := some (17, true) }) (v := ?_) rfl (by as_aux_lemma => kernel_rfl) (by as_aux_lemma => kernel_rfl) (by as_aux_lemma => kernel_rfl) (fun _ _ _ h => h) (Or.inl ⟨by rfl, ?hy⟩) hHeld ?_
    case hy => ((intro w' hSw; (try dsimp only at hSw); go_simp); (try with_reducible rfl))
    (try simp only [Act.put, List.setIfInBounds_toArray, List.set_cons_zero, List.set_cons_succ])
    refine wpAnyH_take (i := 21) (oi := { dst := some 48, op := Op.load 24 (Operand.tmp 7), type := 24, pos := "law.go:108", after := #[{ on := 17, ground := Ground.guard }], guard := some (17, true) }) (v := ?_) rfl (by as_aux_lemma => kernel_rfl) (by as_aux_lemma => kernel_rfl) (by as_aux_lemma => kernel_rfl) (fun _ _ _ h => h) (Or.inl ⟨by rfl, ?hy⟩) hHeld ?_
    case hy => ((intro w' hSw; (try dsimp only at hSw); go_simp); (try with_reducible rfl))
    (try simp only [Act.put, List.setIfInBounds_toArray, List.set_cons_zero, List.set_cons_succ])
    refine wpAnyH_take (i := 22) (oi := { dst := some 49, op := Op.load 24 (Operand.tmp 8), type := 24, pos := "law.go:108", after := #[{ on := 17, ground := Ground.guard }], guard := some (17, true) }) (v := ?_) rfl (by as_aux_lemma => kernel_rfl) (by as_aux_lemma => kernel_rfl) (by as_aux_lemma => kernel_rfl) (fun _ _ _ h => h) (Or.inl ⟨by rfl, ?hy⟩) hHeld ?_
    case hy => ((intro w' hSw; (try dsimp only at hSw); go_simp); (try with_reducible rfl))
    (try simp only [Act.put, List.setIfInBounds_toArray, List.set_cons_zero, List.set_cons_succ])
    refine wpAnyH_ready (rs := [20]) (by as_aux_lemma => kernel_rfl) (by simp) ?_
    refine AllReadyH.cons (o := { dst := some 47, op := Op.call { callee := Callee.value (Operand.func 16), args := #[Operand.tmp 45, Operand.tmp 46], argTypes := #[26, 26] }, type := 26, pos := "law.go:108", after := #[{ on := 18, ground := Ground.data }, { on := 19, ground := Ground.data }, { on := 17, ground := Ground.chain }, { on := 17, ground := Ground.guard }], guard := some (17, true) }) rfl (fun K hK => ?_) AllReadyH.nil
    go_simp
    (go_at_call 16; (with_reducible refine (iadd_any (HA.out.ext (XW.out.trans HC7.out)) (HB.out.ext (XW.out.trans HC7.out)) (HT.out.ext (XW.out.trans HC7.out))).mono ?_); rw [EaddL.out, EaddH.out]; rintro e w18 ⟨A28, c28, B28, k28, rfl, hfa, hfb, hx⟩; have HC8 := Lib.hid (Ext.trans HC7.out hx); have HL8 := Lib.hid hx; have IR := Lib.hid (IvRes.at_ hfa hfb Tadd.out.1 Tadd.out.2.1 Tadd.out.2.2.1 (Ext.refl _)); clear hfa hfb; clear hx hk; have hk := HS.out _ HC8.out)
    (try go_wp2_with fail)
    refine hK.out _ _ hk (fun hHeld' => ?_)
    clear hK K hHeld
    have hHeld := hHeld'
    clear hHeld'
    (try simp only [Act.put, List.setIfInBounds_toArray, List.set_cons_zero, List.set_cons_succ])
    refine wpAnyH_ready (rs := [23]) (by as_aux_lemma => kernel_rfl) (by simp) ?_
    refine AllReadyH.cons (o := { dst := some 50, op := Op.call { callee := Callee.value (Operand.func 17), args := #[Operand.tmp 48, Operand.tmp 49], argTypes := #[24, 24] }, type := 24, pos := "law.go:108", after := #[{ on := 21, ground := Ground.data }, { on := 22, ground := Ground.data }, { on := 20, ground := Ground.chain }, { on := 17, ground := Ground.guard }], guard := some (17, true) }) rfl (fun K hK => ?_) AllReadyH.nil
    go_simp
    (go_at_call 17; (with_reducible refine (add_any (DX.out.ext HC8.out) (DY.out.ext HC8.out) (HT.out.ext (XW.out.trans HC8.out))).mono ?_); rw [EaddN.out]; rintro e w19 ⟨A29, c29, rfl, hon, hx⟩; have HC9 := Lib.hid (Ext.trans HC8.out hx); have HL9 := Lib.hid hx; have DR := Lib.hid (Dy.of_on hon Tadd.out.2.2.2.1 (Nat.le_trans Tadd.out.2.2.2.2.1 (by decide)) (Ext.refl _)); clear hon; clear hx hk; have hk := HS.out _ HC9.out)
    (try go_wp2_with fail)
    refine hK.out _ _ hk (fun hHeld' => ?_)
    clear hK K hHeld
    have hHeld := hHeld'
    clear hHeld'
    (try simp only [Act.put, List.setIfInBounds_toArray, List.set_cons_zero, List.set_cons_succ])
    refine wpAnyH_ready (rs := [24]) (by as_aux_lemma => kernel_rfl) (by simp) ?_
    refine AllReadyH.cons (o := { dst := some 51, op := Op.call { callee := Callee.value (Operand.func 11), args := #[Operand.tmp 47, Operand.tmp 50], argTypes := #[26, 24] }, type := 4, pos := "law.go:108", after := #[{ on := 20, ground := Ground.data }, { on := 23, ground := Ground.data }, { on := 23, ground := Ground.chain }, { on := 17, ground := Ground.guard }], guard := some (17, true) }) rfl (fun K hK => ?_) AllReadyH.nil
    go_simp
    (go_at_call 11; (with_reducible refine (contains_any (IR.out.ext HL9.out) DR.out).mono ?_); rw [Tadd.out.2.2.2.2.2]; rintro e w20 ⟨rfl, hx⟩; have HC10 := Lib.hid (Ext.trans HC9.out hx); have HL10 := Lib.hid hx; clear hx hk IR DR; have hk := HS.out _ HC10.out)
    (try go_wp2_with fail)
    refine hK.out _ _ hk (fun hHeld' => ?_)
    clear hK K hHeld
    have hHeld := hHeld'
    clear hHeld'
    (try simp only [Act.put, List.setIfInBounds_toArray, List.set_cons_zero, List.set_cons_succ])
    refine wpAnyH_take (i := 25) (oi := { dst := some 52, op := Op.pick (Operand.tmp 44) (Operand.tmp 51) (Operand.const (Value.bool false)), type := 4, pos := "law.go:108", after := #[{ on := 17, ground := Ground.data }, { on := 24, ground := Ground.data }], guard := none }) (v := ?_) rfl (by as_aux_lemma => kernel_rfl) (by as_aux_lemma => kernel_rfl) (by as_aux_lemma => kernel_rfl) (fun _ _ _ h => h) (Or.inl ⟨by rfl, ?hy⟩) hHeld ?_
    case hy => ((intro w' hSw; (try dsimp only at hSw); go_simp); (try with_reducible rfl))
    (try simp only [Act.put, List.setIfInBounds_toArray, List.set_cons_zero, List.set_cons_succ])
    refine wpAnyH_take (i := 26) (oi := { dst := some 53, op := Op.move (Operand.tmp 52), type := 4, pos := "law.go:108", after := #[{ on := 25, ground := Ground.data }, { on := 24, ground := Ground.chain }], guard := none }) (v := ?_) rfl (by as_aux_lemma => kernel_rfl) (by as_aux_lemma => kernel_rfl) (by as_aux_lemma => kernel_rfl) (fun _ _ _ h => h) (Or.inl ⟨by rfl, ?hy⟩) hHeld ?_
    case hy => ((intro w' hSw; (try dsimp only at hSw); go_simp); (try with_reducible rfl))
    (try simp only [Act.put, List.setIfInBounds_toArray, List.set_cons_zero, List.set_cons_succ])
    refine wpAnyH_take (i := 27) (oi := { dst := some 54, op := Op.load 26 (Operand.tmp 3), type := 26, pos := "law.go:108", after := #[{ on := 26, ground := Ground.guard }], guard := some (26, true) }) (v := ?_) rfl (by as_aux_lemma => kernel_rfl) (by as_aux_lemma => kernel_rfl) (by as_aux_lemma => kernel_rfl) (fun _ _ _ h => h) (Or.inl ⟨by rfl, ?hy⟩) hHeld ?_
    case hy => ((intro w' hSw; (try dsimp only at hSw); go_simp); (try with_reducible rfl))
    (try simp only [Act.put, List.setIfInBounds_toArray, List.set_cons_zero, List.set_cons_succ])
    refine wpAnyH_take (i := 28) (oi := { dst := some 55, op := Op.load 26 (Operand.tmp 4), type := 26, pos := "law.go:108", after := #[{ on := 26, ground := Ground.guard }], guard := some (26, true) }) (v := ?_) rfl (by as_aux_lemma => kernel_rfl) (by as_aux_lemma => kernel_rfl) (by as_aux_lemma => kernel_rfl) (fun _ _ _ h => h) (Or.inl ⟨by rfl, ?hy⟩) hHeld ?_
    case hy => ((intro w' hSw; (try dsimp only at hSw); go_simp); (try with_reducible rfl))
    (try simp only [Act.put, List.setIfInBounds_toArray, List.set_cons_zero, List.set_cons_succ])
    refine wpAnyH_take (i := 30) (oi := { dst := some 57, op := Op.load 24 (Operand.tmp 7), type := 24, pos := "law.go:108", after := #[{ on := 26, ground := Ground.guard }], guard := some (26, true) }) (v := ?_) rfl (by as_aux_lemma => kernel_rfl) (by as_aux_lemma => kernel_rfl) (by as_aux_lemma => kernel_rfl) (fun _ _ _ h => h) (Or.inl ⟨by rfl, ?hy⟩) hHeld ?_
    case hy => ((intro w' hSw; (try dsimp only at hSw); go_simp); (try with_reducible rfl))
    (try simp only [Act.put, List.setIfInBounds_toArray, List.set_cons_zero, List.set_cons_succ])
    refine wpAnyH_take (i := 31) (oi := { dst := some 58, op := Op.load 24 (Operand.tmp 8), type := 24, pos := "law.go:108", after := #[{ on := 26, ground := Ground.guard }], guard := some (26, true) }) (v := ?_) rfl (by as_aux_lemma => kernel_rfl) (by as_aux_lemma => kernel_rfl) (by as_aux_lemma => kernel_rfl) (fun _ _ _ h => h) (Or.inl ⟨by rfl, ?hy⟩) hHeld ?_
    case hy => ((intro w' hSw; (try dsimp only at hSw); go_simp); (try with_reducible rfl))
    (try simp only [Act.put, List.setIfInBounds_toArray, List.set_cons_zero, List.set_cons_succ])
    refine wpAnyH_ready (rs := [29]) (by as_aux_lemma => kernel_rfl) (by simp) ?_
    refine AllReadyH.cons (o := { dst := some 56, op := Op.call { callee := Callee.value (Operand.func 18), args := #[Operand.tmp 54, Operand.tmp 55], argTypes := #[26, 26] }, type := 26, pos := "law.go:109", after := #[{ on := 27, ground := Ground.data }, { on := 28, ground := Ground.data }, { on := 26, ground := Ground.chain }, { on := 26, ground := Ground.guard }], guard := some (26, true) }) rfl (fun K hK => ?_) AllReadyH.nil
    go_simp
    (go_at_call 18; (with_reducible refine (isub_any (HA.out.ext (XW.out.trans HC10.out)) (HB.out.ext (XW.out.trans HC10.out)) (HT.out.ext (XW.out.trans HC10.out))).mono ?_); rw [EsubL.out, EsubH.out]; rintro e w21 ⟨A31, c31, B31, k31, rfl, hfa, hfb, hx⟩; have HC11 := Lib.hid (Ext.trans HC10.out hx); have HL11 := Lib.hid hx; have IR := Lib.hid (IvRes.at_ hfa hfb Tsub.out.1 Tsub.out.2.1 Tsub.out.2.2.1 (Ext.refl _)); clear hfa hfb; clear hx hk; have hk := HS.out _ HC11.out)
    (try go_wp2_with fail)
    refine hK.out _ _ hk (fun hHeld' => ?_)
    clear hK K hHeld
    have hHeld := hHeld'
    clear hHeld'
    (try simp only [Act.put, List.setIfInBounds_toArray, List.set_cons_zero, List.set_cons_succ])
    refine wpAnyH_ready (rs := [32]) (by as_aux_lemma => kernel_rfl) (by simp) ?_
    refine AllReadyH.cons (o := { dst := some 59, op := Op.call { callee := Callee.value (Operand.func 19), args := #[Operand.tmp 57, Operand.tmp 58], argTypes := #[24, 24] }, type := 24, pos := "law.go:109", after := #[{ on := 30, ground := Ground.data }, { on := 31, ground := Ground.data }, { on := 29, ground := Ground.chain }, { on := 26, ground := Ground.guard }], guard := some (26, true) }) rfl (fun K hK => ?_) AllReadyH.nil
    go_simp
    (go_at_call 19; (with_reducible refine (sub_any (DX.out.ext HC11.out) (DY.out.ext HC11.out) (HT.out.ext (XW.out.trans HC11.out))).mono ?_); rw [EsubN.out]; rintro e w22 ⟨A32, c32, rfl, hon, hx⟩; have HC12 := Lib.hid (Ext.trans HC11.out hx); have HL12 := Lib.hid hx; have DR := Lib.hid (Dy.of_on hon Tsub.out.2.2.2.1 (Nat.le_trans Tsub.out.2.2.2.2.1 (by decide)) (Ext.refl _)); clear hon; clear hx hk; have hk := HS.out _ HC12.out)
    (try go_wp2_with fail)
    refine hK.out _ _ hk (fun hHeld' => ?_)
    clear hK K hHeld
    have hHeld := hHeld'
    clear hHeld'
    (try simp only [Act.put, List.setIfInBounds_toArray, List.set_cons_zero, List.set_cons_succ])
    refine wpAnyH_ready (rs := [33]) (by as_aux_lemma => kernel_rfl) (by simp) ?_
    refine AllReadyH.cons (o := { dst := some 60, op := Op.call { callee := Callee.value (Operand.func 11), args := #[Operand.tmp 56, Operand.tmp 59], argTypes := #[26, 24] }, type := 4, pos := "law.go:109", after := #[{ on := 29, ground := Ground.data }, { on := 32, ground := Ground.data }, { on := 32, ground := Ground.chain }, { on := 26, ground := Ground.guard }], guard := some (26, true) }) rfl (fun K hK => ?_) AllReadyH.nil
    go_simp
    (go_at_call 11; (with_reducible refine (contains_any (IR.out.ext HL12.out) DR.out).mono ?_); rw [Tsub.out.2.2.2.2.2]; rintro e w23 ⟨rfl, hx⟩; have HC13 := Lib.hid (Ext.trans HC12.out hx); have HL13 := Lib.hid hx; clear hx hk IR DR; have hk := HS.out _ HC13.out)
    (try go_wp2_with fail)
    refine hK.out _ _ hk (fun hHeld' => ?_)
    clear hK K hHeld
    have hHeld := hHeld'
    clear hHeld'
    (try simp only [Act.put, List.setIfInBounds_toArray, List.set_cons_zero, List.set_cons_succ])
    refine wpAnyH_take (i := 34) (oi := { dst := some 61, op := Op.pick (Operand.tmp 53) (Operand.tmp 60) (Operand.const (Value.bool false)), type := 4, pos := "law.go:108", after := #[{ on := 26, ground := Ground.data }, { on := 33, ground := Ground.data }], guard := none }) (v := ?_) rfl (by as_aux_lemma => kernel_rfl) (by as_aux_lemma => kernel_rfl) (by as_aux_lemma => kernel_rfl) (fun _ _ _ h => h) (Or.inl ⟨by rfl, ?hy⟩) hHeld ?_
    case hy => ((intro w' hSw; (try dsimp only at hSw); go_simp); (try with_reducible rfl))
    (try simp only [Act.put, List.setIfInBounds_toArray, List.set_cons_zero, List.set_cons_succ])
    refine wpAnyH_take (i := 35) (oi := { dst := some 62, op := Op.move (Operand.tmp 61), type := 4, pos := "law.go:108", after := #[{ on := 34, ground := Ground.data }, { on := 33, ground := Ground.chain }], guard := none }) (v := ?_) rfl (by as_aux_lemma => kernel_rfl) (by as_aux_lemma => kernel_rfl) (by as_aux_lemma => kernel_rfl) (fun _ _ _ h => h) (Or.inl ⟨by rfl, ?hy⟩) hHeld ?_
    case hy => ((intro w' hSw; (try dsimp only at hSw); go_simp); (try with_reducible rfl))
    (try simp only [Act.put, List.setIfInBounds_toArray, List.set_cons_zero, List.set_cons_succ])
    refine wpAnyH_take (i := 36) (oi := { dst := some 63, op := Op.load 26 (Operand.tmp 3), type := 26, pos := "law.go:108", after := #[{ on := 35, ground := Ground.guard }], guard := some (35, true) }) (v := ?_) rfl (by as_aux_lemma => kernel_rfl) (by as_aux_lemma => kernel_rfl) (by as_aux_lemma => kernel_rfl) (fun _ _ _ h => h) (Or.inl ⟨by rfl, ?hy⟩) hHeld ?_
    case hy => ((intro w' hSw; (try dsimp only at hSw); go_simp); (try with_reducible rfl))
    (try simp only [Act.put, List.setIfInBounds_toArray, List.set_cons_zero, List.set_cons_succ])
    refine wpAnyH_take (i := 37) (oi := { dst := some 64, op := Op.load 26 (Operand.tmp 4), type := 26, pos := "law.go:108", after := #[{ on := 35, ground := Ground.guard }], guard := some (35, true) }) (v := ?_) rfl (by as_aux_lemma => kernel_rfl) (by as_aux_lemma => kernel_rfl) (by as_aux_lemma => kernel_rfl) (fun _ _ _ h => h) (Or.inl ⟨by rfl, ?hy⟩) hHeld ?_
    case hy => ((intro w' hSw; (try dsimp only at hSw); go_simp); (try with_reducible rfl))
    (try simp only [Act.put, List.setIfInBounds_toArray, List.set_cons_zero, List.set_cons_succ])
    refine wpAnyH_take (i := 39) (oi := { dst := some 66, op := Op.load 24 (Operand.tmp 7), type := 24, pos := "law.go:108", after := #[{ on := 35, ground := Ground.guard }], guard := some (35, true) }) (v := ?_) rfl (by as_aux_lemma => kernel_rfl) (by as_aux_lemma => kernel_rfl) (by as_aux_lemma => kernel_rfl) (fun _ _ _ h => h) (Or.inl ⟨by rfl, ?hy⟩) hHeld ?_
    case hy => ((intro w' hSw; (try dsimp only at hSw); go_simp); (try with_reducible rfl))
    (try simp only [Act.put, List.setIfInBounds_toArray, List.set_cons_zero, List.set_cons_succ])
    refine wpAnyH_take (i := 40) (oi := { dst := some 67, op := Op.load 24 (Operand.tmp 8), type := 24, pos := "law.go:108", after := #[{ on := 35, ground := Ground.guard }], guard := some (35, true) }) (v := ?_) rfl (by as_aux_lemma => kernel_rfl) (by as_aux_lemma => kernel_rfl) (by as_aux_lemma => kernel_rfl) (fun _ _ _ h => h) (Or.inl ⟨by rfl, ?hy⟩) hHeld ?_
    case hy => ((intro w' hSw; (try dsimp only at hSw); go_simp); (try with_reducible rfl))
    (try simp only [Act.put, List.setIfInBounds_toArray, List.set_cons_zero, List.set_cons_succ])
    refine wpAnyH_ready (rs := [38]) (by as_aux_lemma => kernel_rfl) (by simp) ?_
    refine AllReadyH.cons (o := { dst := some 65, op := Op.call { callee := Callee.value (Operand.func 20), args := #[Operand.tmp 63, Operand.tmp 64], argTypes := #[26, 26] }, type := 26, pos := "law.go:109", after := #[{ on := 36, ground := Ground.data }, { on := 37, ground := Ground.data }, { on := 35, ground := Ground.chain }, { on := 35, ground := Ground.guard }], guard := some (35, true) }) rfl (fun K hK => ?_) AllReadyH.nil
    go_simp
    (go_at_call 20; (with_reducible refine (imul_any (HA.out.ext (XW.out.trans HC13.out)) (HB.out.ext (XW.out.trans HC13.out)) (HT.out.ext (XW.out.trans HC13.out)) LM1.out LM2.out LM3.out LM4.out).mono ?_); rw [EmulL.out, EmulH.out]; rintro e w24 ⟨A34, c34, B34, k34, rfl, hfa, hfb, hx⟩; have HC14 := Lib.hid (Ext.trans HC13.out hx); have HL14 := Lib.hid hx; have IR := Lib.hid (IvRes.at_ hfa hfb Tmul.out.1 Tmul.out.2.1 Tmul.out.2.2.1 (Ext.refl _)); clear hfa hfb; clear hx hk; have hk := HS.out _ HC14.out)
    (try go_wp2_with fail)
    refine hK.out _ _ hk (fun hHeld' => ?_)
    clear hK K hHeld
    have hHeld := hHeld'
    clear hHeld'
    (try simp only [Act.put, List.setIfInBounds_toArray, List.set_cons_zero, List.set_cons_succ])
    refine wpAnyH_ready (rs := [41]) (by as_aux_lemma => kernel_rfl) (by simp) ?_
    refine AllReadyH.cons (o := { dst := some 68, op := Op.call { callee := Callee.value (Operand.func 21), args := #[Operand.tmp 66, Operand.tmp 67], argTypes := #[24, 24] }, type := 24, pos := "law.go:109", after := #[{ on := 39, ground := Ground.data }, { on := 40, ground := Ground.data }, { on := 38, ground := Ground.chain }, { on := 35, ground := Ground.guard }], guard := some (35, true) }) rfl (fun K hK => ?_) AllReadyH.nil
    go_simp
    (go_at_call 21; (with_reducible refine (mul_any (DX.out.ext HC14.out) (DY.out.ext HC14.out) (HT.out.ext (XW.out.trans HC14.out))).mono ?_); rw [EmulN.out]; rintro e w25 ⟨A35, c35, rfl, hon, hx⟩; have HC15 := Lib.hid (Ext.trans HC14.out hx); have HL15 := Lib.hid hx; have DR := Lib.hid (Dy.of_on hon Tmul.out.2.2.2.1 (Nat.le_trans Tmul.out.2.2.2.2.1 (by decide)) (Ext.refl _)); clear hon; clear hx hk; have hk := HS.out _ HC15.out)
    (try go_wp2_with fail)
    refine hK.out _ _ hk (fun hHeld' => ?_)
    clear hK K hHeld
    have hHeld := hHeld'
    clear hHeld'
    (try simp only [Act.put, List.setIfInBounds_toArray, List.set_cons_zero, List.set_cons_succ])
    refine wpAnyH_ready (rs := [42]) (by as_aux_lemma => kernel_rfl) (by simp) ?_
    refine AllReadyH.cons (o := { dst := some 69, op := Op.call { callee := Callee.value (Operand.func 11), args := #[Operand.tmp 65, Operand.tmp 68], argTypes := #[26, 24] }, type := 4, pos := "law.go:109", after := #[{ on := 38, ground := Ground.data }, { on := 41, ground := Ground.data }, { on := 41, ground := Ground.chain }, { on := 35, ground := Ground.guard }], guard := some (35, true) }) rfl (fun K hK => ?_) AllReadyH.nil
    go_simp
    (go_at_call 11; (with_reducible refine (contains_any (IR.out.ext HL15.out) DR.out).mono ?_); rw [Tmul.out.2.2.2.2.2]; rintro e w26 ⟨rfl, hx⟩; have HC16 := Lib.hid (Ext.trans HC15.out hx); have HL16 := Lib.hid hx; clear hx hk IR DR; have hk := HS.out _ HC16.out)
    (try go_wp2_with fail)
    refine hK.out _ _ hk (fun hHeld' => ?_)
    clear hK K hHeld
    have hHeld := hHeld'
    clear hHeld'
    (try simp only [Act.put, List.setIfInBounds_toArray, List.set_cons_zero, List.set_cons_succ])
    refine wpAnyH_take (i := 43) (oi := { dst := some 70, op := Op.pick (Operand.tmp 62) (Operand.tmp 69) (Operand.const (Value.bool false)), type := 4, pos := "law.go:108", after := #[{ on := 35, ground := Ground.data }, { on := 42, ground := Ground.data }], guard := none }) (v := ?_) rfl (by as_aux_lemma => kernel_rfl) (by as_aux_lemma => kernel_rfl) (by as_aux_lemma => kernel_rfl) (fun _ _ _ h => h) (Or.inl ⟨by rfl, ?hy⟩) hHeld ?_
    case hy => ((intro w' hSw; (try dsimp only at hSw); go_simp); (try with_reducible rfl))
    (try simp only [Act.put, List.setIfInBounds_toArray, List.set_cons_zero, List.set_cons_succ])
    refine wpAnyH_take (i := 44) (oi := { dst := some 71, op := Op.move (Operand.tmp 70), type := 4, pos := "law.go:108", after := #[{ on := 43, ground := Ground.data }, { on := 42, ground := Ground.chain }], guard := none }) (v := ?_) rfl (by as_aux_lemma => kernel_rfl) (by as_aux_lemma => kernel_rfl) (by as_aux_lemma => kernel_rfl) (fun _ _ _ h => h) (Or.inl ⟨by rfl, ?hy⟩) hHeld ?_
    case hy => ((intro w' hSw; (try dsimp only at hSw); go_simp); (try with_reducible rfl))
    (try simp only [Act.put, List.setIfInBounds_toArray, List.set_cons_zero, List.set_cons_succ])
    refine wpAnyH_take (i := 45) (oi := { dst := some 72, op := Op.load 26 (Operand.tmp 3), type := 26, pos := "law.go:108", after := #[{ on := 44, ground := Ground.guard }], guard := some (44, true) }) (v := ?_) rfl (by as_aux_lemma => kernel_rfl) (by as_aux_lemma => kernel_rfl) (by as_aux_lemma => kernel_rfl) (fun _ _ _ h => h) (Or.inl ⟨by rfl, ?hy⟩) hHeld ?_
    case hy => ((intro w' hSw; (try dsimp only at hSw); go_simp); (try with_reducible rfl))
    (try simp only [Act.put, List.setIfInBounds_toArray, List.set_cons_zero, List.set_cons_succ])
    refine wpAnyH_take (i := 46) (oi := { dst := some 73, op := Op.load 26 (Operand.tmp 4), type := 26, pos := "law.go:108", after := #[{ on := 44, ground := Ground.guard }], guard := some (44, true) }) (v := ?_) rfl (by as_aux_lemma => kernel_rfl) (by as_aux_lemma => kernel_rfl) (by as_aux_lemma => kernel_rfl) (fun _ _ _ h => h) (Or.inl ⟨by rfl, ?hy⟩) hHeld ?_
    case hy => ((intro w' hSw; (try dsimp only at hSw); go_simp); (try with_reducible rfl))
    (try simp only [Act.put, List.setIfInBounds_toArray, List.set_cons_zero, List.set_cons_succ])
    refine wpAnyH_take (i := 48) (oi := { dst := some 75, op := Op.load 24 (Operand.tmp 7), type := 24, pos := "law.go:108", after := #[{ on := 44, ground := Ground.guard }], guard := some (44, true) }) (v := ?_) rfl (by as_aux_lemma => kernel_rfl) (by as_aux_lemma => kernel_rfl) (by as_aux_lemma => kernel_rfl) (fun _ _ _ h => h) (Or.inl ⟨by rfl, ?hy⟩) hHeld ?_
    case hy => ((intro w' hSw; (try dsimp only at hSw); go_simp); (try with_reducible rfl))
    (try simp only [Act.put, List.setIfInBounds_toArray, List.set_cons_zero, List.set_cons_succ])
    refine wpAnyH_take (i := 49) (oi := { dst := some 76, op := Op.load 24 (Operand.tmp 8), type := 24, pos := "law.go:108", after := #[{ on := 44, ground := Ground.guard }], guard := some (44, true) }) (v := ?_) rfl (by as_aux_lemma => kernel_rfl) (by as_aux_lemma => kernel_rfl) (by as_aux_lemma => kernel_rfl) (fun _ _ _ h => h) (Or.inl ⟨by rfl, ?hy⟩) hHeld ?_
    case hy => ((intro w' hSw; (try dsimp only at hSw); go_simp); (try with_reducible rfl))
    (try simp only [Act.put, List.setIfInBounds_toArray, List.set_cons_zero, List.set_cons_succ])
    refine wpAnyH_ready (rs := [47]) (by as_aux_lemma => kernel_rfl) (by simp) ?_
    refine AllReadyH.cons (o := { dst := some 74, op := Op.call { callee := Callee.value (Operand.func 22), args := #[Operand.tmp 72, Operand.tmp 73], argTypes := #[26, 26] }, type := 26, pos := "law.go:109", after := #[{ on := 45, ground := Ground.data }, { on := 46, ground := Ground.data }, { on := 44, ground := Ground.chain }, { on := 44, ground := Ground.guard }], guard := some (44, true) }) rfl (fun K hK => ?_) AllReadyH.nil
    go_simp
    (go_at_call 22; (with_reducible refine (imin_any (HA.out.ext (XW.out.trans HC16.out)) (HB.out.ext (XW.out.trans HC16.out)) (HT.out.ext (XW.out.trans HC16.out))).mono ?_); rw [EminL.out, EminH.out]; rintro e w27 ⟨A37, c37, B37, k37, rfl, hfa, hfb, hx⟩; have HC17 := Lib.hid (Ext.trans HC16.out hx); have HL17 := Lib.hid hx; have IR := Lib.hid (IvRes.at_ hfa hfb Tmin.out.1 Tmin.out.2.1 Tmin.out.2.2.1 (Ext.refl _)); clear hfa hfb; clear hx hk; have hk := HS.out _ HC17.out)
    (try go_wp2_with fail)
    refine hK.out _ _ hk (fun hHeld' => ?_)
    clear hK K hHeld
    have hHeld := hHeld'
    clear hHeld'
    (try simp only [Act.put, List.setIfInBounds_toArray, List.set_cons_zero, List.set_cons_succ])
    refine wpAnyH_ready (rs := [50]) (by as_aux_lemma => kernel_rfl) (by simp) ?_
    refine AllReadyH.cons (o := { dst := some 77, op := Op.call { callee := Callee.value (Operand.func 23), args := #[Operand.tmp 75, Operand.tmp 76], argTypes := #[24, 24] }, type := 24, pos := "law.go:109", after := #[{ on := 48, ground := Ground.data }, { on := 49, ground := Ground.data }, { on := 47, ground := Ground.chain }, { on := 44, ground := Ground.guard }], guard := some (44, true) }) rfl (fun K hK => ?_) AllReadyH.nil
    go_simp
    (go_at_call 23; (with_reducible refine (min_any (DX.out.ext HC17.out) (DY.out.ext HC17.out) (HT.out.ext (XW.out.trans HC17.out))).mono ?_); rw [EminN.out]; rintro e w28 ⟨A38, c38, rfl, hon, hx⟩; have HC18 := Lib.hid (Ext.trans HC17.out hx); have HL18 := Lib.hid hx; have DR := Lib.hid (Dy.of_on hon Tmin.out.2.2.2.1 (Nat.le_trans Tmin.out.2.2.2.2.1 (by decide)) (Ext.refl _)); clear hon; clear hx hk; have hk := HS.out _ HC18.out)
    (try go_wp2_with fail)
    refine hK.out _ _ hk (fun hHeld' => ?_)
    clear hK K hHeld
    have hHeld := hHeld'
    clear hHeld'
    (try simp only [Act.put, List.setIfInBounds_toArray, List.set_cons_zero, List.set_cons_succ])
    refine wpAnyH_ready (rs := [51]) (by as_aux_lemma => kernel_rfl) (by simp) ?_
    refine AllReadyH.cons (o := { dst := some 78, op := Op.call { callee := Callee.value (Operand.func 11), args := #[Operand.tmp 74, Operand.tmp 77], argTypes := #[26, 24] }, type := 4, pos := "law.go:109", after := #[{ on := 47, ground := Ground.data }, { on := 50, ground := Ground.data }, { on := 50, ground := Ground.chain }, { on := 44, ground := Ground.guard }], guard := some (44, true) }) rfl (fun K hK => ?_) AllReadyH.nil
    go_simp
    (go_at_call 11; (with_reducible refine (contains_any (IR.out.ext HL18.out) DR.out).mono ?_); rw [Tmin.out.2.2.2.2.2]; rintro e w29 ⟨rfl, hx⟩; have HC19 := Lib.hid (Ext.trans HC18.out hx); have HL19 := Lib.hid hx; clear hx hk IR DR; have hk := HS.out _ HC19.out)
    (try go_wp2_with fail)
    refine hK.out _ _ hk (fun hHeld' => ?_)
    clear hK K hHeld
    have hHeld := hHeld'
    clear hHeld'
    (try simp only [Act.put, List.setIfInBounds_toArray, List.set_cons_zero, List.set_cons_succ])
    refine wpAnyH_take (i := 52) (oi := { dst := some 79, op := Op.pick (Operand.tmp 71) (Operand.tmp 78) (Operand.const (Value.bool false)), type := 4, pos := "law.go:108", after := #[{ on := 44, ground := Ground.data }, { on := 51, ground := Ground.data }], guard := none }) (v := ?_) rfl (by as_aux_lemma => kernel_rfl) (by as_aux_lemma => kernel_rfl) (by as_aux_lemma => kernel_rfl) (fun _ _ _ h => h) (Or.inl ⟨by rfl, ?hy⟩) hHeld ?_
    case hy => ((intro w' hSw; (try dsimp only at hSw); go_simp); (try with_reducible rfl))
    (try simp only [Act.put, List.setIfInBounds_toArray, List.set_cons_zero, List.set_cons_succ])
    refine wpAnyH_take (i := 53) (oi := { dst := some 80, op := Op.move (Operand.tmp 79), type := 4, pos := "law.go:108", after := #[{ on := 52, ground := Ground.data }, { on := 51, ground := Ground.chain }], guard := none }) (v := ?_) rfl (by as_aux_lemma => kernel_rfl) (by as_aux_lemma => kernel_rfl) (by as_aux_lemma => kernel_rfl) (fun _ _ _ h => h) (Or.inl ⟨by rfl, ?hy⟩) hHeld ?_
    case hy => ((intro w' hSw; (try dsimp only at hSw); go_simp); (try with_reducible rfl))
    (try simp only [Act.put, List.setIfInBounds_toArray, List.set_cons_zero, List.set_cons_succ])
    refine wpAnyH_take (i := 54) (oi := { dst := some 81, op := Op.load 26 (Operand.tmp 3), type := 26, pos := "law.go:108", after := #[{ on := 53, ground := Ground.guard }], guard := some (53, true) }) (v := ?_) rfl (by as_aux_lemma => kernel_rfl) (by as_aux_lemma => kernel_rfl) (by as_aux_lemma => kernel_rfl) (fun _ _ _ h => h) (Or.inl ⟨by rfl, ?hy⟩) hHeld ?_
    case hy => ((intro w' hSw; (try dsimp only at hSw); go_simp); (try with_reducible rfl))
    (try simp only [Act.put, List.setIfInBounds_toArray, List.set_cons_zero, List.set_cons_succ])
    refine wpAnyH_take (i := 55) (oi := { dst := some 82, op := Op.load 26 (Operand.tmp 4), type := 26, pos := "law.go:108", after := #[{ on := 53, ground := Ground.guard }], guard := some (53, true) }) (v := ?_) rfl (by as_aux_lemma => kernel_rfl) (by as_aux_lemma => kernel_rfl) (by as_aux_lemma => kernel_rfl) (fun _ _ _ h => h) (Or.inl ⟨by rfl, ?hy⟩) hHeld ?_
    case hy => ((intro w' hSw; (try dsimp only at hSw); go_simp); (try with_reducible rfl))
    (try simp only [Act.put, List.setIfInBounds_toArray, List.set_cons_zero, List.set_cons_succ])
    refine wpAnyH_take (i := 57) (oi := { dst := some 84, op := Op.load 24 (Operand.tmp 7), type := 24, pos := "law.go:108", after := #[{ on := 53, ground := Ground.guard }], guard := some (53, true) }) (v := ?_) rfl (by as_aux_lemma => kernel_rfl) (by as_aux_lemma => kernel_rfl) (by as_aux_lemma => kernel_rfl) (fun _ _ _ h => h) (Or.inl ⟨by rfl, ?hy⟩) hHeld ?_
    case hy => ((intro w' hSw; (try dsimp only at hSw); go_simp); (try with_reducible rfl))
    (try simp only [Act.put, List.setIfInBounds_toArray, List.set_cons_zero, List.set_cons_succ])
    refine wpAnyH_take (i := 58) (oi := { dst := some 85, op := Op.load 24 (Operand.tmp 8), type := 24, pos := "law.go:108", after := #[{ on := 53, ground := Ground.guard }], guard := some (53, true) }) (v := ?_) rfl (by as_aux_lemma => kernel_rfl) (by as_aux_lemma => kernel_rfl) (by as_aux_lemma => kernel_rfl) (fun _ _ _ h => h) (Or.inl ⟨by rfl, ?hy⟩) hHeld ?_
    case hy => ((intro w' hSw; (try dsimp only at hSw); go_simp); (try with_reducible rfl))
    (try simp only [Act.put, List.setIfInBounds_toArray, List.set_cons_zero, List.set_cons_succ])
    refine wpAnyH_ready (rs := [56]) (by as_aux_lemma => kernel_rfl) (by simp) ?_
    refine AllReadyH.cons (o := { dst := some 83, op := Op.call { callee := Callee.value (Operand.func 24), args := #[Operand.tmp 81, Operand.tmp 82], argTypes := #[26, 26] }, type := 26, pos := "law.go:110", after := #[{ on := 54, ground := Ground.data }, { on := 55, ground := Ground.data }, { on := 53, ground := Ground.chain }, { on := 53, ground := Ground.guard }], guard := some (53, true) }) rfl (fun K hK => ?_) AllReadyH.nil
    go_simp
    (go_at_call 24; (with_reducible refine (imax_any (HA.out.ext (XW.out.trans HC19.out)) (HB.out.ext (XW.out.trans HC19.out)) (HT.out.ext (XW.out.trans HC19.out))).mono ?_); rw [EmaxL.out, EmaxH.out]; rintro e w30 ⟨A40, c40, B40, k40, rfl, hfa, hfb, hx⟩; have HC20 := Lib.hid (Ext.trans HC19.out hx); have HL20 := Lib.hid hx; have IR := Lib.hid (IvRes.at_ hfa hfb Tmax.out.1 Tmax.out.2.1 Tmax.out.2.2.1 (Ext.refl _)); clear hfa hfb; clear hx hk; have hk := HS.out _ HC20.out)
    (try go_wp2_with fail)
    refine hK.out _ _ hk (fun hHeld' => ?_)
    clear hK K hHeld
    have hHeld := hHeld'
    clear hHeld'
    (try simp only [Act.put, List.setIfInBounds_toArray, List.set_cons_zero, List.set_cons_succ])
    refine wpAnyH_ready (rs := [59]) (by as_aux_lemma => kernel_rfl) (by simp) ?_
    refine AllReadyH.cons (o := { dst := some 86, op := Op.call { callee := Callee.value (Operand.func 25), args := #[Operand.tmp 84, Operand.tmp 85], argTypes := #[24, 24] }, type := 24, pos := "law.go:110", after := #[{ on := 57, ground := Ground.data }, { on := 58, ground := Ground.data }, { on := 56, ground := Ground.chain }, { on := 53, ground := Ground.guard }], guard := some (53, true) }) rfl (fun K hK => ?_) AllReadyH.nil
    go_simp
    (go_at_call 25; (with_reducible refine (max_any (DX.out.ext HC20.out) (DY.out.ext HC20.out) (HT.out.ext (XW.out.trans HC20.out))).mono ?_); rw [EmaxN.out]; rintro e w31 ⟨A41, c41, rfl, hon, hx⟩; have HC21 := Lib.hid (Ext.trans HC20.out hx); have HL21 := Lib.hid hx; have DR := Lib.hid (Dy.of_on hon Tmax.out.2.2.2.1 (Nat.le_trans Tmax.out.2.2.2.2.1 (by decide)) (Ext.refl _)); clear hon; clear hx hk; have hk := HS.out _ HC21.out)
    (try go_wp2_with fail)
    refine hK.out _ _ hk (fun hHeld' => ?_)
    clear hK K hHeld
    have hHeld := hHeld'
    clear hHeld'
    (try simp only [Act.put, List.setIfInBounds_toArray, List.set_cons_zero, List.set_cons_succ])
    refine wpAnyH_ready (rs := [60]) (by as_aux_lemma => kernel_rfl) (by simp) ?_
    refine AllReadyH.cons (o := { dst := some 87, op := Op.call { callee := Callee.value (Operand.func 11), args := #[Operand.tmp 83, Operand.tmp 86], argTypes := #[26, 24] }, type := 4, pos := "law.go:110", after := #[{ on := 56, ground := Ground.data }, { on := 59, ground := Ground.data }, { on := 59, ground := Ground.chain }, { on := 53, ground := Ground.guard }], guard := some (53, true) }) rfl (fun K hK => ?_) AllReadyH.nil
    go_simp
    (go_at_call 11; (with_reducible refine (contains_any (IR.out.ext HL21.out) DR.out).mono ?_); rw [Tmax.out.2.2.2.2.2]; rintro e w32 ⟨rfl, hx⟩; have HC22 := Lib.hid (Ext.trans HC21.out hx); have HL22 := Lib.hid hx; clear hx hk IR DR; have hk := HS.out _ HC22.out)
    (try go_wp2_with fail)
    refine hK.out _ _ hk (fun hHeld' => ?_)
    clear hK K hHeld
    have hHeld := hHeld'
    clear hHeld'
    (try simp only [Act.put, List.setIfInBounds_toArray, List.set_cons_zero, List.set_cons_succ])
    refine wpAnyH_take (i := 61) (oi := { dst := some 88, op := Op.pick (Operand.tmp 80) (Operand.tmp 87) (Operand.const (Value.bool false)), type := 4, pos := "law.go:108", after := #[{ on := 53, ground := Ground.data }, { on := 60, ground := Ground.data }], guard := none }) (v := ?_) rfl (by as_aux_lemma => kernel_rfl) (by as_aux_lemma => kernel_rfl) (by as_aux_lemma => kernel_rfl) (fun _ _ _ h => h) (Or.inl ⟨by rfl, ?hy⟩) hHeld ?_
    case hy => ((intro w' hSw; (try dsimp only at hSw); go_simp); (try with_reducible rfl))
    (try simp only [Act.put, List.setIfInBounds_toArray, List.set_cons_zero, List.set_cons_succ])
    refine wpAnyH_take (i := 62) (oi := { dst := some 89, op := Op.move (Operand.tmp 88), type := 4, pos := "law.go:108", after := #[{ on := 61, ground := Ground.data }, { on := 60, ground := Ground.chain }], guard := none }) (v := ?_) rfl (by as_aux_lemma => kernel_rfl) (by as_aux_lemma => kernel_rfl) (by as_aux_lemma => kernel_rfl) (fun _ _ _ h => h) (Or.inl ⟨by rfl, ?hy⟩) hHeld ?_
    case hy => ((intro w' hSw; (try dsimp only at hSw); go_simp); (try with_reducible rfl))
    (try simp only [Act.put, List.setIfInBounds_toArray, List.set_cons_zero, List.set_cons_succ])
    refine wpAnyH_take (i := 63) (oi := { dst := some 90, op := Op.load 26 (Operand.tmp 3), type := 26, pos := "law.go:108", after := #[{ on := 62, ground := Ground.guard }], guard := some (62, true) }) (v := ?_) rfl (by as_aux_lemma => kernel_rfl) (by as_aux_lemma => kernel_rfl) (by as_aux_lemma => kernel_rfl) (fun _ _ _ h => h) (Or.inl ⟨by rfl, ?hy⟩) hHeld ?_
    case hy => ((intro w' hSw; (try dsimp only at hSw); go_simp); (try with_reducible rfl))
    (try simp only [Act.put, List.setIfInBounds_toArray, List.set_cons_zero, List.set_cons_succ])
    refine wpAnyH_take (i := 64) (oi := { dst := some 91, op := Op.load 26 (Operand.tmp 4), type := 26, pos := "law.go:108", after := #[{ on := 62, ground := Ground.guard }], guard := some (62, true) }) (v := ?_) rfl (by as_aux_lemma => kernel_rfl) (by as_aux_lemma => kernel_rfl) (by as_aux_lemma => kernel_rfl) (fun _ _ _ h => h) (Or.inl ⟨by rfl, ?hy⟩) hHeld ?_
    case hy => ((intro w' hSw; (try dsimp only at hSw); go_simp); (try with_reducible rfl))
    (try simp only [Act.put, List.setIfInBounds_toArray, List.set_cons_zero, List.set_cons_succ])
    refine wpAnyH_take (i := 66) (oi := { dst := some 93, op := Op.load 24 (Operand.tmp 7), type := 24, pos := "law.go:108", after := #[{ on := 62, ground := Ground.guard }], guard := some (62, true) }) (v := ?_) rfl (by as_aux_lemma => kernel_rfl) (by as_aux_lemma => kernel_rfl) (by as_aux_lemma => kernel_rfl) (fun _ _ _ h => h) (Or.inl ⟨by rfl, ?hy⟩) hHeld ?_
    case hy => ((intro w' hSw; (try dsimp only at hSw); go_simp); (try with_reducible rfl))
    (try simp only [Act.put, List.setIfInBounds_toArray, List.set_cons_zero, List.set_cons_succ])
    refine wpAnyH_ready (rs := [65]) (by as_aux_lemma => kernel_rfl) (by simp) ?_
    refine AllReadyH.cons (o := { dst := some 92, op := Op.call { callee := Callee.value (Operand.func 26), args := #[Operand.tmp 90, Operand.tmp 91], argTypes := #[26, 26] }, type := 26, pos := "law.go:110", after := #[{ on := 63, ground := Ground.data }, { on := 64, ground := Ground.data }, { on := 62, ground := Ground.chain }, { on := 62, ground := Ground.guard }], guard := some (62, true) }) rfl (fun K hK => ?_) AllReadyH.nil
    go_simp
    (go_at_call 26; (with_reducible refine (hull_any (HA.out.ext (XW.out.trans HC22.out)) (HB.out.ext (XW.out.trans HC22.out)) (HT.out.ext (XW.out.trans HC22.out))).mono ?_); rw [EhulL.out, EhulH.out]; rintro e w33 ⟨A43, c43, B43, k43, rfl, hfa, hfb, hx⟩; have HC23 := Lib.hid (Ext.trans HC22.out hx); have HL23 := Lib.hid hx; have IR := Lib.hid (IvRes.at_ hfa hfb Thul.out.1 Thul.out.2.1 Thul.out.2.2.1 (Ext.refl _)); clear hfa hfb; clear hx hk; have hk := HS.out _ HC23.out)
    (try go_wp2_with fail)
    refine hK.out _ _ hk (fun hHeld' => ?_)
    clear hK K hHeld
    have hHeld := hHeld'
    clear hHeld'
    (try simp only [Act.put, List.setIfInBounds_toArray, List.set_cons_zero, List.set_cons_succ])
    refine wpAnyH_ready (rs := [67]) (by as_aux_lemma => kernel_rfl) (by simp) ?_
    refine AllReadyH.cons (o := { dst := some 94, op := Op.call { callee := Callee.value (Operand.func 11), args := #[Operand.tmp 92, Operand.tmp 93], argTypes := #[26, 24] }, type := 4, pos := "law.go:110", after := #[{ on := 65, ground := Ground.data }, { on := 66, ground := Ground.data }, { on := 65, ground := Ground.chain }, { on := 62, ground := Ground.guard }], guard := some (62, true) }) rfl (fun K hK => ?_) AllReadyH.nil
    go_simp
    (go_at_call 11; (with_reducible refine (contains_any IR.out (DX.out.ext HC23.out)).mono ?_); rw [Thul.out.2.2.2.2.2]; rintro e w34 ⟨rfl, hx⟩; have HC24 := Lib.hid (Ext.trans HC23.out hx); have HL24 := Lib.hid hx; clear hx hk IR; have hk := HS.out _ HC24.out)
    (try go_wp2_with fail)
    refine hK.out _ _ hk (fun hHeld' => ?_)
    clear hK K hHeld
    have hHeld := hHeld'
    clear hHeld'
    (try simp only [Act.put, List.setIfInBounds_toArray, List.set_cons_zero, List.set_cons_succ])
    refine wpAnyH_take (i := 68) (oi := { dst := some 95, op := Op.pick (Operand.tmp 89) (Operand.tmp 94) (Operand.const (Value.bool false)), type := 4, pos := "law.go:108", after := #[{ on := 62, ground := Ground.data }, { on := 67, ground := Ground.data }], guard := none }) (v := ?_) rfl (by as_aux_lemma => kernel_rfl) (by as_aux_lemma => kernel_rfl) (by as_aux_lemma => kernel_rfl) (fun _ _ _ h => h) (Or.inl ⟨by rfl, ?hy⟩) hHeld ?_
    case hy => ((intro w' hSw; (try dsimp only at hSw); go_simp); (try with_reducible rfl))
    (try simp only [Act.put, List.setIfInBounds_toArray, List.set_cons_zero, List.set_cons_succ])
    refine wpAnyH_take (i := 69) (oi := { dst := some 96, op := Op.move (Operand.tmp 95), type := 4, pos := "law.go:108", after := #[{ on := 68, ground := Ground.data }, { on := 67, ground := Ground.chain }], guard := none }) (v := ?_) rfl (by as_aux_lemma => kernel_rfl) (by as_aux_lemma => kernel_rfl) (by as_aux_lemma => kernel_rfl) (fun _ _ _ h => h) (Or.inl ⟨by rfl, ?hy⟩) hHeld ?_
    case hy => ((intro w' hSw; (try dsimp only at hSw); go_simp); (try with_reducible rfl))
    (try simp only [Act.put, List.setIfInBounds_toArray, List.set_cons_zero, List.set_cons_succ])
    refine wpAnyH_take (i := 70) (oi := { dst := some 97, op := Op.load 26 (Operand.tmp 3), type := 26, pos := "law.go:108", after := #[{ on := 69, ground := Ground.guard }], guard := some (69, true) }) (v := ?_) rfl (by as_aux_lemma => kernel_rfl) (by as_aux_lemma => kernel_rfl) (by as_aux_lemma => kernel_rfl) (fun _ _ _ h => h) (Or.inl ⟨by rfl, ?hy⟩) hHeld ?_
    case hy => ((intro w' hSw; (try dsimp only at hSw); go_simp); (try with_reducible rfl))
    (try simp only [Act.put, List.setIfInBounds_toArray, List.set_cons_zero, List.set_cons_succ])
    refine wpAnyH_take (i := 71) (oi := { dst := some 98, op := Op.load 26 (Operand.tmp 4), type := 26, pos := "law.go:108", after := #[{ on := 69, ground := Ground.guard }], guard := some (69, true) }) (v := ?_) rfl (by as_aux_lemma => kernel_rfl) (by as_aux_lemma => kernel_rfl) (by as_aux_lemma => kernel_rfl) (fun _ _ _ h => h) (Or.inl ⟨by rfl, ?hy⟩) hHeld ?_
    case hy => ((intro w' hSw; (try dsimp only at hSw); go_simp); (try with_reducible rfl))
    (try simp only [Act.put, List.setIfInBounds_toArray, List.set_cons_zero, List.set_cons_succ])
    refine wpAnyH_take (i := 73) (oi := { dst := some 100, op := Op.load 24 (Operand.tmp 8), type := 24, pos := "law.go:108", after := #[{ on := 69, ground := Ground.guard }], guard := some (69, true) }) (v := ?_) rfl (by as_aux_lemma => kernel_rfl) (by as_aux_lemma => kernel_rfl) (by as_aux_lemma => kernel_rfl) (fun _ _ _ h => h) (Or.inl ⟨by rfl, ?hy⟩) hHeld ?_
    case hy => ((intro w' hSw; (try dsimp only at hSw); go_simp); (try with_reducible rfl))
    (try simp only [Act.put, List.setIfInBounds_toArray, List.set_cons_zero, List.set_cons_succ])
    refine wpAnyH_ready (rs := [72]) (by as_aux_lemma => kernel_rfl) (by simp) ?_
    refine AllReadyH.cons (o := { dst := some 99, op := Op.call { callee := Callee.value (Operand.func 26), args := #[Operand.tmp 97, Operand.tmp 98], argTypes := #[26, 26] }, type := 26, pos := "law.go:110", after := #[{ on := 70, ground := Ground.data }, { on := 71, ground := Ground.data }, { on := 69, ground := Ground.chain }, { on := 69, ground := Ground.guard }], guard := some (69, true) }) rfl (fun K hK => ?_) AllReadyH.nil
    go_simp
    (go_at_call 26; (with_reducible refine (hull_any (HA.out.ext (XW.out.trans HC24.out)) (HB.out.ext (XW.out.trans HC24.out)) (HT.out.ext (XW.out.trans HC24.out))).mono ?_); rw [EhulL.out, EhulH.out]; rintro e w35 ⟨A45, c45, B45, k45, rfl, hfa, hfb, hx⟩; have HC25 := Lib.hid (Ext.trans HC24.out hx); have HL25 := Lib.hid hx; have IR := Lib.hid (IvRes.at_ hfa hfb Thum.out.1 Thum.out.2.1 Thum.out.2.2.1 (Ext.refl _)); clear hfa hfb; clear hx hk; have hk := HS.out _ HC25.out)
    (try go_wp2_with fail)
    refine hK.out _ _ hk (fun hHeld' => ?_)
    clear hK K hHeld
    have hHeld := hHeld'
    clear hHeld'
    (try simp only [Act.put, List.setIfInBounds_toArray, List.set_cons_zero, List.set_cons_succ])
    refine wpAnyH_ready (rs := [74]) (by as_aux_lemma => kernel_rfl) (by simp) ?_
    refine AllReadyH.cons (o := { dst := some 101, op := Op.call { callee := Callee.value (Operand.func 11), args := #[Operand.tmp 99, Operand.tmp 100], argTypes := #[26, 24] }, type := 4, pos := "law.go:110", after := #[{ on := 72, ground := Ground.data }, { on := 73, ground := Ground.data }, { on := 72, ground := Ground.chain }, { on := 69, ground := Ground.guard }], guard := some (69, true) }) rfl (fun K hK => ?_) AllReadyH.nil
    go_simp
    (go_at_call 11; (with_reducible refine (contains_any IR.out (DY.out.ext HC25.out)).mono ?_); rw [Thum.out.2.2.2.2.2]; rintro e w36 ⟨rfl, hx⟩; have HC26 := Lib.hid (Ext.trans HC25.out hx); have HL26 := Lib.hid hx; clear hx hk IR; have hk := HS.out _ HC26.out)
    (try go_wp2_with fail)
    refine hK.out _ _ hk (fun hHeld' => ?_)
    clear hK K hHeld
    have hHeld := hHeld'
    clear hHeld'
    (try simp only [Act.put, List.setIfInBounds_toArray, List.set_cons_zero, List.set_cons_succ])
    refine wpAnyH_take (i := 75) (oi := { dst := some 102, op := Op.pick (Operand.tmp 96) (Operand.tmp 101) (Operand.const (Value.bool false)), type := 4, pos := "law.go:108", after := #[{ on := 69, ground := Ground.data }, { on := 74, ground := Ground.data }], guard := none }) (v := ?_) rfl (by as_aux_lemma => kernel_rfl) (by as_aux_lemma => kernel_rfl) (by as_aux_lemma => kernel_rfl) (fun _ _ _ h => h) (Or.inl ⟨by rfl, ?hy⟩) hHeld ?_
    case hy => ((intro w' hSw; (try dsimp only at hSw); go_simp); (try with_reducible rfl))
    (try simp only [Act.put, List.setIfInBounds_toArray, List.set_cons_zero, List.set_cons_succ])
    refine wpAnyH_take (i := 76) (oi := { dst := some 103, op := Op.move (Operand.tmp 102), type := 4, pos := "law.go:108", after := #[{ on := 75, ground := Ground.data }, { on := 74, ground := Ground.chain }], guard := none }) (v := ?_) rfl (by as_aux_lemma => kernel_rfl) (by as_aux_lemma => kernel_rfl) (by as_aux_lemma => kernel_rfl) (fun _ _ _ h => h) (Or.inl ⟨by rfl, ?hy⟩) hHeld ?_
    case hy => ((intro w' hSw; (try dsimp only at hSw); go_simp); (try with_reducible rfl))
    (try simp only [Act.put, List.setIfInBounds_toArray, List.set_cons_zero, List.set_cons_succ])
    refine wpAnyH_take (i := 77) (oi := { dst := some 104, op := Op.load 24 (Operand.tmp 7), type := 24, pos := "law.go:108", after := #[{ on := 76, ground := Ground.guard }], guard := some (76, true) }) (v := ?_) rfl (by as_aux_lemma => kernel_rfl) (by as_aux_lemma => kernel_rfl) (by as_aux_lemma => kernel_rfl) (fun _ _ _ h => h) (Or.inl ⟨by rfl, ?hy⟩) hHeld ?_
    case hy => ((intro w' hSw; (try dsimp only at hSw); go_simp); (try with_reducible rfl))
    (try simp only [Act.put, List.setIfInBounds_toArray, List.set_cons_zero, List.set_cons_succ])
    refine wpAnyH_take (i := 79) (oi := { dst := some 106, op := Op.load 26 (Operand.tmp 3), type := 26, pos := "law.go:108", after := #[{ on := 76, ground := Ground.guard }], guard := some (76, true) }) (v := ?_) rfl (by as_aux_lemma => kernel_rfl) (by as_aux_lemma => kernel_rfl) (by as_aux_lemma => kernel_rfl) (fun _ _ _ h => h) (Or.inl ⟨by rfl, ?hy⟩) hHeld ?_
    case hy => ((intro w' hSw; (try dsimp only at hSw); go_simp); (try with_reducible rfl))
    (try simp only [Act.put, List.setIfInBounds_toArray, List.set_cons_zero, List.set_cons_succ])
    refine wpAnyH_ready (rs := [78]) (by as_aux_lemma => kernel_rfl) (by simp) ?_
    refine AllReadyH.cons (o := { dst := some 105, op := Op.call { callee := Callee.value (Operand.func 15), args := #[Operand.tmp 104], argTypes := #[24] }, type := 24, pos := "law.go:110", after := #[{ on := 77, ground := Ground.data }, { on := 76, ground := Ground.chain }, { on := 76, ground := Ground.guard }], guard := some (76, true) }) rfl (fun K hK => ?_) AllReadyH.nil
    go_simp
    (go_at_call 15; (with_reducible refine (abs_any (DX.out.ext HC26.out) (HT.out.ext (XW.out.trans HC26.out))).mono ?_); rw [EmgN.out]; rintro e w37 ⟨A47, c47, rfl, hon, hx⟩; have HC27 := Lib.hid (Ext.trans HC26.out hx); have HL27 := Lib.hid hx; have DR := Lib.hid (Dy.of_on hon Tmg1.out.1 Tmg1.out.2 (Ext.refl _)); clear hon; clear hx hk; have hk := HS.out _ HC27.out)
    (try go_wp2_with fail)
    refine hK.out _ _ hk (fun hHeld' => ?_)
    clear hK K hHeld
    have hHeld := hHeld'
    clear hHeld'
    (try simp only [Act.put, List.setIfInBounds_toArray, List.set_cons_zero, List.set_cons_succ])
    refine wpAnyH_ready (rs := [80]) (by as_aux_lemma => kernel_rfl) (by simp) ?_
    refine AllReadyH.cons (o := { dst := some 107, op := Op.call { callee := Callee.value (Operand.func 28), args := #[Operand.tmp 106], argTypes := #[26] }, type := 24, pos := "law.go:110", after := #[{ on := 79, ground := Ground.data }, { on := 78, ground := Ground.chain }, { on := 76, ground := Ground.guard }], guard := some (76, true) }) rfl (fun K hK => ?_) AllReadyH.nil
    go_simp
    (go_at_call 28; (with_reducible refine (imag_any (HA.out.ext (XW.out.trans HC27.out)) (HT.out.ext (XW.out.trans HC27.out))).mono ?_); rw [Emg.out]; rintro e w38 ⟨A48, c48, rfl, hon, hx⟩; have HC28 := Lib.hid (Ext.trans HC27.out hx); have HL28 := Lib.hid hx; have DM := Lib.hid (Dy.of_on hon Tmg2.out.1 Tmg2.out.2 (Ext.refl _)); clear hon; clear hx hk; have hk := HS.out _ HC28.out)
    (try go_wp2_with fail)
    refine hK.out _ _ hk (fun hHeld' => ?_)
    clear hK K hHeld
    have hHeld := hHeld'
    clear hHeld'
    (try simp only [Act.put, List.setIfInBounds_toArray, List.set_cons_zero, List.set_cons_succ])
    refine wpAnyH_ready (rs := [81]) (by as_aux_lemma => kernel_rfl) (by simp) ?_
    refine AllReadyH.cons (o := { dst := some 108, op := Op.call { callee := Callee.value (Operand.func 27), args := #[Operand.tmp 105, Operand.tmp 107], argTypes := #[24, 24] }, type := 3, pos := "law.go:110", after := #[{ on := 78, ground := Ground.data }, { on := 80, ground := Ground.data }, { on := 80, ground := Ground.chain }, { on := 76, ground := Ground.guard }], guard := some (76, true) }) rfl (fun K hK => ?_) AllReadyH.nil
    go_simp
    (go_at_call 27; (with_reducible refine (cmp_any (DR.out.ext HL28.out) DM.out).mono ?_); rw [Ecv.out]; rintro e w39 ⟨rfl, hx⟩; have HC29 := Lib.hid (Ext.trans HC28.out hx); have HL29 := Lib.hid hx; clear hx hk DR DM; have hk := HS.out _ HC29.out)
    (try go_wp2_with fail)
    refine hK.out _ _ hk (fun hHeld' => ?_)
    clear hK K hHeld
    have hHeld := hHeld'
    clear hHeld'
    (try simp only [Act.put, List.setIfInBounds_toArray, List.set_cons_zero, List.set_cons_succ])
    refine wpAnyH_take (i := 82) (oi := { dst := some 109, op := Op.binOp BinOp.leq 3 (Operand.tmp 108) (Operand.const (Value.int IntKind.i64 0)) 3, type := 4, pos := "law.go:108", after := #[{ on := 81, ground := Ground.data }, { on := 76, ground := Ground.guard }], guard := some (76, true) }) (v := ?_) rfl (by as_aux_lemma => kernel_rfl) (by as_aux_lemma => kernel_rfl) (by as_aux_lemma => kernel_rfl) (fun _ _ _ h => h) (Or.inl ⟨by rfl, ?hy⟩) hHeld ?_
    case hy => ((intro w' hSw; (try dsimp only at hSw); go_simp); (try with_reducible rfl))
    (try simp only [Act.put, List.setIfInBounds_toArray, List.set_cons_zero, List.set_cons_succ])
    refine wpAnyH_take (i := 83) (oi := { dst := some 110, op := Op.pick (Operand.tmp 103) (Operand.tmp 109) (Operand.const (Value.bool false)), type := 4, pos := "law.go:108", after := #[{ on := 76, ground := Ground.data }, { on := 82, ground := Ground.data }], guard := none }) (v := ?_) rfl (by as_aux_lemma => kernel_rfl) (by as_aux_lemma => kernel_rfl) (by as_aux_lemma => kernel_rfl) (fun _ _ _ h => h) (Or.inl ⟨by rfl, ?hy⟩) hHeld ?_
    case hy => ((intro w' hSw; (try dsimp only at hSw); go_simp); (try with_reducible rfl))
    (try simp only [Act.put, List.setIfInBounds_toArray, List.set_cons_zero, List.set_cons_succ])
    refine wpAnyH_take (i := 84) (oi := { dst := some 111, op := Op.move (Operand.tmp 110), type := 4, pos := "law.go:108", after := #[{ on := 83, ground := Ground.data }, { on := 81, ground := Ground.chain }], guard := none }) (v := ?_) rfl (by as_aux_lemma => kernel_rfl) (by as_aux_lemma => kernel_rfl) (by as_aux_lemma => kernel_rfl) (fun _ _ _ h => h) (Or.inl ⟨by rfl, ?hy⟩) hHeld ?_
    case hy => ((intro w' hSw; (try dsimp only at hSw); go_simp); (try with_reducible rfl))
    (try simp only [Act.put, List.setIfInBounds_toArray, List.set_cons_zero, List.set_cons_succ])
    refine wpAnyH_take (i := 85) (oi := { dst := some 112, op := Op.load 26 (Operand.tmp 3), type := 26, pos := "law.go:108", after := #[{ on := 84, ground := Ground.guard }], guard := some (84, true) }) (v := ?_) rfl (by as_aux_lemma => kernel_rfl) (by as_aux_lemma => kernel_rfl) (by as_aux_lemma => kernel_rfl) (fun _ _ _ h => h) (Or.inl ⟨by rfl, ?hy⟩) hHeld ?_
    case hy => ((intro w' hSw; (try dsimp only at hSw); go_simp); (try with_reducible rfl))
    (try simp only [Act.put, List.setIfInBounds_toArray, List.set_cons_zero, List.set_cons_succ])
    refine wpAnyH_take (i := 86) (oi := { dst := some 113, op := Op.load 24 (Operand.tmp 8), type := 24, pos := "law.go:108", after := #[{ on := 84, ground := Ground.guard }], guard := some (84, true) }) (v := ?_) rfl (by as_aux_lemma => kernel_rfl) (by as_aux_lemma => kernel_rfl) (by as_aux_lemma => kernel_rfl) (fun _ _ _ h => h) (Or.inl ⟨by rfl, ?hy⟩) hHeld ?_
    case hy => ((intro w' hSw; (try dsimp only at hSw); go_simp); (try with_reducible rfl))
    (try simp only [Act.put, List.setIfInBounds_toArray, List.set_cons_zero, List.set_cons_succ])
    refine wpAnyH_take (i := 88) (oi := { dst := some 115, op := Op.load 24 (Operand.tmp 7), type := 24, pos := "law.go:108", after := #[{ on := 84, ground := Ground.guard }], guard := some (84, true) }) (v := ?_) rfl (by as_aux_lemma => kernel_rfl) (by as_aux_lemma => kernel_rfl) (by as_aux_lemma => kernel_rfl) (fun _ _ _ h => h) (Or.inl ⟨by rfl, ?hy⟩) hHeld ?_
    case hy => ((intro w' hSw; (try dsimp only at hSw); go_simp); (try with_reducible rfl))
    (try simp only [Act.put, List.setIfInBounds_toArray, List.set_cons_zero, List.set_cons_succ])
    refine wpAnyH_take (i := 89) (oi := { dst := some 116, op := Op.load 24 (Operand.tmp 8), type := 24, pos := "law.go:108", after := #[{ on := 84, ground := Ground.guard }], guard := some (84, true) }) (v := ?_) rfl (by as_aux_lemma => kernel_rfl) (by as_aux_lemma => kernel_rfl) (by as_aux_lemma => kernel_rfl) (fun _ _ _ h => h) (Or.inl ⟨by rfl, ?hy⟩) hHeld ?_
    case hy => ((intro w' hSw; (try dsimp only at hSw); go_simp); (try with_reducible rfl))
    (try simp only [Act.put, List.setIfInBounds_toArray, List.set_cons_zero, List.set_cons_succ])
    refine wpAnyH_ready (rs := [87]) (by as_aux_lemma => kernel_rfl) (by simp) ?_
    refine AllReadyH.cons (o := { dst := some 114, op := Op.call { callee := Callee.value (Operand.func 29), args := #[Operand.tmp 112, Operand.tmp 113], argTypes := #[26, 24] }, type := 26, pos := "law.go:111", after := #[{ on := 85, ground := Ground.data }, { on := 86, ground := Ground.data }, { on := 84, ground := Ground.chain }, { on := 84, ground := Ground.guard }], guard := some (84, true) }) rfl (fun K hK => ?_) AllReadyH.nil
    go_simp
    (go_at_call 29; (with_reducible refine (scale_any (HA.out.ext (XW.out.trans HC29.out)) (DY.out.ext HC29.out) (HT.out.ext (XW.out.trans HC29.out)) W2.out.2).mono ?_); rw [EsclL.out, EsclH.out]; rintro e w40 ⟨A50, c50, B50, k50, rfl, hfa, hfb, hx⟩; have HC30 := Lib.hid (Ext.trans HC29.out hx); have HL30 := Lib.hid hx; have IR := Lib.hid (IvRes.at_ hfa hfb Tscl.out.1 Tscl.out.2.1 Tscl.out.2.2.1 (Ext.refl _)); clear hfa hfb; clear hx hk; have hk := HS.out _ HC30.out)
    (try go_wp2_with fail)
    refine hK.out _ _ hk (fun hHeld' => ?_)
    clear hK K hHeld
    have hHeld := hHeld'
    clear hHeld'
    (try simp only [Act.put, List.setIfInBounds_toArray, List.set_cons_zero, List.set_cons_succ])
    refine wpAnyH_ready (rs := [90]) (by as_aux_lemma => kernel_rfl) (by simp) ?_
    refine AllReadyH.cons (o := { dst := some 117, op := Op.call { callee := Callee.value (Operand.func 21), args := #[Operand.tmp 115, Operand.tmp 116], argTypes := #[24, 24] }, type := 24, pos := "law.go:111", after := #[{ on := 88, ground := Ground.data }, { on := 89, ground := Ground.data }, { on := 87, ground := Ground.chain }, { on := 84, ground := Ground.guard }], guard := some (84, true) }) rfl (fun K hK => ?_) AllReadyH.nil
    go_simp
    (go_at_call 21; (with_reducible refine (mul_any (DX.out.ext HC30.out) (DY.out.ext HC30.out) (HT.out.ext (XW.out.trans HC30.out))).mono ?_); rw [EsclN.out]; rintro e w41 ⟨A51, c51, rfl, hon, hx⟩; have HC31 := Lib.hid (Ext.trans HC30.out hx); have HL31 := Lib.hid hx; have DR := Lib.hid (Dy.of_on hon Tscl.out.2.2.2.1 (Nat.le_trans Tscl.out.2.2.2.2.1 (by decide)) (Ext.refl _)); clear hon; clear hx hk; have hk := HS.out _ HC31.out)
    (try go_wp2_with fail)
    refine hK.out _ _ hk (fun hHeld' => ?_)
    clear hK K hHeld
    have hHeld := hHeld'
    clear hHeld'
    (try simp only [Act.put, List.setIfInBounds_toArray, List.set_cons_zero, List.set_cons_succ])
    refine wpAnyH_ready (rs := [91]) (by as_aux_lemma => kernel_rfl) (by simp) ?_
    refine AllReadyH.cons (o := { dst := some 118, op := Op.call { callee := Callee.value (Operand.func 11), args := #[Operand.tmp 114, Operand.tmp 117], argTypes := #[26, 24] }, type := 4, pos := "law.go:111", after := #[{ on := 87, ground := Ground.data }, { on := 90, ground := Ground.data }, { on := 90, ground := Ground.chain }, { on := 84, ground := Ground.guard }], guard := some (84, true) }) rfl (fun K hK => ?_) AllReadyH.nil
    go_simp
    (go_at_call 11; (with_reducible refine (contains_any (IR.out.ext HL31.out) DR.out).mono ?_); rw [Tscl.out.2.2.2.2.2]; rintro e w42 ⟨rfl, hx⟩; have HC32 := Lib.hid (Ext.trans HC31.out hx); have HL32 := Lib.hid hx; clear hx hk; have hk := HS.out _ HC32.out)
    (try go_wp2_with fail)
    refine hK.out _ _ hk (fun hHeld' => ?_)
    clear hK K hHeld
    have hHeld := hHeld'
    clear hHeld'
    (try simp only [Act.put, List.setIfInBounds_toArray, List.set_cons_zero, List.set_cons_succ])
    refine wpAnyH_take (i := 92) (oi := { dst := some 119, op := Op.pick (Operand.tmp 111) (Operand.tmp 118) (Operand.const (Value.bool false)), type := 4, pos := "law.go:108", after := #[{ on := 84, ground := Ground.data }, { on := 91, ground := Ground.data }], guard := none }) (v := ?_) rfl (by as_aux_lemma => kernel_rfl) (by as_aux_lemma => kernel_rfl) (by as_aux_lemma => kernel_rfl) (fun _ _ _ h => h) (Or.inl ⟨by rfl, ?hy⟩) hHeld ?_
    case hy => ((intro w' hSw; (try dsimp only at hSw); go_simp); (try with_reducible rfl))
    (try simp only [Act.put, List.setIfInBounds_toArray, List.set_cons_zero, List.set_cons_succ])
    refine wpAnyH_take (i := 93) (oi := { dst := some 6, op := Op.assign (Operand.tmp 119), type := 4, pos := "law.go:108", after := ([{ on := 92, ground := Ground.data }, { on := 91, ground := Ground.chain }, { on := 0, ground := Ground.phase }, { on := 1, ground := Ground.phase }, { on := 2, ground := Ground.phase }, { on := 3, ground := Ground.phase }, { on := 4, ground := Ground.phase }, { on := 5, ground := Ground.phase }, { on := 6, ground := Ground.phase }, { on := 7, ground := Ground.phase }, { on := 8, ground := Ground.phase }, { on := 9, ground := Ground.phase }, { on := 10, ground := Ground.phase }, { on := 11, ground := Ground.phase }, { on := 12, ground := Ground.phase }, { on := 13, ground := Ground.phase }, { on := 14, ground := Ground.phase }, { on := 15, ground := Ground.phase }, { on := 16, ground := Ground.phase }, { on := 17, ground := Ground.phase }, { on := 18, ground := Ground.phase }, { on := 19, ground := Ground.phase }, { on := 20, ground := Ground.phase }, { on := 21, ground := Ground.phase }, { on := 22, ground := Ground.phase }, { on := 23, ground := Ground.phase }, { on := 24, ground := Ground.phase }, { on := 25, ground := Ground.phase }, { on := 26, ground := Ground.phase }, { on := 27, ground := Ground.phase }, { on := 28, ground := Ground.phase }, { on := 29, ground := Ground.phase }, { on := 30, ground := Ground.phase }, { on := 31, ground := Ground.phase }, { on := 32, ground := Ground.phase }, { on := 33, ground := Ground.phase }, { on := 34, ground := Ground.phase }, { on := 35, ground := Ground.phase }, { on := 36, ground := Ground.phase }, { on := 37, ground := Ground.phase }, { on := 38, ground := Ground.phase }, { on := 39, ground := Ground.phase }, { on := 40, ground := Ground.phase }, { on := 41, ground := Ground.phase }, { on := 42, ground := Ground.phase }, { on := 43, ground := Ground.phase }, { on := 44, ground := Ground.phase }].append [{ on := 45, ground := Ground.phase }, { on := 46, ground := Ground.phase }, { on := 47, ground := Ground.phase }, { on := 48, ground := Ground.phase }, { on := 49, ground := Ground.phase }, { on := 50, ground := Ground.phase }, { on := 51, ground := Ground.phase }, { on := 52, ground := Ground.phase }, { on := 53, ground := Ground.phase }, { on := 54, ground := Ground.phase }, { on := 55, ground := Ground.phase }, { on := 56, ground := Ground.phase }, { on := 57, ground := Ground.phase }, { on := 58, ground := Ground.phase }, { on := 59, ground := Ground.phase }, { on := 60, ground := Ground.phase }, { on := 61, ground := Ground.phase }, { on := 62, ground := Ground.phase }, { on := 63, ground := Ground.phase }, { on := 64, ground := Ground.phase }, { on := 65, ground := Ground.phase }, { on := 66, ground := Ground.phase }, { on := 67, ground := Ground.phase }, { on := 68, ground := Ground.phase }, { on := 69, ground := Ground.phase }, { on := 70, ground := Ground.phase }, { on := 71, ground := Ground.phase }, { on := 72, ground := Ground.phase }, { on := 73, ground := Ground.phase }, { on := 74, ground := Ground.phase }, { on := 75, ground := Ground.phase }, { on := 76, ground := Ground.phase }, { on := 77, ground := Ground.phase }, { on := 78, ground := Ground.phase }, { on := 79, ground := Ground.phase }, { on := 80, ground := Ground.phase }, { on := 81, ground := Ground.phase }, { on := 82, ground := Ground.phase }, { on := 83, ground := Ground.phase }, { on := 84, ground := Ground.phase }, { on := 85, ground := Ground.phase }, { on := 86, ground := Ground.phase }, { on := 87, ground := Ground.phase }, { on := 88, ground := Ground.phase }, { on := 89, ground := Ground.phase }, { on := 90, ground := Ground.phase }, { on := 91, ground := Ground.phase }, { on := 92, ground := Ground.phase }]).toArray, guard := none }) (v := ?_) rfl (by as_aux_lemma => kernel_rfl) (by as_aux_lemma => kernel_rfl) (by as_aux_lemma => kernel_rfl) (fun _ _ _ h => h) (Or.inl ⟨by rfl, ?hy⟩) hHeld ?_
    case hy => ((intro w' hSw; (try dsimp only at hSw); go_simp); (try with_reducible rfl))
    (try simp only [Act.put, List.setIfInBounds_toArray, List.set_cons_zero, List.set_cons_succ])
    refine wpAnyH_done (by as_aux_lemma => kernel_rfl) ?_ _
    (try refine NoPanic.normal ?_)
    go_wp2_with fail
    go_ret
    exact ⟨rfl, XW.out.trans HC32.out⟩

end Go.Proofs.YtbpcekibdnpkhaaGreatDoor
