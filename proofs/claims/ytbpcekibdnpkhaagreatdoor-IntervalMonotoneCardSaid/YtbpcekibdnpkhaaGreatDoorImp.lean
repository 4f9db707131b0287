/- The law IntervalMonotone. -/
import Derived.Test.YtbpcekibdnpkhaaGreatDoorIvw
import Derived.Test.YtbpcekibdnpkhaaGreatDoorIvf
import Derived.Test.YtbpcekibdnpkhaaGreatDoorIvns
import Derived.Test.YtbpcekibdnpkhaaGreatDoorIvmx
import Derived.Test.YtbpcekibdnpkhaaGreatDoorImk
import Derived.Deep.RegionHeld3
import Derived.Deep.DeepCutAuto
namespace Go.Proofs.YtbpcekibdnpkhaaGreatDoor
open Go.RowKit
attribute [local go_sem ↓] Go.wp_at_zero Go.wp_at_succ

/-- Two cells; three cells. -/
def B2 (w : World) (g : Nat) (v0 v1 : Value) : Prop := w.cell? ⟨g, 0, none⟩ = some v0 ∧ w.cell? ⟨g, 1, none⟩ = some v1
theorem B2.ext {w w' : World} {g : Nat} {v0 v1 : Value} (h : B2 w g v0 v1) (x : Ext w w') : B2 w' g v0 v1 := by
  have hl := World.block_lt_of_cell? w _ h.1
  exact ⟨(x.old.1 _ _ hl).trans h.1, (x.old.1 _ _ hl).trans h.2⟩
def C3 (w : World) (p : Nat) (d : DV) (A : Option Addr) (c : Nat) : Prop := w.cell? ⟨p, 0, none⟩ = some (.bool d.neg) ∧ w.cell? ⟨p, 1, none⟩ = some (.slice A (len d.m) c) ∧ w.cell? ⟨p, 2, none⟩ = some (I d.den)
theorem C3.ext {w w' : World} {p : Nat} {d : DV} {A : Option Addr} {c : Nat} (h : C3 w p d A c) (x : Ext w w') : C3 w' p d A c := by
  have hl := World.block_lt_of_cell? w _ h.1
  exact ⟨(x.old.1 _ _ hl).trans h.1, (x.old.1 _ _ hl).trans h.2.1, (x.old.1 _ _ hl).trans h.2.2⟩
/-- Words in blocks from lo on, below hi. -/
def Nr (w : World) (lo hi : Nat) (A : Option Addr) (n c : Nat) (f : Nat → Nat) : Prop := Rd w A n f ∧ SlOk A n c ∧ (0 < n → ∀ a, A = some a → lo ≤ a.block ∧ a.block < hi)
theorem Nr.of_on {w : World} {base n c : Nat} {A : Option Addr} {f : Nat → Nat} (h : On w base A n c f) : Nr w base w.heap.size A n c f := by
  have hf := On.fr h
  refine ⟨hf.1, hf.2.1, fun hn a ha => ⟨hf.2.2 hn a ha, ?_⟩⟩
  obtain ⟨b, o, e, hb, _⟩ := hf.1 hn
  rw [e] at ha; cases ha; exact hb
theorem Nr.ext {w w' : World} {lo hi n c : Nat} {A : Option Addr} {f : Nat → Nat} (h : Nr w lo hi A n c f) (x : Ext w w') : Nr w' lo hi A n c f := ⟨h.1.ext x, h.2.1, h.2.2⟩
theorem Nr.done {w : World} {lo hi n c : Nat} {A : Option Addr} {f : Nat → Nat} (h : Nr w lo hi A n c f) : Rd w A n f ∧ SlOk A n c := ⟨h.1, h.2.1⟩
theorem Nr.all {w : World} {base n c : Nat} {A : Option Addr} {f : Nat → Nat} (h : On w base A n c f) : ∃ lo hi, (base ≤ lo ∧ lo ≤ base ∧ w.heap.size ≤ hi ∧ hi ≤ w.heap.size) ∧ Nr w lo hi A n c f :=
  ⟨_, _, ⟨Nat.le_refl _, Nat.le_refl _, Nat.le_refl _, Nat.le_refl _⟩, Nr.of_on h⟩
theorem Nr.toAlloc {w : World} {lo hi n c : Nat} {A : Option Addr} {f : Nat → Nat} {ob : Obj} (h : Nr w lo hi A n c f) : Nr (w.alloc ob) lo hi A n c f := h.ext (Ext.alloc _ _)
theorem Nr.toSet {w : World} {lo hi n c g i : Nat} {A : Option Addr} {f : Nat → Nat} {u : Value} (h : Nr w lo hi A n c f) (hg : g < lo ∨ hi ≤ g) : Nr (w.setCell ⟨g, i, none⟩ u) lo hi A n c f :=
  ⟨h.1.set' (fun hn a ha => by have := h.2.2 hn a ha; omega) i u, h.2.1, h.2.2⟩
theorem ivs2 (w : World) (g : Nat) (hg : w.heap.size = g) {n1 n2 n3 n4 : Bool} {A B X Y : Option Addr} {k1 c1 k2 c2 k3 c3 k4 c4 : Nat} {d1 d2 d3 d4 : Int} (t : TypeId) :
    Ivs (w.alloc (.cells #[.bool n1, .slice A k1 c1, I d1, .bool n2, .slice B k2 c2, I d2, .bool n3, .slice X k3 c3, I d3, .bool n4, .slice Y k4 c4, I d4] t)) g 2 (fun i => if i = 0 then n1 else n3) (fun i => if i = 0 then A else X) (fun i => if i = 0 then k1 else k3) (fun i => if i = 0 then c1 else c3) (fun i => if i = 0 then d1 else d3) (fun i => if i = 0 then n2 else n4) (fun i => if i = 0 then B else Y) (fun i => if i = 0 then k2 else k4) (fun i => if i = 0 then c2 else c4) (fun i => if i = 0 then d2 else d4) := by
  subst hg
  intro i hi
  have : i = 0 ∨ i = 1 := by omega
  rcases this with rfl | rfl
  · exact ⟨by go_simp, by go_simp, by go_simp, by go_simp, by go_simp, by go_simp⟩
  · exact ⟨by go_simp, by go_simp, by go_simp, by go_simp, by go_simp, by go_simp⟩


/-- Four cells; six cells. -/
def B4 (w : World) (g : Nat) (v0 v1 v2 v3 : Value) : Prop := w.cell? ⟨g, 0, none⟩ = some v0 ∧ w.cell? ⟨g, 1, none⟩ = some v1 ∧ w.cell? ⟨g, 2, none⟩ = some v2 ∧ w.cell? ⟨g, 3, none⟩ = some v3
theorem B4.ext {w w' : World} {g : Nat} {v0 v1 v2 v3 : Value} (h : B4 w g v0 v1 v2 v3) (x : Ext w w') : B4 w' g v0 v1 v2 v3 := by
  have hl := World.block_lt_of_cell? w _ h.1
  exact ⟨(x.old.1 _ _ hl).trans h.1, (x.old.1 _ _ hl).trans h.2.1, (x.old.1 _ _ hl).trans h.2.2.1, (x.old.1 _ _ hl).trans h.2.2.2⟩
def C6 (w : World) (p : Nat) (a : DV) (A : Option Addr) (c : Nat) (b : DV) (B : Option Addr) (e : Nat) : Prop := w.cell? ⟨p, 0, none⟩ = some (.bool a.neg) ∧ w.cell? ⟨p, 1, none⟩ = some (.slice A (len a.m) c) ∧ w.cell? ⟨p, 2, none⟩ = some (I a.den) ∧ w.cell? ⟨p, 3, none⟩ = some (.bool b.neg) ∧ w.cell? ⟨p, 4, none⟩ = some (.slice B (len b.m) e) ∧ w.cell? ⟨p, 5, none⟩ = some (I b.den)
theorem C6.ext {w w' : World} {p : Nat} {a : DV} {A : Option Addr} {c : Nat} {b : DV} {B : Option Addr} {e : Nat} (h : C6 w p a A c b B e) (x : Ext w w') : C6 w' p a A c b B e := by
  have hl := World.block_lt_of_cell? w _ h.1
  obtain ⟨h0, h1, h2, h3, h4, h5⟩ := h
  exact ⟨(x.old.1 _ _ hl).trans h0, (x.old.1 _ _ hl).trans h1, (x.old.1 _ _ hl).trans h2, (x.old.1 _ _ hl).trans h3, (x.old.1 _ _ hl).trans h4, (x.old.1 _ _ hl).trans h5⟩
theorem Nr.fr {w : World} {base n c : Nat} {A : Option Addr} {f : Nat → Nat} (h : Fr w base A n c f) : ∃ lo hi, (base ≤ lo ∧ lo ≤ base ∧ w.heap.size ≤ hi ∧ hi ≤ w.heap.size) ∧ Nr w lo hi A n c f :=
  ⟨_, _, ⟨Nat.le_refl _, Nat.le_refl _, Nat.le_refl _, Nat.le_refl _⟩, h.1, h.2.1, fun hn a ha => ⟨h.2.2 hn a ha, by
    obtain ⟨b, o, e, hb, _⟩ := h.1 hn
    rw [e] at ha; cases ha; exact hb⟩⟩
theorem one6m {w w1 : World} {v0 v1 v2 v3 v4 v5 : Value} {t : TypeId} (hx : Ext (w.alloc (.cells #[v0, v1, v2, v3, v4, v5] t)) w1) : B6 w1 w.heap.size v0 v1 v2 v3 v4 v5 := (B6.new w v0 v1 v2 v3 v4 v5 t).ext hx
theorem one6md {w w1 : World} {v0 v1 v2 v3 v4 v5 : Value} {t : TypeId} (hx : Ext (w.alloc (.cells #[v0, v1, v2, v3, v4, v5] t)).drew w1) : B6 w1 w.heap.size v0 v1 v2 v3 v4 v5 := (B6.new w v0 v1 v2 v3 v4 v5 t).ext ((Ext.drew _).trans hx)
/-- What a part of an interval is made of. -/
abbrev Pt (a b d : DV) : Prop := d.ok ∧ len d.m ≤ 5000 ∧ d.den ≤ 204 ∧ Btw a b d
theorem part_of {a b p q : DV} (hp : Pt a b p) (hq : Pt a b q) : cmpD (minD p q) (maxD p q) ≤ 0 ∧ Pt a b (minD p q) ∧ Pt a b (maxD p q) ∧ Pt a b (lo2 (minD p q) (maxD p q)) ∧ Pt a b (hi2 (minD p q) (maxD p q)) ∧ (lo2 (minD p q) (maxD p q)).q ≤ (hi2 (minD p q) (maxD p q)).q := by
  have u := sz_min (P := Pt a b) hp hq
  have v := sz_max (P := Pt a b) hp hq
  exact ⟨(cmp_le u.1 v.1).2 (lo2_le hp.1 hq.1), u, v, sz_min (P := Pt a b) u v, sz_max (P := Pt a b) u v, lo2_le u.1 v.1⟩


set_option maxRecDepth 100000 in
set_option maxHeartbeats 1000000 in
theorem imonoL_off {w : World} {n1 n2 n3 n4 : Bool} {A B X Y : Option Addr} {k1 c1 k2 c2 k3 c3 k4 c4 : Nat} {d1 d2 d3 d4 : Int} {s0 s1 s2 s3 : Int} (hT : Tabs w) (hP : TabP w) (h : ¬ (∀ i, i < 2 → shOk (if i = 0 then k1 else k3) (if i = 0 then d1 else d3) ∧ shOk (if i = 0 then k2 else k4) (if i = 0 then d2 else d4))) :
    Calls Tryz.prog 4 #[iv n1 A k1 c1 d1 n2 B k2 c2 d2, iv n3 X k3 c3 d3 n4 Y k4 c4 d4, .agg #[.int .u8 s0, .int .u8 s1, .int .u8 s2, .int .u8 s3]] w fun e w' => e = .returned (.bool true) ∧ Ext w w' := by
  have HT := Lib.hid hT; have HP := Lib.hid hP; clear hT hP
  have HFW : Hid (false = true ↔ (∀ i, i < 2 → shOk (if i = 0 then k1 else k3) (if i = 0 then d1 else d3) ∧ shOk (if i = 0 then k2 else k4) (if i = 0 then d2 else d4))) := ⟨fun h => (by cases h), fun hh => absurd hh h⟩
  clear h
  go_enter Tryz.func4, Tryz.ntmps4
  go_wp2_with fail
  have HN := Lib.hid (ivs2 (((w.alloc (.cells #[.bool n1, .slice A k1 c1, I d1, .bool n2, .slice B k2 c2, I d2] 26)).alloc (.cells #[.bool n3, .slice X k3 c3, I d3, .bool n4, .slice Y k4 c4, I d4] 26)).alloc (.cells #[.int .u8 s0, .int .u8 s1, .int .u8 s2, .int .u8 s3] 40)) (w.heap.size + 1 + 1 + 1) (by simp) (n1 := n1) (n2 := n2) (n3 := n3) (n4 := n4) (A := A) (B := B) (X := X) (Y := Y) (k1 := k1) (c1 := c1) (k2 := k2) (c2 := c2) (k3 := k3) (c3 := c3) (k4 := k4) (c4 := c4) (d1 := d1) (d2 := d2) (d3 := d3) (d4 := d4) 26)
  with_reducible refine (ifew_any HN.out (by simp) (by omega) HFW.out).mono ?_
  rintro e wf ⟨rfl, hx⟩
  have HEF : Hid (Ext w wf) := ((((Ext.alloc _ _).trans (Ext.alloc _ _)).trans (Ext.alloc _ _)).trans (Ext.alloc _ _)).trans hx
  clear hx HN HFW
  go_wp2_with fail
  refine (iawake_any _ (HT.out.ext HEF.out) (HP.out.ext HEF.out)).mono ?_
  rintro e w0 ⟨rfl, hx⟩
  have HEW := Lib.hid (HEF.out.trans hx)
  clear hx
  go_wp2_with fail
  go_ret
  exact ⟨rfl, HEW.out⟩

set_option maxRecDepth 100000 in
set_option maxHeartbeats 16000000 in
theorem imonoL_true {w : World} {n1 n2 n3 n4 : Bool} {A B X Y A' B' X' Y' : Option Addr} {k1 c1 k2 c2 k3 c3 k4 c4 e1 e2 e3 e4 : Nat} {d1 d2 d3 d4 : Int} {a b c d : DV} {s0 s1 s2 s3 : Int} (ha : Iw w n1 A k1 c1 d1 n2 B k2 c2 d2 a b A' e1 B' e2) (hb : Iw w n3 X k3 c3 d3 n4 Y k4 c4 d4 c d X' e3 Y' e4) (hT : Tabs w) (hP : TabP w) (h : (∀ i, i < 2 → shOk (if i = 0 then k1 else k3) (if i = 0 then d1 else d3) ∧ shOk (if i = 0 then k2 else k4) (if i = 0 then d2 else d4))) (la : len a.m ≤ 8) (lb : len b.m ≤ 8) (lc : len c.m ≤ 8) (ld : len d.m ≤ 8) (da : a.den ≤ 200) (db : b.den ≤ 200) (dc : c.den ≤ 200) (dd : d.den ≤ 200) (b0 : 0 ≤ s0 ∧ s0 ≤ 255) (b1 : 0 ≤ s1 ∧ s1 ≤ 255) (b2 : 0 ≤ s2 ∧ s2 ≤ 255) (b3 : 0 ≤ s3 ∧ s3 ≤ 255) :
    Calls Tryz.prog 4 #[iv n1 A k1 c1 d1 n2 B k2 c2 d2, iv n3 X k3 c3 d3 n4 Y k4 c4 d4, .agg #[.int .u8 s0, .int .u8 s1, .int .u8 s2, .int .u8 s3]] w fun e w' => e = .returned (.bool true) ∧ Ext w w' := by
  have HT := Lib.hid hT; have HP := Lib.hid hP; have HA := Lib.hid ha; have HB := Lib.hid hb
  have HFW := Lib.hid h
  obtain ⟨p1, hp1⟩ : ∃ z, pickD a b (s0 % 17) = z := ⟨_, rfl⟩
  have tp1 : Pt a b p1 := by have := pick_small ha.wa.1 ha.wb.1 la lb da db (show 0 ≤ s0 % 17 by omega) (show s0 % 17 ≤ 16 by omega) ha.le; rw [hp1] at this; exact this
  have Wp1 : Hid (p1.ok ∧ len p1.m ≤ 16777216) := ⟨tp1.1, Nat.le_trans tp1.2.1 (by decide)⟩
  have Pp1 := Lib.hid hp1; have Bp1 := Lib.hid b0
  obtain ⟨p2, hp2⟩ : ∃ z, pickD a b (s1 % 17) = z := ⟨_, rfl⟩
  have tp2 : Pt a b p2 := by have := pick_small ha.wa.1 ha.wb.1 la lb da db (show 0 ≤ s1 % 17 by omega) (show s1 % 17 ≤ 16 by omega) ha.le; rw [hp2] at this; exact this
  have Wp2 : Hid (p2.ok ∧ len p2.m ≤ 16777216) := ⟨tp2.1, Nat.le_trans tp2.2.1 (by decide)⟩
  have Pp2 := Lib.hid hp2; have Bp2 := Lib.hid b1
  obtain ⟨q1, hq1⟩ : ∃ z, pickD c d (s2 % 17) = z := ⟨_, rfl⟩
  have tq1 : Pt c d q1 := by have := pick_small hb.wa.1 hb.wb.1 lc ld dc dd (show 0 ≤ s2 % 17 by omega) (show s2 % 17 ≤ 16 by omega) hb.le; rw [hq1] at this; exact this
  have Wq1 : Hid (q1.ok ∧ len q1.m ≤ 16777216) := ⟨tq1.1, Nat.le_trans tq1.2.1 (by decide)⟩
  have Pq1 := Lib.hid hq1; have Bq1 := Lib.hid b2
  obtain ⟨q2, hq2⟩ : ∃ z, pickD c d (s3 % 17) = z := ⟨_, rfl⟩
  have tq2 : Pt c d q2 := by have := pick_small hb.wa.1 hb.wb.1 lc ld dc dd (show 0 ≤ s3 % 17 by omega) (show s3 % 17 ≤ 16 by omega) hb.le; rw [hq2] at this; exact this
  have Wq2 : Hid (q2.ok ∧ len q2.m ≤ 16777216) := ⟨tq2.1, Nat.le_trans tq2.2.1 (by decide)⟩
  have Pq2 := Lib.hid hq2; have Bq2 := Lib.hid b3
  have tux := part_of tp1 tp2
  obtain ⟨ux, hux⟩ : ∃ z, minD p1 p2 = z := ⟨_, rfl⟩; rw [hux] at tux; have Eux := Lib.hid hux; clear hux
  obtain ⟨vx, hvx⟩ : ∃ z, maxD p1 p2 = z := ⟨_, rfl⟩; rw [hvx] at tux; have Evx := Lib.hid hvx; clear hvx
  obtain ⟨x1, hx1⟩ : ∃ z, lo2 ux vx = z := ⟨_, rfl⟩; rw [hx1] at tux; have Ex1 := Lib.hid hx1; clear hx1
  obtain ⟨x2, hx2⟩ : ∃ z, hi2 ux vx = z := ⟨_, rfl⟩; rw [hx2] at tux; have Ex2 := Lib.hid hx2; clear hx2
  obtain ⟨g1, g2, g3, g4, g5, g6⟩ := tux; have Cux := Lib.hid g1; have Wux : Hid (ux.ok ∧ len ux.m ≤ 16777216) := ⟨g2.1, Nat.le_trans g2.2.1 (by decide)⟩; have Wvx : Hid (vx.ok ∧ len vx.m ≤ 16777216) := ⟨g3.1, Nat.le_trans g3.2.1 (by decide)⟩
  clear g1 g2 g3
  rename Pt _ _ x1 => tx1; rename Pt _ _ x2 => tx2; rename x1.q ≤ x2.q => tx1le
  have tuy := part_of tq1 tq2
  obtain ⟨uy, huy⟩ : ∃ z, minD q1 q2 = z := ⟨_, rfl⟩; rw [huy] at tuy; have Euy := Lib.hid huy; clear huy
  obtain ⟨vy, hvy⟩ : ∃ z, maxD q1 q2 = z := ⟨_, rfl⟩; rw [hvy] at tuy; have Evy := Lib.hid hvy; clear hvy
  obtain ⟨y1, hy1⟩ : ∃ z, lo2 uy vy = z := ⟨_, rfl⟩; rw [hy1] at tuy; have Ey1 := Lib.hid hy1; clear hy1
  obtain ⟨y2, hy2⟩ : ∃ z, hi2 uy vy = z := ⟨_, rfl⟩; rw [hy2] at tuy; have Ey2 := Lib.hid hy2; clear hy2
  obtain ⟨g1, g2, g3, g4, g5, g6⟩ := tuy; have Cuy := Lib.hid g1; have Wuy : Hid (uy.ok ∧ len uy.m ≤ 16777216) := ⟨g2.1, Nat.le_trans g2.2.1 (by decide)⟩; have Wvy : Hid (vy.ok ∧ len vy.m ≤ 16777216) := ⟨g3.1, Nat.le_trans g3.2.1 (by decide)⟩
  clear g1 g2 g3
  rename Pt _ _ y1 => ty1; rename Pt _ _ y2 => ty2; rename y1.q ≤ y2.q => ty1le
  have CX : Cy a b x1 x2 c d y1 y2 := ⟨ha.wa.1, ha.wb.1, tx1.1, tx2.1, hb.wa.1, hb.wb.1, ty1.1, ty2.1, by omega, by omega, tx1.2.1, tx2.2.1, by omega, by omega, ty1.2.1, ty2.2.1, by omega, by omega, tx1.2.2.1, tx2.2.2.1, by omega, by omega, ty1.2.2.1, ty2.2.2.1, tx1.2.2.2.1, tx1le, tx2.2.2.2.2, ty1.2.2.2.1, ty1le, ty2.2.2.2.2⟩
  have EX : Hid (End x1 ∧ End x2 ∧ x1.q ≤ x2.q) := ⟨⟨tx1.1, Nat.le_trans tx1.2.1 (by decide)⟩, ⟨tx2.1, Nat.le_trans tx2.2.1 (by decide)⟩, tx1le⟩
  have EY : Hid (End y1 ∧ End y2 ∧ y1.q ≤ y2.q) := ⟨⟨ty1.1, Nat.le_trans ty1.2.1 (by decide)⟩, ⟨ty2.1, Nat.le_trans ty2.2.1 (by decide)⟩, ty1le⟩
  have LM1 : Hid (len a.m + len c.m ≤ 1048576) := by have := CX; have r1 := CX.l0; have r2 := CX.l1; have r3 := CX.l2; have r4 := CX.l3; have r5 := CX.l4; have r6 := CX.l5; have r7 := CX.l6; have r8 := CX.l7; show _ ≤ _; omega
  have LM2 : Hid (len b.m + len c.m ≤ 1048576) := by have := CX; have r1 := CX.l0; have r2 := CX.l1; have r3 := CX.l2; have r4 := CX.l3; have r5 := CX.l4; have r6 := CX.l5; have r7 := CX.l6; have r8 := CX.l7; show _ ≤ _; omega
  have LM3 : Hid (len a.m + len d.m ≤ 1048576) := by have := CX; have r1 := CX.l0; have r2 := CX.l1; have r3 := CX.l2; have r4 := CX.l3; have r5 := CX.l4; have r6 := CX.l5; have r7 := CX.l6; have r8 := CX.l7; show _ ≤ _; omega
  have LM4 : Hid (len b.m + len d.m ≤ 1048576) := by have := CX; have r1 := CX.l0; have r2 := CX.l1; have r3 := CX.l2; have r4 := CX.l3; have r5 := CX.l4; have r6 := CX.l5; have r7 := CX.l6; have r8 := CX.l7; show _ ≤ _; omega
  have LM5 : Hid (len x1.m + len y1.m ≤ 1048576) := by have := CX; have r1 := CX.l0; have r2 := CX.l1; have r3 := CX.l2; have r4 := CX.l3; have r5 := CX.l4; have r6 := CX.l5; have r7 := CX.l6; have r8 := CX.l7; show _ ≤ _; omega
  have LM6 : Hid (len x2.m + len y1.m ≤ 1048576) := by have := CX; have r1 := CX.l0; have r2 := CX.l1; have r3 := CX.l2; have r4 := CX.l3; have r5 := CX.l4; have r6 := CX.l5; have r7 := CX.l6; have r8 := CX.l7; show _ ≤ _; omega
  have LM7 : Hid (len x1.m + len y2.m ≤ 1048576) := by have := CX; have r1 := CX.l0; have r2 := CX.l1; have r3 := CX.l2; have r4 := CX.l3; have r5 := CX.l4; have r6 := CX.l5; have r7 := CX.l6; have r8 := CX.l7; show _ ≤ _; omega
  have LM8 : Hid (len x2.m + len y2.m ≤ 1048576) := by have := CX; have r1 := CX.l0; have r2 := CX.l1; have r3 := CX.l2; have r4 := CX.l3; have r5 := CX.l4; have r6 := CX.l5; have r7 := CX.l6; have r8 := CX.l7; show _ ≤ _; omega
  have Tx := Lib.hid (i_x CX); have Ty := Lib.hid (i_y CX)
  have tadd := i_add CX
  obtain ⟨addL, haddL⟩ : ∃ z, lo2 (addD x1 y1) (addD x2 y2) = z := ⟨_, rfl⟩; rw [haddL] at tadd; have EaddL := Lib.hid haddL; clear haddL
  obtain ⟨addH, haddH⟩ : ∃ z, hi2 (addD x1 y1) (addD x2 y2) = z := ⟨_, rfl⟩; rw [haddH] at tadd; have EaddH := Lib.hid haddH; clear haddH
  obtain ⟨addM, haddM⟩ : ∃ z, lo2 (addD a c) (addD b d) = z := ⟨_, rfl⟩; rw [haddM] at tadd; have EaddM := Lib.hid haddM; clear haddM
  obtain ⟨addK, haddK⟩ : ∃ z, hi2 (addD a c) (addD b d) = z := ⟨_, rfl⟩; rw [haddK] at tadd; have EaddK := Lib.hid haddK; clear haddK
  have Tadd := Lib.hid tadd; clear tadd
  have tsub := i_sub CX
  obtain ⟨subL, hsubL⟩ : ∃ z, lo2 (addD x1 (lo2 (negD y1) (negD y2))) (addD x2 (hi2 (negD y1) (negD y2))) = z := ⟨_, rfl⟩; rw [hsubL] at tsub; have EsubL := Lib.hid hsubL; clear hsubL
  obtain ⟨subH, hsubH⟩ : ∃ z, hi2 (addD x1 (lo2 (negD y1) (negD y2))) (addD x2 (hi2 (negD y1) (negD y2))) = z := ⟨_, rfl⟩; rw [hsubH] at tsub; have EsubH := Lib.hid hsubH; clear hsubH
  obtain ⟨subM, hsubM⟩ : ∃ z, lo2 (addD a (lo2 (negD c) (negD d))) (addD b (hi2 (negD c) (negD d))) = z := ⟨_, rfl⟩; rw [hsubM] at tsub; have EsubM := Lib.hid hsubM; clear hsubM
  obtain ⟨subK, hsubK⟩ : ∃ z, hi2 (addD a (lo2 (negD c) (negD d))) (addD b (hi2 (negD c) (negD d))) = z := ⟨_, rfl⟩; rw [hsubK] at tsub; have EsubK := Lib.hid hsubK; clear hsubK
  have Tsub := Lib.hid tsub; clear tsub
  have tmul := i_mul CX
  obtain ⟨mulL, hmulL⟩ : ∃ z, lo4 (lo2 (mulD x1 y1) (mulD x2 y1)) (hi2 (mulD x1 y1) (mulD x2 y1)) (lo2 (mulD x1 y2) (mulD x2 y2)) (hi2 (mulD x1 y2) (mulD x2 y2)) = z := ⟨_, rfl⟩; rw [hmulL] at tmul; have EmulL := Lib.hid hmulL; clear hmulL
  obtain ⟨mulH, hmulH⟩ : ∃ z, hi4 (lo2 (mulD x1 y1) (mulD x2 y1)) (hi2 (mulD x1 y1) (mulD x2 y1)) (lo2 (mulD x1 y2) (mulD x2 y2)) (hi2 (mulD x1 y2) (mulD x2 y2)) = z := ⟨_, rfl⟩; rw [hmulH] at tmul; have EmulH := Lib.hid hmulH; clear hmulH
  obtain ⟨mulM, hmulM⟩ : ∃ z, lo4 (lo2 (mulD a c) (mulD b c)) (hi2 (mulD a c) (mulD b c)) (lo2 (mulD a d) (mulD b d)) (hi2 (mulD a d) (mulD b d)) = z := ⟨_, rfl⟩; rw [hmulM] at tmul; have EmulM := Lib.hid hmulM; clear hmulM
  obtain ⟨mulK, hmulK⟩ : ∃ z, hi4 (lo2 (mulD a c) (mulD b c)) (hi2 (mulD a c) (mulD b c)) (lo2 (mulD a d) (mulD b d)) (hi2 (mulD a d) (mulD b d)) = z := ⟨_, rfl⟩; rw [hmulK] at tmul; have EmulK := Lib.hid hmulK; clear hmulK
  have Tmul := Lib.hid tmul; clear tmul
  have tmin := i_min CX
  obtain ⟨minL, hminL⟩ : ∃ z, lo2 (minD x1 y1) (minD x2 y2) = z := ⟨_, rfl⟩; rw [hminL] at tmin; have EminL := Lib.hid hminL; clear hminL
  obtain ⟨minH, hminH⟩ : ∃ z, hi2 (minD x1 y1) (minD x2 y2) = z := ⟨_, rfl⟩; rw [hminH] at tmin; have EminH := Lib.hid hminH; clear hminH
  obtain ⟨minM, hminM⟩ : ∃ z, lo2 (minD a c) (minD b d) = z := ⟨_, rfl⟩; rw [hminM] at tmin; have EminM := Lib.hid hminM; clear hminM
  obtain ⟨minK, hminK⟩ : ∃ z, hi2 (minD a c) (minD b d) = z := ⟨_, rfl⟩; rw [hminK] at tmin; have EminK := Lib.hid hminK; clear hminK
  have Tmin := Lib.hid tmin; clear tmin
  have tmax := i_max CX
  obtain ⟨maxL, hmaxL⟩ : ∃ z, lo2 (maxD x1 y1) (maxD x2 y2) = z := ⟨_, rfl⟩; rw [hmaxL] at tmax; have EmaxL := Lib.hid hmaxL; clear hmaxL
  obtain ⟨maxH, hmaxH⟩ : ∃ z, hi2 (maxD x1 y1) (maxD x2 y2) = z := ⟨_, rfl⟩; rw [hmaxH] at tmax; have EmaxH := Lib.hid hmaxH; clear hmaxH
  obtain ⟨maxM, hmaxM⟩ : ∃ z, lo2 (maxD a c) (maxD b d) = z := ⟨_, rfl⟩; rw [hmaxM] at tmax; have EmaxM := Lib.hid hmaxM; clear hmaxM
  obtain ⟨maxK, hmaxK⟩ : ∃ z, hi2 (maxD a c) (maxD b d) = z := ⟨_, rfl⟩; rw [hmaxK] at tmax; have EmaxK := Lib.hid hmaxK; clear hmaxK
  have Tmax := Lib.hid tmax; clear tmax
  have tabz := i_abs CX
  obtain ⟨abzL, habzL⟩ : ∃ z, absL x1 x2 = z := ⟨_, rfl⟩; rw [habzL] at tabz; have EabzL := Lib.hid habzL; clear habzL
  obtain ⟨abzH, habzH⟩ : ∃ z, absH x1 x2 = z := ⟨_, rfl⟩; rw [habzH] at tabz; have EabzH := Lib.hid habzH; clear habzH
  obtain ⟨abzM, habzM⟩ : ∃ z, absL a b = z := ⟨_, rfl⟩; rw [habzM] at tabz; have EabzM := Lib.hid habzM; clear habzM
  obtain ⟨abzK, habzK⟩ : ∃ z, absH a b = z := ⟨_, rfl⟩; rw [habzK] at tabz; have EabzK := Lib.hid habzK; clear habzK
  have Tabz := Lib.hid tabz; clear tabz
  have thul := i_hul CX
  obtain ⟨hulL, hhulL⟩ : ∃ z, lo4 x1 x2 y1 y2 = z := ⟨_, rfl⟩; rw [hhulL] at thul; have EhulL := Lib.hid hhulL; clear hhulL
  obtain ⟨hulH, hhulH⟩ : ∃ z, hi4 x1 x2 y1 y2 = z := ⟨_, rfl⟩; rw [hhulH] at thul; have EhulH := Lib.hid hhulH; clear hhulH
  obtain ⟨hulM, hhulM⟩ : ∃ z, lo4 a b c d = z := ⟨_, rfl⟩; rw [hhulM] at thul; have EhulM := Lib.hid hhulM; clear hhulM
  obtain ⟨hulK, hhulK⟩ : ∃ z, hi4 a b c d = z := ⟨_, rfl⟩; rw [hhulK] at thul; have EhulK := Lib.hid hhulK; clear hhulK
  have Thul := Lib.hid thul; clear thul
  have twid := i_wid CX
  obtain ⟨wx, hwx⟩ : ∃ z, subD x2 x1 = z := ⟨_, rfl⟩; rw [hwx] at twid; have Ewx := Lib.hid hwx; clear hwx
  obtain ⟨wa, hwa⟩ : ∃ z, subD b a = z := ⟨_, rfl⟩; rw [hwa] at twid; have Ewa := Lib.hid hwa; clear hwa
  obtain ⟨cv, hcv⟩ : ∃ z, cmpD wx wa = z := ⟨_, rfl⟩; rw [hcv] at twid; have Ecv := Lib.hid hcv; clear hcv
  obtain ⟨hcv0, tm1, tm2, tm3, tm4⟩ := twid; have Twx : Hid (wx.ok ∧ len wx.m ≤ 16777216) := ⟨tm1, by omega⟩; have Twa : Hid (wa.ok ∧ len wa.m ≤ 16777216) := ⟨tm3, by omega⟩; clear tm1 tm2 tm3 tm4
  clear CX hT hP ha hb h la lb lc ld da db dc dd b0 b1 b2 b3 hp1 hp2 hq1 hq2 tp1 tp2 tq1 tq2 tx1 tx2 ty1 ty2 tx1le ty1le
  go_enter Tryz.func4, Tryz.ntmps4
  go_wp2_with fail
  have HN := Lib.hid (ivs2 (((w.alloc (.cells #[.bool n1, .slice A k1 c1, I d1, .bool n2, .slice B k2 c2, I d2] 26)).alloc (.cells #[.bool n3, .slice X k3 c3, I d3, .bool n4, .slice Y k4 c4, I d4] 26)).alloc (.cells #[.int .u8 s0, .int .u8 s1, .int .u8 s2, .int .u8 s3] 40)) (w.heap.size + 1 + 1 + 1) (by simp) (n1 := n1) (n2 := n2) (n3 := n3) (n4 := n4) (A := A) (B := B) (X := X) (Y := Y) (k1 := k1) (c1 := c1) (k2 := k2) (c2 := c2) (k3 := k3) (c3 := c3) (k4 := k4) (c4 := c4) (d1 := d1) (d2 := d2) (d3 := d3) (d4 := d4) 26)
  with_reducible refine (ifew_any (b := true) HN.out (by simp) (by omega) ⟨fun _ => HFW.out, fun _ => rfl⟩).mono ?_
  rintro e wf ⟨rfl, hx⟩
  have HEF : Hid (Ext w wf) := ((((Ext.alloc _ _).trans (Ext.alloc _ _)).trans (Ext.alloc _ _)).trans (Ext.alloc _ _)).trans hx
  have Y0 : Hid (B6 wf w.heap.size (.bool n1) (.slice A k1 c1) (I d1) (.bool n2) (.slice B k2 c2) (I d2)) := ((((B6.new w _ _ _ _ _ _ _).ext (Ext.alloc _ _)).ext (Ext.alloc _ _)).ext (Ext.alloc _ _)).ext hx
  have Y1 : Hid (B6 wf (w.heap.size + 1) (.bool n3) (.slice X k3 c3) (I d3) (.bool n4) (.slice Y k4 c4) (I d4)) := by
    have z := B6.new (w.alloc (.cells #[.bool n1, .slice A k1 c1, I d1, .bool n2, .slice B k2 c2, I d2] 26)) (.bool n3) (.slice X k3 c3) (I d3) (.bool n4) (.slice Y k4 c4) (I d4) 26
    rw [show (w.alloc (.cells #[.bool n1, .slice A k1 c1, I d1, .bool n2, .slice B k2 c2, I d2] 26)).heap.size = w.heap.size + 1 by simp] at z
    exact ((z.ext (Ext.alloc _ _)).ext (Ext.alloc _ _)).ext hx
  have Y2 : Hid (B4 wf (w.heap.size + 1 + 1) (.int .u8 s0) (.int .u8 s1) (.int .u8 s2) (.int .u8 s3)) := by
    have z : B4 (((w.alloc (.cells #[.bool n1, .slice A k1 c1, I d1, .bool n2, .slice B k2 c2, I d2] 26)).alloc (.cells #[.bool n3, .slice X k3 c3, I d3, .bool n4, .slice Y k4 c4, I d4] 26)).alloc (.cells #[.int .u8 s0, .int .u8 s1, .int .u8 s2, .int .u8 s3] 40)) (w.heap.size + 1 + 1) (.int .u8 s0) (.int .u8 s1) (.int .u8 s2) (.int .u8 s3) := ⟨by go_simp, by go_simp, by go_simp, by go_simp⟩
    exact (z.ext (Ext.alloc _ _)).ext hx
  clear hx HN HFW
  go_wp2_with fail
  refine (iawake_any _ (HT.out.ext HEF.out) (HP.out.ext HEF.out)).mono ?_
  rintro e w0 ⟨rfl, hx⟩
  have X0 := Lib.hid (HEF.out.trans hx)
  have Z0 := Lib.hid (Y0.out.ext hx); have Z1 := Lib.hid (Y1.out.ext hx); have Z2 := Lib.hid (Y2.out.ext hx)
  clear hx Y0 Y1 Y2 HEF
  have hz0 : w.heap.size + 1 + 1 < w0.heap.size := World.block_lt_of_cell? w0 _ Z2.out.1
  go_upto_region 3 with fail
  have HS3 : Hid (∀ w', Ext w0 w' → w'.cell? ⟨w.heap.size, 0, none⟩ = some (.bool n1) ∧ w'.cell? ⟨w.heap.size, 1, none⟩ = some (.slice A k1 c1) ∧ w'.cell? ⟨w.heap.size, 2, none⟩ = some (I d1) ∧ w'.cell? ⟨w.heap.size, 3, none⟩ = some (.bool n2) ∧ w'.cell? ⟨w.heap.size, 4, none⟩ = some (.slice B k2 c2) ∧ w'.cell? ⟨w.heap.size, 5, none⟩ = some (I d2) ∧ w'.cell? ⟨w.heap.size + 1 + 1, 0, none⟩ = some (.int .u8 s0) ∧ w'.cell? ⟨w.heap.size + 1 + 1, 1, none⟩ = some (.int .u8 s1)) := fun w' e => by
    obtain ⟨⟨i0, i1, i2, i3, i4, i5⟩, iz⟩ := Z0.out.ext e; obtain ⟨u0, u1, u2, u3⟩ := Z2.out.ext e
    exact ⟨i0, i1, i2, i3, i4, i5, u0, u1⟩
  go_cut [7, 8] (fun sa sb wx => ∃ p F f G k, sa = .pointer (some ⟨p, 0, none⟩) ∧ sb = .nilIface ∧ Hid (Ext w0 wx ∧ C6 wx p x1 F f x2 G k ∧ (Rd wx F (len x1.m) (dg x1.m) ∧ SlOk F (len x1.m) f) ∧ (Rd wx G (len x2.m) (dg x2.m) ∧ SlOk G (len x2.m) k)))
  case first =>
    as_aux_lemma =>
      clear HP HB EX EY Wq1 Wq2 Wuy Wvy Pq1 Pq2 Bq1 Bq2 Euy Evy Ey1 Ey2 Cuy Z0 Z1 Z2 EaddL EaddH EaddM EaddK EsubL EsubH EsubM EsubK EmulL EmulH EmulM EmulK EminL EminH EminM EminK EmaxL EmaxH EmaxM EmaxK EabzL EabzH EabzM EabzK EhulL EhulH EhulM EhulK Tadd Tsub Tmul Tmin Tmax Tabz Thul Tx Ty Ewx Ewa Ecv Twx Twa hcv0 LM1 LM2 LM3 LM4 LM5 LM6 LM7 LM8
      go_region_held3 (fun w' => w'.cell? ⟨w.heap.size, 0, none⟩ = some (.bool n1) ∧ w'.cell? ⟨w.heap.size, 1, none⟩ = some (.slice A k1 c1) ∧ w'.cell? ⟨w.heap.size, 2, none⟩ = some (I d1) ∧ w'.cell? ⟨w.heap.size, 3, none⟩ = some (.bool n2) ∧ w'.cell? ⟨w.heap.size, 4, none⟩ = some (.slice B k2 c2) ∧ w'.cell? ⟨w.heap.size, 5, none⟩ = some (I d2) ∧ w'.cell? ⟨w.heap.size + 1 + 1, 0, none⟩ = some (.int .u8 s0) ∧ w'.cell? ⟨w.heap.size + 1 + 1, 1, none⟩ = some (.int .u8 s1)) (first | with_reducible assumption | exact HS3.out _ (by (with_reducible (repeat (first | exact Ext.refl _ | assumption | (refine Ext.toSet ?_ (by omega)) | refine Ext.toAlloc ?_ | refine Ext.toDrew ?_ | refine Ext.toDrewN ?_ | refine Ext.trans ?_ (by assumption)))); (first | done | fail "no")))
        (first
          | (have hg := hx6; clear hg; go_at_call 30; (with_reducible refine (imake_ok (D3.out.ext (by (with_reducible (repeat (first | exact Ext.refl _ | assumption | (refine Ext.toSet ?_ (by omega)) | refine Ext.toAlloc ?_ | refine Ext.toDrew ?_ | refine Ext.toDrewN ?_ | refine Ext.trans ?_ (by assumption)))); (first | done | fail "no"))) (D6.out.ext (by (with_reducible (repeat (first | exact Ext.refl _ | assumption | (refine Ext.toSet ?_ (by omega)) | refine Ext.toAlloc ?_ | refine Ext.toDrew ?_ | refine Ext.toDrewN ?_ | refine Ext.trans ?_ (by assumption)))); (first | done | fail "no"))) (HT.out.ext (X0.out.trans (by (with_reducible (repeat (first | exact Ext.refl _ | assumption | (refine Ext.toSet ?_ (by omega)) | refine Ext.toAlloc ?_ | refine Ext.toDrew ?_ | refine Ext.toDrewN ?_ | refine Ext.trans ?_ (by assumption)))); (first | done | fail "no")))) (Int.not_lt.2 Cux.out)).mono ?_); rw [Ex1.out, Ex2.out]; rintro e w7 ⟨F7, f7, G7, g7, rfl, hfa, hfb, hx7⟩; obtain ⟨lo1, hi1, ⟨y1_, y2_, y3_, y4_⟩, hn⟩ := Nr.fr hfa; have N1 := Lib.hid hn; clear hn; obtain ⟨lo2_, hi2_, ⟨y5_, y6_, y7_, y8_⟩, hn⟩ := Nr.fr hfb; have N2 := Lib.hid hn; clear hn hfa hfb; (try simp only [World.size_alloc] at y1_ y2_ y5_ y6_); have gs7 := Ext.size hx7; (try simp only [World.size_alloc] at gs7); (first | (have UU := Lib.hid (UU.out.ext hx7)) | ((with_reducible have u1 := one6m hx7); have UU := Lib.hid u1; clear u1) | skip); (first | (obtain ⟨⟨v0, v1, v2, v3, v4, v5⟩, vz⟩ := UU.out; have lv := UU.out.lt; have mv := Nat.ne_of_lt lv; have rv := Nat.ne_of_gt lv) | skip))
          | (have hg := hx5; clear hg; go_at_call 25; (with_reducible refine (max_any (D4.out.ext (by (with_reducible (repeat (first | exact Ext.refl _ | assumption | (refine Ext.toSet ?_ (by omega)) | refine Ext.toAlloc ?_ | refine Ext.toDrew ?_ | refine Ext.toDrewN ?_ | refine Ext.trans ?_ (by assumption)))); (first | done | fail "no"))) (D5.out.ext (by (with_reducible (repeat (first | exact Ext.refl _ | assumption | (refine Ext.toSet ?_ (by omega)) | refine Ext.toAlloc ?_ | refine Ext.toDrew ?_ | refine Ext.toDrewN ?_ | refine Ext.trans ?_ (by assumption)))); (first | done | fail "no"))) (HT.out.ext (X0.out.trans (by (with_reducible (repeat (first | exact Ext.refl _ | assumption | (refine Ext.toSet ?_ (by omega)) | refine Ext.toAlloc ?_ | refine Ext.toDrew ?_ | refine Ext.toDrewN ?_ | refine Ext.trans ?_ (by assumption)))); (first | done | fail "no"))))).mono ?_); rw [Evx.out]; rintro e w6 ⟨F6, f6, rfl, hon, hx6⟩; have D6 := Lib.hid (Dy.of_on hon Wvx.out.1 Wvx.out.2 (Ext.refl _)); clear hon; have gs6 := Ext.size hx6; (try simp only [World.size_alloc] at gs6); (first | (have UU := Lib.hid (UU.out.ext hx6)) | ((with_reducible have u1 := one6m hx6); have UU := Lib.hid u1; clear u1) | skip))
          | (have hg := hx4; clear hg; go_at_call 10; (with_reducible refine (pick_any (HA.out.ext (X0.out.trans (by (with_reducible (repeat (first | exact Ext.refl _ | assumption | (refine Ext.toSet ?_ (by omega)) | refine Ext.toAlloc ?_ | refine Ext.toDrew ?_ | refine Ext.toDrewN ?_ | refine Ext.trans ?_ (by assumption)))); (first | done | fail "no")))) Bp2.out.1 Bp2.out.2).mono ?_); rw [Pp2.out]; rintro e w5 ⟨F5, f5, rfl, hon, hx5⟩; have D5 := Lib.hid (Dy.of_on hon Wp2.out.1 Wp2.out.2 (Ext.refl _)); clear hon; have gs5 := Ext.size hx5; (try simp only [World.size_alloc] at gs5); (first | (have UU := Lib.hid (UU.out.ext hx5)) | ((with_reducible have u1 := one6m hx5); have UU := Lib.hid u1; clear u1) | skip))
          | (have hg := hx3; clear hg; go_at_call 10; (with_reducible refine (pick_any (HA.out.ext (X0.out.trans (by (with_reducible (repeat (first | exact Ext.refl _ | assumption | (refine Ext.toSet ?_ (by omega)) | refine Ext.toAlloc ?_ | refine Ext.toDrew ?_ | refine Ext.toDrewN ?_ | refine Ext.trans ?_ (by assumption)))); (first | done | fail "no")))) Bp1.out.1 Bp1.out.2).mono ?_); rw [Pp1.out]; rintro e w4 ⟨F4, f4, rfl, hon, hx4⟩; have D4 := Lib.hid (Dy.of_on hon Wp1.out.1 Wp1.out.2 (Ext.refl _)); clear hon; have gs4 := Ext.size hx4; (try simp only [World.size_alloc] at gs4); (first | (have UU := Lib.hid (UU.out.ext hx4)) | ((with_reducible have u1 := one6m hx4); have UU := Lib.hid u1; clear u1) | skip))
          | (have hg := hx2; clear hg; go_at_call 23; (with_reducible refine (min_any (D1.out.ext (by (with_reducible (repeat (first | exact Ext.refl _ | assumption | (refine Ext.toSet ?_ (by omega)) | refine Ext.toAlloc ?_ | refine Ext.toDrew ?_ | refine Ext.toDrewN ?_ | refine Ext.trans ?_ (by assumption)))); (first | done | fail "no"))) (D2.out.ext (by (with_reducible (repeat (first | exact Ext.refl _ | assumption | (refine Ext.toSet ?_ (by omega)) | refine Ext.toAlloc ?_ | refine Ext.toDrew ?_ | refine Ext.toDrewN ?_ | refine Ext.trans ?_ (by assumption)))); (first | done | fail "no"))) (HT.out.ext (X0.out.trans (by (with_reducible (repeat (first | exact Ext.refl _ | assumption | (refine Ext.toSet ?_ (by omega)) | refine Ext.toAlloc ?_ | refine Ext.toDrew ?_ | refine Ext.toDrewN ?_ | refine Ext.trans ?_ (by assumption)))); (first | done | fail "no"))))).mono ?_); rw [Eux.out]; rintro e w3 ⟨F3, f3, rfl, hon, hx3⟩; have D3 := Lib.hid (Dy.of_on hon Wux.out.1 Wux.out.2 (Ext.refl _)); clear hon; have gs3 := Ext.size hx3; (try simp only [World.size_alloc] at gs3); (first | (have UU := Lib.hid (UU.out.ext hx3)) | ((with_reducible have u1 := one6m hx3); have UU := Lib.hid u1; clear u1) | skip))
          | (have hg := hx1; clear hg; go_at_call 10; (with_reducible refine (pick_any (HA.out.ext (X0.out.trans (by (with_reducible (repeat (first | exact Ext.refl _ | assumption | (refine Ext.toSet ?_ (by omega)) | refine Ext.toAlloc ?_ | refine Ext.toDrew ?_ | refine Ext.toDrewN ?_ | refine Ext.trans ?_ (by assumption)))); (first | done | fail "no")))) Bp2.out.1 Bp2.out.2).mono ?_); rw [Pp2.out]; rintro e w2 ⟨F2, f2, rfl, hon, hx2⟩; have D2 := Lib.hid (Dy.of_on hon Wp2.out.1 Wp2.out.2 (Ext.refl _)); clear hon; have gs2 := Ext.size hx2; (try simp only [World.size_alloc] at gs2); (first | (have UU := Lib.hid (UU.out.ext hx2)) | ((with_reducible have u1 := one6m hx2); have UU := Lib.hid u1; clear u1) | skip))
          | (go_at_call 10; (with_reducible refine (pick_any (HA.out.ext (X0.out.trans (by (with_reducible (repeat (first | exact Ext.refl _ | assumption | (refine Ext.toSet ?_ (by omega)) | refine Ext.toAlloc ?_ | refine Ext.toDrew ?_ | refine Ext.toDrewN ?_ | refine Ext.trans ?_ (by assumption)))); (first | done | fail "no")))) Bp1.out.1 Bp1.out.2).mono ?_); rw [Pp1.out]; rintro e w1 ⟨F1, f1, rfl, hon, hx1⟩; have D1 := Lib.hid (Dy.of_on hon Wp1.out.1 Wp1.out.2 (Ext.refl _)); clear hon; have gs1 := Ext.size hx1; (try simp only [World.size_drew, World.size_alloc] at gs1); (first | (have UU := Lib.hid (UU.out.ext hx1)) | ((with_reducible have u1 := one6md hx1); have UU := Lib.hid u1; clear u1) | skip)))
      all_goals
        go_wp2_with fail
        go_meet
        refine ⟨_, F7, f7, G7, g7, rfl, rfl, (by (with_reducible (repeat (first | exact Ext.refl _ | assumption | (refine Ext.toSet ?_ (by omega)) | refine Ext.toAlloc ?_ | refine Ext.toDrew ?_ | refine Ext.toDrewN ?_ | refine Ext.trans ?_ (by assumption)))); (first | done | fail "no")), ⟨by go_simp, by go_simp, by go_simp, by go_simp, by go_simp, by go_simp⟩, ?_, ?_⟩
        · exact Nr.done (lo := lo1) (hi := hi1) (by (with_reducible (repeat (first | exact N1.out | exact N2.out | (refine Nr.toSet ?_ (by omega)) | refine Nr.toAlloc ?_))))
        · exact Nr.done (lo := lo2_) (hi := hi2_) (by (with_reducible (repeat (first | exact N1.out | exact N2.out | (refine Nr.toSet ?_ (by omega)) | refine Nr.toAlloc ?_))))
  case rest =>
    obtain ⟨p, F, f, G, k, rfl, rfl, hc⟩ := hcut
    obtain ⟨x6, hp, h1, h2⟩ := hc.out
    have XV := Lib.hid (X0.out.trans x6)
    have IX := Lib.hid (iv_ok h1.1 h1.2 EX.out.1 h2.1 h2.2 EX.out.2.1 EX.out.2.2)
    have V0 := Lib.hid (Z0.out.ext x6); have V1 := Lib.hid (Z1.out.ext x6); have V2 := Lib.hid (Z2.out.ext x6); have QP := Lib.hid hp
    have hz1 : w.heap.size + 1 + 1 < wc.heap.size := World.block_lt_of_cell? wc _ V2.out.1
    clear hc x6 hp h1 h2 Z0 Z1 Z2 X0 HS3 hz0 Bp1 Bp2 Pp1 Pp2 Wp1 Wp2 Wux Wvx Eux Evx Ex1 Ex2 Cux
    have Z0 := Lib.hid V0.out; have Z1 := Lib.hid V1.out; have Z2 := Lib.hid V2.out
    clear V0 V1 V2
    go_upto_region 4 with fail
    have HS4 : Hid (∀ w', Ext wc w' → w'.cell? ⟨w.heap.size + 1, 0, none⟩ = some (.bool n3) ∧ w'.cell? ⟨w.heap.size + 1, 1, none⟩ = some (.slice X k3 c3) ∧ w'.cell? ⟨w.heap.size + 1, 2, none⟩ = some (I d3) ∧ w'.cell? ⟨w.heap.size + 1, 3, none⟩ = some (.bool n4) ∧ w'.cell? ⟨w.heap.size + 1, 4, none⟩ = some (.slice Y k4 c4) ∧ w'.cell? ⟨w.heap.size + 1, 5, none⟩ = some (I d4) ∧ w'.cell? ⟨w.heap.size + 1 + 1, 2, none⟩ = some (.int .u8 s2) ∧ w'.cell? ⟨w.heap.size + 1 + 1, 3, none⟩ = some (.int .u8 s3)) := fun w' e => by
      obtain ⟨⟨i0, i1, i2, i3, i4, i5⟩, iz⟩ := Z1.out.ext e; obtain ⟨u0, u1, u2, u3⟩ := Z2.out.ext e
      exact ⟨i0, i1, i2, i3, i4, i5, u2, u3⟩
    go_cut [9, 10] (fun sa sb wx => ∃ p F f G k, sa = .pointer (some ⟨p, 0, none⟩) ∧ sb = .nilIface ∧ Hid (Ext wc wx ∧ C6 wx p y1 F f y2 G k ∧ (Rd wx F (len y1.m) (dg y1.m) ∧ SlOk F (len y1.m) f) ∧ (Rd wx G (len y2.m) (dg y2.m) ∧ SlOk G (len y2.m) k)))
    case first =>
      as_aux_lemma =>
        clear HP HA EX EY IX QP Z0 Z1 Z2 EaddL EaddH EaddM EaddK EsubL EsubH EsubM EsubK EmulL EmulH EmulM EmulK EminL EminH EminM EminK EmaxL EmaxH EmaxM EmaxK EabzL EabzH EabzM EabzK EhulL EhulH EhulM EhulK Tadd Tsub Tmul Tmin Tmax Tabz Thul Tx Ty Ewx Ewa Ecv Twx Twa hcv0 LM1 LM2 LM3 LM4 LM5 LM6 LM7 LM8
        go_region_held3 (fun w' => w'.cell? ⟨w.heap.size + 1, 0, none⟩ = some (.bool n3) ∧ w'.cell? ⟨w.heap.size + 1, 1, none⟩ = some (.slice X k3 c3) ∧ w'.cell? ⟨w.heap.size + 1, 2, none⟩ = some (I d3) ∧ w'.cell? ⟨w.heap.size + 1, 3, none⟩ = some (.bool n4) ∧ w'.cell? ⟨w.heap.size + 1, 4, none⟩ = some (.slice Y k4 c4) ∧ w'.cell? ⟨w.heap.size + 1, 5, none⟩ = some (I d4) ∧ w'.cell? ⟨w.heap.size + 1 + 1, 2, none⟩ = some (.int .u8 s2) ∧ w'.cell? ⟨w.heap.size + 1 + 1, 3, none⟩ = some (.int .u8 s3)) (first | with_reducible assumption | exact HS4.out _ (by (with_reducible (repeat (first | exact Ext.refl _ | assumption | (refine Ext.toSet ?_ (by omega)) | refine Ext.toAlloc ?_ | refine Ext.toDrew ?_ | refine Ext.toDrewN ?_ | refine Ext.trans ?_ (by assumption)))); (first | done | fail "no")))
          (first
            | (have hg := hx6; clear hg; go_at_call 30; (with_reducible refine (imake_ok (D3.out.ext (by (with_reducible (repeat (first | exact Ext.refl _ | assumption | (refine Ext.toSet ?_ (by omega)) | refine Ext.toAlloc ?_ | refine Ext.toDrew ?_ | refine Ext.toDrewN ?_ | refine Ext.trans ?_ (by assumption)))); (first | done | fail "no"))) (D6.out.ext (by (with_reducible (repeat (first | exact Ext.refl _ | assumption | (refine Ext.toSet ?_ (by omega)) | refine Ext.toAlloc ?_ | refine Ext.toDrew ?_ | refine Ext.toDrewN ?_ | refine Ext.trans ?_ (by assumption)))); (first | done | fail "no"))) (HT.out.ext (XV.out.trans (by (with_reducible (repeat (first | exact Ext.refl _ | assumption | (refine Ext.toSet ?_ (by omega)) | refine Ext.toAlloc ?_ | refine Ext.toDrew ?_ | refine Ext.toDrewN ?_ | refine Ext.trans ?_ (by assumption)))); (first | done | fail "no")))) (Int.not_lt.2 Cuy.out)).mono ?_); rw [Ey1.out, Ey2.out]; rintro e w7 ⟨F7, f7, G7, g7, rfl, hfa, hfb, hx7⟩; obtain ⟨lo1, hi1, ⟨y1_, y2_, y3_, y4_⟩, hn⟩ := Nr.fr hfa; have N1 := Lib.hid hn; clear hn; obtain ⟨lo2_, hi2_, ⟨y5_, y6_, y7_, y8_⟩, hn⟩ := Nr.fr hfb; have N2 := Lib.hid hn; clear hn hfa hfb; (try simp only [World.size_alloc] at y1_ y2_ y5_ y6_); have gs7 := Ext.size hx7; (try simp only [World.size_alloc] at gs7); (first | (have UU := Lib.hid (UU.out.ext hx7)) | ((with_reducible have u1 := one6m hx7); have UU := Lib.hid u1; clear u1) | skip); (first | (obtain ⟨⟨v0, v1, v2, v3, v4, v5⟩, vz⟩ := UU.out; have lv := UU.out.lt; have mv := Nat.ne_of_lt lv; have rv := Nat.ne_of_gt lv) | skip))
            | (have hg := hx5; clear hg; go_at_call 25; (with_reducible refine (max_any (D4.out.ext (by (with_reducible (repeat (first | exact Ext.refl _ | assumption | (refine Ext.toSet ?_ (by omega)) | refine Ext.toAlloc ?_ | refine Ext.toDrew ?_ | refine Ext.toDrewN ?_ | refine Ext.trans ?_ (by assumption)))); (first | done | fail "no"))) (D5.out.ext (by (with_reducible (repeat (first | exact Ext.refl _ | assumption | (refine Ext.toSet ?_ (by omega)) | refine Ext.toAlloc ?_ | refine Ext.toDrew ?_ | refine Ext.toDrewN ?_ | refine Ext.trans ?_ (by assumption)))); (first | done | fail "no"))) (HT.out.ext (XV.out.trans (by (with_reducible (repeat (first | exact Ext.refl _ | assumption | (refine Ext.toSet ?_ (by omega)) | refine Ext.toAlloc ?_ | refine Ext.toDrew ?_ | refine Ext.toDrewN ?_ | refine Ext.trans ?_ (by assumption)))); (first | done | fail "no"))))).mono ?_); rw [Evy.out]; rintro e w6 ⟨F6, f6, rfl, hon, hx6⟩; have D6 := Lib.hid (Dy.of_on hon Wvy.out.1 Wvy.out.2 (Ext.refl _)); clear hon; have gs6 := Ext.size hx6; (try simp only [World.size_alloc] at gs6); (first | (have UU := Lib.hid (UU.out.ext hx6)) | ((with_reducible have u1 := one6m hx6); have UU := Lib.hid u1; clear u1) | skip))
            | (have hg := hx4; clear hg; go_at_call 10; (with_reducible refine (pick_any (HB.out.ext (XV.out.trans (by (with_reducible (repeat (first | exact Ext.refl _ | assumption | (refine Ext.toSet ?_ (by omega)) | refine Ext.toAlloc ?_ | refine Ext.toDrew ?_ | refine Ext.toDrewN ?_ | refine Ext.trans ?_ (by assumption)))); (first | done | fail "no")))) Bq2.out.1 Bq2.out.2).mono ?_); rw [Pq2.out]; rintro e w5 ⟨F5, f5, rfl, hon, hx5⟩; have D5 := Lib.hid (Dy.of_on hon Wq2.out.1 Wq2.out.2 (Ext.refl _)); clear hon; have gs5 := Ext.size hx5; (try simp only [World.size_alloc] at gs5); (first | (have UU := Lib.hid (UU.out.ext hx5)) | ((with_reducible have u1 := one6m hx5); have UU := Lib.hid u1; clear u1) | skip))
            | (have hg := hx3; clear hg; go_at_call 10; (with_reducible refine (pick_any (HB.out.ext (XV.out.trans (by (with_reducible (repeat (first | exact Ext.refl _ | assumption | (refine Ext.toSet ?_ (by omega)) | refine Ext.toAlloc ?_ | refine Ext.toDrew ?_ | refine Ext.toDrewN ?_ | refine Ext.trans ?_ (by assumption)))); (first | done | fail "no")))) Bq1.out.1 Bq1.out.2).mono ?_); rw [Pq1.out]; rintro e w4 ⟨F4, f4, rfl, hon, hx4⟩; have D4 := Lib.hid (Dy.of_on hon Wq1.out.1 Wq1.out.2 (Ext.refl _)); clear hon; have gs4 := Ext.size hx4; (try simp only [World.size_alloc] at gs4); (first | (have UU := Lib.hid (UU.out.ext hx4)) | ((with_reducible have u1 := one6m hx4); have UU := Lib.hid u1; clear u1) | skip))
            | (have hg := hx2; clear hg; go_at_call 23; (with_reducible refine (min_any (D1.out.ext (by (with_reducible (repeat (first | exact Ext.refl _ | assumption | (refine Ext.toSet ?_ (by omega)) | refine Ext.toAlloc ?_ | refine Ext.toDrew ?_ | refine Ext.toDrewN ?_ | refine Ext.trans ?_ (by assumption)))); (first | done | fail "no"))) (D2.out.ext (by (with_reducible (repeat (first | exact Ext.refl _ | assumption | (refine Ext.toSet ?_ (by omega)) | refine Ext.toAlloc ?_ | refine Ext.toDrew ?_ | refine Ext.toDrewN ?_ | refine Ext.trans ?_ (by assumption)))); (first | done | fail "no"))) (HT.out.ext (XV.out.trans (by (with_reducible (repeat (first | exact Ext.refl _ | assumption | (refine Ext.toSet ?_ (by omega)) | refine Ext.toAlloc ?_ | refine Ext.toDrew ?_ | refine Ext.toDrewN ?_ | refine Ext.trans ?_ (by assumption)))); (first | done | fail "no"))))).mono ?_); rw [Euy.out]; rintro e w3 ⟨F3, f3, rfl, hon, hx3⟩; have D3 := Lib.hid (Dy.of_on hon Wuy.out.1 Wuy.out.2 (Ext.refl _)); clear hon; have gs3 := Ext.size hx3; (try simp only [World.size_alloc] at gs3); (first | (have UU := Lib.hid (UU.out.ext hx3)) | ((with_reducible have u1 := one6m hx3); have UU := Lib.hid u1; clear u1) | skip))
            | (have hg := hx1; clear hg; go_at_call 10; (with_reducible refine (pick_any (HB.out.ext (XV.out.trans (by (with_reducible (repeat (first | exact Ext.refl _ | assumption | (refine Ext.toSet ?_ (by omega)) | refine Ext.toAlloc ?_ | refine Ext.toDrew ?_ | refine Ext.toDrewN ?_ | refine Ext.trans ?_ (by assumption)))); (first | done | fail "no")))) Bq2.out.1 Bq2.out.2).mono ?_); rw [Pq2.out]; rintro e w2 ⟨F2, f2, rfl, hon, hx2⟩; have D2 := Lib.hid (Dy.of_on hon Wq2.out.1 Wq2.out.2 (Ext.refl _)); clear hon; have gs2 := Ext.size hx2; (try simp only [World.size_alloc] at gs2); (first | (have UU := Lib.hid (UU.out.ext hx2)) | ((with_reducible have u1 := one6m hx2); have UU := Lib.hid u1; clear u1) | skip))
            | (go_at_call 10; (with_reducible refine (pick_any (HB.out.ext (XV.out.trans (by (with_reducible (repeat (first | exact Ext.refl _ | assumption | (refine Ext.toSet ?_ (by omega)) | refine Ext.toAlloc ?_ | refine Ext.toDrew ?_ | refine Ext.toDrewN ?_ | refine Ext.trans ?_ (by assumption)))); (first | done | fail "no")))) Bq1.out.1 Bq1.out.2).mono ?_); rw [Pq1.out]; rintro e w1 ⟨F1, f1, rfl, hon, hx1⟩; have D1 := Lib.hid (Dy.of_on hon Wq1.out.1 Wq1.out.2 (Ext.refl _)); clear hon; have gs1 := Ext.size hx1; (try simp only [World.size_drew, World.size_alloc] at gs1); (first | (have UU := Lib.hid (UU.out.ext hx1)) | ((with_reducible have u1 := one6md hx1); have UU := Lib.hid u1; clear u1) | skip)))
        all_goals
          go_wp2_with fail
          go_meet
          refine ⟨_, F7, f7, G7, g7, rfl, rfl, (by (with_reducible (repeat (first | exact Ext.refl _ | assumption | (refine Ext.toSet ?_ (by omega)) | refine Ext.toAlloc ?_ | refine Ext.toDrew ?_ | refine Ext.toDrewN ?_ | refine Ext.trans ?_ (by assumption)))); (first | done | fail "no")), ⟨by go_simp, by go_simp, by go_simp, by go_simp, by go_simp, by go_simp⟩, ?_, ?_⟩
          · exact Nr.done (lo := lo1) (hi := hi1) (by (with_reducible (repeat (first | exact N1.out | exact N2.out | (refine Nr.toSet ?_ (by omega)) | refine Nr.toAlloc ?_))))
          · exact Nr.done (lo := lo2_) (hi := hi2_) (by (with_reducible (repeat (first | exact N1.out | exact N2.out | (refine Nr.toSet ?_ (by omega)) | refine Nr.toAlloc ?_))))
    case rest =>
      obtain ⟨q, S, s, T, t, rfl, rfl, hc⟩ := hcut
      obtain ⟨x6, hq, h1, h2⟩ := hc.out
      have XW := Lib.hid (XV.out.trans x6)
      have IY := Lib.hid (iv_ok h1.1 h1.2 EY.out.1 h2.1 h2.2 EY.out.2.1 EY.out.2.2)
      have IXX := Lib.hid (IX.out.ext x6)
      have Q0 := Lib.hid (Z0.out.ext x6); have Q1 := Lib.hid (Z1.out.ext x6); have QP2 := Lib.hid (QP.out.ext x6); have QQ := Lib.hid hq
      clear hc x6 hq h1 h2 Z0 Z1 Z2 XV HS4 hz1 Bq1 Bq2 Pq1 Pq2 Wq1 Wq2 Wuy Wvy Euy Evy Ey1 Ey2 Cuy IX QP
      go_upto_region 5 with fail
      have HS : Hid (∀ w', Ext wc w' → w'.cell? ⟨w.heap.size, 0, none⟩ = some (.bool n1) ∧ w'.cell? ⟨w.heap.size, 1, none⟩ = some (.slice A k1 c1) ∧ w'.cell? ⟨w.heap.size, 2, none⟩ = some (I d1) ∧ w'.cell? ⟨w.heap.size, 3, none⟩ = some (.bool n2) ∧ w'.cell? ⟨w.heap.size, 4, none⟩ = some (.slice B k2 c2) ∧ w'.cell? ⟨w.heap.size, 5, none⟩ = some (I d2) ∧ w'.cell? ⟨w.heap.size + 1, 0, none⟩ = some (.bool n3) ∧ w'.cell? ⟨w.heap.size + 1, 1, none⟩ = some (.slice X k3 c3) ∧ w'.cell? ⟨w.heap.size + 1, 2, none⟩ = some (I d3) ∧ w'.cell? ⟨w.heap.size + 1, 3, none⟩ = some (.bool n4) ∧ w'.cell? ⟨w.heap.size + 1, 4, none⟩ = some (.slice Y k4 c4) ∧ w'.cell? ⟨w.heap.size + 1, 5, none⟩ = some (I d4) ∧ w'.cell? ⟨p, 0, none⟩ = some (.bool x1.neg) ∧ w'.cell? ⟨p, 1, none⟩ = some (.slice F (len x1.m) f) ∧ w'.cell? ⟨p, 2, none⟩ = some (I x1.den) ∧ w'.cell? ⟨p, 3, none⟩ = some (.bool x2.neg) ∧ w'.cell? ⟨p, 4, none⟩ = some (.slice G (len x2.m) k) ∧ w'.cell? ⟨p, 5, none⟩ = some (I x2.den) ∧ w'.cell? ⟨q, 0, none⟩ = some (.bool y1.neg) ∧ w'.cell? ⟨q, 1, none⟩ = some (.slice S (len y1.m) s) ∧ w'.cell? ⟨q, 2, none⟩ = some (I y1.den) ∧ w'.cell? ⟨q, 3, none⟩ = some (.bool y2.neg) ∧ w'.cell? ⟨q, 4, none⟩ = some (.slice T (len y2.m) t) ∧ w'.cell? ⟨q, 5, none⟩ = some (I y2.den)) := fun w' e => by
        obtain ⟨⟨i0, i1, i2, i3, i4, i5⟩, iz⟩ := Q0.out.ext e; obtain ⟨⟨j0, j1, j2, j3, j4, j5⟩, jz⟩ := Q1.out.ext e; obtain ⟨s0, s1, s2, s3, s4, s5⟩ := QP2.out.ext e; obtain ⟨t0, t1, t2, t3, t4, t5⟩ := QQ.out.ext e
        exact ⟨i0, i1, i2, i3, i4, i5, j0, j1, j2, j3, j4, j5, s0, s1, s2, s3, s4, s5, t0, t1, t2, t3, t4, t5⟩
      clear Q0 Q1 QP2 QQ
      have HC0 := Lib.hid (Ext.drew wc)
      have hk := HS.out _ HC0.out
      (try dsimp only [List.append])
      refine wp_region_noPanic ?_
      refine wp_region_held_drew (S := fun w' => w'.cell? ⟨w.heap.size, 0, none⟩ = some (.bool n1) ∧ w'.cell? ⟨w.heap.size, 1, none⟩ = some (.slice A k1 c1) ∧ w'.cell? ⟨w.heap.size, 2, none⟩ = some (I d1) ∧ w'.cell? ⟨w.heap.size, 3, none⟩ = some (.bool n2) ∧ w'.cell? ⟨w.heap.size, 4, none⟩ = some (.slice B k2 c2) ∧ w'.cell? ⟨w.heap.size, 5, none⟩ = some (I d2) ∧ w'.cell? ⟨w.heap.size + 1, 0, none⟩ = some (.bool n3) ∧ w'.cell? ⟨w.heap.size + 1, 1, none⟩ = some (.slice X k3 c3) ∧ w'.cell? ⟨w.heap.size + 1, 2, none⟩ = some (I d3) ∧ w'.cell? ⟨w.heap.size + 1, 3, none⟩ = some (.bool n4) ∧ w'.cell? ⟨w.heap.size + 1, 4, none⟩ = some (.slice Y k4 c4) ∧ w'.cell? ⟨w.heap.size + 1, 5, none⟩ = some (I d4) ∧ w'.cell? ⟨p, 0, none⟩ = some (.bool x1.neg) ∧ w'.cell? ⟨p, 1, none⟩ = some (.slice F (len x1.m) f) ∧ w'.cell? ⟨p, 2, none⟩ = some (I x1.den) ∧ w'.cell? ⟨p, 3, none⟩ = some (.bool x2.neg) ∧ w'.cell? ⟨p, 4, none⟩ = some (.slice G (len x2.m) k) ∧ w'.cell? ⟨p, 5, none⟩ = some (I x2.den) ∧ w'.cell? ⟨q, 0, none⟩ = some (.bool y1.neg) ∧ w'.cell? ⟨q, 1, none⟩ = some (.slice S (len y1.m) s) ∧ w'.cell? ⟨q, 2, none⟩ = some (I y1.den) ∧ w'.cell? ⟨q, 3, none⟩ = some (.bool y2.neg) ∧ w'.cell? ⟨q, 4, none⟩ = some (.slice T (len y2.m) t) ∧ w'.cell? ⟨q, 5, none⟩ = some (I y2.den)) (by kernel_rfl) ?_ (fun hHeld => ?_)
      · exact hk
      refine wpAnyH_take (i := 0) (oi := { dst := some 65, op := Op.move (Operand.tmp 8), type := 42, pos := "law.go:121", after := #[], guard := none }) (v := ?_) rfl (by as_aux_lemma => kernel_rfl) (by as_aux_lemma => kernel_rfl) (by as_aux_lemma => kernel_rfl) (fun _ _ _ h => h) (Or.inl ⟨by rfl, ?hy⟩) hHeld ?_
      case hy => ((intro w' hSw; (try dsimp only at hSw); go_simp); (try with_reducible rfl))
      (try simp only [Act.put, List.setIfInBounds_toArray, List.set_cons_zero, List.set_cons_succ])
      refine wpAnyH_take (i := 1) (oi := { dst := some 66, op := Op.binOp BinOp.eql 42 (Operand.tmp 65) (Operand.const Value.nilIface) 42, type := 4, pos := "law.go:121", after := #[{ on := 0, ground := Ground.data }], guard := none }) (v := ?_) rfl (by as_aux_lemma => kernel_rfl) (by as_aux_lemma => kernel_rfl) (by as_aux_lemma => kernel_rfl) (fun _ _ _ h => h) (Or.inl ⟨by rfl, ?hy⟩) hHeld ?_
      case hy => ((intro w' hSw; (try dsimp only at hSw); go_simp); (try with_reducible rfl))
      (try simp only [Act.put, List.setIfInBounds_toArray, List.set_cons_zero, List.set_cons_succ])
      refine wpAnyH_take (i := 2) (oi := { dst := some 67, op := Op.move (Operand.tmp 66), type := 4, pos := "law.go:121", after := #[{ on := 1, ground := Ground.data }], guard := none }) (v := ?_) rfl (by as_aux_lemma => kernel_rfl) (by as_aux_lemma => kernel_rfl) (by as_aux_lemma => kernel_rfl) (fun _ _ _ h => h) (Or.inl ⟨by rfl, ?hy⟩) hHeld ?_
      case hy => ((intro w' hSw; (try dsimp only at hSw); go_simp); (try with_reducible rfl))
      (try simp only [Act.put, List.setIfInBounds_toArray, List.set_cons_zero, List.set_cons_succ])
      refine wpAnyH_take (i := 3) (oi := { dst := some 68, op := Op.move (Operand.tmp 10), type := 42, pos := "law.go:121", after := #[{ on := 2, ground := Ground.guard }], guard := some (2, true) }) (v := ?_) rfl (by as_aux_lemma => kernel_rfl) (by as_aux_lemma => kernel_rfl) (by as_aux_lemma => kernel_rfl) (fun _ _ _ h => h) (Or.inl ⟨by rfl, ?hy⟩) hHeld ?_
      case hy => ((intro w' hSw; (try dsimp only at hSw); go_simp); (try with_reducible rfl))
      (try simp only [Act.put, List.setIfInBounds_toArray, List.set_cons_zero, List.set_cons_succ])
      refine wpAnyH_take (i := 4) (oi := { dst := some 69, op := Op.binOp BinOp.eql 42 (Operand.tmp 68) (Operand.const Value.nilIface) 42, type := 4, pos := "law.go:121", after := #[{ on := 3, ground := Ground.data }, { on := 2, ground := Ground.guard }], guard := some (2, true) }) (v := ?_) rfl (by as_aux_lemma => kernel_rfl) (by as_aux_lemma => kernel_rfl) (by as_aux_lemma => kernel_rfl) (fun _ _ _ h => h) (Or.inl ⟨by rfl, ?hy⟩) hHeld ?_
      case hy => ((intro w' hSw; (try dsimp only at hSw); go_simp); (try with_reducible rfl))
      (try simp only [Act.put, List.setIfInBounds_toArray, List.set_cons_zero, List.set_cons_succ])
      refine wpAnyH_take (i := 5) (oi := { dst := some 70, op := Op.pick (Operand.tmp 67) (Operand.tmp 69) (Operand.const (Value.bool false)), type := 4, pos := "law.go:121", after := #[{ on := 2, ground := Ground.data }, { on := 4, ground := Ground.data }], guard := none }) (v := ?_) rfl (by as_aux_lemma => kernel_rfl) (by as_aux_lemma => kernel_rfl) (by as_aux_lemma => kernel_rfl) (fun _ _ _ h => h) (Or.inl ⟨by rfl, ?hy⟩) hHeld ?_
      case hy => ((intro w' hSw; (try dsimp only at hSw); go_simp); (try with_reducible rfl))
      (try simp only [Act.put, List.setIfInBounds_toArray, List.set_cons_zero, List.set_cons_succ])
      refine wpAnyH_take (i := 6) (oi := { dst := some 71, op := Op.move (Operand.tmp 70), type := 4, pos := "law.go:121", after := #[{ on := 5, ground := Ground.data }, { on := 2, ground := Ground.chain }], guard := none }) (v := ?_) rfl (by as_aux_lemma => kernel_rfl) (by as_aux_lemma => kernel_rfl) (by as_aux_lemma => kernel_rfl) (fun _ _ _ h => h) (Or.inl ⟨by rfl, ?hy⟩) hHeld ?_
      case hy => ((intro w' hSw; (try dsimp only at hSw); go_simp); (try with_reducible rfl))
      (try simp only [Act.put, List.setIfInBounds_toArray, List.set_cons_zero, List.set_cons_succ])
      refine wpAnyH_take (i := 7) (oi := { dst := some 72, op := Op.load 26 (Operand.tmp 7), type := 26, pos := "law.go:121", after := #[{ on := 6, ground := Ground.guard }], guard := some (6, true) }) (v := ?_) rfl (by as_aux_lemma => kernel_rfl) (by as_aux_lemma => kernel_rfl) (by as_aux_lemma => kernel_rfl) (fun _ _ _ h => h) (Or.inl ⟨by rfl, ?hy⟩) hHeld ?_
      case hy => ((intro w' hSw; (try dsimp only at hSw); go_simp); (try with_reducible rfl))
      (try simp only [Act.put, List.setIfInBounds_toArray, List.set_cons_zero, List.set_cons_succ])
      refine wpAnyH_take (i := 8) (oi := { dst := some 73, op := Op.load 26 (Operand.tmp 3), type := 26, pos := "law.go:121", after := #[{ on := 6, ground := Ground.guard }], guard := some (6, true) }) (v := ?_) rfl (by as_aux_lemma => kernel_rfl) (by as_aux_lemma => kernel_rfl) (by as_aux_lemma => kernel_rfl) (fun _ _ _ h => h) (Or.inl ⟨by rfl, ?hy⟩) hHeld ?_
      case hy => ((intro w' hSw; (try dsimp only at hSw); go_simp); (try with_reducible rfl))
      (try simp only [Act.put, List.setIfInBounds_toArray, List.set_cons_zero, List.set_cons_succ])
      refine wpAnyH_ready (rs := [9]) (by as_aux_lemma => kernel_rfl) (by simp) ?_
      refine AllReadyH.cons (o := { dst := some 74, op := Op.call { callee := Callee.value (Operand.func 31), args := #[Operand.tmp 72, Operand.tmp 73], argTypes := #[26, 26] }, type := 4, pos := "law.go:121", after := #[{ on := 7, ground := Ground.data }, { on := 8, ground := Ground.data }, { on := 6, ground := Ground.chain }, { on := 6, ground := Ground.guard }], guard := some (6, true) }) rfl (fun K hK => ?_) AllReadyH.nil
      go_simp
      (go_at_call 31; (with_reducible refine (inside_any (IXX.out.ext HC0.out) (HA.out.ext (XW.out.trans HC0.out))).mono ?_); rw [Tx.out.2.2.2.2.2.2]; rintro e w11 ⟨rfl, hx⟩; have HC1 := Lib.hid (Ext.trans HC0.out hx); have HL1 := Lib.hid hx; clear hx hk; have hk := HS.out _ HC1.out)
      (try go_wp2_with fail)
      refine hK.out _ _ hk (fun hHeld' => ?_)
      clear hK K hHeld
      have hHeld := hHeld'
      clear hHeld'
      (try simp only [Act.put, List.setIfInBounds_toArray, List.set_cons_zero, List.set_cons_succ])
      refine wpAnyH_take (i := 10) (oi := { dst := some 75, op := Op.pick (Operand.tmp 71) (Operand.tmp 74) (Operand.const (Value.bool false)), type := 4, pos := "law.go:121", after := #[{ on := 6, ground := Ground.data }, { on := 9, ground := Ground.data }], guard := none }) (v := ?_) rfl (by as_aux_lemma => kernel_rfl) (by as_aux_lemma => kernel_rfl) (by as_aux_lemma => kernel_rfl) (fun _ _ _ h => h) (Or.inl ⟨by rfl, ?hy⟩) hHeld ?_
      case hy => ((intro w' hSw; (try dsimp only at hSw); go_simp); (try with_reducible rfl))
      (try simp only [Act.put, List.setIfInBounds_toArray, List.set_cons_zero, List.set_cons_succ])
      refine wpAnyH_take (i := 11) (oi := { dst := some 76, op := Op.move (Operand.tmp 75), type := 4, pos := "law.go:121", after := #[{ on := 10, ground := Ground.data }, { on := 9, ground := Ground.chain }], guard := none }) (v := ?_) rfl (by as_aux_lemma => kernel_rfl) (by as_aux_lemma => kernel_rfl) (by as_aux_lemma => kernel_rfl) (fun _ _ _ h => h) (Or.inl ⟨by rfl, ?hy⟩) hHeld ?_
      case hy => ((intro w' hSw; (try dsimp only at hSw); go_simp); (try with_reducible rfl))
      (try simp only [Act.put, List.setIfInBounds_toArray, List.set_cons_zero, List.set_cons_succ])
      refine wpAnyH_take (i := 12) (oi := { dst := some 77, op := Op.load 26 (Operand.tmp 9), type := 26, pos := "law.go:121", after := #[{ on := 11, ground := Ground.guard }], guard := some (11, true) }) (v := ?_) rfl (by as_aux_lemma => kernel_rfl) (by as_aux_lemma => kernel_rfl) (by as_aux_lemma => kernel_rfl) (fun _ _ _ h => h) (Or.inl ⟨by rfl, ?hy⟩) hHeld ?_
      case hy => ((intro w' hSw; (try dsimp only at hSw); go_simp); (try with_reducible rfl))
      (try simp only [Act.put, List.setIfInBounds_toArray, List.set_cons_zero, List.set_cons_succ])
      refine wpAnyH_take (i := 13) (oi := { dst := some 78, op := Op.load 26 (Operand.tmp 4), type := 26, pos := "law.go:121", after := #[{ on := 11, ground := Ground.guard }], guard := some (11, true) }) (v := ?_) rfl (by as_aux_lemma => kernel_rfl) (by as_aux_lemma => kernel_rfl) (by as_aux_lemma => kernel_rfl) (fun _ _ _ h => h) (Or.inl ⟨by rfl, ?hy⟩) hHeld ?_
      case hy => ((intro w' hSw; (try dsimp only at hSw); go_simp); (try with_reducible rfl))
      (try simp only [Act.put, List.setIfInBounds_toArray, List.set_cons_zero, List.set_cons_succ])
      refine wpAnyH_ready (rs := [14]) (by as_aux_lemma => kernel_rfl) (by simp) ?_
      refine AllReadyH.cons (o := { dst := some 79, op := Op.call { callee := Callee.value (Operand.func 31), args := #[Operand.tmp 77, Operand.tmp 78], argTypes := #[26, 26] }, type := 4, pos := "law.go:121", after := #[{ on := 12, ground := Ground.data }, { on := 13, ground := Ground.data }, { on := 11, ground := Ground.chain }, { on := 11, ground := Ground.guard }], guard := some (11, true) }) rfl (fun K hK => ?_) AllReadyH.nil
      go_simp
      (go_at_call 31; (with_reducible refine (inside_any (IY.out.ext HC1.out) (HB.out.ext (XW.out.trans HC1.out))).mono ?_); rw [Ty.out.2.2.2.2.2.2]; rintro e w12 ⟨rfl, hx⟩; have HC2 := Lib.hid (Ext.trans HC1.out hx); have HL2 := Lib.hid hx; clear hx hk; have hk := HS.out _ HC2.out)
      (try go_wp2_with fail)
      refine hK.out _ _ hk (fun hHeld' => ?_)
      clear hK K hHeld
      have hHeld := hHeld'
      clear hHeld'
      (try simp only [Act.put, List.setIfInBounds_toArray, List.set_cons_zero, List.set_cons_succ])
      refine wpAnyH_take (i := 15) (oi := { dst := some 80, op := Op.pick (Operand.tmp 76) (Operand.tmp 79) (Operand.const (Value.bool false)), type := 4, pos := "law.go:121", after := #[{ on := 11, ground := Ground.data }, { on := 14, ground := Ground.data }], guard := none }) (v := ?_) rfl (by as_aux_lemma => kernel_rfl) (by as_aux_lemma => kernel_rfl) (by as_aux_lemma => kernel_rfl) (fun _ _ _ h => h) (Or.inl ⟨by rfl, ?hy⟩) hHeld ?_
      case hy => ((intro w' hSw; (try dsimp only at hSw); go_simp); (try with_reducible rfl))
      (try simp only [Act.put, List.setIfInBounds_toArray, List.set_cons_zero, List.set_cons_succ])
      refine wpAnyH_take (i := 16) (oi := { dst := some 81, op := Op.move (Operand.tmp 80), type := 4, pos := "law.go:121", after := #[{ on := 15, ground := Ground.data }, { on := 14, ground := Ground.chain }], guard := none }) (v := ?_) rfl (by as_aux_lemma => kernel_rfl) (by as_aux_lemma => kernel_rfl) (by as_aux_lemma => kernel_rfl) (fun _ _ _ h => h) (Or.inl ⟨by rfl, ?hy⟩) hHeld ?_
      case hy => ((intro w' hSw; (try dsimp only at hSw); go_simp); (try with_reducible rfl))
      (try simp only [Act.put, List.setIfInBounds_toArray, List.set_cons_zero, List.set_cons_succ])
      refine wpAnyH_take (i := 17) (oi := { dst := some 82, op := Op.load 26 (Operand.tmp 7), type := 26, pos := "law.go:121", after := #[{ on := 16, ground := Ground.guard }], guard := some (16, true) }) (v := ?_) rfl (by as_aux_lemma => kernel_rfl) (by as_aux_lemma => kernel_rfl) (by as_aux_lemma => kernel_rfl) (fun _ _ _ h => h) (Or.inl ⟨by rfl, ?hy⟩) hHeld ?_
      case hy => ((intro w' hSw; (try dsimp only at hSw); go_simp); (try with_reducible rfl))
      (try simp only [Act.put, List.setIfInBounds_toArray, List.set_cons_zero, List.set_cons_succ])
      refine wpAnyH_take (i := 18) (oi := { dst := some 83, op := Op.load 26 (Operand.tmp 9), type := 26, pos := "law.go:121", after := #[{ on := 16, ground := Ground.guard }], guard := some (16, true) }) (v := ?_) rfl (by as_aux_lemma => kernel_rfl) (by as_aux_lemma => kernel_rfl) (by as_aux_lemma => kernel_rfl) (fun _ _ _ h => h) (Or.inl ⟨by rfl, ?hy⟩) hHeld ?_
      case hy => ((intro w' hSw; (try dsimp only at hSw); go_simp); (try with_reducible rfl))
      (try simp only [Act.put, List.setIfInBounds_toArray, List.set_cons_zero, List.set_cons_succ])
      refine wpAnyH_take (i := 20) (oi := { dst := some 85, op := Op.load 26 (Operand.tmp 3), type := 26, pos := "law.go:121", after := #[{ on := 16, ground := Ground.guard }], guard := some (16, true) }) (v := ?_) rfl (by as_aux_lemma => kernel_rfl) (by as_aux_lemma => kernel_rfl) (by as_aux_lemma => kernel_rfl) (fun _ _ _ h => h) (Or.inl ⟨by rfl, ?hy⟩) hHeld ?_
      case hy => ((intro w' hSw; (try dsimp only at hSw); go_simp); (try with_reducible rfl))
      (try simp only [Act.put, List.setIfInBounds_toArray, List.set_cons_zero, List.set_cons_succ])
      refine wpAnyH_take (i := 21) (oi := { dst := some 86, op := Op.load 26 (Operand.tmp 4), type := 26, pos := "law.go:121", after := #[{ on := 16, ground := Ground.guard }], guard := some (16, true) }) (v := ?_) rfl (by as_aux_lemma => kernel_rfl) (by as_aux_lemma => kernel_rfl) (by as_aux_lemma => kernel_rfl) (fun _ _ _ h => h) (Or.inl ⟨by rfl, ?hy⟩) hHeld ?_
      case hy => ((intro w' hSw; (try dsimp only at hSw); go_simp); (try with_reducible rfl))
      (try simp only [Act.put, List.setIfInBounds_toArray, List.set_cons_zero, List.set_cons_succ])
      refine wpAnyH_ready (rs := [19]) (by as_aux_lemma => kernel_rfl) (by simp) ?_
      refine AllReadyH.cons (o := { dst := some 84, op := Op.call { callee := Callee.value (Operand.func 16), args := #[Operand.tmp 82, Operand.tmp 83], argTypes := #[26, 26] }, type := 26, pos := "law.go:121", after := #[{ on := 17, ground := Ground.data }, { on := 18, ground := Ground.data }, { on := 16, ground := Ground.chain }, { on := 16, ground := Ground.guard }], guard := some (16, true) }) rfl (fun K hK => ?_) AllReadyH.nil
      go_simp
      (go_at_call 16; (with_reducible refine (iadd_any (IXX.out.ext HC2.out) (IY.out.ext HC2.out) (HT.out.ext (XW.out.trans HC2.out))).mono ?_); rw [EaddL.out, EaddH.out]; rintro e w13 ⟨A23, c23, B23, k23, rfl, hfa, hfb, hx⟩; have HC3 := Lib.hid (Ext.trans HC2.out hx); have HL3 := Lib.hid hx; have IR1 := Lib.hid (IvRes.at_ hfa hfb Tadd.out.1 Tadd.out.2.1 Tadd.out.2.2.1 (Ext.refl _)); clear hfa hfb; clear hx hk; have hk := HS.out _ HC3.out)
      (try go_wp2_with fail)
      refine hK.out _ _ hk (fun hHeld' => ?_)
      clear hK K hHeld
      have hHeld := hHeld'
      clear hHeld'
      (try simp only [Act.put, List.setIfInBounds_toArray, List.set_cons_zero, List.set_cons_succ])
      refine wpAnyH_ready (rs := [22]) (by as_aux_lemma => kernel_rfl) (by simp) ?_
      refine AllReadyH.cons (o := { dst := some 87, op := Op.call { callee := Callee.value (Operand.func 16), args := #[Operand.tmp 85, Operand.tmp 86], argTypes := #[26, 26] }, type := 26, pos := "law.go:121", after := #[{ on := 20, ground := Ground.data }, { on := 21, ground := Ground.data }, { on := 19, ground := Ground.chain }, { on := 16, ground := Ground.guard }], guard := some (16, true) }) rfl (fun K hK => ?_) AllReadyH.nil
      go_simp
      (go_at_call 16; (with_reducible refine (iadd_any (HA.out.ext (XW.out.trans HC3.out)) (HB.out.ext (XW.out.trans HC3.out)) (HT.out.ext (XW.out.trans HC3.out))).mono ?_); rw [EaddM.out, EaddK.out]; rintro e w14 ⟨A24, c24, B24, k24, rfl, hfa, hfb, hx⟩; have HC4 := Lib.hid (Ext.trans HC3.out hx); have HL4 := Lib.hid hx; have IR2 := Lib.hid (IvRes.at_ hfa hfb Tadd.out.2.2.2.1 Tadd.out.2.2.2.2.1 Tadd.out.2.2.2.2.2.1 (Ext.refl _)); clear hfa hfb; clear hx hk; have hk := HS.out _ HC4.out)
      (try go_wp2_with fail)
      refine hK.out _ _ hk (fun hHeld' => ?_)
      clear hK K hHeld
      have hHeld := hHeld'
      clear hHeld'
      (try simp only [Act.put, List.setIfInBounds_toArray, List.set_cons_zero, List.set_cons_succ])
      refine wpAnyH_ready (rs := [23]) (by as_aux_lemma => kernel_rfl) (by simp) ?_
      refine AllReadyH.cons (o := { dst := some 88, op := Op.call { callee := Callee.value (Operand.func 31), args := #[Operand.tmp 84, Operand.tmp 87], argTypes := #[26, 26] }, type := 4, pos := "law.go:121", after := #[{ on := 19, ground := Ground.data }, { on := 22, ground := Ground.data }, { on := 22, ground := Ground.chain }, { on := 16, ground := Ground.guard }], guard := some (16, true) }) rfl (fun K hK => ?_) AllReadyH.nil
      go_simp
      (go_at_call 31; (with_reducible refine (inside_any (IR1.out.ext HL4.out) IR2.out).mono ?_); rw [Tadd.out.2.2.2.2.2.2]; rintro e w15 ⟨rfl, hx⟩; have HC5 := Lib.hid (Ext.trans HC4.out hx); have HL5 := Lib.hid hx; clear hx hk IR1 IR2; have hk := HS.out _ HC5.out)
      (try go_wp2_with fail)
      refine hK.out _ _ hk (fun hHeld' => ?_)
      clear hK K hHeld
      have hHeld := hHeld'
      clear hHeld'
      (try simp only [Act.put, List.setIfInBounds_toArray, List.set_cons_zero, List.set_cons_succ])
      refine wpAnyH_take (i := 24) (oi := { dst := some 89, op := Op.pick (Operand.tmp 81) (Operand.tmp 88) (Operand.const (Value.bool false)), type := 4, pos := "law.go:121", after := #[{ on := 16, ground := Ground.data }, { on := 23, ground := Ground.data }], guard := none }) (v := ?_) rfl (by as_aux_lemma => kernel_rfl) (by as_aux_lemma => kernel_rfl) (by as_aux_lemma => kernel_rfl) (fun _ _ _ h => h) (Or.inl ⟨by rfl, ?hy⟩) hHeld ?_
      case hy => ((intro w' hSw; (try dsimp only at hSw); go_simp); (try with_reducible rfl))
      (try simp only [Act.put, List.setIfInBounds_toArray, List.set_cons_zero, List.set_cons_succ])
      refine wpAnyH_take (i := 25) (oi := { dst := some 90, op := Op.move (Operand.tmp 89), type := 4, pos := "law.go:121", after := #[{ on := 24, ground := Ground.data }, { on := 23, ground := Ground.chain }], guard := none }) (v := ?_) rfl (by as_aux_lemma => kernel_rfl) (by as_aux_lemma => kernel_rfl) (by as_aux_lemma => kernel_rfl) (fun _ _ _ h => h) (Or.inl ⟨by rfl, ?hy⟩) hHeld ?_
      case hy => ((intro w' hSw; (try dsimp only at hSw); go_simp); (try with_reducible rfl))
      (try simp only [Act.put, List.setIfInBounds_toArray, List.set_cons_zero, List.set_cons_succ])
      refine wpAnyH_take (i := 26) (oi := { dst := some 91, op := Op.load 26 (Operand.tmp 7), type := 26, pos := "law.go:121", after := #[{ on := 25, ground := Ground.guard }], guard := some (25, true) }) (v := ?_) rfl (by as_aux_lemma => kernel_rfl) (by as_aux_lemma => kernel_rfl) (by as_aux_lemma => kernel_rfl) (fun _ _ _ h => h) (Or.inl ⟨by rfl, ?hy⟩) hHeld ?_
      case hy => ((intro w' hSw; (try dsimp only at hSw); go_simp); (try with_reducible rfl))
      (try simp only [Act.put, List.setIfInBounds_toArray, List.set_cons_zero, List.set_cons_succ])
      refine wpAnyH_take (i := 27) (oi := { dst := some 92, op := Op.load 26 (Operand.tmp 9), type := 26, pos := "law.go:121", after := #[{ on := 25, ground := Ground.guard }], guard := some (25, true) }) (v := ?_) rfl (by as_aux_lemma => kernel_rfl) (by as_aux_lemma => kernel_rfl) (by as_aux_lemma => kernel_rfl) (fun _ _ _ h => h) (Or.inl ⟨by rfl, ?hy⟩) hHeld ?_
      case hy => ((intro w' hSw; (try dsimp only at hSw); go_simp); (try with_reducible rfl))
      (try simp only [Act.put, List.setIfInBounds_toArray, List.set_cons_zero, List.set_cons_succ])
      refine wpAnyH_take (i := 29) (oi := { dst := some 94, op := Op.load 26 (Operand.tmp 3), type := 26, pos := "law.go:121", after := #[{ on := 25, ground := Ground.guard }], guard := some (25, true) }) (v := ?_) rfl (by as_aux_lemma => kernel_rfl) (by as_aux_lemma => kernel_rfl) (by as_aux_lemma => kernel_rfl) (fun _ _ _ h => h) (Or.inl ⟨by rfl, ?hy⟩) hHeld ?_
      case hy => ((intro w' hSw; (try dsimp only at hSw); go_simp); (try with_reducible rfl))
      (try simp only [Act.put, List.setIfInBounds_toArray, List.set_cons_zero, List.set_cons_succ])
      refine wpAnyH_take (i := 30) (oi := { dst := some 95, op := Op.load 26 (Operand.tmp 4), type := 26, pos := "law.go:121", after := #[{ on := 25, ground := Ground.guard }], guard := some (25, true) }) (v := ?_) rfl (by as_aux_lemma => kernel_rfl) (by as_aux_lemma => kernel_rfl) (by as_aux_lemma => kernel_rfl) (fun _ _ _ h => h) (Or.inl ⟨by rfl, ?hy⟩) hHeld ?_
      case hy => ((intro w' hSw; (try dsimp only at hSw); go_simp); (try with_reducible rfl))
      (try simp only [Act.put, List.setIfInBounds_toArray, List.set_cons_zero, List.set_cons_succ])
      refine wpAnyH_ready (rs := [28]) (by as_aux_lemma => kernel_rfl) (by simp) ?_
      refine AllReadyH.cons (o := { dst := some 93, op := Op.call { callee := Callee.value (Operand.func 18), args := #[Operand.tmp 91, Operand.tmp 92], argTypes := #[26, 26] }, type := 26, pos := "law.go:121", after := #[{ on := 26, ground := Ground.data }, { on := 27, ground := Ground.data }, { on := 25, ground := Ground.chain }, { on := 25, ground := Ground.guard }], guard := some (25, true) }) rfl (fun K hK => ?_) AllReadyH.nil
      go_simp
      (go_at_call 18; (with_reducible refine (isub_any (IXX.out.ext HC5.out) (IY.out.ext HC5.out) (HT.out.ext (XW.out.trans HC5.out))).mono ?_); rw [EsubL.out, EsubH.out]; rintro e w16 ⟨A26, c26, B26, k26, rfl, hfa, hfb, hx⟩; have HC6 := Lib.hid (Ext.trans HC5.out hx); have HL6 := Lib.hid hx; have IR1 := Lib.hid (IvRes.at_ hfa hfb Tsub.out.1 Tsub.out.2.1 Tsub.out.2.2.1 (Ext.refl _)); clear hfa hfb; clear hx hk; have hk := HS.out _ HC6.out)
      (try go_wp2_with fail)
      refine hK.out _ _ hk (fun hHeld' => ?_)
      clear hK K hHeld
      have hHeld := hHeld'
      clear hHeld'
      (try simp only [Act.put, List.setIfInBounds_toArray, List.set_cons_zero, List.set_cons_succ])
      refine wpAnyH_ready (rs := [31]) (by as_aux_lemma => kernel_rfl) (by simp) ?_
      refine AllReadyH.cons (o := { dst := some 96, op := Op.call { callee := Callee.value (Operand.func 18), args := #[Operand.tmp 94, Operand.tmp 95], argTypes := #[26, 26] }, type := 26, pos := "law.go:121", after := #[{ on := 29, ground := Ground.data }, { on := 30, ground := Ground.data }, { on := 28, ground := Ground.chain }, { on := 25, ground := Ground.guard }], guard := some (25, true) }) rfl (fun K hK => ?_) AllReadyH.nil
      go_simp
      (go_at_call 18; (with_reducible refine (isub_any (HA.out.ext (XW.out.trans HC6.out)) (HB.out.ext (XW.out.trans HC6.out)) (HT.out.ext (XW.out.trans HC6.out))).mono ?_); rw [EsubM.out, EsubK.out]; rintro e w17 ⟨A27, c27, B27, k27, rfl, hfa, hfb, hx⟩; have HC7 := Lib.hid (Ext.trans HC6.out hx); have HL7 := Lib.hid hx; have IR2 := Lib.hid (IvRes.at_ hfa hfb Tsub.out.2.2.2.1 Tsub.out.2.2.2.2.1 Tsub.out.2.2.2.2.2.1 (Ext.refl _)); clear hfa hfb; clear hx hk; have hk := HS.out _ HC7.out)
      (try go_wp2_with fail)
      refine hK.out _ _ hk (fun hHeld' => ?_)
      clear hK K hHeld
      have hHeld := hHeld'
      clear hHeld'
      (try simp only [Act.put, List.setIfInBounds_toArray, List.set_cons_zero, List.set_cons_succ])
      refine wpAnyH_ready (rs := [32]) (by as_aux_lemma => kernel_rfl) (by simp) ?_
      refine AllReadyH.cons (o := { dst := some 97, op := Op.call { callee := Callee.value (Operand.func 31), args := #[Operand.tmp 93, Operand.tmp 96], argTypes := #[26, 26] }, type := 4, pos := "law.go:121", after := #[{ on := 28, ground := Ground.data }, { on := 31, ground := Ground.data }, { on := 31, ground := Ground.chain }, { on := 25, ground := Ground.guard }], guard := some (25, true) }) rfl (fun K hK => ?_) AllReadyH.nil
      go_simp
      (go_at_call 31; (with_reducible refine (inside_any (IR1.out.ext HL7.out) IR2.out).mono ?_); rw [Tsub.out.2.2.2.2.2.2]; rintro e w18 ⟨rfl, hx⟩; have HC8 := Lib.hid (Ext.trans HC7.out hx); have HL8 := Lib.hid hx; clear hx hk IR1 IR2; have hk := HS.out _ HC8.out)
      (try go_wp2_with fail)
      refine hK.out _ _ hk (fun hHeld' => ?_)
      clear hK K hHeld
      have hHeld := hHeld'
      clear hHeld'
      (try simp only [Act.put, List.setIfInBounds_toArray, List.set_cons_zero, List.set_cons_succ])
      refine wpAnyH_take (i := 33) (oi := { dst := some 98, op := Op.pick (Operand.tmp 90) (Operand.tmp 97) (Operand.const (Value.bool false)), type := 4, pos := "law.go:121", after := #[{ on := 25, ground := Ground.data }, { on := 32, ground := Ground.data }], guard := none }) (v := ?_) rfl (by as_aux_lemma => kernel_rfl) (by as_aux_lemma => kernel_rfl) (by as_aux_lemma => kernel_rfl) (fun _ _ _ h => h) (Or.inl ⟨by rfl, ?hy⟩) hHeld ?_
      case hy => ((intro w' hSw; (try dsimp only at hSw); go_simp); (try with_reducible rfl))
      (try simp only [Act.put, List.setIfInBounds_toArray, List.set_cons_zero, List.set_cons_succ])
      refine wpAnyH_take (i := 34) (oi := { dst := some 99, op := Op.move (Operand.tmp 98), type := 4, pos := "law.go:121", after := #[{ on := 33, ground := Ground.data }, { on := 32, ground := Ground.chain }], guard := none }) (v := ?_) rfl (by as_aux_lemma => kernel_rfl) (by as_aux_lemma => kernel_rfl) (by as_aux_lemma => kernel_rfl) (fun _ _ _ h => h) (Or.inl ⟨by rfl, ?hy⟩) hHeld ?_
      case hy => ((intro w' hSw; (try dsimp only at hSw); go_simp); (try with_reducible rfl))
      (try simp only [Act.put, List.setIfInBounds_toArray, List.set_cons_zero, List.set_cons_succ])
      refine wpAnyH_take (i := 35) (oi := { dst := some 100, op := Op.load 26 (Operand.tmp 7), type := 26, pos := "law.go:121", after := #[{ on := 34, ground := Ground.guard }], guard := some (34, true) }) (v := ?_) rfl (by as_aux_lemma => kernel_rfl) (by as_aux_lemma => kernel_rfl) (by as_aux_lemma => kernel_rfl) (fun _ _ _ h => h) (Or.inl ⟨by rfl, ?hy⟩) hHeld ?_
      case hy => ((intro w' hSw; (try dsimp only at hSw); go_simp); (try with_reducible rfl))
      (try simp only [Act.put, List.setIfInBounds_toArray, List.set_cons_zero, List.set_cons_succ])
      refine wpAnyH_take (i := 36) (oi := { dst := some 101, op := Op.load 26 (Operand.tmp 9), type := 26, pos := "law.go:121", after := #[{ on := 34, ground := Ground.guard }], guard := some (34, true) }) (v := ?_) rfl (by as_aux_lemma => kernel_rfl) (by as_aux_lemma => kernel_rfl) (by as_aux_lemma => kernel_rfl) (fun _ _ _ h => h) (Or.inl ⟨by rfl, ?hy⟩) hHeld ?_
      case hy => ((intro w' hSw; (try dsimp only at hSw); go_simp); (try with_reducible rfl))
      (try simp only [Act.put, List.setIfInBounds_toArray, List.set_cons_zero, List.set_cons_succ])
      refine wpAnyH_take (i := 38) (oi := { dst := some 103, op := Op.load 26 (Operand.tmp 3), type := 26, pos := "law.go:121", after := #[{ on := 34, ground := Ground.guard }], guard := some (34, true) }) (v := ?_) rfl (by as_aux_lemma => kernel_rfl) (by as_aux_lemma => kernel_rfl) (by as_aux_lemma => kernel_rfl) (fun _ _ _ h => h) (Or.inl ⟨by rfl, ?hy⟩) hHeld ?_
      case hy => ((intro w' hSw; (try dsimp only at hSw); go_simp); (try with_reducible rfl))
      (try simp only [Act.put, List.setIfInBounds_toArray, List.set_cons_zero, List.set_cons_succ])
      refine wpAnyH_take (i := 39) (oi := { dst := some 104, op := Op.load 26 (Operand.tmp 4), type := 26, pos := "law.go:121", after := #[{ on := 34, ground := Ground.guard }], guard := some (34, true) }) (v := ?_) rfl (by as_aux_lemma => kernel_rfl) (by as_aux_lemma => kernel_rfl) (by as_aux_lemma => kernel_rfl) (fun _ _ _ h => h) (Or.inl ⟨by rfl, ?hy⟩) hHeld ?_
      case hy => ((intro w' hSw; (try dsimp only at hSw); go_simp); (try with_reducible rfl))
      (try simp only [Act.put, List.setIfInBounds_toArray, List.set_cons_zero, List.set_cons_succ])
      refine wpAnyH_ready (rs := [37]) (by as_aux_lemma => kernel_rfl) (by simp) ?_
      refine AllReadyH.cons (o := { dst := some 102, op := Op.call { callee := Callee.value (Operand.func 20), args := #[Operand.tmp 100, Operand.tmp 101], argTypes := #[26, 26] }, type := 26, pos := "law.go:122", after := #[{ on := 35, ground := Ground.data }, { on := 36, ground := Ground.data }, { on := 34, ground := Ground.chain }, { on := 34, ground := Ground.guard }], guard := some (34, true) }) rfl (fun K hK => ?_) AllReadyH.nil
      go_simp
      (go_at_call 20; (with_reducible refine (imul_any (IXX.out.ext HC8.out) (IY.out.ext HC8.out) (HT.out.ext (XW.out.trans HC8.out)) LM5.out LM6.out LM7.out LM8.out).mono ?_); rw [EmulL.out, EmulH.out]; rintro e w19 ⟨A29, c29, B29, k29, rfl, hfa, hfb, hx⟩; have HC9 := Lib.hid (Ext.trans HC8.out hx); have HL9 := Lib.hid hx; have IR1 := Lib.hid (IvRes.at_ hfa hfb Tmul.out.1 Tmul.out.2.1 Tmul.out.2.2.1 (Ext.refl _)); clear hfa hfb; clear hx hk; have hk := HS.out _ HC9.out)
      (try go_wp2_with fail)
      refine hK.out _ _ hk (fun hHeld' => ?_)
      clear hK K hHeld
      have hHeld := hHeld'
      clear hHeld'
      (try simp only [Act.put, List.setIfInBounds_toArray, List.set_cons_zero, List.set_cons_succ])
      refine wpAnyH_ready (rs := [40]) (by as_aux_lemma => kernel_rfl) (by simp) ?_
      refine AllReadyH.cons (o := { dst := some 105, op := Op.call { callee := Callee.value (Operand.func 20), args := #[Operand.tmp 103, Operand.tmp 104], argTypes := #[26, 26] }, type := 26, pos := "law.go:122", after := #[{ on := 38, ground := Ground.data }, { on := 39, ground := Ground.data }, { on := 37, ground := Ground.chain }, { on := 34, ground := Ground.guard }], guard := some (34, true) }) rfl (fun K hK => ?_) AllReadyH.nil
      go_simp
      (go_at_call 20; (with_reducible refine (imul_any (HA.out.ext (XW.out.trans HC9.out)) (HB.out.ext (XW.out.trans HC9.out)) (HT.out.ext (XW.out.trans HC9.out)) LM1.out LM2.out LM3.out LM4.out).mono ?_); rw [EmulM.out, EmulK.out]; rintro e w20 ⟨A30, c30, B30, k30, rfl, hfa, hfb, hx⟩; have HC10 := Lib.hid (Ext.trans HC9.out hx); have HL10 := Lib.hid hx; have IR2 := Lib.hid (IvRes.at_ hfa hfb Tmul.out.2.2.2.1 Tmul.out.2.2.2.2.1 Tmul.out.2.2.2.2.2.1 (Ext.refl _)); clear hfa hfb; clear hx hk; have hk := HS.out _ HC10.out)
      (try go_wp2_with fail)
      refine hK.out _ _ hk (fun hHeld' => ?_)
      clear hK K hHeld
      have hHeld := hHeld'
      clear hHeld'
      (try simp only [Act.put, List.setIfInBounds_toArray, List.set_cons_zero, List.set_cons_succ])
      refine wpAnyH_ready (rs := [41]) (by as_aux_lemma => kernel_rfl) (by simp) ?_
      refine AllReadyH.cons (o := { dst := some 106, op := Op.call { callee := Callee.value (Operand.func 31), args := #[Operand.tmp 102, Operand.tmp 105], argTypes := #[26, 26] }, type := 4, pos := "law.go:122", after := #[{ on := 37, ground := Ground.data }, { on := 40, ground := Ground.data }, { on := 40, ground := Ground.chain }, { on := 34, ground := Ground.guard }], guard := some (34, true) }) rfl (fun K hK => ?_) AllReadyH.nil
      go_simp
      (go_at_call 31; (with_reducible refine (inside_any (IR1.out.ext HL10.out) IR2.out).mono ?_); rw [Tmul.out.2.2.2.2.2.2]; rintro e w21 ⟨rfl, hx⟩; have HC11 := Lib.hid (Ext.trans HC10.out hx); have HL11 := Lib.hid hx; clear hx hk IR1 IR2; have hk := HS.out _ HC11.out)
      (try go_wp2_with fail)
      refine hK.out _ _ hk (fun hHeld' => ?_)
      clear hK K hHeld
      have hHeld := hHeld'
      clear hHeld'
      (try simp only [Act.put, List.setIfInBounds_toArray, List.set_cons_zero, List.set_cons_succ])
      refine wpAnyH_take (i := 42) (oi := { dst := some 107, op := Op.pick (Operand.tmp 99) (Operand.tmp 106) (Operand.const (Value.bool false)), type := 4, pos := "law.go:121", after := #[{ on := 34, ground := Ground.data }, { on := 41, ground := Ground.data }], guard := none }) (v := ?_) rfl (by as_aux_lemma => kernel_rfl) (by as_aux_lemma => kernel_rfl) (by as_aux_lemma => kernel_rfl) (fun _ _ _ h => h) (Or.inl ⟨by rfl, ?hy⟩) hHeld ?_
      case hy => ((intro w' hSw; (try dsimp only at hSw); go_simp); (try with_reducible rfl))
      (try simp only [Act.put, List.setIfInBounds_toArray, List.set_cons_zero, List.set_cons_succ])
      refine wpAnyH_take (i := 43) (oi := { dst := some 108, op := Op.move (Operand.tmp 107), type := 4, pos := "law.go:121", after := #[{ on := 42, ground := Ground.data }, { on := 41, ground := Ground.chain }], guard := none }) (v := ?_) rfl (by as_aux_lemma => kernel_rfl) (by as_aux_lemma => kernel_rfl) (by as_aux_lemma => kernel_rfl) (fun _ _ _ h => h) (Or.inl ⟨by rfl, ?hy⟩) hHeld ?_
      case hy => ((intro w' hSw; (try dsimp only at hSw); go_simp); (try with_reducible rfl))
      (try simp only [Act.put, List.setIfInBounds_toArray, List.set_cons_zero, List.set_cons_succ])
      refine wpAnyH_take (i := 44) (oi := { dst := some 109, op := Op.load 26 (Operand.tmp 7), type := 26, pos := "law.go:121", after := #[{ on := 43, ground := Ground.guard }], guard := some (43, true) }) (v := ?_) rfl (by as_aux_lemma => kernel_rfl) (by as_aux_lemma => kernel_rfl) (by as_aux_lemma => kernel_rfl) (fun _ _ _ h => h) (Or.inl ⟨by rfl, ?hy⟩) hHeld ?_
      case hy => ((intro w' hSw; (try dsimp only at hSw); go_simp); (try with_reducible rfl))
      (try simp only [Act.put, List.setIfInBounds_toArray, List.set_cons_zero, List.set_cons_succ])
      refine wpAnyH_take (i := 45) (oi := { dst := some 110, op := Op.load 26 (Operand.tmp 9), type := 26, pos := "law.go:121", after := #[{ on := 43, ground := Ground.guard }], guard := some (43, true) }) (v := ?_) rfl (by as_aux_lemma => kernel_rfl) (by as_aux_lemma => kernel_rfl) (by as_aux_lemma => kernel_rfl) (fun _ _ _ h => h) (Or.inl ⟨by rfl, ?hy⟩) hHeld ?_
      case hy => ((intro w' hSw; (try dsimp only at hSw); go_simp); (try with_reducible rfl))
      (try simp only [Act.put, List.setIfInBounds_toArray, List.set_cons_zero, List.set_cons_succ])
      refine wpAnyH_take (i := 47) (oi := { dst := some 112, op := Op.load 26 (Operand.tmp 3), type := 26, pos := "law.go:121", after := #[{ on := 43, ground := Ground.guard }], guard := some (43, true) }) (v := ?_) rfl (by as_aux_lemma => kernel_rfl) (by as_aux_lemma => kernel_rfl) (by as_aux_lemma => kernel_rfl) (fun _ _ _ h => h) (Or.inl ⟨by rfl, ?hy⟩) hHeld ?_
      case hy => ((intro w' hSw; (try dsimp only at hSw); go_simp); (try with_reducible rfl))
      (try simp only [Act.put, List.setIfInBounds_toArray, List.set_cons_zero, List.set_cons_succ])
      refine wpAnyH_take (i := 48) (oi := { dst := some 113, op := Op.load 26 (Operand.tmp 4), type := 26, pos := "law.go:121", after := #[{ on := 43, ground := Ground.guard }], guard := some (43, true) }) (v := ?_) rfl (by as_aux_lemma => kernel_rfl) (by as_aux_lemma => kernel_rfl) (by as_aux_lemma => kernel_rfl) (fun _ _ _ h => h) (Or.inl ⟨by rfl, ?hy⟩) hHeld ?_
      case hy => ((intro w' hSw; (try dsimp only at hSw); go_simp); (try with_reducible rfl))
      (try simp only [Act.put, List.setIfInBounds_toArray, List.set_cons_zero, List.set_cons_succ])
      refine wpAnyH_ready (rs := [46]) (by as_aux_lemma => kernel_rfl) (by simp) ?_
      refine AllReadyH.cons (o := { dst := some 111, op := Op.call { callee := Callee.value (Operand.func 22), args := #[Operand.tmp 109, Operand.tmp 110], argTypes := #[26, 26] }, type := 26, pos := "law.go:122", after := #[{ on := 44, ground := Ground.data }, { on := 45, ground := Ground.data }, { on := 43, ground := Ground.chain }, { on := 43, ground := Ground.guard }], guard := some (43, true) }) rfl (fun K hK => ?_) AllReadyH.nil
      go_simp
      (go_at_call 22; (with_reducible refine (imin_any (IXX.out.ext HC11.out) (IY.out.ext HC11.out) (HT.out.ext (XW.out.trans HC11.out))).mono ?_); rw [EminL.out, EminH.out]; rintro e w22 ⟨A32, c32, B32, k32, rfl, hfa, hfb, hx⟩; have HC12 := Lib.hid (Ext.trans HC11.out hx); have HL12 := Lib.hid hx; have IR1 := Lib.hid (IvRes.at_ hfa hfb Tmin.out.1 Tmin.out.2.1 Tmin.out.2.2.1 (Ext.refl _)); clear hfa hfb; clear hx hk; have hk := HS.out _ HC12.out)
      (try go_wp2_with fail)
      refine hK.out _ _ hk (fun hHeld' => ?_)
      clear hK K hHeld
      have hHeld := hHeld'
      clear hHeld'
      (try simp only [Act.put, List.setIfInBounds_toArray, List.set_cons_zero, List.set_cons_succ])
      refine wpAnyH_ready (rs := [49]) (by as_aux_lemma => kernel_rfl) (by simp) ?_
      refine AllReadyH.cons (o := { dst := some 114, op := Op.call { callee := Callee.value (Operand.func 22), args := #[Operand.tmp 112, Operand.tmp 113], argTypes := #[26, 26] }, type := 26, pos := "law.go:122", after := #[{ on := 47, ground := Ground.data }, { on := 48, ground := Ground.data }, { on := 46, ground := Ground.chain }, { on := 43, ground := Ground.guard }], guard := some (43, true) }) rfl (fun K hK => ?_) AllReadyH.nil
      go_simp
      (go_at_call 22; (with_reducible refine (imin_any (HA.out.ext (XW.out.trans HC12.out)) (HB.out.ext (XW.out.trans HC12.out)) (HT.out.ext (XW.out.trans HC12.out))).mono ?_); rw [EminM.out, EminK.out]; rintro e w23 ⟨A33, c33, B33, k33, rfl, hfa, hfb, hx⟩; have HC13 := Lib.hid (Ext.trans HC12.out hx); have HL13 := Lib.hid hx; have IR2 := Lib.hid (IvRes.at_ hfa hfb Tmin.out.2.2.2.1 Tmin.out.2.2.2.2.1 Tmin.out.2.2.2.2.2.1 (Ext.refl _)); clear hfa hfb; clear hx hk; have hk := HS.out _ HC13.out)
      (try go_wp2_with fail)
      refine hK.out _ _ hk (fun hHeld' => ?_)
      clear hK K hHeld
      have hHeld := hHeld'
      clear hHeld'
      (try simp only [Act.put, List.setIfInBounds_toArray, List.set_cons_zero, List.set_cons_succ])
      refine wpAnyH_ready (rs := [50]) (by as_aux_lemma => kernel_rfl) (by simp) ?_
      refine AllReadyH.cons (o := { dst := some 115, op := Op.call { callee := Callee.value (Operand.func 31), args := #[Operand.tmp 111, Operand.tmp 114], argTypes := #[26, 26] }, type := 4, pos := "law.go:122", after := #[{ on := 46, ground := Ground.data }, { on := 49, ground := Ground.data }, { on := 49, ground := Ground.chain }, { on := 43, ground := Ground.guard }], guard := some (43, true) }) rfl (fun K hK => ?_) AllReadyH.nil
      go_simp
      (go_at_call 31; (with_reducible refine (inside_any (IR1.out.ext HL13.out) IR2.out).mono ?_); rw [Tmin.out.2.2.2.2.2.2]; rintro e w24 ⟨rfl, hx⟩; have HC14 := Lib.hid (Ext.trans HC13.out hx); have HL14 := Lib.hid hx; clear hx hk IR1 IR2; have hk := HS.out _ HC14.out)
      (try go_wp2_with fail)
      refine hK.out _ _ hk (fun hHeld' => ?_)
      clear hK K hHeld
      have hHeld := hHeld'
      clear hHeld'
      (try simp only [Act.put, List.setIfInBounds_toArray, List.set_cons_zero, List.set_cons_succ])
      refine wpAnyH_take (i := 51) (oi := { dst := some 116, op := Op.pick (Operand.tmp 108) (Operand.tmp 115) (Operand.const (Value.bool false)), type := 4, pos := "law.go:121", after := #[{ on := 43, ground := Ground.data }, { on := 50, ground := Ground.data }], guard := none }) (v := ?_) rfl (by as_aux_lemma => kernel_rfl) (by as_aux_lemma => kernel_rfl) (by as_aux_lemma => kernel_rfl) (fun _ _ _ h => h) (Or.inl ⟨by rfl, ?hy⟩) hHeld ?_
      case hy => ((intro w' hSw; (try dsimp only at hSw); go_simp); (try with_reducible rfl))
      (try simp only [Act.put, List.setIfInBounds_toArray, List.set_cons_zero, List.set_cons_succ])
      refine wpAnyH_take (i := 52) (oi := { dst := some 117, op := Op.move (Operand.tmp 116), type := 4, pos := "law.go:121", after := #[{ on := 51, ground := Ground.data }, { on := 50, ground := Ground.chain }], guard := none }) (v := ?_) rfl (by as_aux_lemma => kernel_rfl) (by as_aux_lemma => kernel_rfl) (by as_aux_lemma => kernel_rfl) (fun _ _ _ h => h) (Or.inl ⟨by rfl, ?hy⟩) hHeld ?_
      case hy => ((intro w' hSw; (try dsimp only at hSw); go_simp); (try with_reducible rfl))
      (try simp only [Act.put, List.setIfInBounds_toArray, List.set_cons_zero, List.set_cons_succ])
      refine wpAnyH_take (i := 53) (oi := { dst := some 118, op := Op.load 26 (Operand.tmp 7), type := 26, pos := "law.go:121", after := #[{ on := 52, ground := Ground.guard }], guard := some (52, true) }) (v := ?_) rfl (by as_aux_lemma => kernel_rfl) (by as_aux_lemma => kernel_rfl) (by as_aux_lemma => kernel_rfl) (fun _ _ _ h => h) (Or.inl ⟨by rfl, ?hy⟩) hHeld ?_
      case hy => ((intro w' hSw; (try dsimp only at hSw); go_simp); (try with_reducible rfl))
      (try simp only [Act.put, List.setIfInBounds_toArray, List.set_cons_zero, List.set_cons_succ])
      refine wpAnyH_take (i := 54) (oi := { dst := some 119, op := Op.load 26 (Operand.tmp 9), type := 26, pos := "law.go:121", after := #[{ on := 52, ground := Ground.guard }], guard := some (52, true) }) (v := ?_) rfl (by as_aux_lemma => kernel_rfl) (by as_aux_lemma => kernel_rfl) (by as_aux_lemma => kernel_rfl) (fun _ _ _ h => h) (Or.inl ⟨by rfl, ?hy⟩) hHeld ?_
      case hy => ((intro w' hSw; (try dsimp only at hSw); go_simp); (try with_reducible rfl))
      (try simp only [Act.put, List.setIfInBounds_toArray, List.set_cons_zero, List.set_cons_succ])
      refine wpAnyH_take (i := 56) (oi := { dst := some 121, op := Op.load 26 (Operand.tmp 3), type := 26, pos := "law.go:121", after := #[{ on := 52, ground := Ground.guard }], guard := some (52, true) }) (v := ?_) rfl (by as_aux_lemma => kernel_rfl) (by as_aux_lemma => kernel_rfl) (by as_aux_lemma => kernel_rfl) (fun _ _ _ h => h) (Or.inl ⟨by rfl, ?hy⟩) hHeld ?_
      case hy => ((intro w' hSw; (try dsimp only at hSw); go_simp); (try with_reducible rfl))
      (try simp only [Act.put, List.setIfInBounds_toArray, List.set_cons_zero, List.set_cons_succ])
      refine wpAnyH_take (i := 57) (oi := { dst := some 122, op := Op.load 26 (Operand.tmp 4), type := 26, pos := "law.go:121", after := #[{ on := 52, ground := Ground.guard }], guard := some (52, true) }) (v := ?_) rfl (by as_aux_lemma => kernel_rfl) (by as_aux_lemma => kernel_rfl) (by as_aux_lemma => kernel_rfl) (fun _ _ _ h => h) (Or.inl ⟨by rfl, ?hy⟩) hHeld ?_
      case hy => ((intro w' hSw; (try dsimp only at hSw); go_simp); (try with_reducible rfl))
      (try simp only [Act.put, List.setIfInBounds_toArray, List.set_cons_zero, List.set_cons_succ])
      refine wpAnyH_ready (rs := [55]) (by as_aux_lemma => kernel_rfl) (by simp) ?_
      refine AllReadyH.cons (o := { dst := some 120, op := Op.call { callee := Callee.value (Operand.func 24), args := #[Operand.tmp 118, Operand.tmp 119], argTypes := #[26, 26] }, type := 26, pos := "law.go:122", after := #[{ on := 53, ground := Ground.data }, { on := 54, ground := Ground.data }, { on := 52, ground := Ground.chain }, { on := 52, ground := Ground.guard }], guard := some (52, true) }) rfl (fun K hK => ?_) AllReadyH.nil
      go_simp
      (go_at_call 24; (with_reducible refine (imax_any (IXX.out.ext HC14.out) (IY.out.ext HC14.out) (HT.out.ext (XW.out.trans HC14.out))).mono ?_); rw [EmaxL.out, EmaxH.out]; rintro e w25 ⟨A35, c35, B35, k35, rfl, hfa, hfb, hx⟩; have HC15 := Lib.hid (Ext.trans HC14.out hx); have HL15 := Lib.hid hx; have IR1 := Lib.hid (IvRes.at_ hfa hfb Tmax.out.1 Tmax.out.2.1 Tmax.out.2.2.1 (Ext.refl _)); clear hfa hfb; clear hx hk; have hk := HS.out _ HC15.out)
      (try go_wp2_with fail)
      refine hK.out _ _ hk (fun hHeld' => ?_)
      clear hK K hHeld
      have hHeld := hHeld'
      clear hHeld'
      (try simp only [Act.put, List.setIfInBounds_toArray, List.set_cons_zero, List.set_cons_succ])
      refine wpAnyH_ready (rs := [58]) (by as_aux_lemma => kernel_rfl) (by simp) ?_
      refine AllReadyH.cons (o := { dst := some 123, op := Op.call { callee := Callee.value (Operand.func 24), args := #[Operand.tmp 121, Operand.tmp 122], argTypes := #[26, 26] }, type := 26, pos := "law.go:122", after := #[{ on := 56, ground := Ground.data }, { on := 57, ground := Ground.data }, { on := 55, ground := Ground.chain }, { on := 52, ground := Ground.guard }], guard := some (52, true) }) rfl (fun K hK => ?_) AllReadyH.nil
      go_simp
      (go_at_call 24; (with_reducible refine (imax_any (HA.out.ext (XW.out.trans HC15.out)) (HB.out.ext (XW.out.trans HC15.out)) (HT.out.ext (XW.out.trans HC15.out))).mono ?_); rw [EmaxM.out, EmaxK.out]; rintro e w26 ⟨A36, c36, B36, k36, rfl, hfa, hfb, hx⟩; have HC16 := Lib.hid (Ext.trans HC15.out hx); have HL16 := Lib.hid hx; have IR2 := Lib.hid (IvRes.at_ hfa hfb Tmax.out.2.2.2.1 Tmax.out.2.2.2.2.1 Tmax.out.2.2.2.2.2.1 (Ext.refl _)); clear hfa hfb; clear hx hk; have hk := HS.out _ HC16.out)
      (try go_wp2_with fail)
      refine hK.out _ _ hk (fun hHeld' => ?_)
      clear hK K hHeld
      have hHeld := hHeld'
      clear hHeld'
      (try simp only [Act.put, List.setIfInBounds_toArray, List.set_cons_zero, List.set_cons_succ])
      refine wpAnyH_ready (rs := [59]) (by as_aux_lemma => kernel_rfl) (by simp) ?_
      refine AllReadyH.cons (o := { dst := some 124, op := Op.call { callee := Callee.value (Operand.func 31), args := #[Operand.tmp 120, Operand.tmp 123], argTypes := #[26, 26] }, type := 4, pos := "law.go:122", after := #[{ on := 55, ground := Ground.data }, { on := 58, ground := Ground.data }, { on := 58, ground := Ground.chain }, { on := 52, ground := Ground.guard }], guard := some (52, true) }) rfl (fun K hK => ?_) AllReadyH.nil
      go_simp
      (go_at_call 31; (with_reducible refine (inside_any (IR1.out.ext HL16.out) IR2.out).mono ?_); rw [Tmax.out.2.2.2.2.2.2]; rintro e w27 ⟨rfl, hx⟩; have HC17 := Lib.hid (Ext.trans HC16.out hx); have HL17 := Lib.hid hx; clear hx hk IR1 IR2; have hk := HS.out _ HC17.out)
      (try go_wp2_with fail)
      refine hK.out _ _ hk (fun hHeld' => ?_)
      clear hK K hHeld
      have hHeld := hHeld'
      clear hHeld'
      (try simp only [Act.put, List.setIfInBounds_toArray, List.set_cons_zero, List.set_cons_succ])
      refine wpAnyH_take (i := 60) (oi := { dst := some 125, op := Op.pick (Operand.tmp 117) (Operand.tmp 124) (Operand.const (Value.bool false)), type := 4, pos := "law.go:121", after := #[{ on := 52, ground := Ground.data }, { on := 59, ground := Ground.data }], guard := none }) (v := ?_) rfl (by as_aux_lemma => kernel_rfl) (by as_aux_lemma => kernel_rfl) (by as_aux_lemma => kernel_rfl) (fun _ _ _ h => h) (Or.inl ⟨by rfl, ?hy⟩) hHeld ?_
      case hy => ((intro w' hSw; (try dsimp only at hSw); go_simp); (try with_reducible rfl))
      (try simp only [Act.put, List.setIfInBounds_toArray, List.set_cons_zero, List.set_cons_succ])
      refine wpAnyH_take (i := 61) (oi := { dst := some 126, op := Op.move (Operand.tmp 125), type := 4, pos := "law.go:121", after := #[{ on := 60, ground := Ground.data }, { on := 59, ground := Ground.chain }], guard := none }) (v := ?_) rfl (by as_aux_lemma => kernel_rfl) (by as_aux_lemma => kernel_rfl) (by as_aux_lemma => kernel_rfl) (fun _ _ _ h => h) (Or.inl ⟨by rfl, ?hy⟩) hHeld ?_
      case hy => ((intro w' hSw; (try dsimp only at hSw); go_simp); (try with_reducible rfl))
      (try simp only [Act.put, List.setIfInBounds_toArray, List.set_cons_zero, List.set_cons_succ])
      refine wpAnyH_take (i := 62) (oi := { dst := some 127, op := Op.load 26 (Operand.tmp 7), type := 26, pos := "law.go:121", after := #[{ on := 61, ground := Ground.guard }], guard := some (61, true) }) (v := ?_) rfl (by as_aux_lemma => kernel_rfl) (by as_aux_lemma => kernel_rfl) (by as_aux_lemma => kernel_rfl) (fun _ _ _ h => h) (Or.inl ⟨by rfl, ?hy⟩) hHeld ?_
      case hy => ((intro w' hSw; (try dsimp only at hSw); go_simp); (try with_reducible rfl))
      (try simp only [Act.put, List.setIfInBounds_toArray, List.set_cons_zero, List.set_cons_succ])
      refine wpAnyH_take (i := 64) (oi := { dst := some 129, op := Op.load 26 (Operand.tmp 3), type := 26, pos := "law.go:121", after := #[{ on := 61, ground := Ground.guard }], guard := some (61, true) }) (v := ?_) rfl (by as_aux_lemma => kernel_rfl) (by as_aux_lemma => kernel_rfl) (by as_aux_lemma => kernel_rfl) (fun _ _ _ h => h) (Or.inl ⟨by rfl, ?hy⟩) hHeld ?_
      case hy => ((intro w' hSw; (try dsimp only at hSw); go_simp); (try with_reducible rfl))
      (try simp only [Act.put, List.setIfInBounds_toArray, List.set_cons_zero, List.set_cons_succ])
      refine wpAnyH_ready (rs := [63]) (by as_aux_lemma => kernel_rfl) (by simp) ?_
      refine AllReadyH.cons (o := { dst := some 128, op := Op.call { callee := Callee.value (Operand.func 14), args := #[Operand.tmp 127], argTypes := #[26] }, type := 26, pos := "law.go:123", after := #[{ on := 62, ground := Ground.data }, { on := 61, ground := Ground.chain }, { on := 61, ground := Ground.guard }], guard := some (61, true) }) rfl (fun K hK => ?_) AllReadyH.nil
      go_simp
      (go_at_call 14; (with_reducible refine (iabs_any (IXX.out.ext HC17.out) (HT.out.ext (XW.out.trans HC17.out))).mono ?_); rw [EabzL.out, EabzH.out]; rintro e w28 ⟨A38, c38, B38, k38, rfl, hfa, hfb, hx⟩; have HC18 := Lib.hid (Ext.trans HC17.out hx); have HL18 := Lib.hid hx; have IR1 := Lib.hid (IvRes.at_ hfa hfb Tabz.out.1 Tabz.out.2.1 Tabz.out.2.2.1 (Ext.refl _)); clear hfa hfb; clear hx hk; have hk := HS.out _ HC18.out)
      (try go_wp2_with fail)
      refine hK.out _ _ hk (fun hHeld' => ?_)
      clear hK K hHeld
      have hHeld := hHeld'
      clear hHeld'
      (try simp only [Act.put, List.setIfInBounds_toArray, List.set_cons_zero, List.set_cons_succ])
      refine wpAnyH_ready (rs := [65]) (by as_aux_lemma => kernel_rfl) (by simp) ?_
      refine AllReadyH.cons (o := { dst := some 130, op := Op.call { callee := Callee.value (Operand.func 14), args := #[Operand.tmp 129], argTypes := #[26] }, type := 26, pos := "law.go:123", after := #[{ on := 64, ground := Ground.data }, { on := 63, ground := Ground.chain }, { on := 61, ground := Ground.guard }], guard := some (61, true) }) rfl (fun K hK => ?_) AllReadyH.nil
      go_simp
      (go_at_call 14; (with_reducible refine (iabs_any (HA.out.ext (XW.out.trans HC18.out)) (HT.out.ext (XW.out.trans HC18.out))).mono ?_); rw [EabzM.out, EabzK.out]; rintro e w29 ⟨A39, c39, B39, k39, rfl, hfa, hfb, hx⟩; have HC19 := Lib.hid (Ext.trans HC18.out hx); have HL19 := Lib.hid hx; have IR2 := Lib.hid (IvRes.at_ hfa hfb Tabz.out.2.2.2.1 Tabz.out.2.2.2.2.1 Tabz.out.2.2.2.2.2.1 (Ext.refl _)); clear hfa hfb; clear hx hk; have hk := HS.out _ HC19.out)
      (try go_wp2_with fail)
      refine hK.out _ _ hk (fun hHeld' => ?_)
      clear hK K hHeld
      have hHeld := hHeld'
      clear hHeld'
      (try simp only [Act.put, List.setIfInBounds_toArray, List.set_cons_zero, List.set_cons_succ])
      refine wpAnyH_ready (rs := [66]) (by as_aux_lemma => kernel_rfl) (by simp) ?_
      refine AllReadyH.cons (o := { dst := some 131, op := Op.call { callee := Callee.value (Operand.func 31), args := #[Operand.tmp 128, Operand.tmp 130], argTypes := #[26, 26] }, type := 4, pos := "law.go:123", after := #[{ on := 63, ground := Ground.data }, { on := 65, ground := Ground.data }, { on := 65, ground := Ground.chain }, { on := 61, ground := Ground.guard }], guard := some (61, true) }) rfl (fun K hK => ?_) AllReadyH.nil
      go_simp
      (go_at_call 31; (with_reducible refine (inside_any (IR1.out.ext HL19.out) IR2.out).mono ?_); rw [Tabz.out.2.2.2.2.2.2]; rintro e w30 ⟨rfl, hx⟩; have HC20 := Lib.hid (Ext.trans HC19.out hx); have HL20 := Lib.hid hx; clear hx hk IR1 IR2; have hk := HS.out _ HC20.out)
      (try go_wp2_with fail)
      refine hK.out _ _ hk (fun hHeld' => ?_)
      clear hK K hHeld
      have hHeld := hHeld'
      clear hHeld'
      (try simp only [Act.put, List.setIfInBounds_toArray, List.set_cons_zero, List.set_cons_succ])
      refine wpAnyH_take (i := 67) (oi := { dst := some 132, op := Op.pick (Operand.tmp 126) (Operand.tmp 131) (Operand.const (Value.bool false)), type := 4, pos := "law.go:121", after := #[{ on := 61, ground := Ground.data }, { on := 66, ground := Ground.data }], guard := none }) (v := ?_) rfl (by as_aux_lemma => kernel_rfl) (by as_aux_lemma => kernel_rfl) (by as_aux_lemma => kernel_rfl) (fun _ _ _ h => h) (Or.inl ⟨by rfl, ?hy⟩) hHeld ?_
      case hy => ((intro w' hSw; (try dsimp only at hSw); go_simp); (try with_reducible rfl))
      (try simp only [Act.put, List.setIfInBounds_toArray, List.set_cons_zero, List.set_cons_succ])
      refine wpAnyH_take (i := 68) (oi := { dst := some 133, op := Op.move (Operand.tmp 132), type := 4, pos := "law.go:121", after := #[{ on := 67, ground := Ground.data }, { on := 66, ground := Ground.chain }], guard := none }) (v := ?_) rfl (by as_aux_lemma => kernel_rfl) (by as_aux_lemma => kernel_rfl) (by as_aux_lemma => kernel_rfl) (fun _ _ _ h => h) (Or.inl ⟨by rfl, ?hy⟩) hHeld ?_
      case hy => ((intro w' hSw; (try dsimp only at hSw); go_simp); (try with_reducible rfl))
      (try simp only [Act.put, List.setIfInBounds_toArray, List.set_cons_zero, List.set_cons_succ])
      refine wpAnyH_take (i := 69) (oi := { dst := some 134, op := Op.load 26 (Operand.tmp 7), type := 26, pos := "law.go:121", after := #[{ on := 68, ground := Ground.guard }], guard := some (68, true) }) (v := ?_) rfl (by as_aux_lemma => kernel_rfl) (by as_aux_lemma => kernel_rfl) (by as_aux_lemma => kernel_rfl) (fun _ _ _ h => h) (Or.inl ⟨by rfl, ?hy⟩) hHeld ?_
      case hy => ((intro w' hSw; (try dsimp only at hSw); go_simp); (try with_reducible rfl))
      (try simp only [Act.put, List.setIfInBounds_toArray, List.set_cons_zero, List.set_cons_succ])
      refine wpAnyH_take (i := 70) (oi := { dst := some 135, op := Op.load 26 (Operand.tmp 9), type := 26, pos := "law.go:121", after := #[{ on := 68, ground := Ground.guard }], guard := some (68, true) }) (v := ?_) rfl (by as_aux_lemma => kernel_rfl) (by as_aux_lemma => kernel_rfl) (by as_aux_lemma => kernel_rfl) (fun _ _ _ h => h) (Or.inl ⟨by rfl, ?hy⟩) hHeld ?_
      case hy => ((intro w' hSw; (try dsimp only at hSw); go_simp); (try with_reducible rfl))
      (try simp only [Act.put, List.setIfInBounds_toArray, List.set_cons_zero, List.set_cons_succ])
      refine wpAnyH_take (i := 72) (oi := { dst := some 137, op := Op.load 26 (Operand.tmp 3), type := 26, pos := "law.go:121", after := #[{ on := 68, ground := Ground.guard }], guard := some (68, true) }) (v := ?_) rfl (by as_aux_lemma => kernel_rfl) (by as_aux_lemma => kernel_rfl) (by as_aux_lemma => kernel_rfl) (fun _ _ _ h => h) (Or.inl ⟨by rfl, ?hy⟩) hHeld ?_
      case hy => ((intro w' hSw; (try dsimp only at hSw); go_simp); (try with_reducible rfl))
      (try simp only [Act.put, List.setIfInBounds_toArray, List.set_cons_zero, List.set_cons_succ])
      refine wpAnyH_take (i := 73) (oi := { dst := some 138, op := Op.load 26 (Operand.tmp 4), type := 26, pos := "law.go:121", after := #[{ on := 68, ground := Ground.guard }], guard := some (68, true) }) (v := ?_) rfl (by as_aux_lemma => kernel_rfl) (by as_aux_lemma => kernel_rfl) (by as_aux_lemma => kernel_rfl) (fun _ _ _ h => h) (Or.inl ⟨by rfl, ?hy⟩) hHeld ?_
      case hy => ((intro w' hSw; (try dsimp only at hSw); go_simp); (try with_reducible rfl))
      (try simp only [Act.put, List.setIfInBounds_toArray, List.set_cons_zero, List.set_cons_succ])
      refine wpAnyH_ready (rs := [71]) (by as_aux_lemma => kernel_rfl) (by simp) ?_
      refine AllReadyH.cons (o := { dst := some 136, op := Op.call { callee := Callee.value (Operand.func 26), args := #[Operand.tmp 134, Operand.tmp 135], argTypes := #[26, 26] }, type := 26, pos := "law.go:123", after := #[{ on := 69, ground := Ground.data }, { on := 70, ground := Ground.data }, { on := 68, ground := Ground.chain }, { on := 68, ground := Ground.guard }], guard := some (68, true) }) rfl (fun K hK => ?_) AllReadyH.nil
      go_simp
      (go_at_call 26; (with_reducible refine (hull_any (IXX.out.ext HC20.out) (IY.out.ext HC20.out) (HT.out.ext (XW.out.trans HC20.out))).mono ?_); rw [EhulL.out, EhulH.out]; rintro e w31 ⟨A41, c41, B41, k41, rfl, hfa, hfb, hx⟩; have HC21 := Lib.hid (Ext.trans HC20.out hx); have HL21 := Lib.hid hx; have IR1 := Lib.hid (IvRes.at_ hfa hfb Thul.out.1 Thul.out.2.1 Thul.out.2.2.1 (Ext.refl _)); clear hfa hfb; clear hx hk; have hk := HS.out _ HC21.out)
      (try go_wp2_with fail)
      refine hK.out _ _ hk (fun hHeld' => ?_)
      clear hK K hHeld
      have hHeld := hHeld'
      clear hHeld'
      (try simp only [Act.put, List.setIfInBounds_toArray, List.set_cons_zero, List.set_cons_succ])
      refine wpAnyH_ready (rs := [74]) (by as_aux_lemma => kernel_rfl) (by simp) ?_
      refine AllReadyH.cons (o := { dst := some 139, op := Op.call { callee := Callee.value (Operand.func 26), args := #[Operand.tmp 137, Operand.tmp 138], argTypes := #[26, 26] }, type := 26, pos := "law.go:123", after := #[{ on := 72, ground := Ground.data }, { on := 73, ground := Ground.data }, { on := 71, ground := Ground.chain }, { on := 68, ground := Ground.guard }], guard := some (68, true) }) rfl (fun K hK => ?_) AllReadyH.nil
      go_simp
      (go_at_call 26; (with_reducible refine (hull_any (HA.out.ext (XW.out.trans HC21.out)) (HB.out.ext (XW.out.trans HC21.out)) (HT.out.ext (XW.out.trans HC21.out))).mono ?_); rw [EhulM.out, EhulK.out]; rintro e w32 ⟨A42, c42, B42, k42, rfl, hfa, hfb, hx⟩; have HC22 := Lib.hid (Ext.trans HC21.out hx); have HL22 := Lib.hid hx; have IR2 := Lib.hid (IvRes.at_ hfa hfb Thul.out.2.2.2.1 Thul.out.2.2.2.2.1 Thul.out.2.2.2.2.2.1 (Ext.refl _)); clear hfa hfb; clear hx hk; have hk := HS.out _ HC22.out)
      (try go_wp2_with fail)
      refine hK.out _ _ hk (fun hHeld' => ?_)
      clear hK K hHeld
      have hHeld := hHeld'
      clear hHeld'
      (try simp only [Act.put, List.setIfInBounds_toArray, List.set_cons_zero, List.set_cons_succ])
      refine wpAnyH_ready (rs := [75]) (by as_aux_lemma => kernel_rfl) (by simp) ?_
      refine AllReadyH.cons (o := { dst := some 140, op := Op.call { callee := Callee.value (Operand.func 31), args := #[Operand.tmp 136, Operand.tmp 139], argTypes := #[26, 26] }, type := 4, pos := "law.go:123", after := #[{ on := 71, ground := Ground.data }, { on := 74, ground := Ground.data }, { on := 74, ground := Ground.chain }, { on := 68, ground := Ground.guard }], guard := some (68, true) }) rfl (fun K hK => ?_) AllReadyH.nil
      go_simp
      (go_at_call 31; (with_reducible refine (inside_any (IR1.out.ext HL22.out) IR2.out).mono ?_); rw [Thul.out.2.2.2.2.2.2]; rintro e w33 ⟨rfl, hx⟩; have HC23 := Lib.hid (Ext.trans HC22.out hx); have HL23 := Lib.hid hx; clear hx hk IR1 IR2; have hk := HS.out _ HC23.out)
      (try go_wp2_with fail)
      refine hK.out _ _ hk (fun hHeld' => ?_)
      clear hK K hHeld
      have hHeld := hHeld'
      clear hHeld'
      (try simp only [Act.put, List.setIfInBounds_toArray, List.set_cons_zero, List.set_cons_succ])
      refine wpAnyH_take (i := 76) (oi := { dst := some 141, op := Op.pick (Operand.tmp 133) (Operand.tmp 140) (Operand.const (Value.bool false)), type := 4, pos := "law.go:121", after := #[{ on := 68, ground := Ground.data }, { on := 75, ground := Ground.data }], guard := none }) (v := ?_) rfl (by as_aux_lemma => kernel_rfl) (by as_aux_lemma => kernel_rfl) (by as_aux_lemma => kernel_rfl) (fun _ _ _ h => h) (Or.inl ⟨by rfl, ?hy⟩) hHeld ?_
      case hy => ((intro w' hSw; (try dsimp only at hSw); go_simp); (try with_reducible rfl))
      (try simp only [Act.put, List.setIfInBounds_toArray, List.set_cons_zero, List.set_cons_succ])
      refine wpAnyH_take (i := 77) (oi := { dst := some 142, op := Op.move (Operand.tmp 141), type := 4, pos := "law.go:121", after := #[{ on := 76, ground := Ground.data }, { on := 75, ground := Ground.chain }], guard := none }) (v := ?_) rfl (by as_aux_lemma => kernel_rfl) (by as_aux_lemma => kernel_rfl) (by as_aux_lemma => kernel_rfl) (fun _ _ _ h => h) (Or.inl ⟨by rfl, ?hy⟩) hHeld ?_
      case hy => ((intro w' hSw; (try dsimp only at hSw); go_simp); (try with_reducible rfl))
      (try simp only [Act.put, List.setIfInBounds_toArray, List.set_cons_zero, List.set_cons_succ])
      refine wpAnyH_take (i := 78) (oi := { dst := some 143, op := Op.load 26 (Operand.tmp 7), type := 26, pos := "law.go:121", after := #[{ on := 77, ground := Ground.guard }], guard := some (77, true) }) (v := ?_) rfl (by as_aux_lemma => kernel_rfl) (by as_aux_lemma => kernel_rfl) (by as_aux_lemma => kernel_rfl) (fun _ _ _ h => h) (Or.inl ⟨by rfl, ?hy⟩) hHeld ?_
      case hy => ((intro w' hSw; (try dsimp only at hSw); go_simp); (try with_reducible rfl))
      (try simp only [Act.put, List.setIfInBounds_toArray, List.set_cons_zero, List.set_cons_succ])
      refine wpAnyH_take (i := 80) (oi := { dst := some 145, op := Op.load 26 (Operand.tmp 3), type := 26, pos := "law.go:121", after := #[{ on := 77, ground := Ground.guard }], guard := some (77, true) }) (v := ?_) rfl (by as_aux_lemma => kernel_rfl) (by as_aux_lemma => kernel_rfl) (by as_aux_lemma => kernel_rfl) (fun _ _ _ h => h) (Or.inl ⟨by rfl, ?hy⟩) hHeld ?_
      case hy => ((intro w' hSw; (try dsimp only at hSw); go_simp); (try with_reducible rfl))
      (try simp only [Act.put, List.setIfInBounds_toArray, List.set_cons_zero, List.set_cons_succ])
      refine wpAnyH_ready (rs := [79]) (by as_aux_lemma => kernel_rfl) (by simp) ?_
      refine AllReadyH.cons (o := { dst := some 144, op := Op.call { callee := Callee.value (Operand.func 32), args := #[Operand.tmp 143], argTypes := #[26] }, type := 24, pos := "law.go:123", after := #[{ on := 78, ground := Ground.data }, { on := 77, ground := Ground.chain }, { on := 77, ground := Ground.guard }], guard := some (77, true) }) rfl (fun K hK => ?_) AllReadyH.nil
      go_simp
      (go_at_call 32; (with_reducible refine (iwidth_any (IXX.out.ext HC23.out) (HT.out.ext (XW.out.trans HC23.out))).mono ?_); rw [Ewx.out]; rintro e w34 ⟨A44, c44, rfl, hon, hx⟩; have HC24 := Lib.hid (Ext.trans HC23.out hx); have HL24 := Lib.hid hx; have DR := Lib.hid (Dy.of_on hon Twx.out.1 Twx.out.2 (Ext.refl _)); clear hon; clear hx hk; have hk := HS.out _ HC24.out)
      (try go_wp2_with fail)
      refine hK.out _ _ hk (fun hHeld' => ?_)
      clear hK K hHeld
      have hHeld := hHeld'
      clear hHeld'
      (try simp only [Act.put, List.setIfInBounds_toArray, List.set_cons_zero, List.set_cons_succ])
      refine wpAnyH_ready (rs := [81]) (by as_aux_lemma => kernel_rfl) (by simp) ?_
      refine AllReadyH.cons (o := { dst := some 146, op := Op.call { callee := Callee.value (Operand.func 32), args := #[Operand.tmp 145], argTypes := #[26] }, type := 24, pos := "law.go:123", after := #[{ on := 80, ground := Ground.data }, { on := 79, ground := Ground.chain }, { on := 77, ground := Ground.guard }], guard := some (77, true) }) rfl (fun K hK => ?_) AllReadyH.nil
      go_simp
      (go_at_call 32; (with_reducible refine (iwidth_any (HA.out.ext (XW.out.trans HC24.out)) (HT.out.ext (XW.out.trans HC24.out))).mono ?_); rw [Ewa.out]; rintro e w35 ⟨A45, c45, rfl, hon, hx⟩; have HC25 := Lib.hid (Ext.trans HC24.out hx); have HL25 := Lib.hid hx; have DM := Lib.hid (Dy.of_on hon Twa.out.1 Twa.out.2 (Ext.refl _)); clear hon; clear hx hk; have hk := HS.out _ HC25.out)
      (try go_wp2_with fail)
      refine hK.out _ _ hk (fun hHeld' => ?_)
      clear hK K hHeld
      have hHeld := hHeld'
      clear hHeld'
      (try simp only [Act.put, List.setIfInBounds_toArray, List.set_cons_zero, List.set_cons_succ])
      refine wpAnyH_ready (rs := [82]) (by as_aux_lemma => kernel_rfl) (by simp) ?_
      refine AllReadyH.cons (o := { dst := some 147, op := Op.call { callee := Callee.value (Operand.func 27), args := #[Operand.tmp 144, Operand.tmp 146], argTypes := #[24, 24] }, type := 3, pos := "law.go:123", after := #[{ on := 79, ground := Ground.data }, { on := 81, ground := Ground.data }, { on := 81, ground := Ground.chain }, { on := 77, ground := Ground.guard }], guard := some (77, true) }) rfl (fun K hK => ?_) AllReadyH.nil
      go_simp
      (go_at_call 27; (with_reducible refine (cmp_any (DR.out.ext HL25.out) DM.out).mono ?_); rw [Ecv.out]; rintro e w36 ⟨rfl, hx⟩; have HC26 := Lib.hid (Ext.trans HC25.out hx); have HL26 := Lib.hid hx; clear hx hk DR DM; have hk := HS.out _ HC26.out)
      (try go_wp2_with fail)
      refine hK.out _ _ hk (fun hHeld' => ?_)
      clear hK K hHeld
      have hHeld := hHeld'
      clear hHeld'
      (try simp only [Act.put, List.setIfInBounds_toArray, List.set_cons_zero, List.set_cons_succ])
      refine wpAnyH_take (i := 83) (oi := { dst := some 148, op := Op.binOp BinOp.leq 3 (Operand.tmp 147) (Operand.const (Value.int IntKind.i64 0)) 3, type := 4, pos := "law.go:121", after := #[{ on := 82, ground := Ground.data }, { on := 77, ground := Ground.guard }], guard := some (77, true) }) (v := ?_) rfl (by as_aux_lemma => kernel_rfl) (by as_aux_lemma => kernel_rfl) (by as_aux_lemma => kernel_rfl) (fun _ _ _ h => h) (Or.inl ⟨by rfl, ?hy⟩) hHeld ?_
      case hy => ((intro w' hSw; (try dsimp only at hSw); go_simp); (try with_reducible rfl))
      (try simp only [Act.put, List.setIfInBounds_toArray, List.set_cons_zero, List.set_cons_succ])
      refine wpAnyH_take (i := 84) (oi := { dst := some 149, op := Op.pick (Operand.tmp 142) (Operand.tmp 148) (Operand.const (Value.bool false)), type := 4, pos := "law.go:121", after := #[{ on := 77, ground := Ground.data }, { on := 83, ground := Ground.data }], guard := none }) (v := ?_) rfl (by as_aux_lemma => kernel_rfl) (by as_aux_lemma => kernel_rfl) (by as_aux_lemma => kernel_rfl) (fun _ _ _ h => h) (Or.inl ⟨by rfl, ?hy⟩) hHeld ?_
      case hy => ((intro w' hSw; (try dsimp only at hSw); go_simp); (try with_reducible rfl))
      (try simp only [Act.put, List.setIfInBounds_toArray, List.set_cons_zero, List.set_cons_succ])
      refine wpAnyH_take (i := 85) (oi := { dst := some 6, op := Op.assign (Operand.tmp 149), type := 4, pos := "law.go:121", after := ([{ on := 84, ground := Ground.data }, { on := 82, ground := Ground.chain }, { on := 0, ground := Ground.phase }, { on := 1, ground := Ground.phase }, { on := 2, ground := Ground.phase }, { on := 3, ground := Ground.phase }, { on := 4, ground := Ground.phase }, { on := 5, ground := Ground.phase }, { on := 6, ground := Ground.phase }, { on := 7, ground := Ground.phase }, { on := 8, ground := Ground.phase }, { on := 9, ground := Ground.phase }, { on := 10, ground := Ground.phase }, { on := 11, ground := Ground.phase }, { on := 12, ground := Ground.phase }, { on := 13, ground := Ground.phase }, { on := 14, ground := Ground.phase }, { on := 15, ground := Ground.phase }, { on := 16, ground := Ground.phase }, { on := 17, ground := Ground.phase }, { on := 18, ground := Ground.phase }, { on := 19, ground := Ground.phase }, { on := 20, ground := Ground.phase }, { on := 21, ground := Ground.phase }, { on := 22, ground := Ground.phase }, { on := 23, ground := Ground.phase }, { on := 24, ground := Ground.phase }, { on := 25, ground := Ground.phase }, { on := 26, ground := Ground.phase }, { on := 27, ground := Ground.phase }, { on := 28, ground := Ground.phase }, { on := 29, ground := Ground.phase }, { on := 30, ground := Ground.phase }, { on := 31, ground := Ground.phase }, { on := 32, ground := Ground.phase }, { on := 33, ground := Ground.phase }, { on := 34, ground := Ground.phase }, { on := 35, ground := Ground.phase }, { on := 36, ground := Ground.phase }, { on := 37, ground := Ground.phase }, { on := 38, ground := Ground.phase }, { on := 39, ground := Ground.phase }, { on := 40, ground := Ground.phase }].append [{ on := 41, ground := Ground.phase }, { on := 42, ground := Ground.phase }, { on := 43, ground := Ground.phase }, { on := 44, ground := Ground.phase }, { on := 45, ground := Ground.phase }, { on := 46, ground := Ground.phase }, { on := 47, ground := Ground.phase }, { on := 48, ground := Ground.phase }, { on := 49, ground := Ground.phase }, { on := 50, ground := Ground.phase }, { on := 51, ground := Ground.phase }, { on := 52, ground := Ground.phase }, { on := 53, ground := Ground.phase }, { on := 54, ground := Ground.phase }, { on := 55, ground := Ground.phase }, { on := 56, ground := Ground.phase }, { on := 57, ground := Ground.phase }, { on := 58, ground := Ground.phase }, { on := 59, ground := Ground.phase }, { on := 60, ground := Ground.phase }, { on := 61, ground := Ground.phase }, { on := 62, ground := Ground.phase }, { on := 63, ground := Ground.phase }, { on := 64, ground := Ground.phase }, { on := 65, ground := Ground.phase }, { on := 66, ground := Ground.phase }, { on := 67, ground := Ground.phase }, { on := 68, ground := Ground.phase }, { on := 69, ground := Ground.phase }, { on := 70, ground := Ground.phase }, { on := 71, ground := Ground.phase }, { on := 72, ground := Ground.phase }, { on := 73, ground := Ground.phase }, { on := 74, ground := Ground.phase }, { on := 75, ground := Ground.phase }, { on := 76, ground := Ground.phase }, { on := 77, ground := Ground.phase }, { on := 78, ground := Ground.phase }, { on := 79, ground := Ground.phase }, { on := 80, ground := Ground.phase }, { on := 81, ground := Ground.phase }, { on := 82, ground := Ground.phase }, { on := 83, ground := Ground.phase }, { on := 84, ground := Ground.phase }]).toArray, guard := none }) (v := ?_) rfl (by as_aux_lemma => kernel_rfl) (by as_aux_lemma => kernel_rfl) (by as_aux_lemma => kernel_rfl) (fun _ _ _ h => h) (Or.inl ⟨by rfl, ?hy⟩) hHeld ?_
      case hy => ((intro w' hSw; (try dsimp only at hSw); go_simp); (try with_reducible rfl))
      (try simp only [Act.put, List.setIfInBounds_toArray, List.set_cons_zero, List.set_cons_succ])
      refine wpAnyH_done (by as_aux_lemma => kernel_rfl) ?_ _
      (try refine NoPanic.normal ?_)
      go_wp2_with fail
      go_ret
      exact ⟨rfl, XW.out.trans HC26.out⟩

end Go.Proofs.YtbpcekibdnpkhaaGreatDoor
