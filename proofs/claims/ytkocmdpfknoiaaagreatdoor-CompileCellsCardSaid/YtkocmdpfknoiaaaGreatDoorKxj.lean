/- Programs of diagrams: what a program is made of, or the first error. -/
import Derived.Test.YtkocmdpfknoiaaaGreatDoorKxi
namespace Go.Proofs.YtkocmdpfknoiaaaGreatDoor
open Go Go.RowKit
attribute [local go_sem ↓] Go.wp_at_zero Go.wp_at_succ

/-- The first error but that of a shift. -/
def cmP (D : Dia) (m : Nat) (F : Nat → Int) : Int :=
  if chk D ≠ 0 then chk D else if m ≠ D.nb then 11 else if allN m (fun i => scB (F i)) = false then 3 else rwsE D F
theorem cmE_eq (D : Dia) (m : Nat) (F : Nat → Int) : cmE D m F = if cmP D m F ≠ 0 then cmP D m F else if allN (cdN D F) (fun i => shE (cdX D F i)) = false then 3 else 0 := by
  unfold cmE cmP
  by_cases h1 : chk D ≠ 0
  · rw [if_pos h1, if_pos h1, if_pos h1]
  rw [if_neg h1, if_neg h1]
  by_cases h2 : m ≠ D.nb
  · rw [if_pos h2, if_pos h2]; rfl
  rw [if_neg h2, if_neg h2]
  by_cases h3 : allN m (fun i => scB (F i)) = false
  · rw [if_pos h3, if_pos h3]; rfl
  rw [if_neg h3, if_neg h3]
theorem ret8 {w : World} {g : Nat} {t : TypeId} {f : Nat → Value} (h : w.rowIs g t 8 f) (v0 v1 v2 v3 v4 v5 v6 v7 : Value) {W : World}
    (hW : W = (((((((w.setCell ⟨g, 0, none⟩ v0).setCell ⟨g, 1, none⟩ v1).setCell ⟨g, 2, none⟩ v2).setCell ⟨g, 3, none⟩ v3).setCell ⟨g, 4, none⟩ v4).setCell ⟨g, 5, none⟩ v5).setCell ⟨g, 6, none⟩ v6).setCell ⟨g, 7, none⟩ v7) :
    W.cell? ⟨g, 0, none⟩ = some v0 ∧ W.cell? ⟨g, 1, none⟩ = some v1 ∧ W.cell? ⟨g, 2, none⟩ = some v2 ∧ W.cell? ⟨g, 3, none⟩ = some v3 ∧ W.cell? ⟨g, 4, none⟩ = some v4 ∧ W.cell? ⟨g, 5, none⟩ = some v5 ∧ W.cell? ⟨g, 6, none⟩ = some v6 ∧ W.cell? ⟨g, 7, none⟩ = some v7 := by
  have q := (((((((h.set 0 v0).set 1 v1).set 2 v2).set 3 v3).set 4 v4).set 5 v5).set 6 v6).set 7 v7
  rw [← hW] at q
  exact ⟨q.cell (by omega), q.cell (by omega), q.cell (by omega), q.cell (by omega), q.cell (by omega), q.cell (by omega), q.cell (by omega), q.cell (by omega)⟩
theorem set8_ext {w W : World} {g : Nat} (e : Ext w W) (h : w.heap.size ≤ g) (v0 v1 v2 v3 v4 v5 v6 v7 : Value) : Ext w ((((((((W.setCell ⟨g, 0, none⟩ v0).setCell ⟨g, 1, none⟩ v1).setCell ⟨g, 2, none⟩ v2).setCell ⟨g, 3, none⟩ v3).setCell ⟨g, 4, none⟩ v4).setCell ⟨g, 5, none⟩ v5).setCell ⟨g, 6, none⟩ v6).setCell ⟨g, 7, none⟩ v7) :=
  (((((((e.toSet h).toSet h).toSet h).toSet h).toSet h).toSet h).toSet h).toSet h
/-- A row of eight cells that may be written. -/
structure W8 (w : World) (g : Nat) (f : Nat → Value) : Prop where
  r0 : w.cell? ⟨g, 0, none⟩ = some (f 0)
  r1 : w.cell? ⟨g, 1, none⟩ = some (f 1)
  r2 : w.cell? ⟨g, 2, none⟩ = some (f 2)
  r3 : w.cell? ⟨g, 3, none⟩ = some (f 3)
  r4 : w.cell? ⟨g, 4, none⟩ = some (f 4)
  r5 : w.cell? ⟨g, 5, none⟩ = some (f 5)
  r6 : w.cell? ⟨g, 6, none⟩ = some (f 6)
  r7 : w.cell? ⟨g, 7, none⟩ = some (f 7)
  rf : ∀ j, w.frozen? ⟨g, j, none⟩ = false
theorem W8.of {w : World} {g : Nat} {t : TypeId} {f : Nat → Value} (h : w.rowIs g t 8 f) : W8 w g f :=
  ⟨h.cell (by omega), h.cell (by omega), h.cell (by omega), h.cell (by omega), h.cell (by omega), h.cell (by omega), h.cell (by omega), h.cell (by omega), h.frozen⟩
theorem pr_boxes (w : World) (D : Dia) (p : Pl) {W0 W1 : World} (h0 : W0 = w.alloc (.cells #[.slice p.AI D.ni p.cI, .slice p.AB D.nb p.cB, .slice p.AO D.no p.cO] 26))
    (h : W1 = W0.alloc (.cells #[.slice none 0 0, .slice none 0 0, .slice none 0 0, .slice none 0 0, .slice none 0 0, .slice none 0 0, .slice none 0 0, .slice none 0 0] 85)) :
    Bd W0 w.heap.size D p ∧ Ext w W0 ∧ W0.heap.size = w.heap.size + 1 ∧ Ext W0 W1 ∧ W1.rowIs (w.heap.size + 1) 85 8 (fun _ => .slice none 0 0) := by
  have hz : W0.heap.size = w.heap.size + 1 := by rw [h0]; simp
  refine ⟨by rw [h0]; exact Bd.new _ _ _ _, by rw [h0]; exact Ext.alloc _ _, hz, by rw [h]; exact Ext.alloc _ _, ?_⟩
  rw [h]
  have := World.rowIs_alloc W0 #[.slice none 0 0, .slice none 0 0, .slice none 0 0, .slice none 0 0, .slice none 0 0, .slice none 0 0, .slice none 0 0, .slice none 0 0] 85 (fun _ => .slice none 0 0) (fun i hi => by
    rcases (show i = 0 ∨ i = 1 ∨ i = 2 ∨ i = 3 ∨ i = 4 ∨ i = 5 ∨ i = 6 ∨ i = 7 by simp at hi; omega) with h | h | h | h | h | h | h | h <;> subst h <;> rfl)
  rwa [hz] at this
/-- What prepare is asked: an error, or what the program is made of. -/
structure Sl where
  A : Option Addr
  n : Nat
  c : Nat
def PrE (k : Int) (w : World) (e : Ending) (w' : World) : Prop := (∃ s0 s1 s2 s3 s4 s5 s6 s7 : Sl, e = .returned (.tuple #[.agg #[.slice s0.A s0.n s0.c, .slice s1.A s1.n s1.c, .slice s2.A s2.n s2.c, .slice s3.A s3.n s3.c, .slice s4.A s4.n s4.c, .slice s5.A s5.n s5.c, .slice s6.A s6.n s6.c, .slice s7.A s7.n s7.c], .iface 94 (I k)])) ∧ Ext w w'
/- WAYS -/
set_option maxRecDepth 100000 in
set_option maxHeartbeats 1000000 in
theorem prep_chk {w : World} {D : Dia} {p : Pl} {m cf : Nat} {Af : Option Addr} (d : Dm w D p) (hT : Tabs w) (h : chk D ≠ 0) : Calls Tryz.prog 35 #[dgv D p, .slice Af m cf] w (PrE (chk D) w) := by
  have HO : Hid (∀ w', Ext w w' → Calls Tryz.prog 83 #[dgv D p] w' fun e w'' => e = .returned (.tuple #[.slice none 0 0, .iface 94 (I (chk D))]) ∧ Ext w' w'') := fun w' x => Order_err (d.ext x) (hT.ext x) h
  clear d hT h
  generalize chk D = er at *
  obtain ⟨W0, hW0⟩ : ∃ W0, W0 = w.alloc (.cells #[.slice p.AI D.ni p.cI, .slice p.AB D.nb p.cB, .slice p.AO D.no p.cO] 26) := ⟨_, rfl⟩
  obtain ⟨W1, hW1⟩ : ∃ W1, W1 = W0.alloc (.cells #[.slice none 0 0, .slice none 0 0, .slice none 0 0, .slice none 0 0, .slice none 0 0, .slice none 0 0, .slice none 0 0, .slice none 0 0] 85) := ⟨_, rfl⟩
  obtain ⟨hbd, hx0, hz0, hx1, hrow⟩ := pr_boxes w D p hW0 hW1
  have HBD := Lib.hid hbd; have HX0 := Lib.hid hx0; have HX1 := Lib.hid hx1; have HROW := Lib.hid hrow
  have hs1 := hx1.size
  clear hbd hx0 hrow
  go_enter Tryz.func35, Tryz.ntmps35
  go_upto_region 1 with fail
  rw [← hW0, ← hW1]; clear hW0 hW1
  obtain ⟨c0, c1, c2⟩ := HBD.out.ext HX1.out
  obtain ⟨r0, r1, r2, r3, r4, r5, r6, r7, rf⟩ := W8.of HROW.out
  replace hx1 := Lib.hid (Ext.refl W1)
  go_wp2_with (go_at_call 83; (with_reducible refine (HO.out _ (HX0.out.trans HX1.out)).mono ?_); rintro e1 w1 ⟨rfl, h1⟩; have XL := Lib.hid h1; clear h1; clear c0 c1 c2 r0 r1 r2 r3 r4 r5 r6 r7 rf; obtain ⟨c0, c1, c2⟩ := HBD.out.ext (HX1.out.trans XL.out); obtain ⟨r0, r1, r2, r3, r4, r5, r6, r7, rf⟩ := W8.of (World.rowIs.ext HROW.out XL.out); have hsXL := XL.out.size)
  obtain ⟨W6, hW6⟩ : ∃ W6, W6 = ((((((((w1.setCell ⟨w.heap.size + 1, 0, none⟩ (.slice none 0 0)).setCell ⟨w.heap.size + 1, 1, none⟩ (.slice none 0 0)).setCell ⟨w.heap.size + 1, 2, none⟩ (.slice none 0 0)).setCell ⟨w.heap.size + 1, 3, none⟩ (.slice none 0 0)).setCell ⟨w.heap.size + 1, 4, none⟩ (.slice none 0 0)).setCell ⟨w.heap.size + 1, 5, none⟩ (.slice none 0 0)).setCell ⟨w.heap.size + 1, 6, none⟩ (.slice none 0 0)).setCell ⟨w.heap.size + 1, 7, none⟩ (.slice none 0 0)) := ⟨_, rfl⟩
  obtain ⟨q0, q1, q2, q3, q4, q5, q6, q7⟩ := ret8 (World.rowIs.ext HROW.out XL.out) _ _ _ _ _ _ _ _ hW6
  have HE := Lib.hid (set8_ext (HX1.out.trans XL.out) (g := w.heap.size + 1) (by omega) (.slice none 0 0) (.slice none 0 0) (.slice none 0 0) (.slice none 0 0) (.slice none 0 0) (.slice none 0 0) (.slice none 0 0) (.slice none 0 0))
  rw [← hW6] at HE
  rw [← hW6]; clear hW6 c0 c1 c2 r0 r1 r2 r3 r4 r5 r6 r7 rf
  exact bodyPost_ret (v := .tuple #[.agg #[.slice none 0 0, .slice none 0 0, .slice none 0 0, .slice none 0 0, .slice none 0 0, .slice none 0 0, .slice none 0 0, .slice none 0 0], .iface 94 (I er)]) (by simp [results, Tryz.results35, go_sem, q0, q1, q2, q3, q4, q5, q6, q7]) rfl ⟨⟨⟨_, _, _⟩, ⟨_, _, _⟩, ⟨_, _, _⟩, ⟨_, _, _⟩, ⟨_, _, _⟩, ⟨_, _, _⟩, ⟨_, _, _⟩, ⟨_, _, _⟩, rfl⟩, HX0.out.trans HE.out⟩
set_option maxRecDepth 100000 in
set_option maxHeartbeats 1000000 in
theorem prep_shape {w : World} {D : Dia} {p : Pl} {m cf : Nat} {Af : Option Addr} (d : Dm w D p) (hT : Tabs w) (h : chk D = 0) (hm : m ≠ D.nb) : Calls Tryz.prog 35 #[dgv D p, .slice Af m cf] w (PrE 11 w) := by
  have HO : Hid (∀ w', Ext w w' → Calls Tryz.prog 83 #[dgv D p] w' (LsE (ordL D) w')) := fun w' x => Order_ok (d.ext x) (hT.ext x) h
  have HD : Hid (∀ w', Ext w w' → Calls Tryz.prog 84 #[dgv D p] w' (LsE (delL D) w')) := fun w' x => Delays_ok (d.ext x) (hT.ext x) h
  have hmi : ¬ (m : Int) = (D.nb : Int) := by omega
  clear d hT h hm
  obtain ⟨W0, hW0⟩ : ∃ W0, W0 = w.alloc (.cells #[.slice p.AI D.ni p.cI, .slice p.AB D.nb p.cB, .slice p.AO D.no p.cO] 26) := ⟨_, rfl⟩
  obtain ⟨W1, hW1⟩ : ∃ W1, W1 = W0.alloc (.cells #[.slice none 0 0, .slice none 0 0, .slice none 0 0, .slice none 0 0, .slice none 0 0, .slice none 0 0, .slice none 0 0, .slice none 0 0] 85) := ⟨_, rfl⟩
  obtain ⟨hbd, hx0, hz0, hx1, hrow⟩ := pr_boxes w D p hW0 hW1
  have HBD := Lib.hid hbd; have HX0 := Lib.hid hx0; have HX1 := Lib.hid hx1; have HROW := Lib.hid hrow
  have hs1 := hx1.size
  clear hbd hx0 hrow
  go_enter Tryz.func35, Tryz.ntmps35
  go_upto_region 1 with fail
  rw [← hW0, ← hW1]; clear hW0 hW1
  obtain ⟨c0, c1, c2⟩ := HBD.out.ext HX1.out
  obtain ⟨r0, r1, r2, r3, r4, r5, r6, r7, rf⟩ := W8.of HROW.out
  replace hx1 := Lib.hid (Ext.refl W1)
  go_wp2_with (first | (go_at_call 83; (with_reducible refine (HO.out _ (HX0.out.trans HX1.out)).mono ?_); rintro e1 w1 ⟨Ao, co, rfl, ho, h1⟩; have XO := Lib.hid h1; have OO := Lib.hid ho; clear h1 ho; clear c0 c1 c2 r0 r1 r2 r3 r4 r5 r6 r7 rf; obtain ⟨c0, c1, c2⟩ := HBD.out.ext (HX1.out.trans XO.out); obtain ⟨r0, r1, r2, r3, r4, r5, r6, r7, rf⟩ := W8.of (World.rowIs.ext HROW.out XO.out); have hsXO := XO.out.size) | (go_at_call 84; (with_reducible refine (HD.out _ (HX0.out.trans (HX1.out.trans XO.out))).mono ?_); rintro e2 w2 ⟨Ad, cd, rfl, hd, h2⟩; have XD := Lib.hid (XO.out.trans h2); have OD := Lib.hid hd; have XOD := Lib.hid h2; clear h2 hd; clear c0 c1 c2 r0 r1 r2 r3 r4 r5 r6 r7 rf; obtain ⟨c0, c1, c2⟩ := HBD.out.ext (HX1.out.trans XD.out); obtain ⟨r0, r1, r2, r3, r4, r5, r6, r7, rf⟩ := W8.of (World.rowIs.ext HROW.out XD.out); have hsXD := XD.out.size))
  have XL := XD
  obtain ⟨W6, hW6⟩ : ∃ W6, W6 = ((((((((w2.setCell ⟨w.heap.size + 1, 0, none⟩ (.slice none 0 0)).setCell ⟨w.heap.size + 1, 1, none⟩ (.slice none 0 0)).setCell ⟨w.heap.size + 1, 2, none⟩ (.slice none 0 0)).setCell ⟨w.heap.size + 1, 3, none⟩ (.slice none 0 0)).setCell ⟨w.heap.size + 1, 4, none⟩ (.slice none 0 0)).setCell ⟨w.heap.size + 1, 5, none⟩ (.slice none 0 0)).setCell ⟨w.heap.size + 1, 6, none⟩ (.slice none 0 0)).setCell ⟨w.heap.size + 1, 7, none⟩ (.slice none 0 0)) := ⟨_, rfl⟩
  obtain ⟨q0, q1, q2, q3, q4, q5, q6, q7⟩ := ret8 (World.rowIs.ext HROW.out XL.out) _ _ _ _ _ _ _ _ hW6
  have HE := Lib.hid (set8_ext (HX1.out.trans XL.out) (g := w.heap.size + 1) (by omega) (.slice none 0 0) (.slice none 0 0) (.slice none 0 0) (.slice none 0 0) (.slice none 0 0) (.slice none 0 0) (.slice none 0 0) (.slice none 0 0))
  rw [← hW6] at HE
  rw [← hW6]; clear hW6 c0 c1 c2 r0 r1 r2 r3 r4 r5 r6 r7 rf
  exact bodyPost_ret (v := .tuple #[.agg #[.slice none 0 0, .slice none 0 0, .slice none 0 0, .slice none 0 0, .slice none 0 0, .slice none 0 0, .slice none 0 0, .slice none 0 0], .iface 94 (I 11)]) (by simp [results, Tryz.results35, go_sem, q0, q1, q2, q3, q4, q5, q6, q7]) rfl ⟨⟨⟨_, _, _⟩, ⟨_, _, _⟩, ⟨_, _, _⟩, ⟨_, _, _⟩, ⟨_, _, _⟩, ⟨_, _, _⟩, ⟨_, _, _⟩, ⟨_, _, _⟩, rfl⟩, HX0.out.trans HE.out⟩
set_option maxRecDepth 100000 in
set_option maxHeartbeats 1000000 in
theorem prep_scale {w : World} {D : Dia} {p : Pl} {m cf : Nat} {Af : Option Addr} {F : Nat → Int} (d : Dm w D p) (hT : Tabs w) (h : chk D = 0) (hm : m = D.nb) (r : Ri w Af m F) (hml : m ≤ maxLen) (hs : allN m (fun i => scB (F i)) = false) : Calls Tryz.prog 35 #[dgv D p, .slice Af m cf] w (PrE 3 w) := by
  have HO : Hid (∀ w', Ext w w' → Calls Tryz.prog 83 #[dgv D p] w' (LsE (ordL D) w')) := fun w' x => Order_ok (d.ext x) (hT.ext x) h
  have HD : Hid (∀ w', Ext w w' → Calls Tryz.prog 84 #[dgv D p] w' (LsE (delL D) w')) := fun w' x => Delays_ok (d.ext x) (hT.ext x) h
  have HS : Hid (∀ w', Ext w w' → Calls Tryz.prog 85 #[.slice Af m cf] w' fun e w'' => e = .returned (.bool (allN m (fun i => scB (F i)))) ∧ Ext w' w'') := fun w' x => areScales_any (r.ext x) hml
  rw [hs] at HS
  subst hm
  clear d hT h r hml hs
  obtain ⟨W0, hW0⟩ : ∃ W0, W0 = w.alloc (.cells #[.slice p.AI D.ni p.cI, .slice p.AB D.nb p.cB, .slice p.AO D.no p.cO] 26) := ⟨_, rfl⟩
  obtain ⟨W1, hW1⟩ : ∃ W1, W1 = W0.alloc (.cells #[.slice none 0 0, .slice none 0 0, .slice none 0 0, .slice none 0 0, .slice none 0 0, .slice none 0 0, .slice none 0 0, .slice none 0 0] 85) := ⟨_, rfl⟩
  obtain ⟨hbd, hx0, hz0, hx1, hrow⟩ := pr_boxes w D p hW0 hW1
  have HBD := Lib.hid hbd; have HX0 := Lib.hid hx0; have HX1 := Lib.hid hx1; have HROW := Lib.hid hrow
  have hs1 := hx1.size
  clear hbd hx0 hrow
  go_enter Tryz.func35, Tryz.ntmps35
  go_upto_region 1 with fail
  rw [← hW0, ← hW1]; clear hW0 hW1
  obtain ⟨c0, c1, c2⟩ := HBD.out.ext HX1.out
  obtain ⟨r0, r1, r2, r3, r4, r5, r6, r7, rf⟩ := W8.of HROW.out
  replace hx1 := Lib.hid (Ext.refl W1)
  go_wp2_with (first | (go_at_call 83; (with_reducible refine (HO.out _ (HX0.out.trans HX1.out)).mono ?_); rintro e1 w1 ⟨Ao, co, rfl, ho, h1⟩; have XO := Lib.hid h1; have OO := Lib.hid ho; clear h1 ho; clear c0 c1 c2 r0 r1 r2 r3 r4 r5 r6 r7 rf; obtain ⟨c0, c1, c2⟩ := HBD.out.ext (HX1.out.trans XO.out); obtain ⟨r0, r1, r2, r3, r4, r5, r6, r7, rf⟩ := W8.of (World.rowIs.ext HROW.out XO.out); have hsXO := XO.out.size) | (go_at_call 84; (with_reducible refine (HD.out _ (HX0.out.trans (HX1.out.trans XO.out))).mono ?_); rintro e2 w2 ⟨Ad, cd, rfl, hd, h2⟩; have XD := Lib.hid (XO.out.trans h2); have OD := Lib.hid hd; have XOD := Lib.hid h2; clear h2 hd; clear c0 c1 c2 r0 r1 r2 r3 r4 r5 r6 r7 rf; obtain ⟨c0, c1, c2⟩ := HBD.out.ext (HX1.out.trans XD.out); obtain ⟨r0, r1, r2, r3, r4, r5, r6, r7, rf⟩ := W8.of (World.rowIs.ext HROW.out XD.out); have hsXD := XD.out.size) | (go_at_call 85; (with_reducible refine (HS.out _ (HX0.out.trans (HX1.out.trans XD.out))).mono ?_); rintro e3 w3 ⟨rfl, h3⟩; have XS := Lib.hid (XD.out.trans h3); have XDS := Lib.hid h3; clear h3; clear c0 c1 c2 r0 r1 r2 r3 r4 r5 r6 r7 rf; obtain ⟨c0, c1, c2⟩ := HBD.out.ext (HX1.out.trans XS.out); obtain ⟨r0, r1, r2, r3, r4, r5, r6, r7, rf⟩ := W8.of (World.rowIs.ext HROW.out XS.out); have hsXS := XS.out.size))
  have XL := XS
  obtain ⟨W6, hW6⟩ : ∃ W6, W6 = ((((((((w3.setCell ⟨w.heap.size + 1, 0, none⟩ (.slice none 0 0)).setCell ⟨w.heap.size + 1, 1, none⟩ (.slice none 0 0)).setCell ⟨w.heap.size + 1, 2, none⟩ (.slice none 0 0)).setCell ⟨w.heap.size + 1, 3, none⟩ (.slice none 0 0)).setCell ⟨w.heap.size + 1, 4, none⟩ (.slice none 0 0)).setCell ⟨w.heap.size + 1, 5, none⟩ (.slice none 0 0)).setCell ⟨w.heap.size + 1, 6, none⟩ (.slice none 0 0)).setCell ⟨w.heap.size + 1, 7, none⟩ (.slice none 0 0)) := ⟨_, rfl⟩
  obtain ⟨q0, q1, q2, q3, q4, q5, q6, q7⟩ := ret8 (World.rowIs.ext HROW.out XL.out) _ _ _ _ _ _ _ _ hW6
  have HE := Lib.hid (set8_ext (HX1.out.trans XL.out) (g := w.heap.size + 1) (by omega) (.slice none 0 0) (.slice none 0 0) (.slice none 0 0) (.slice none 0 0) (.slice none 0 0) (.slice none 0 0) (.slice none 0 0) (.slice none 0 0))
  rw [← hW6] at HE
  rw [← hW6]; clear hW6 c0 c1 c2 r0 r1 r2 r3 r4 r5 r6 r7 rf
  exact bodyPost_ret (v := .tuple #[.agg #[.slice none 0 0, .slice none 0 0, .slice none 0 0, .slice none 0 0, .slice none 0 0, .slice none 0 0, .slice none 0 0, .slice none 0 0], .iface 94 (I 3)]) (by simp [results, Tryz.results35, go_sem, q0, q1, q2, q3, q4, q5, q6, q7]) rfl ⟨⟨⟨_, _, _⟩, ⟨_, _, _⟩, ⟨_, _, _⟩, ⟨_, _, _⟩, ⟨_, _, _⟩, ⟨_, _, _⟩, ⟨_, _, _⟩, ⟨_, _, _⟩, rfl⟩, HX0.out.trans HE.out⟩
/-- Only block g differs. -/
structure Bt (g : Nat) (w w' : World) : Prop where
  sz : w.heap.size ≤ w'.heap.size
  keep : ∀ b, b ≠ g → w'.heap[b]? = w.heap[b]?
theorem Bt.refl (g : Nat) (w : World) : Bt g w w := ⟨Nat.le_refl _, fun _ _ => rfl⟩
theorem Bt.set {g : Nat} {w w' : World} (h : Bt g w w') (i : Nat) (v : Value) : Bt g w (w'.setCell ⟨g, i, none⟩ v) :=
  ⟨by simpa using h.sz, fun b hg => (Below.heap_setCell _ _ _ b hg).trans (h.keep b hg)⟩
theorem row_cell {w : World} {g n : Nat} {t : TypeId} {v : Value} (h : w.rowIs g t n (fun _ => v)) {j : Nat} {u : Value} (hu : w.cell? ⟨g, j, none⟩ = some u) : u = v := by
  by_cases hj : j < n
  · rw [h.cell hj] at hu; exact (Option.some.inj hu).symm
  · obtain ⟨c, h1, h2, _⟩ := h
    have : w.cell? ⟨g, j, none⟩ = c[j]? := by simp [World.cell?, h1]
    rw [this, Array.getElem?_eq_none (by omega)] at hu; cases hu
theorem Ri.bt {w w' : World} {g : Nat} {t : TypeId} {A : Option Addr} {n m : Nat} {f : Nat → Int} (r : Ri w A n f) (h : Bt g w w') (hr : w.rowIs g t m (fun _ => .slice none 0 0)) : Ri w' A n f := fun hn => by
  obtain ⟨b, o, rfl, hb, hc⟩ := r hn
  have hne : b ≠ g := fun e => by
    subst e
    have := row_cell hr (hc 0 hn)
    cases this
  refine ⟨b, o, rfl, Nat.lt_of_lt_of_le hb h.sz, fun i hi => ?_⟩
  rw [← hc i hi]; unfold World.cell?; rw [h.keep b hne]
theorem RwsM.bt {w w' : World} {g g4 : Nat} {t : TypeId} {n m : Nat} {D : Dia} {F : Nat → Int} (r : RwsM w (some ⟨g4, 0, none⟩) n D F) (h : Bt g w w') (hr : w.rowIs g t m (fun _ => .slice none 0 0)) (hg : g4 ≠ g) : RwsM w' (some ⟨g4, 0, none⟩) n D F := fun hn => by
  obtain ⟨b, o, e, hb, hc⟩ := r hn
  injection e with e; injection e with e1 e2
  subst e1; subst e2
  refine ⟨_, _, rfl, Nat.lt_of_lt_of_le hb h.sz, fun i hi => ?_⟩
  obtain ⟨Ai, ci, h1, h2, h3⟩ := hc i hi
  refine ⟨Ai, ci, ?_, h2.bt h hr, h3⟩
  rw [← h1]; unfold World.cell?; rw [h.keep _ hg]
theorem cell_far8 {w : World} {g h : Nat} {u0 u1 u2 u3 u4 u5 u6 u7 : Value} (hne : h ≠ g) (k : Nat) : ((((((((w.setCell ⟨g, 0, none⟩ u0).setCell ⟨g, 1, none⟩ u1).setCell ⟨g, 2, none⟩ u2).setCell ⟨g, 3, none⟩ u3).setCell ⟨g, 4, none⟩ u4).setCell ⟨g, 5, none⟩ u5).setCell ⟨g, 6, none⟩ u6).setCell ⟨g, 7, none⟩ u7).cell? ⟨h, k, none⟩ = w.cell? ⟨h, k, none⟩ := by
  unfold World.cell?
  have e : ∀ (w : World) (j : Nat) (u : Value), (w.setCell ⟨g, j, none⟩ u).heap[h]? = w.heap[h]? := fun w j u => Below.heap_setCell w ⟨g, j, none⟩ u h hne
  simp only [e]
set_option maxRecDepth 100000 in
set_option maxHeartbeats 1000000 in
theorem prep_raw {w : World} {D : Dia} {p : Pl} {m cf : Nat} {Af : Option Addr} {F : Nat → Int} (d : Dm w D p) (hT : Tabs w) (hz : rwsE D F ≠ 0) (h : chk D = 0) (hm : m = D.nb) (r : Ri w Af m F) (hs : allN m (fun i => scB (F i)) = true) : Calls Tryz.prog 35 #[dgv D p, .slice Af m cf] w (PrE (rwsE D F) w) := by
  have ok := chk_ok h
  have hnb := ok.nb
  subst hm
  have HO : Hid (∀ w', Ext w w' → Calls Tryz.prog 83 #[dgv D p] w' (LsE (ordL D) w')) := fun w' x => Order_ok (d.ext x) (hT.ext x) h
  have HD : Hid (∀ w', Ext w w' → Calls Tryz.prog 84 #[dgv D p] w' (LsE (delL D) w')) := fun w' x => Delays_ok (d.ext x) (hT.ext x) h
  have HS : Hid (∀ w', Ext w w' → Calls Tryz.prog 85 #[.slice Af D.nb cf] w' fun e w'' => e = .returned (.bool (allN D.nb (fun i => scB (F i)))) ∧ Ext w' w'') := fun w' x => areScales_any (r.ext x) (by have := hnb; unfold maxLen; omega)
  rw [hs] at HS
  have HR : Hid (∀ w', Ext w w' → Calls Tryz.prog 86 #[dgv D p, .slice Af D.nb cf] w' (RwR D F w')) := fun w' x => rawsOf_any (d.ext x) ok (r.ext x)
  have HC : Hid (∀ w', Ext w w' → Calls Tryz.prog 87 #[dgv D p] w' (LsR (clpL D) w')) := fun w' x => clipsOf_any (d.ext x) (by omega)
  have HDM := Lib.hid d
  have HRF := Lib.hid r
  obtain ⟨lo, hlo⟩ : ∃ lo, (ordL D).length = lo := ⟨_, rfl⟩
  obtain ⟨ld, hld⟩ : ∃ ld, (delL D).length = ld := ⟨_, rfl⟩
  obtain ⟨lc, hlc⟩ : ∃ lc, (clpL D).length = lc := ⟨_, rfl⟩
  have HLO := Lib.hid hlo; have HLD := Lib.hid hld; have HLC := Lib.hid hlc
  have HO2 : Hid (∀ w', Ext w w' → Calls Tryz.prog 83 #[dgv D p] w' (fun e w'' => ∃ A c, e = .returned (.tuple #[.slice A lo c, .nilIface]) ∧ Ri w'' A lo (fun j => (((ordL D).getD j 0 : Nat) : Int)) ∧ Ext w' w'')) := fun w' x => (HO.out w' x).mono fun e w'' ⟨A, c, h1, h2, h3⟩ => ⟨A, c, by rw [← hlo]; exact h1, by rw [← hlo]; exact h2.ri, h3⟩
  have HD2 : Hid (∀ w', Ext w w' → Calls Tryz.prog 84 #[dgv D p] w' (fun e w'' => ∃ A c, e = .returned (.tuple #[.slice A ld c, .nilIface]) ∧ Ri w'' A ld (fun j => ((dlA D j : Nat) : Int)) ∧ Ext w' w'')) := fun w' x => (HD.out w' x).mono fun e w'' ⟨A, c, h1, h2, h3⟩ => ⟨A, c, by rw [← hld]; exact h1, by rw [← hld]; exact h2.ri, h3⟩
  have HC2 : Hid (∀ w', Ext w w' → Calls Tryz.prog 87 #[dgv D p] w' (fun e w'' => ∃ A c, e = .returned (.slice A lc c) ∧ Ri w'' A lc (fun j => ((clA D j : Nat) : Int)) ∧ Ext w' w'')) := fun w' x => (HC.out w' x).mono fun e w'' ⟨A, c, h1, h2, h3⟩ => ⟨A, c, by rw [← hlc]; exact h1, by rw [← hlc]; exact h2.ri, h3⟩
  have HR2 : Hid (∀ w', Ext w w' → Calls Tryz.prog 86 #[dgv D p, .slice Af D.nb cf] w' (fun e w'' => e = .returned (.tuple #[.slice none 0 0, .iface 94 (I (rwsE D F))]) ∧ Ext w' w'')) := fun w' x => (HR.out w' x).mono fun e w'' hh => by
    rcases hh with ⟨h, _⟩ | ⟨_, h⟩
    · exact absurd h hz
    · exact h
  clear d hT h ok r hs HO HD HC HR hlo hld hlc
  obtain ⟨W0, hW0⟩ : ∃ W0, W0 = w.alloc (.cells #[.slice p.AI D.ni p.cI, .slice p.AB D.nb p.cB, .slice p.AO D.no p.cO] 26) := ⟨_, rfl⟩
  obtain ⟨W1, hW1⟩ : ∃ W1, W1 = W0.alloc (.cells #[.slice none 0 0, .slice none 0 0, .slice none 0 0, .slice none 0 0, .slice none 0 0, .slice none 0 0, .slice none 0 0, .slice none 0 0] 85) := ⟨_, rfl⟩
  obtain ⟨hbd, hx0, hz0, hx1, hrow⟩ := pr_boxes w D p hW0 hW1
  have HBD := Lib.hid hbd; have HX0 := Lib.hid hx0; have HX1 := Lib.hid hx1; have HROW := Lib.hid hrow
  have hs1 := hx1.size
  clear hbd hx0 hrow
  go_enter Tryz.func35, Tryz.ntmps35
  go_upto_region 1 with fail
  rw [← hW0, ← hW1]; clear hW0 hW1
  obtain ⟨c0, c1, c2⟩ := HBD.out.ext HX1.out
  obtain ⟨r0, r1, r2, r3, r4, r5, r6, r7, rf⟩ := W8.of HROW.out
  replace hx1 := Lib.hid (Ext.refl W1)
  go_upto_region 12 with (first | (go_at_call 83; (with_reducible refine (HO2.out _ (HX0.out.trans HX1.out)).mono ?_); rintro e1 w1 ⟨Ao, co, rfl, ho, h1⟩; have XO := Lib.hid h1; have OO := Lib.hid ho; clear h1 ho; clear c0 c1 c2 r0 r1 r2 r3 r4 r5 r6 r7 rf; obtain ⟨c0, c1, c2⟩ := HBD.out.ext (HX1.out.trans XO.out); obtain ⟨r0, r1, r2, r3, r4, r5, r6, r7, rf⟩ := W8.of (World.rowIs.ext HROW.out XO.out); have hsXO := XO.out.size) | (go_at_call 84; (with_reducible refine (HD2.out _ (HX0.out.trans (HX1.out.trans XO.out))).mono ?_); rintro e2 w2 ⟨Ad, cd, rfl, hd, h2⟩; have XD := Lib.hid (XO.out.trans h2); have OD := Lib.hid hd; have XOD := Lib.hid h2; clear h2 hd; clear c0 c1 c2 r0 r1 r2 r3 r4 r5 r6 r7 rf; obtain ⟨c0, c1, c2⟩ := HBD.out.ext (HX1.out.trans XD.out); obtain ⟨r0, r1, r2, r3, r4, r5, r6, r7, rf⟩ := W8.of (World.rowIs.ext HROW.out XD.out); have hsXD := XD.out.size) | (go_at_call 85; (with_reducible refine (HS.out _ (HX0.out.trans (HX1.out.trans XD.out))).mono ?_); rintro e3 w3 ⟨rfl, h3⟩; have XS := Lib.hid (XD.out.trans h3); have XDS := Lib.hid h3; clear h3; clear c0 c1 c2 r0 r1 r2 r3 r4 r5 r6 r7 rf; obtain ⟨c0, c1, c2⟩ := HBD.out.ext (HX1.out.trans XS.out); obtain ⟨r0, r1, r2, r3, r4, r5, r6, r7, rf⟩ := W8.of (World.rowIs.ext HROW.out XS.out); have hsXS := XS.out.size) | (go_at_call 86; (with_reducible refine (HR2.out _ (HX0.out.trans (HX1.out.trans XS.out))).mono ?_); rintro e4 w4 ⟨rfl, h4⟩; have XR := Lib.hid (XS.out.trans h4); have XSR := Lib.hid h4; clear h4; clear c0 c1 c2 r0 r1 r2 r3 r4 r5 r6 r7 rf; obtain ⟨c0, c1, c2⟩ := HBD.out.ext (HX1.out.trans XR.out); obtain ⟨r0, r1, r2, r3, r4, r5, r6, r7, rf⟩ := W8.of (World.rowIs.ext HROW.out XR.out); have hsXR := XR.out.size))
  go_region_with (go_at_call 87; (with_reducible refine (HC2.out _ (HX0.out.trans (HX1.out.trans (XR.out.trans (by repeat (first | exact Ext.refl _ | assumption | refine Ext.trans ?_ (Ext.drew _) | refine Ext.trans ?_ (by assumption))))))).mono ?_); rintro e5 w5 ⟨Ac, cc, rfl, hc, h5⟩; have XC := Lib.hid (show Ext w4 w5 from (by repeat (first | exact Ext.refl _ | assumption | refine Ext.trans ?_ (Ext.drew _) | refine Ext.trans ?_ (by assumption)))); have OC := Lib.hid hc; clear hc h5; have XL := Lib.hid (XR.out.trans XC.out); clear c0 c1 c2 r0 r1 r2 r3 r4 r5 r6 r7 rf; obtain ⟨c0, c1, c2⟩ := HBD.out.ext (HX1.out.trans XL.out); obtain ⟨r0, r1, r2, r3, r4, r5, r6, r7, rf⟩ := W8.of (World.rowIs.ext HROW.out XL.out); have hsXL := XL.out.size)
  all_goals
    go_wp2_with fail
    obtain ⟨W6, hW6⟩ : ∃ W6, W6 = ((((((((w5.setCell ⟨w.heap.size + 1, 0, none⟩ (.slice p.AI D.ni p.cI)).setCell ⟨w.heap.size + 1, 1, none⟩ (.slice p.AB D.nb p.cB)).setCell ⟨w.heap.size + 1, 2, none⟩ (.slice p.AO D.no p.cO)).setCell ⟨w.heap.size + 1, 3, none⟩ (.slice Ao lo co)).setCell ⟨w.heap.size + 1, 4, none⟩ (.slice Ad ld cd)).setCell ⟨w.heap.size + 1, 5, none⟩ (.slice Ac lc cc)).setCell ⟨w.heap.size + 1, 6, none⟩ (.slice Af D.nb cf)).setCell ⟨w.heap.size + 1, 7, none⟩ (.slice none 0 0)) := ⟨_, rfl⟩
    obtain ⟨q0, q1, q2, q3, q4, q5, q6, q7⟩ := ret8 (World.rowIs.ext HROW.out XL.out) _ _ _ _ _ _ _ _ hW6
    have HE := Lib.hid (set8_ext (HX1.out.trans XL.out) (g := w.heap.size + 1) (by omega) (.slice p.AI D.ni p.cI) (.slice p.AB D.nb p.cB) (.slice p.AO D.no p.cO) (.slice Ao lo co) (.slice Ad ld cd) (.slice Ac lc cc) (.slice Af D.nb cf) (.slice none 0 0))
    rw [← hW6] at HE
    have HBT : Hid (Bt (w.heap.size + 1) w5 W6) := by rw [hW6]; exact ((((((((Bt.refl _ _).set _ _).set _ _).set _ _).set _ _).set _ _).set _ _).set _ _).set _ _
    have HRW := Lib.hid (World.rowIs.ext HROW.out XL.out)
    rw [← hW6]; clear hW6 c0 c1 c2 r0 r1 r2 r3 r4 r5 r6 r7 rf
    exact bodyPost_ret (v := .tuple #[.agg #[.slice p.AI D.ni p.cI, .slice p.AB D.nb p.cB, .slice p.AO D.no p.cO, .slice Ao lo co, .slice Ad ld cd, .slice Ac lc cc, .slice Af D.nb cf, .slice none 0 0], .iface 94 (I (rwsE D F))]) (by simp [results, Tryz.results35, go_sem, q0, q1, q2, q3, q4, q5, q6, q7]) rfl ⟨⟨⟨_, _, _⟩, ⟨_, _, _⟩, ⟨_, _, _⟩, ⟨_, _, _⟩, ⟨_, _, _⟩, ⟨_, _, _⟩, ⟨_, _, _⟩, ⟨_, _, _⟩, rfl⟩, HX0.out.trans HE.out⟩
set_option maxRecDepth 100000 in
set_option maxHeartbeats 1000000 in
theorem prep_ok {w : World} {D : Dia} {p : Pl} {m cf : Nat} {Af : Option Addr} {F : Nat → Int} (d : Dm w D p) (hT : Tabs w) (hz : rwsE D F = 0) (h : chk D = 0) (hm : m = D.nb) (r : Ri w Af m F) (hs : allN m (fun i => scB (F i)) = true) : Calls Tryz.prog 35 #[dgv D p, .slice Af m cf] w (fun e w' => ∃ q, e = .returned (.tuple #[sov D p q, .nilIface]) ∧ SoM w' D F p q ∧ Ext w w') := by
  have ok := chk_ok h
  have hnb := ok.nb
  subst hm
  have HO : Hid (∀ w', Ext w w' → Calls Tryz.prog 83 #[dgv D p] w' (LsE (ordL D) w')) := fun w' x => Order_ok (d.ext x) (hT.ext x) h
  have HD : Hid (∀ w', Ext w w' → Calls Tryz.prog 84 #[dgv D p] w' (LsE (delL D) w')) := fun w' x => Delays_ok (d.ext x) (hT.ext x) h
  have HS : Hid (∀ w', Ext w w' → Calls Tryz.prog 85 #[.slice Af D.nb cf] w' fun e w'' => e = .returned (.bool (allN D.nb (fun i => scB (F i)))) ∧ Ext w' w'') := fun w' x => areScales_any (r.ext x) (by have := hnb; unfold maxLen; omega)
  rw [hs] at HS
  have HR : Hid (∀ w', Ext w w' → Calls Tryz.prog 86 #[dgv D p, .slice Af D.nb cf] w' (RwR D F w')) := fun w' x => rawsOf_any (d.ext x) ok (r.ext x)
  have HC : Hid (∀ w', Ext w w' → Calls Tryz.prog 87 #[dgv D p] w' (LsR (clpL D) w')) := fun w' x => clipsOf_any (d.ext x) (by omega)
  have HDM := Lib.hid d
  have HRF := Lib.hid r
  obtain ⟨lo, hlo⟩ : ∃ lo, (ordL D).length = lo := ⟨_, rfl⟩
  obtain ⟨ld, hld⟩ : ∃ ld, (delL D).length = ld := ⟨_, rfl⟩
  obtain ⟨lc, hlc⟩ : ∃ lc, (clpL D).length = lc := ⟨_, rfl⟩
  have HLO := Lib.hid hlo; have HLD := Lib.hid hld; have HLC := Lib.hid hlc
  have HO2 : Hid (∀ w', Ext w w' → Calls Tryz.prog 83 #[dgv D p] w' (fun e w'' => ∃ A c, e = .returned (.tuple #[.slice A lo c, .nilIface]) ∧ Ri w'' A lo (fun j => (((ordL D).getD j 0 : Nat) : Int)) ∧ Ext w' w'')) := fun w' x => (HO.out w' x).mono fun e w'' ⟨A, c, h1, h2, h3⟩ => ⟨A, c, by rw [← hlo]; exact h1, by rw [← hlo]; exact h2.ri, h3⟩
  have HD2 : Hid (∀ w', Ext w w' → Calls Tryz.prog 84 #[dgv D p] w' (fun e w'' => ∃ A c, e = .returned (.tuple #[.slice A ld c, .nilIface]) ∧ Ri w'' A ld (fun j => ((dlA D j : Nat) : Int)) ∧ Ext w' w'')) := fun w' x => (HD.out w' x).mono fun e w'' ⟨A, c, h1, h2, h3⟩ => ⟨A, c, by rw [← hld]; exact h1, by rw [← hld]; exact h2.ri, h3⟩
  have HC2 : Hid (∀ w', Ext w w' → Calls Tryz.prog 87 #[dgv D p] w' (fun e w'' => ∃ A c, e = .returned (.slice A lc c) ∧ Ri w'' A lc (fun j => ((clA D j : Nat) : Int)) ∧ Ext w' w'')) := fun w' x => (HC.out w' x).mono fun e w'' ⟨A, c, h1, h2, h3⟩ => ⟨A, c, by rw [← hlc]; exact h1, by rw [← hlc]; exact h2.ri, h3⟩
  have HR2 : Hid (∀ w', Ext w w' → Calls Tryz.prog 86 #[dgv D p, .slice Af D.nb cf] w' (fun e w'' => ∃ g, w'.heap.size ≤ g ∧ e = .returned (.tuple #[.slice (some ⟨g, 0, none⟩) D.nb D.nb, .nilIface]) ∧ RwsM w'' (some ⟨g, 0, none⟩) D.nb D F ∧ Ext w' w'')) := fun w' x => (HR.out w' x).mono fun e w'' hh => by
    rcases hh with ⟨_, h⟩ | ⟨h, _⟩
    · exact h
    · exact absurd hz h
  clear d hT h ok r hs HO HD HC HR hlo hld hlc
  obtain ⟨W0, hW0⟩ : ∃ W0, W0 = w.alloc (.cells #[.slice p.AI D.ni p.cI, .slice p.AB D.nb p.cB, .slice p.AO D.no p.cO] 26) := ⟨_, rfl⟩
  obtain ⟨W1, hW1⟩ : ∃ W1, W1 = W0.alloc (.cells #[.slice none 0 0, .slice none 0 0, .slice none 0 0, .slice none 0 0, .slice none 0 0, .slice none 0 0, .slice none 0 0, .slice none 0 0] 85) := ⟨_, rfl⟩
  obtain ⟨hbd, hx0, hz0, hx1, hrow⟩ := pr_boxes w D p hW0 hW1
  have HBD := Lib.hid hbd; have HX0 := Lib.hid hx0; have HX1 := Lib.hid hx1; have HROW := Lib.hid hrow
  have hs1 := hx1.size
  clear hbd hx0 hrow
  go_enter Tryz.func35, Tryz.ntmps35
  go_upto_region 1 with fail
  rw [← hW0, ← hW1]; clear hW0 hW1
  obtain ⟨c0, c1, c2⟩ := HBD.out.ext HX1.out
  obtain ⟨r0, r1, r2, r3, r4, r5, r6, r7, rf⟩ := W8.of HROW.out
  replace hx1 := Lib.hid (Ext.refl W1)
  go_upto_region 12 with (first | (go_at_call 83; (with_reducible refine (HO2.out _ (HX0.out.trans HX1.out)).mono ?_); rintro e1 w1 ⟨Ao, co, rfl, ho, h1⟩; have XO := Lib.hid h1; have OO := Lib.hid ho; clear h1 ho; clear c0 c1 c2 r0 r1 r2 r3 r4 r5 r6 r7 rf; obtain ⟨c0, c1, c2⟩ := HBD.out.ext (HX1.out.trans XO.out); obtain ⟨r0, r1, r2, r3, r4, r5, r6, r7, rf⟩ := W8.of (World.rowIs.ext HROW.out XO.out); have hsXO := XO.out.size) | (go_at_call 84; (with_reducible refine (HD2.out _ (HX0.out.trans (HX1.out.trans XO.out))).mono ?_); rintro e2 w2 ⟨Ad, cd, rfl, hd, h2⟩; have XD := Lib.hid (XO.out.trans h2); have OD := Lib.hid hd; have XOD := Lib.hid h2; clear h2 hd; clear c0 c1 c2 r0 r1 r2 r3 r4 r5 r6 r7 rf; obtain ⟨c0, c1, c2⟩ := HBD.out.ext (HX1.out.trans XD.out); obtain ⟨r0, r1, r2, r3, r4, r5, r6, r7, rf⟩ := W8.of (World.rowIs.ext HROW.out XD.out); have hsXD := XD.out.size) | (go_at_call 85; (with_reducible refine (HS.out _ (HX0.out.trans (HX1.out.trans XD.out))).mono ?_); rintro e3 w3 ⟨rfl, h3⟩; have XS := Lib.hid (XD.out.trans h3); have XDS := Lib.hid h3; clear h3; clear c0 c1 c2 r0 r1 r2 r3 r4 r5 r6 r7 rf; obtain ⟨c0, c1, c2⟩ := HBD.out.ext (HX1.out.trans XS.out); obtain ⟨r0, r1, r2, r3, r4, r5, r6, r7, rf⟩ := W8.of (World.rowIs.ext HROW.out XS.out); have hsXS := XS.out.size) | (go_at_call 86; (with_reducible refine (HR2.out _ (HX0.out.trans (HX1.out.trans XS.out))).mono ?_); rintro e4 w4 ⟨g4, hg4, rfl, hrw, h4⟩; have XR := Lib.hid (XS.out.trans h4); have XSR := Lib.hid h4; have RW := Lib.hid hrw; clear hrw; clear h4; clear c0 c1 c2 r0 r1 r2 r3 r4 r5 r6 r7 rf; obtain ⟨c0, c1, c2⟩ := HBD.out.ext (HX1.out.trans XR.out); obtain ⟨r0, r1, r2, r3, r4, r5, r6, r7, rf⟩ := W8.of (World.rowIs.ext HROW.out XR.out); have hsXR := XR.out.size))
  go_region_with (go_at_call 87; (with_reducible refine (HC2.out _ (HX0.out.trans (HX1.out.trans (XR.out.trans (by repeat (first | exact Ext.refl _ | assumption | refine Ext.trans ?_ (Ext.drew _) | refine Ext.trans ?_ (by assumption))))))).mono ?_); rintro e5 w5 ⟨Ac, cc, rfl, hc, h5⟩; have XC := Lib.hid (show Ext w4 w5 from (by repeat (first | exact Ext.refl _ | assumption | refine Ext.trans ?_ (Ext.drew _) | refine Ext.trans ?_ (by assumption)))); have OC := Lib.hid hc; clear hc h5; have XL := Lib.hid (XR.out.trans XC.out); clear c0 c1 c2 r0 r1 r2 r3 r4 r5 r6 r7 rf; obtain ⟨c0, c1, c2⟩ := HBD.out.ext (HX1.out.trans XL.out); obtain ⟨r0, r1, r2, r3, r4, r5, r6, r7, rf⟩ := W8.of (World.rowIs.ext HROW.out XL.out); have hsXL := XL.out.size)
  all_goals
    go_wp2_with fail
    obtain ⟨W6, hW6⟩ : ∃ W6, W6 = ((((((((w5.setCell ⟨w.heap.size + 1, 0, none⟩ (.slice p.AI D.ni p.cI)).setCell ⟨w.heap.size + 1, 1, none⟩ (.slice p.AB D.nb p.cB)).setCell ⟨w.heap.size + 1, 2, none⟩ (.slice p.AO D.no p.cO)).setCell ⟨w.heap.size + 1, 3, none⟩ (.slice Ao lo co)).setCell ⟨w.heap.size + 1, 4, none⟩ (.slice Ad ld cd)).setCell ⟨w.heap.size + 1, 5, none⟩ (.slice Ac lc cc)).setCell ⟨w.heap.size + 1, 6, none⟩ (.slice Af D.nb cf)).setCell ⟨w.heap.size + 1, 7, none⟩ (.slice (some ⟨g4, 0, none⟩) D.nb D.nb)) := ⟨_, rfl⟩
    obtain ⟨q0, q1, q2, q3, q4, q5, q6, q7⟩ := ret8 (World.rowIs.ext HROW.out XL.out) _ _ _ _ _ _ _ _ hW6
    have HE := Lib.hid (set8_ext (HX1.out.trans XL.out) (g := w.heap.size + 1) (by omega) (.slice p.AI D.ni p.cI) (.slice p.AB D.nb p.cB) (.slice p.AO D.no p.cO) (.slice Ao lo co) (.slice Ad ld cd) (.slice Ac lc cc) (.slice Af D.nb cf) (.slice (some ⟨g4, 0, none⟩) D.nb D.nb))
    rw [← hW6] at HE
    have HBT : Hid (Bt (w.heap.size + 1) w5 W6) := by rw [hW6]; exact ((((((((Bt.refl _ _).set _ _).set _ _).set _ _).set _ _).set _ _).set _ _).set _ _).set _ _
    have HRW := Lib.hid (World.rowIs.ext HROW.out XL.out)
    rw [← hW6]; clear hW6 c0 c1 c2 r0 r1 r2 r3 r4 r5 r6 r7 rf
    refine bodyPost_ret (v := .tuple #[sov D p ⟨Ao, lo, co, Ad, ld, cd, Ac, lc, cc, Af, cf, some ⟨g4, 0, none⟩, D.nb⟩, .nilIface]) (by simp [results, Tryz.results35, go_sem, q0, q1, q2, q3, q4, q5, q6, q7]) rfl ⟨_, rfl, ⟨?_, ?_, ?_, ?_, ?_, ?_, ?_, ?_, ?_⟩, HX0.out.trans HE.out⟩
    · exact HDM.out.ext (HX0.out.trans HE.out)
    · exact HLO.out.symm
    · exact (OO.out.ext (XOD.out.trans (XDS.out.trans (XSR.out.trans XC.out)))).bt HBT.out HRW.out
    · exact HLD.out.symm
    · exact (OD.out.ext (XDS.out.trans (XSR.out.trans XC.out))).bt HBT.out HRW.out
    · exact HLC.out.symm
    · exact OC.out.bt HBT.out HRW.out
    · exact HRF.out.ext (HX0.out.trans HE.out)
    · exact (RW.out.ext XC.out).bt HBT.out HRW.out (by have := HROW.out.lt; omega)
end Go.Proofs.YtkocmdpfknoiaaaGreatDoor
