/- Programs of diagrams: the first instruction of a block, by the code. -/
import Derived.Test.YtkocmdpfknoiaaaGreatDoorKxe
namespace Go.Proofs.YtkocmdpfknoiaaaGreatDoor
open Go Go.RowKit

/-- The table of the operations lies as its text lays it. -/
def TabO (w : World) : Prop := ∀ j : Nat, j < 12 → w.cell? ⟨0, j, none⟩ = some (I (if j = 11 then 9 else (j : Int)))
theorem TabO.ext {w w' : World} (h : TabO w) (e : Ext w w') : TabO w' := fun j hj => by
  have h1 := h j hj
  exact (e.old.1 _ _ (World.block_lt_of_cell? w _ h1)).trans h1
def xr (x : Ins) (j : Nat) : Value := (xc7 x).getD j .nilIface
/-- A block's box. -/
structure Bk6 (w : World) (g : Nat) (b : Blk) (A : Option Addr) (c : Nat) : Prop where
  b0 : w.cell? ⟨g, 0, none⟩ = some (I b.k)
  b1 : w.cell? ⟨g, 1, none⟩ = some (.slice A b.n c)
  b2 : w.cell? ⟨g, 2, none⟩ = some (I b.vn)
  b3 : w.cell? ⟨g, 3, none⟩ = some (I b.ve)
  b4 : w.cell? ⟨g, 4, none⟩ = some (I b.un)
  b5 : w.cell? ⟨g, 5, none⟩ = some (I b.ue)
theorem Bk6.lt {w : World} {g : Nat} {b : Blk} {A : Option Addr} {c : Nat} (h : Bk6 w g b A c) : g < w.heap.size := World.block_lt_of_cell? w _ h.b0
theorem Bk6.ext {w w' : World} {g : Nat} {b : Blk} {A : Option Addr} {c : Nat} (h : Bk6 w g b A c) (e : Ext w w') : Bk6 w' g b A c := by
  have r := fun j => e.old.1 g j h.lt
  exact ⟨(r _).trans h.b0, (r _).trans h.b1, (r _).trans h.b2, (r _).trans h.b3, (r _).trans h.b4, (r _).trans h.b5⟩
/-- An instruction's box that may be written. -/
structure Wx (w : World) (g : Nat) (x : Ins) : Prop where
  x0 : w.cell? ⟨g, 0, none⟩ = some (I x.op)
  x1 : w.cell? ⟨g, 1, none⟩ = some (I x.dst)
  x2 : w.cell? ⟨g, 2, none⟩ = some (I x.a)
  x3 : w.cell? ⟨g, 3, none⟩ = some (I x.b)
  x4 : w.cell? ⟨g, 4, none⟩ = some (I x.sa)
  x5 : w.cell? ⟨g, 5, none⟩ = some (I x.sb)
  x6 : w.cell? ⟨g, 6, none⟩ = some (I x.im)
  xf : ∀ j, w.frozen? ⟨g, j, none⟩ = false
theorem Wx.of {w : World} {g : Nat} {x : Ins} (h : w.rowIs g 83 7 (xr x)) : Wx w g x :=
  ⟨h.cell (by omega), h.cell (by omega), h.cell (by omega), h.cell (by omega), h.cell (by omega), h.cell (by omega), h.cell (by omega), h.frozen⟩
/-- The four boxes. -/
structure F4 (w W : World) (D : Dia) (p : Pl) (q : So) (b : Blk) (A : Option Addr) (c : Nat) (x : Ins) : Prop where
  src : Sb W w.heap.size D p q
  blk : Bk6 W (w.heap.size + 1 + 1) b A c
  box : W.rowIs (w.heap.size + 1 + 1 + 1) 83 7 (xr x)
  res : W.rowIs (w.heap.size + 1) 83 7 (xr ins0)
  ext : Ext w W
theorem xr_row (W : World) (x : Ins) : (W.alloc (.cells #[I x.op, I x.dst, I x.a, I x.b, I x.sa, I x.sb, I x.im] 83)).rowIs W.heap.size 83 7 (xr x) :=
  World.rowIs_alloc W #[I x.op, I x.dst, I x.a, I x.b, I x.sa, I x.sb, I x.im] 83 (xr x) (fun i hi => by
    have : i = 0 ∨ i = 1 ∨ i = 2 ∨ i = 3 ∨ i = 4 ∨ i = 5 ∨ i = 6 := by simp at hi; omega
    rcases this with h | h | h | h | h | h | h <;> subst h <;> rfl)
abbrev f4W (w : World) (D : Dia) (p : Pl) (q : So) (b : Blk) (A : Option Addr) (c : Nat) (x : Ins) : World :=
  (((w.alloc (soC D p q)).alloc (.cells #[I 0, I 0, I 0, I 0, I 0, I 0, I 0] 83)).alloc (.cells #[I b.k, .slice A b.n c, I b.vn, I b.ve, I b.un, I b.ue] 51)).alloc (.cells #[I x.op, I x.dst, I x.a, I x.b, I x.sa, I x.sb, I x.im] 83)
theorem F4.new (w : World) (D : Dia) (p : Pl) (q : So) (b : Blk) (A : Option Addr) (c : Nat) (x : Ins) : F4 w (f4W w D p q b A c x) D p q b A c x := by
  refine ⟨?_, ?_, ?_, ?_, ?_⟩
  · exact (Sb.new w D p q).ext (((Ext.alloc _ _).trans (Ext.alloc _ _)).trans (Ext.alloc _ _))
  · refine Bk6.ext (w := ((w.alloc (soC D p q)).alloc (.cells #[I 0, I 0, I 0, I 0, I 0, I 0, I 0] 83)).alloc (.cells #[I b.k, .slice A b.n c, I b.vn, I b.ve, I b.un, I b.ue] 51)) ?_ (Ext.alloc _ _)
    exact ⟨by go_simp, by go_simp, by go_simp, by go_simp, by go_simp, by go_simp⟩
  · have := xr_row (((w.alloc (soC D p q)).alloc (.cells #[I 0, I 0, I 0, I 0, I 0, I 0, I 0] 83)).alloc (.cells #[I b.k, .slice A b.n c, I b.vn, I b.ve, I b.un, I b.ue] 51)) x
    rwa [show (((w.alloc (soC D p q)).alloc (.cells #[I 0, I 0, I 0, I 0, I 0, I 0, I 0] 83)).alloc (.cells #[I b.k, .slice A b.n c, I b.vn, I b.ve, I b.un, I b.ue] 51)).heap.size = w.heap.size + 1 + 1 + 1 by simp] at this
  · have := xr_row (w.alloc (soC D p q)) ins0
    rw [show (w.alloc (soC D p q)).heap.size = w.heap.size + 1 by simp] at this
    exact World.rowIs.ext this ((Ext.alloc _ _).trans (Ext.alloc _ _))
  · exact (((Ext.alloc _ _).trans (Ext.alloc _ _)).trans (Ext.alloc _ _)).trans (Ext.alloc _ _)
theorem F4.to {w W W' : World} {D : Dia} {p : Pl} {q : So} {b : Blk} {A : Option Addr} {c : Nat} {x : Ins} (h : F4 w W D p q b A c x) (e : Ext W W') : F4 w W' D p q b A c x :=
  ⟨h.src.ext e, h.blk.ext e, World.rowIs.ext h.box e, World.rowIs.ext h.res e, h.ext.trans e⟩
theorem F4.put {w W : World} {D : Dia} {p : Pl} {q : So} {b : Blk} {A : Option Addr} {c : Nat} {x y : Ins} (h : F4 w W D p q b A c x) (j : Nat) (v : Value) (hy : ∀ i, i < 7 → (if i = j then v else xr x i) = xr y i) : F4 w (W.setCell ⟨w.heap.size + 1 + 1 + 1, j, none⟩ v) D p q b A c y := by
  have hne : ∀ g k, g ≠ w.heap.size + 1 + 1 + 1 → (W.setCell ⟨w.heap.size + 1 + 1 + 1, j, none⟩ v).cell? ⟨g, k, none⟩ = W.cell? ⟨g, k, none⟩ := fun g k hg => by
    unfold World.cell?
    rw [Below.heap_setCell _ _ _ g hg]
  obtain ⟨c0, c1, c2, c3, c4, c5, c6, c7⟩ := h.src
  obtain ⟨b0, b1, b2, b3, b4, b5⟩ := h.blk
  refine ⟨⟨?_, ?_, ?_, ?_, ?_, ?_, ?_, ?_⟩, ⟨?_, ?_, ?_, ?_, ?_, ?_⟩, ?_, ?_, h.ext.toSet (by omega)⟩
  any_goals (rw [hne _ _ (by omega)]; assumption)
  · exact (h.box.set j v).congr fun i hi => hy i hi
  · exact h.res.of_block (Below.heap_setCell _ _ _ _ (by show w.heap.size + 1 ≠ w.heap.size + 1 + 1 + 1; omega))
/-- What 'first' is asked. -/
def FiR (D : Dia) (F : Nat → Int) (i : Nat) (w : World) (e : Ending) (w' : World) : Prop := e = .returned (insV (fiX D F i)) ∧ Ext w w'
theorem f4_start (w : World) (D : Dia) (p : Pl) (q : So) (k op : Int) (A : Option Addr) (n c : Nat) (vn ve un ue : Int) (i : Nat) {W : World}
    (h : W = (((w.alloc (.cells #[.slice p.AI D.ni p.cI, .slice p.AB D.nb p.cB, .slice p.AO D.no p.cO, .slice q.Ao q.lo q.co, .slice q.Ad q.ld q.cd, .slice q.Ac q.lc q.cc, .slice q.Af D.nb q.cf, .slice q.Ar D.nb q.cr] 85)).alloc (.cells #[I 0, I 0, I 0, I 0, I 0, I 0, I 0] 83)).alloc (.cells #[I k, .slice A n c, I vn, I ve, I un, I ue] 51)).alloc (.cells #[I op, I i, I 0, I 0, I 0, I 0, I 0] 83)) (a : Nat → Int) :
    F4 w W D p q ⟨k, n, a, vn, ve, un, ue⟩ A c ⟨op, i, 0, 0, 0, 0, 0⟩ := by
  rw [h]; exact F4.new w D p q ⟨k, n, a, vn, ve, un, ue⟩ A c ⟨op, i, 0, 0, 0, 0, 0⟩
theorem ret7 {w : World} {g : Nat} {t : TypeId} {f : Nat → Value} (h : w.rowIs g t 7 f) (v0 v1 v2 v3 v4 v5 v6 : Value) {W : World}
    (hW : W = ((((((w.setCell ⟨g, 0, none⟩ v0).setCell ⟨g, 1, none⟩ v1).setCell ⟨g, 2, none⟩ v2).setCell ⟨g, 3, none⟩ v3).setCell ⟨g, 4, none⟩ v4).setCell ⟨g, 5, none⟩ v5).setCell ⟨g, 6, none⟩ v6) :
    W.cell? ⟨g, 0, none⟩ = some v0 ∧ W.cell? ⟨g, 1, none⟩ = some v1 ∧ W.cell? ⟨g, 2, none⟩ = some v2 ∧ W.cell? ⟨g, 3, none⟩ = some v3 ∧ W.cell? ⟨g, 4, none⟩ = some v4 ∧ W.cell? ⟨g, 5, none⟩ = some v5 ∧ W.cell? ⟨g, 6, none⟩ = some v6 := by
  have q := ((((((h.set 0 v0).set 1 v1).set 2 v2).set 3 v3).set 4 v4).set 5 v5).set 6 v6
  rw [← hW] at q
  exact ⟨q.cell (by omega), q.cell (by omega), q.cell (by omega), q.cell (by omega), q.cell (by omega), q.cell (by omega), q.cell (by omega)⟩
theorem set7_ext {w W : World} {g : Nat} (e : Ext w W) (h : w.heap.size ≤ g) (v0 v1 v2 v3 v4 v5 v6 : Value) : Ext w (((((((W.setCell ⟨g, 0, none⟩ v0).setCell ⟨g, 1, none⟩ v1).setCell ⟨g, 2, none⟩ v2).setCell ⟨g, 3, none⟩ v3).setCell ⟨g, 4, none⟩ v4).setCell ⟨g, 5, none⟩ v5).setCell ⟨g, 6, none⟩ v6) :=
  ((((((e.toSet h).toSet h).toSet h).toSet h).toSet h).toSet h).toSet h
/- KINDS -/
theorem F4.put2 {w W : World} {D : Dia} {p : Pl} {q : So} {b : Blk} {A : Option Addr} {c : Nat} {x : Ins} (h : F4 w W D p q b A c x) (v : Int) : F4 w (W.setCell ⟨w.heap.size + 1 + 1 + 1, 2, none⟩ (I v)) D p q b A c { x with a := v } :=
  h.put 2 (I v) (fun j hj => by
    rcases (show j = 0 ∨ j = 1 ∨ j = 2 ∨ j = 3 ∨ j = 4 ∨ j = 5 ∨ j = 6 by omega) with h | h | h | h | h | h | h <;> subst h <;> rfl)
theorem F4.put3 {w W : World} {D : Dia} {p : Pl} {q : So} {b : Blk} {A : Option Addr} {c : Nat} {x : Ins} (h : F4 w W D p q b A c x) (v : Int) : F4 w (W.setCell ⟨w.heap.size + 1 + 1 + 1, 3, none⟩ (I v)) D p q b A c { x with b := v } :=
  h.put 3 (I v) (fun j hj => by
    rcases (show j = 0 ∨ j = 1 ∨ j = 2 ∨ j = 3 ∨ j = 4 ∨ j = 5 ∨ j = 6 by omega) with h | h | h | h | h | h | h <;> subst h <;> rfl)
theorem F4.put4 {w W : World} {D : Dia} {p : Pl} {q : So} {b : Blk} {A : Option Addr} {c : Nat} {x : Ins} (h : F4 w W D p q b A c x) (v : Int) : F4 w (W.setCell ⟨w.heap.size + 1 + 1 + 1, 4, none⟩ (I v)) D p q b A c { x with sa := v } :=
  h.put 4 (I v) (fun j hj => by
    rcases (show j = 0 ∨ j = 1 ∨ j = 2 ∨ j = 3 ∨ j = 4 ∨ j = 5 ∨ j = 6 by omega) with h | h | h | h | h | h | h <;> subst h <;> rfl)
theorem F4.put5 {w W : World} {D : Dia} {p : Pl} {q : So} {b : Blk} {A : Option Addr} {c : Nat} {x : Ins} (h : F4 w W D p q b A c x) (v : Int) : F4 w (W.setCell ⟨w.heap.size + 1 + 1 + 1, 5, none⟩ (I v)) D p q b A c { x with sb := v } :=
  h.put 5 (I v) (fun j hj => by
    rcases (show j = 0 ∨ j = 1 ∨ j = 2 ∨ j = 3 ∨ j = 4 ∨ j = 5 ∨ j = 6 by omega) with h | h | h | h | h | h | h <;> subst h <;> rfl)
theorem F4.put6 {w W : World} {D : Dia} {p : Pl} {q : So} {b : Blk} {A : Option Addr} {c : Nat} {x : Ins} (h : F4 w W D p q b A c x) (v : Int) : F4 w (W.setCell ⟨w.heap.size + 1 + 1 + 1, 6, none⟩ (I v)) D p q b A c { x with im := v } :=
  h.put 6 (I v) (fun j hj => by
    rcases (show j = 0 ∨ j = 1 ∨ j = 2 ∨ j = 3 ∨ j = 4 ∨ j = 5 ∨ j = 6 by omega) with h | h | h | h | h | h | h <;> subst h <;> rfl)
theorem fi_end {w W : World} {D : Dia} {p : Pl} {q : So} {b : Blk} {A : Option Addr} {c : Nat} {x : Ins} (h : F4 w W D p q b A c x) {W' : World} (v0 v1 v2 v3 v4 v5 v6 : Value) (hW : W' = ((((((W.setCell ⟨w.heap.size + 1, 0, none⟩ v0).setCell ⟨w.heap.size + 1, 1, none⟩ v1).setCell ⟨w.heap.size + 1, 2, none⟩ v2).setCell ⟨w.heap.size + 1, 3, none⟩ v3).setCell ⟨w.heap.size + 1, 4, none⟩ v4).setCell ⟨w.heap.size + 1, 5, none⟩ v5).setCell ⟨w.heap.size + 1, 6, none⟩ v6) :
    (W'.cell? ⟨w.heap.size + 1, 0, none⟩ = some v0 ∧ W'.cell? ⟨w.heap.size + 1, 1, none⟩ = some v1 ∧ W'.cell? ⟨w.heap.size + 1, 2, none⟩ = some v2 ∧ W'.cell? ⟨w.heap.size + 1, 3, none⟩ = some v3 ∧ W'.cell? ⟨w.heap.size + 1, 4, none⟩ = some v4 ∧ W'.cell? ⟨w.heap.size + 1, 5, none⟩ = some v5 ∧ W'.cell? ⟨w.heap.size + 1, 6, none⟩ = some v6) ∧ Ext w W' :=
  ⟨ret7 h.res _ _ _ _ _ _ _ hW, by rw [hW]; exact set7_ext h.ext (by omega) _ _ _ _ _ _ _⟩
set_option maxRecDepth 100000 in
set_option maxHeartbeats 1000000 in
theorem first_1 {w : World} {D : Dia} {F : Nat → Int} {p : Pl} {q : So} (m : SoM w D F p q) (wf : WF D) (hF : ∀ j, j < D.nb → 0 ≤ F j ∧ F j ≤ 30) (i : Nat) (hi : i < D.nb) (hk : (D.B i).k = 1) (hT : TabO w) : Calls Tryz.prog 88 #[sov D p q, I i] w (FiR D F i w) := by
  obtain ⟨b, o, hA, hbl, hc⟩ := m.dm.blocks (by omega)
  obtain ⟨y0, y1, y2, y3, y4, y5⟩ := hc i hi
  have hi' : (i : Int) < (D.nb : Int) := by omega
  have ht := hT 1 (by omega)
  have htl := World.block_lt_of_cell? w _ ht
  have har := wf.ar i hi
  have harg := wf.arg i hi
  have hnb := wf.nb
  have bFi := hF i hi
  rw [hk] at har
  rw [hk] at y0
  have HM := Lib.hid m
  obtain ⟨W4, hW4⟩ : ∃ W4, W4 = (((w.alloc (.cells #[.slice p.AI D.ni p.cI, .slice p.AB D.nb p.cB, .slice p.AO D.no p.cO, .slice q.Ao q.lo q.co, .slice q.Ad q.ld q.cd, .slice q.Ac q.lc q.cc, .slice q.Af D.nb q.cf, .slice q.Ar D.nb q.cr] 85)).alloc (.cells #[I 0, I 0, I 0, I 0, I 0, I 0, I 0] 83)).alloc (.cells #[I 1, .slice (p.AA i) (D.B i).n (p.cA i), I (D.B i).vn, I (D.B i).ve, I (D.B i).un, I (D.B i).ue] 51)).alloc (.cells #[I 1, I i, I 0, I 0, I 0, I 0, I 0] 83) := ⟨_, rfl⟩
  have HF := Lib.hid (f4_start w D p q 1 1 (p.AA i) (D.B i).n (p.cA i) (D.B i).vn (D.B i).ve (D.B i).un (D.B i).ue i hW4 (D.B i).a)
  obtain ⟨br, orr, hr, hrl, hrc⟩ := m.rw (by omega)
  obtain ⟨Ai, ci, k1, k2, k3⟩ := hrc i hi
  rw [show kpN (D.B i).k = 1 by rw [hk]; rfl] at k1 k2
  obtain ⟨bi, oi, hAi, hil, hic⟩ := k2 (by omega)
  have k4 := hic 0 (by omega)
  rw [Nat.add_zero] at k4
  have HV : Hid (fiX D F i = ⟨1, i, 0, 0, 0, 0, rwV (D.B i) (F i) 0⟩) := by show _ = _; unfold fiX; simp [hk]
  unfold FiR
  rw [HV.out]; clear HV
  generalize rwV (D.B i) (F i) 0 = rv at *
  subst hAi
  have HR := Lib.hid hr
  have K1 := Lib.hid k1; have K4 := Lib.hid k4
  clear hc m har harg hrc hic k2 k3 hr k1 k4
  go_enter Tryz.func88, Tryz.ntmps88
  go_upto_region 3 with fail
  (try rw [← hA])
  rw [← hW4]; clear hW4 hA
  obtain ⟨c0, c1, c2, c3, c4, c5, c6, c7⟩ := HF.out.src; obtain ⟨b0, b1, b2, b3, b4, b5⟩ := HF.out.blk; obtain ⟨x0, x1, x2, x3, x4, x5, x6, xf⟩ := Wx.of HF.out.box; obtain ⟨r0, r1, r2, r3, r4, r5, r6, rf⟩ := Wx.of HF.out.res; have hsz := HF.out.ext.size
  have k1 := (HF.out.ext.old.1 _ _ hrl).trans K1.out
  have k4 := (HF.out.ext.old.1 _ _ hil).trans K4.out
  rw [HR.out] at c7
  go_wp2_with fail
  replace HF := Lib.hid (HF.out.put6 (rv))
  clear c0 c1 c2 c3 c4 c5 c6 c7 b0 b1 b2 b3 b4 b5 x0 x1 x2 x3 x4 x5 x6 xf r0 r1 r2 r3 r4 r5 r6 rf hsz
  generalize hG : (W4.setCell ⟨w.heap.size + 1 + 1 + 1, 6, none⟩ (I (rv))) = W5 at HF ⊢
  clear hG
  obtain ⟨W6, hW6⟩ : ∃ W6, W6 = (((((((W5.setCell ⟨w.heap.size + 1, 0, none⟩ (I (1))).setCell ⟨w.heap.size + 1, 1, none⟩ (I (i))).setCell ⟨w.heap.size + 1, 2, none⟩ (I (0))).setCell ⟨w.heap.size + 1, 3, none⟩ (I (0))).setCell ⟨w.heap.size + 1, 4, none⟩ (I (0))).setCell ⟨w.heap.size + 1, 5, none⟩ (I (0))).setCell ⟨w.heap.size + 1, 6, none⟩ (I (rv))) := ⟨_, rfl⟩
  obtain ⟨⟨q0, q1, q2, q3, q4, q5, q6⟩, he⟩ := fi_end HF.out _ _ _ _ _ _ _ hW6
  have HE := Lib.hid he
  clear he
  rw [← hW6]; clear hW6
  exact bodyPost_ret (v := .agg #[I (1), I (i), I (0), I (0), I (0), I (0), I (rv)]) (by simp [results, Tryz.results88, go_sem, q0, q1, q2, q3, q4, q5, q6]) rfl ⟨rfl, HE.out⟩
set_option maxRecDepth 100000 in
set_option maxHeartbeats 1000000 in
theorem first_2 {w : World} {D : Dia} {F : Nat → Int} {p : Pl} {q : So} (m : SoM w D F p q) (wf : WF D) (hF : ∀ j, j < D.nb → 0 ≤ F j ∧ F j ≤ 30) (i : Nat) (hi : i < D.nb) (hk : (D.B i).k = 2) (hT : TabO w) : Calls Tryz.prog 88 #[sov D p q, I i] w (FiR D F i w) := by
  obtain ⟨b, o, hA, hbl, hc⟩ := m.dm.blocks (by omega)
  obtain ⟨y0, y1, y2, y3, y4, y5⟩ := hc i hi
  have hi' : (i : Int) < (D.nb : Int) := by omega
  have ht := hT 2 (by omega)
  have htl := World.block_lt_of_cell? w _ ht
  have har := wf.ar i hi
  have harg := wf.arg i hi
  have hnb := wf.nb
  have bFi := hF i hi
  rw [hk] at har
  rw [hk] at y0
  have HM := Lib.hid m
  have hn : (D.B i).n = 1 := by
    have : arity 2 = 1 := by decide
    omega
  obtain ⟨ba, oa, hAA, hba, hca⟩ := (m.dm.args i hi).1 (by omega)
  rw [hn, hAA] at y1
  have z0 := hca 0 (by omega)
  have g0 := harg 0 (by omega)
  obtain ⟨a0, ha0⟩ : ∃ a0 : Nat, (D.B i).a 0 = (a0 : Int) := ⟨((D.B i).a 0).toNat, by omega⟩
  have l0 : a0 < D.nb := by unfold cntB at g0; rw [hk] at g0; simp at g0; omega
  rw [Nat.add_zero] at z0
  rw [ha0] at z0
  have Z0 := Lib.hid z0
  clear hca hAA g0 z0
  obtain ⟨W4, hW4⟩ : ∃ W4, W4 = (((w.alloc (.cells #[.slice p.AI D.ni p.cI, .slice p.AB D.nb p.cB, .slice p.AO D.no p.cO, .slice q.Ao q.lo q.co, .slice q.Ad q.ld q.cd, .slice q.Ac q.lc q.cc, .slice q.Af D.nb q.cf, .slice q.Ar D.nb q.cr] 85)).alloc (.cells #[I 0, I 0, I 0, I 0, I 0, I 0, I 0] 83)).alloc (.cells #[I 2, .slice (some ⟨ba, oa, none⟩) 1 (p.cA i), I (D.B i).vn, I (D.B i).ve, I (D.B i).un, I (D.B i).ue] 51)).alloc (.cells #[I 2, I i, I 0, I 0, I 0, I 0, I 0] 83) := ⟨_, rfl⟩
  have HF := Lib.hid (f4_start w D p q 2 2 (some ⟨ba, oa, none⟩) 1 (p.cA i) (D.B i).vn (D.B i).ve (D.B i).un (D.B i).ue i hW4 (D.B i).a)
  have HT0 : Hid (∀ w', Ext w w' → Calls Tryz.prog 134 #[sov D p q, I i, I a0] w' fun e w'' => e = .returned (I (F i - F a0)) ∧ Ext w' w'') := fun w' x => toScale_any (HM.out.ext x) i a0 hi l0 (hF i hi) (hF a0 l0)
  have HV : Hid (fiX D F i = ⟨2, i, a0, 0, F i - F a0, 0, 0⟩) := by show _ = _; unfold fiX; simp [hk, ha0]
  unfold FiR
  rw [HV.out]; clear HV
  generalize F i - F a0 = sa at *
  clear hc m har harg
  go_enter Tryz.func88, Tryz.ntmps88
  go_upto_region 3 with fail
  (try rw [← hA])
  rw [← hW4]; clear hW4 hA
  obtain ⟨c0, c1, c2, c3, c4, c5, c6, c7⟩ := HF.out.src; obtain ⟨b0, b1, b2, b3, b4, b5⟩ := HF.out.blk; obtain ⟨x0, x1, x2, x3, x4, x5, x6, xf⟩ := Wx.of HF.out.box; obtain ⟨r0, r1, r2, r3, r4, r5, r6, rf⟩ := Wx.of HF.out.res; have hsz := HF.out.ext.size; have z0 := (HF.out.ext.old.1 _ _ hba).trans Z0.out
  go_wp2_with (go_at_call 134; have HF2 := Lib.hid (HF.out.put2 (a0)); (with_reducible refine (HT0.out _ HF2.out.ext).mono ?_); rintro e1 w1 ⟨rfl, hx1⟩; replace HF := Lib.hid (HF2.out.to hx1); clear HF2 hx1 c0 c1 c2 c3 c4 c5 c6 c7 b0 b1 b2 b3 b4 b5 x0 x1 x2 x3 x4 x5 x6 xf r0 r1 r2 r3 r4 r5 r6 rf hsz z0; obtain ⟨c0, c1, c2, c3, c4, c5, c6, c7⟩ := HF.out.src; obtain ⟨b0, b1, b2, b3, b4, b5⟩ := HF.out.blk; obtain ⟨x0, x1, x2, x3, x4, x5, x6, xf⟩ := Wx.of HF.out.box; obtain ⟨r0, r1, r2, r3, r4, r5, r6, rf⟩ := Wx.of HF.out.res; have hsz := HF.out.ext.size; have z0 := (HF.out.ext.old.1 _ _ hba).trans Z0.out)
  replace HF := Lib.hid (HF.out.put4 (sa))
  clear c0 c1 c2 c3 c4 c5 c6 c7 b0 b1 b2 b3 b4 b5 x0 x1 x2 x3 x4 x5 x6 xf r0 r1 r2 r3 r4 r5 r6 rf hsz z0
  generalize hG : (w1.setCell ⟨w.heap.size + 1 + 1 + 1, 4, none⟩ (I (sa))) = W5 at HF ⊢
  clear hG
  obtain ⟨W6, hW6⟩ : ∃ W6, W6 = (((((((W5.setCell ⟨w.heap.size + 1, 0, none⟩ (I (2))).setCell ⟨w.heap.size + 1, 1, none⟩ (I (i))).setCell ⟨w.heap.size + 1, 2, none⟩ (I (a0))).setCell ⟨w.heap.size + 1, 3, none⟩ (I (0))).setCell ⟨w.heap.size + 1, 4, none⟩ (I (sa))).setCell ⟨w.heap.size + 1, 5, none⟩ (I (0))).setCell ⟨w.heap.size + 1, 6, none⟩ (I (0))) := ⟨_, rfl⟩
  obtain ⟨⟨q0, q1, q2, q3, q4, q5, q6⟩, he⟩ := fi_end HF.out _ _ _ _ _ _ _ hW6
  have HE := Lib.hid he
  clear he
  rw [← hW6]; clear hW6
  exact bodyPost_ret (v := .agg #[I (2), I (i), I (a0), I (0), I (sa), I (0), I (0)]) (by simp [results, Tryz.results88, go_sem, q0, q1, q2, q3, q4, q5, q6]) rfl ⟨rfl, HE.out⟩
set_option maxRecDepth 100000 in
set_option maxHeartbeats 1000000 in
theorem first_5 {w : World} {D : Dia} {F : Nat → Int} {p : Pl} {q : So} (m : SoM w D F p q) (wf : WF D) (hF : ∀ j, j < D.nb → 0 ≤ F j ∧ F j ≤ 30) (i : Nat) (hi : i < D.nb) (hk : (D.B i).k = 5) (hT : TabO w) : Calls Tryz.prog 88 #[sov D p q, I i] w (FiR D F i w) := by
  obtain ⟨b, o, hA, hbl, hc⟩ := m.dm.blocks (by omega)
  obtain ⟨y0, y1, y2, y3, y4, y5⟩ := hc i hi
  have hi' : (i : Int) < (D.nb : Int) := by omega
  have ht := hT 5 (by omega)
  have htl := World.block_lt_of_cell? w _ ht
  have har := wf.ar i hi
  have harg := wf.arg i hi
  have hnb := wf.nb
  have bFi := hF i hi
  rw [hk] at har
  rw [hk] at y0
  have HM := Lib.hid m
  have hn : (D.B i).n = 1 := by
    have : arity 5 = 1 := by decide
    omega
  obtain ⟨ba, oa, hAA, hba, hca⟩ := (m.dm.args i hi).1 (by omega)
  rw [hn, hAA] at y1
  have z0 := hca 0 (by omega)
  have g0 := harg 0 (by omega)
  obtain ⟨a0, ha0⟩ : ∃ a0 : Nat, (D.B i).a 0 = (a0 : Int) := ⟨((D.B i).a 0).toNat, by omega⟩
  have l0 : a0 < D.nb := by unfold cntB at g0; rw [hk] at g0; simp at g0; omega
  rw [Nat.add_zero] at z0
  rw [ha0] at z0
  have Z0 := Lib.hid z0
  clear hca hAA g0 z0
  obtain ⟨W4, hW4⟩ : ∃ W4, W4 = (((w.alloc (.cells #[.slice p.AI D.ni p.cI, .slice p.AB D.nb p.cB, .slice p.AO D.no p.cO, .slice q.Ao q.lo q.co, .slice q.Ad q.ld q.cd, .slice q.Ac q.lc q.cc, .slice q.Af D.nb q.cf, .slice q.Ar D.nb q.cr] 85)).alloc (.cells #[I 0, I 0, I 0, I 0, I 0, I 0, I 0] 83)).alloc (.cells #[I 5, .slice (some ⟨ba, oa, none⟩) 1 (p.cA i), I (D.B i).vn, I (D.B i).ve, I (D.B i).un, I (D.B i).ue] 51)).alloc (.cells #[I 5, I i, I 0, I 0, I 0, I 0, I 0] 83) := ⟨_, rfl⟩
  have HF := Lib.hid (f4_start w D p q 5 5 (some ⟨ba, oa, none⟩) 1 (p.cA i) (D.B i).vn (D.B i).ve (D.B i).un (D.B i).ue i hW4 (D.B i).a)
  have HT0 : Hid (∀ w', Ext w w' → Calls Tryz.prog 134 #[sov D p q, I i, I a0] w' fun e w'' => e = .returned (I (F i - F a0)) ∧ Ext w' w'') := fun w' x => toScale_any (HM.out.ext x) i a0 hi l0 (hF i hi) (hF a0 l0)
  have HV : Hid (fiX D F i = ⟨5, i, a0, 0, F i - F a0, 0, 0⟩) := by show _ = _; unfold fiX; simp [hk, ha0]
  unfold FiR
  rw [HV.out]; clear HV
  generalize F i - F a0 = sa at *
  clear hc m har harg
  go_enter Tryz.func88, Tryz.ntmps88
  go_upto_region 3 with fail
  (try rw [← hA])
  rw [← hW4]; clear hW4 hA
  obtain ⟨c0, c1, c2, c3, c4, c5, c6, c7⟩ := HF.out.src; obtain ⟨b0, b1, b2, b3, b4, b5⟩ := HF.out.blk; obtain ⟨x0, x1, x2, x3, x4, x5, x6, xf⟩ := Wx.of HF.out.box; obtain ⟨r0, r1, r2, r3, r4, r5, r6, rf⟩ := Wx.of HF.out.res; have hsz := HF.out.ext.size; have z0 := (HF.out.ext.old.1 _ _ hba).trans Z0.out
  go_wp2_with (go_at_call 134; have HF2 := Lib.hid (HF.out.put2 (a0)); (with_reducible refine (HT0.out _ HF2.out.ext).mono ?_); rintro e1 w1 ⟨rfl, hx1⟩; replace HF := Lib.hid (HF2.out.to hx1); clear HF2 hx1 c0 c1 c2 c3 c4 c5 c6 c7 b0 b1 b2 b3 b4 b5 x0 x1 x2 x3 x4 x5 x6 xf r0 r1 r2 r3 r4 r5 r6 rf hsz z0; obtain ⟨c0, c1, c2, c3, c4, c5, c6, c7⟩ := HF.out.src; obtain ⟨b0, b1, b2, b3, b4, b5⟩ := HF.out.blk; obtain ⟨x0, x1, x2, x3, x4, x5, x6, xf⟩ := Wx.of HF.out.box; obtain ⟨r0, r1, r2, r3, r4, r5, r6, rf⟩ := Wx.of HF.out.res; have hsz := HF.out.ext.size; have z0 := (HF.out.ext.old.1 _ _ hba).trans Z0.out)
  replace HF := Lib.hid (HF.out.put4 (sa))
  clear c0 c1 c2 c3 c4 c5 c6 c7 b0 b1 b2 b3 b4 b5 x0 x1 x2 x3 x4 x5 x6 xf r0 r1 r2 r3 r4 r5 r6 rf hsz z0
  generalize hG : (w1.setCell ⟨w.heap.size + 1 + 1 + 1, 4, none⟩ (I (sa))) = W5 at HF ⊢
  clear hG
  obtain ⟨W6, hW6⟩ : ∃ W6, W6 = (((((((W5.setCell ⟨w.heap.size + 1, 0, none⟩ (I (5))).setCell ⟨w.heap.size + 1, 1, none⟩ (I (i))).setCell ⟨w.heap.size + 1, 2, none⟩ (I (a0))).setCell ⟨w.heap.size + 1, 3, none⟩ (I (0))).setCell ⟨w.heap.size + 1, 4, none⟩ (I (sa))).setCell ⟨w.heap.size + 1, 5, none⟩ (I (0))).setCell ⟨w.heap.size + 1, 6, none⟩ (I (0))) := ⟨_, rfl⟩
  obtain ⟨⟨q0, q1, q2, q3, q4, q5, q6⟩, he⟩ := fi_end HF.out _ _ _ _ _ _ _ hW6
  have HE := Lib.hid he
  clear he
  rw [← hW6]; clear hW6
  exact bodyPost_ret (v := .agg #[I (5), I (i), I (a0), I (0), I (sa), I (0), I (0)]) (by simp [results, Tryz.results88, go_sem, q0, q1, q2, q3, q4, q5, q6]) rfl ⟨rfl, HE.out⟩
set_option maxRecDepth 100000 in
set_option maxHeartbeats 1000000 in
theorem first_10 {w : World} {D : Dia} {F : Nat → Int} {p : Pl} {q : So} (m : SoM w D F p q) (wf : WF D) (hF : ∀ j, j < D.nb → 0 ≤ F j ∧ F j ≤ 30) (i : Nat) (hi : i < D.nb) (hk : (D.B i).k = 10) (hT : TabO w) : Calls Tryz.prog 88 #[sov D p q, I i] w (FiR D F i w) := by
  obtain ⟨b, o, hA, hbl, hc⟩ := m.dm.blocks (by omega)
  obtain ⟨y0, y1, y2, y3, y4, y5⟩ := hc i hi
  have hi' : (i : Int) < (D.nb : Int) := by omega
  have ht := hT 10 (by omega)
  have htl := World.block_lt_of_cell? w _ ht
  have har := wf.ar i hi
  have harg := wf.arg i hi
  have hnb := wf.nb
  have bFi := hF i hi
  rw [hk] at har
  rw [hk] at y0
  have HM := Lib.hid m
  have hn : (D.B i).n = 1 := by
    have : arity 10 = 1 := by decide
    omega
  obtain ⟨ba, oa, hAA, hba, hca⟩ := (m.dm.args i hi).1 (by omega)
  rw [hn, hAA] at y1
  have z0 := hca 0 (by omega)
  have g0 := harg 0 (by omega)
  obtain ⟨a0, ha0⟩ : ∃ a0 : Nat, (D.B i).a 0 = (a0 : Int) := ⟨((D.B i).a 0).toNat, by omega⟩
  have l0 : a0 < D.nb := by unfold cntB at g0; rw [hk] at g0; simp at g0; omega
  rw [Nat.add_zero] at z0
  rw [ha0] at z0
  have Z0 := Lib.hid z0
  clear hca hAA g0 z0
  obtain ⟨W4, hW4⟩ : ∃ W4, W4 = (((w.alloc (.cells #[.slice p.AI D.ni p.cI, .slice p.AB D.nb p.cB, .slice p.AO D.no p.cO, .slice q.Ao q.lo q.co, .slice q.Ad q.ld q.cd, .slice q.Ac q.lc q.cc, .slice q.Af D.nb q.cf, .slice q.Ar D.nb q.cr] 85)).alloc (.cells #[I 0, I 0, I 0, I 0, I 0, I 0, I 0] 83)).alloc (.cells #[I 10, .slice (some ⟨ba, oa, none⟩) 1 (p.cA i), I (D.B i).vn, I (D.B i).ve, I (D.B i).un, I (D.B i).ue] 51)).alloc (.cells #[I 10, I i, I 0, I 0, I 0, I 0, I 0] 83) := ⟨_, rfl⟩
  have HF := Lib.hid (f4_start w D p q 10 10 (some ⟨ba, oa, none⟩) 1 (p.cA i) (D.B i).vn (D.B i).ve (D.B i).un (D.B i).ue i hW4 (D.B i).a)
  have HT0 : Hid (∀ w', Ext w w' → Calls Tryz.prog 134 #[sov D p q, I i, I a0] w' fun e w'' => e = .returned (I (F i - F a0)) ∧ Ext w' w'') := fun w' x => toScale_any (HM.out.ext x) i a0 hi l0 (hF i hi) (hF a0 l0)
  have HV : Hid (fiX D F i = ⟨10, i, a0, 0, F i - F a0, 0, 0⟩) := by show _ = _; unfold fiX; simp [hk, ha0]
  unfold FiR
  rw [HV.out]; clear HV
  generalize F i - F a0 = sa at *
  clear hc m har harg
  go_enter Tryz.func88, Tryz.ntmps88
  go_upto_region 3 with fail
  (try rw [← hA])
  rw [← hW4]; clear hW4 hA
  obtain ⟨c0, c1, c2, c3, c4, c5, c6, c7⟩ := HF.out.src; obtain ⟨b0, b1, b2, b3, b4, b5⟩ := HF.out.blk; obtain ⟨x0, x1, x2, x3, x4, x5, x6, xf⟩ := Wx.of HF.out.box; obtain ⟨r0, r1, r2, r3, r4, r5, r6, rf⟩ := Wx.of HF.out.res; have hsz := HF.out.ext.size; have z0 := (HF.out.ext.old.1 _ _ hba).trans Z0.out
  go_wp2_with (go_at_call 134; have HF2 := Lib.hid (HF.out.put2 (a0)); (with_reducible refine (HT0.out _ HF2.out.ext).mono ?_); rintro e1 w1 ⟨rfl, hx1⟩; replace HF := Lib.hid (HF2.out.to hx1); clear HF2 hx1 c0 c1 c2 c3 c4 c5 c6 c7 b0 b1 b2 b3 b4 b5 x0 x1 x2 x3 x4 x5 x6 xf r0 r1 r2 r3 r4 r5 r6 rf hsz z0; obtain ⟨c0, c1, c2, c3, c4, c5, c6, c7⟩ := HF.out.src; obtain ⟨b0, b1, b2, b3, b4, b5⟩ := HF.out.blk; obtain ⟨x0, x1, x2, x3, x4, x5, x6, xf⟩ := Wx.of HF.out.box; obtain ⟨r0, r1, r2, r3, r4, r5, r6, rf⟩ := Wx.of HF.out.res; have hsz := HF.out.ext.size; have z0 := (HF.out.ext.old.1 _ _ hba).trans Z0.out)
  replace HF := Lib.hid (HF.out.put4 (sa))
  clear c0 c1 c2 c3 c4 c5 c6 c7 b0 b1 b2 b3 b4 b5 x0 x1 x2 x3 x4 x5 x6 xf r0 r1 r2 r3 r4 r5 r6 rf hsz z0
  generalize hG : (w1.setCell ⟨w.heap.size + 1 + 1 + 1, 4, none⟩ (I (sa))) = W5 at HF ⊢
  clear hG
  obtain ⟨W6, hW6⟩ : ∃ W6, W6 = (((((((W5.setCell ⟨w.heap.size + 1, 0, none⟩ (I (10))).setCell ⟨w.heap.size + 1, 1, none⟩ (I (i))).setCell ⟨w.heap.size + 1, 2, none⟩ (I (a0))).setCell ⟨w.heap.size + 1, 3, none⟩ (I (0))).setCell ⟨w.heap.size + 1, 4, none⟩ (I (sa))).setCell ⟨w.heap.size + 1, 5, none⟩ (I (0))).setCell ⟨w.heap.size + 1, 6, none⟩ (I (0))) := ⟨_, rfl⟩
  obtain ⟨⟨q0, q1, q2, q3, q4, q5, q6⟩, he⟩ := fi_end HF.out _ _ _ _ _ _ _ hW6
  have HE := Lib.hid he
  clear he
  rw [← hW6]; clear hW6
  exact bodyPost_ret (v := .agg #[I (10), I (i), I (a0), I (0), I (sa), I (0), I (0)]) (by simp [results, Tryz.results88, go_sem, q0, q1, q2, q3, q4, q5, q6]) rfl ⟨rfl, HE.out⟩
set_option maxRecDepth 100000 in
set_option maxHeartbeats 1000000 in
theorem first_3 {w : World} {D : Dia} {F : Nat → Int} {p : Pl} {q : So} (m : SoM w D F p q) (wf : WF D) (hF : ∀ j, j < D.nb → 0 ≤ F j ∧ F j ≤ 30) (i : Nat) (hi : i < D.nb) (hk : (D.B i).k = 3) (hT : TabO w) : Calls Tryz.prog 88 #[sov D p q, I i] w (FiR D F i w) := by
  obtain ⟨b, o, hA, hbl, hc⟩ := m.dm.blocks (by omega)
  obtain ⟨y0, y1, y2, y3, y4, y5⟩ := hc i hi
  have hi' : (i : Int) < (D.nb : Int) := by omega
  have ht := hT 3 (by omega)
  have htl := World.block_lt_of_cell? w _ ht
  have har := wf.ar i hi
  have harg := wf.arg i hi
  have hnb := wf.nb
  have bFi := hF i hi
  rw [hk] at har
  rw [hk] at y0
  have HM := Lib.hid m
  have hn : (D.B i).n = 2 := by
    have : arity 3 = 2 := by decide
    omega
  obtain ⟨ba, oa, hAA, hba, hca⟩ := (m.dm.args i hi).1 (by omega)
  rw [hn, hAA] at y1
  have z0 := hca 0 (by omega)
  have g0 := harg 0 (by omega)
  obtain ⟨a0, ha0⟩ : ∃ a0 : Nat, (D.B i).a 0 = (a0 : Int) := ⟨((D.B i).a 0).toNat, by omega⟩
  have l0 : a0 < D.nb := by unfold cntB at g0; rw [hk] at g0; simp at g0; omega
  have z1 := hca 1 (by omega)
  have g1 := harg 1 (by omega)
  obtain ⟨a1, ha1⟩ : ∃ a1 : Nat, (D.B i).a 1 = (a1 : Int) := ⟨((D.B i).a 1).toNat, by omega⟩
  have l1 : a1 < D.nb := by unfold cntB at g1; rw [hk] at g1; simp at g1; omega
  rw [Nat.add_zero] at z0
  rw [ha0] at z0
  have Z0 := Lib.hid z0
  rw [ha1] at z1
  have Z1 := Lib.hid z1
  clear hca hAA g0 z0 g1 z1
  obtain ⟨W4, hW4⟩ : ∃ W4, W4 = (((w.alloc (.cells #[.slice p.AI D.ni p.cI, .slice p.AB D.nb p.cB, .slice p.AO D.no p.cO, .slice q.Ao q.lo q.co, .slice q.Ad q.ld q.cd, .slice q.Ac q.lc q.cc, .slice q.Af D.nb q.cf, .slice q.Ar D.nb q.cr] 85)).alloc (.cells #[I 0, I 0, I 0, I 0, I 0, I 0, I 0] 83)).alloc (.cells #[I 3, .slice (some ⟨ba, oa, none⟩) 2 (p.cA i), I (D.B i).vn, I (D.B i).ve, I (D.B i).un, I (D.B i).ue] 51)).alloc (.cells #[I 3, I i, I 0, I 0, I 0, I 0, I 0] 83) := ⟨_, rfl⟩
  have HF := Lib.hid (f4_start w D p q 3 3 (some ⟨ba, oa, none⟩) 2 (p.cA i) (D.B i).vn (D.B i).ve (D.B i).un (D.B i).ue i hW4 (D.B i).a)
  have HT0 : Hid (∀ w', Ext w w' → Calls Tryz.prog 134 #[sov D p q, I i, I a0] w' fun e w'' => e = .returned (I (F i - F a0)) ∧ Ext w' w'') := fun w' x => toScale_any (HM.out.ext x) i a0 hi l0 (hF i hi) (hF a0 l0)
  have HT1 : Hid (∀ w', Ext w w' → Calls Tryz.prog 134 #[sov D p q, I i, I a1] w' fun e w'' => e = .returned (I (F i - F a1)) ∧ Ext w' w'') := fun w' x => toScale_any (HM.out.ext x) i a1 hi l1 (hF i hi) (hF a1 l1)
  have HV : Hid (fiX D F i = ⟨3, i, a0, a1, F i - F a0, F i - F a1, 0⟩) := by show _ = _; unfold fiX; simp [hk, ha0, ha1]
  unfold FiR
  rw [HV.out]; clear HV
  obtain ⟨sa, hsa⟩ : ∃ sa, F i - F a0 = sa := ⟨_, rfl⟩
  obtain ⟨sb, hsb⟩ : ∃ sb, F i - F a1 = sb := ⟨_, rfl⟩
  rw [hsa] at HT0 ⊢
  rw [hsb] at HT1 ⊢
  clear hsa hsb
  clear hc m har harg
  go_enter Tryz.func88, Tryz.ntmps88
  go_upto_region 3 with fail
  (try rw [← hA])
  rw [← hW4]; clear hW4 hA
  obtain ⟨c0, c1, c2, c3, c4, c5, c6, c7⟩ := HF.out.src; obtain ⟨b0, b1, b2, b3, b4, b5⟩ := HF.out.blk; obtain ⟨x0, x1, x2, x3, x4, x5, x6, xf⟩ := Wx.of HF.out.box; obtain ⟨r0, r1, r2, r3, r4, r5, r6, rf⟩ := Wx.of HF.out.res; have hsz := HF.out.ext.size; have z0 := (HF.out.ext.old.1 _ _ hba).trans Z0.out; have z1 := (HF.out.ext.old.1 _ _ hba).trans Z1.out
  go_upto_region 13 with (go_at_call 134; have HF2 := Lib.hid (HF.out.put2 (a0)); (with_reducible refine (HT0.out _ HF2.out.ext).mono ?_); rintro e1 w1 ⟨rfl, hx1⟩; replace HF := Lib.hid (HF2.out.to hx1); clear HF2 hx1 c0 c1 c2 c3 c4 c5 c6 c7 b0 b1 b2 b3 b4 b5 x0 x1 x2 x3 x4 x5 x6 xf r0 r1 r2 r3 r4 r5 r6 rf hsz z0 z1; obtain ⟨c0, c1, c2, c3, c4, c5, c6, c7⟩ := HF.out.src; obtain ⟨b0, b1, b2, b3, b4, b5⟩ := HF.out.blk; obtain ⟨x0, x1, x2, x3, x4, x5, x6, xf⟩ := Wx.of HF.out.box; obtain ⟨r0, r1, r2, r3, r4, r5, r6, rf⟩ := Wx.of HF.out.res; have hsz := HF.out.ext.size; have z0 := (HF.out.ext.old.1 _ _ hba).trans Z0.out; have z1 := (HF.out.ext.old.1 _ _ hba).trans Z1.out)
  replace HF := Lib.hid (HF.out.put4 (sa))
  clear c0 c1 c2 c3 c4 c5 c6 c7 b0 b1 b2 b3 b4 b5 x0 x1 x2 x3 x4 x5 x6 xf r0 r1 r2 r3 r4 r5 r6 rf hsz z0 z1
  generalize hG : (w1.setCell ⟨w.heap.size + 1 + 1 + 1, 4, none⟩ (I (sa))) = V1 at HF ⊢
  clear hG
  obtain ⟨c0, c1, c2, c3, c4, c5, c6, c7⟩ := HF.out.src; obtain ⟨b0, b1, b2, b3, b4, b5⟩ := HF.out.blk; obtain ⟨x0, x1, x2, x3, x4, x5, x6, xf⟩ := Wx.of HF.out.box; obtain ⟨r0, r1, r2, r3, r4, r5, r6, rf⟩ := Wx.of HF.out.res; have hsz := HF.out.ext.size; have z0 := (HF.out.ext.old.1 _ _ hba).trans Z0.out; have z1 := (HF.out.ext.old.1 _ _ hba).trans Z1.out
  go_wp2_with (go_at_call 134; have HF2 := Lib.hid (HF.out.put3 (a1)); (with_reducible refine (HT1.out _ HF2.out.ext).mono ?_); rintro e2 w2 ⟨rfl, hx1⟩; replace HF := Lib.hid (HF2.out.to hx1); clear HF2 hx1 c0 c1 c2 c3 c4 c5 c6 c7 b0 b1 b2 b3 b4 b5 x0 x1 x2 x3 x4 x5 x6 xf r0 r1 r2 r3 r4 r5 r6 rf hsz z0 z1; obtain ⟨c0, c1, c2, c3, c4, c5, c6, c7⟩ := HF.out.src; obtain ⟨b0, b1, b2, b3, b4, b5⟩ := HF.out.blk; obtain ⟨x0, x1, x2, x3, x4, x5, x6, xf⟩ := Wx.of HF.out.box; obtain ⟨r0, r1, r2, r3, r4, r5, r6, rf⟩ := Wx.of HF.out.res; have hsz := HF.out.ext.size; have z0 := (HF.out.ext.old.1 _ _ hba).trans Z0.out; have z1 := (HF.out.ext.old.1 _ _ hba).trans Z1.out)
  replace HF := Lib.hid (HF.out.put5 (sb))
  clear c0 c1 c2 c3 c4 c5 c6 c7 b0 b1 b2 b3 b4 b5 x0 x1 x2 x3 x4 x5 x6 xf r0 r1 r2 r3 r4 r5 r6 rf hsz z0 z1
  generalize hG : (w2.setCell ⟨w.heap.size + 1 + 1 + 1, 5, none⟩ (I (sb))) = W5 at HF ⊢
  clear hG
  obtain ⟨W6, hW6⟩ : ∃ W6, W6 = (((((((W5.setCell ⟨w.heap.size + 1, 0, none⟩ (I (3))).setCell ⟨w.heap.size + 1, 1, none⟩ (I (i))).setCell ⟨w.heap.size + 1, 2, none⟩ (I (a0))).setCell ⟨w.heap.size + 1, 3, none⟩ (I (a1))).setCell ⟨w.heap.size + 1, 4, none⟩ (I (sa))).setCell ⟨w.heap.size + 1, 5, none⟩ (I (sb))).setCell ⟨w.heap.size + 1, 6, none⟩ (I (0))) := ⟨_, rfl⟩
  obtain ⟨⟨q0, q1, q2, q3, q4, q5, q6⟩, he⟩ := fi_end HF.out _ _ _ _ _ _ _ hW6
  have HE := Lib.hid he
  clear he
  rw [← hW6]; clear hW6
  exact bodyPost_ret (v := .agg #[I (3), I (i), I (a0), I (a1), I (sa), I (sb), I (0)]) (by simp [results, Tryz.results88, go_sem, q0, q1, q2, q3, q4, q5, q6]) rfl ⟨rfl, HE.out⟩
set_option maxRecDepth 100000 in
set_option maxHeartbeats 1000000 in
theorem first_4 {w : World} {D : Dia} {F : Nat → Int} {p : Pl} {q : So} (m : SoM w D F p q) (wf : WF D) (hF : ∀ j, j < D.nb → 0 ≤ F j ∧ F j ≤ 30) (i : Nat) (hi : i < D.nb) (hk : (D.B i).k = 4) (hT : TabO w) : Calls Tryz.prog 88 #[sov D p q, I i] w (FiR D F i w) := by
  obtain ⟨b, o, hA, hbl, hc⟩ := m.dm.blocks (by omega)
  obtain ⟨y0, y1, y2, y3, y4, y5⟩ := hc i hi
  have hi' : (i : Int) < (D.nb : Int) := by omega
  have ht := hT 4 (by omega)
  have htl := World.block_lt_of_cell? w _ ht
  have har := wf.ar i hi
  have harg := wf.arg i hi
  have hnb := wf.nb
  have bFi := hF i hi
  rw [hk] at har
  rw [hk] at y0
  have HM := Lib.hid m
  have hn : (D.B i).n = 2 := by
    have : arity 4 = 2 := by decide
    omega
  obtain ⟨ba, oa, hAA, hba, hca⟩ := (m.dm.args i hi).1 (by omega)
  rw [hn, hAA] at y1
  have z0 := hca 0 (by omega)
  have g0 := harg 0 (by omega)
  obtain ⟨a0, ha0⟩ : ∃ a0 : Nat, (D.B i).a 0 = (a0 : Int) := ⟨((D.B i).a 0).toNat, by omega⟩
  have l0 : a0 < D.nb := by unfold cntB at g0; rw [hk] at g0; simp at g0; omega
  have z1 := hca 1 (by omega)
  have g1 := harg 1 (by omega)
  obtain ⟨a1, ha1⟩ : ∃ a1 : Nat, (D.B i).a 1 = (a1 : Int) := ⟨((D.B i).a 1).toNat, by omega⟩
  have l1 : a1 < D.nb := by unfold cntB at g1; rw [hk] at g1; simp at g1; omega
  rw [Nat.add_zero] at z0
  rw [ha0] at z0
  have Z0 := Lib.hid z0
  rw [ha1] at z1
  have Z1 := Lib.hid z1
  clear hca hAA g0 z0 g1 z1
  obtain ⟨W4, hW4⟩ : ∃ W4, W4 = (((w.alloc (.cells #[.slice p.AI D.ni p.cI, .slice p.AB D.nb p.cB, .slice p.AO D.no p.cO, .slice q.Ao q.lo q.co, .slice q.Ad q.ld q.cd, .slice q.Ac q.lc q.cc, .slice q.Af D.nb q.cf, .slice q.Ar D.nb q.cr] 85)).alloc (.cells #[I 0, I 0, I 0, I 0, I 0, I 0, I 0] 83)).alloc (.cells #[I 4, .slice (some ⟨ba, oa, none⟩) 2 (p.cA i), I (D.B i).vn, I (D.B i).ve, I (D.B i).un, I (D.B i).ue] 51)).alloc (.cells #[I 4, I i, I 0, I 0, I 0, I 0, I 0] 83) := ⟨_, rfl⟩
  have HF := Lib.hid (f4_start w D p q 4 4 (some ⟨ba, oa, none⟩) 2 (p.cA i) (D.B i).vn (D.B i).ve (D.B i).un (D.B i).ue i hW4 (D.B i).a)
  have HT0 : Hid (∀ w', Ext w w' → Calls Tryz.prog 134 #[sov D p q, I i, I a0] w' fun e w'' => e = .returned (I (F i - F a0)) ∧ Ext w' w'') := fun w' x => toScale_any (HM.out.ext x) i a0 hi l0 (hF i hi) (hF a0 l0)
  have HT1 : Hid (∀ w', Ext w w' → Calls Tryz.prog 134 #[sov D p q, I i, I a1] w' fun e w'' => e = .returned (I (F i - F a1)) ∧ Ext w' w'') := fun w' x => toScale_any (HM.out.ext x) i a1 hi l1 (hF i hi) (hF a1 l1)
  have HV : Hid (fiX D F i = ⟨4, i, a0, a1, F i - F a0, F i - F a1, 0⟩) := by show _ = _; unfold fiX; simp [hk, ha0, ha1]
  unfold FiR
  rw [HV.out]; clear HV
  obtain ⟨sa, hsa⟩ : ∃ sa, F i - F a0 = sa := ⟨_, rfl⟩
  obtain ⟨sb, hsb⟩ : ∃ sb, F i - F a1 = sb := ⟨_, rfl⟩
  rw [hsa] at HT0 ⊢
  rw [hsb] at HT1 ⊢
  clear hsa hsb
  clear hc m har harg
  go_enter Tryz.func88, Tryz.ntmps88
  go_upto_region 3 with fail
  (try rw [← hA])
  rw [← hW4]; clear hW4 hA
  obtain ⟨c0, c1, c2, c3, c4, c5, c6, c7⟩ := HF.out.src; obtain ⟨b0, b1, b2, b3, b4, b5⟩ := HF.out.blk; obtain ⟨x0, x1, x2, x3, x4, x5, x6, xf⟩ := Wx.of HF.out.box; obtain ⟨r0, r1, r2, r3, r4, r5, r6, rf⟩ := Wx.of HF.out.res; have hsz := HF.out.ext.size; have z0 := (HF.out.ext.old.1 _ _ hba).trans Z0.out; have z1 := (HF.out.ext.old.1 _ _ hba).trans Z1.out
  go_upto_region 13 with (go_at_call 134; have HF2 := Lib.hid (HF.out.put2 (a0)); (with_reducible refine (HT0.out _ HF2.out.ext).mono ?_); rintro e1 w1 ⟨rfl, hx1⟩; replace HF := Lib.hid (HF2.out.to hx1); clear HF2 hx1 c0 c1 c2 c3 c4 c5 c6 c7 b0 b1 b2 b3 b4 b5 x0 x1 x2 x3 x4 x5 x6 xf r0 r1 r2 r3 r4 r5 r6 rf hsz z0 z1; obtain ⟨c0, c1, c2, c3, c4, c5, c6, c7⟩ := HF.out.src; obtain ⟨b0, b1, b2, b3, b4, b5⟩ := HF.out.blk; obtain ⟨x0, x1, x2, x3, x4, x5, x6, xf⟩ := Wx.of HF.out.box; obtain ⟨r0, r1, r2, r3, r4, r5, r6, rf⟩ := Wx.of HF.out.res; have hsz := HF.out.ext.size; have z0 := (HF.out.ext.old.1 _ _ hba).trans Z0.out; have z1 := (HF.out.ext.old.1 _ _ hba).trans Z1.out)
  replace HF := Lib.hid (HF.out.put4 (sa))
  clear c0 c1 c2 c3 c4 c5 c6 c7 b0 b1 b2 b3 b4 b5 x0 x1 x2 x3 x4 x5 x6 xf r0 r1 r2 r3 r4 r5 r6 rf hsz z0 z1
  generalize hG : (w1.setCell ⟨w.heap.size + 1 + 1 + 1, 4, none⟩ (I (sa))) = V1 at HF ⊢
  clear hG
  obtain ⟨c0, c1, c2, c3, c4, c5, c6, c7⟩ := HF.out.src; obtain ⟨b0, b1, b2, b3, b4, b5⟩ := HF.out.blk; obtain ⟨x0, x1, x2, x3, x4, x5, x6, xf⟩ := Wx.of HF.out.box; obtain ⟨r0, r1, r2, r3, r4, r5, r6, rf⟩ := Wx.of HF.out.res; have hsz := HF.out.ext.size; have z0 := (HF.out.ext.old.1 _ _ hba).trans Z0.out; have z1 := (HF.out.ext.old.1 _ _ hba).trans Z1.out
  go_wp2_with (go_at_call 134; have HF2 := Lib.hid (HF.out.put3 (a1)); (with_reducible refine (HT1.out _ HF2.out.ext).mono ?_); rintro e2 w2 ⟨rfl, hx1⟩; replace HF := Lib.hid (HF2.out.to hx1); clear HF2 hx1 c0 c1 c2 c3 c4 c5 c6 c7 b0 b1 b2 b3 b4 b5 x0 x1 x2 x3 x4 x5 x6 xf r0 r1 r2 r3 r4 r5 r6 rf hsz z0 z1; obtain ⟨c0, c1, c2, c3, c4, c5, c6, c7⟩ := HF.out.src; obtain ⟨b0, b1, b2, b3, b4, b5⟩ := HF.out.blk; obtain ⟨x0, x1, x2, x3, x4, x5, x6, xf⟩ := Wx.of HF.out.box; obtain ⟨r0, r1, r2, r3, r4, r5, r6, rf⟩ := Wx.of HF.out.res; have hsz := HF.out.ext.size; have z0 := (HF.out.ext.old.1 _ _ hba).trans Z0.out; have z1 := (HF.out.ext.old.1 _ _ hba).trans Z1.out)
  replace HF := Lib.hid (HF.out.put5 (sb))
  clear c0 c1 c2 c3 c4 c5 c6 c7 b0 b1 b2 b3 b4 b5 x0 x1 x2 x3 x4 x5 x6 xf r0 r1 r2 r3 r4 r5 r6 rf hsz z0 z1
  generalize hG : (w2.setCell ⟨w.heap.size + 1 + 1 + 1, 5, none⟩ (I (sb))) = W5 at HF ⊢
  clear hG
  obtain ⟨W6, hW6⟩ : ∃ W6, W6 = (((((((W5.setCell ⟨w.heap.size + 1, 0, none⟩ (I (4))).setCell ⟨w.heap.size + 1, 1, none⟩ (I (i))).setCell ⟨w.heap.size + 1, 2, none⟩ (I (a0))).setCell ⟨w.heap.size + 1, 3, none⟩ (I (a1))).setCell ⟨w.heap.size + 1, 4, none⟩ (I (sa))).setCell ⟨w.heap.size + 1, 5, none⟩ (I (sb))).setCell ⟨w.heap.size + 1, 6, none⟩ (I (0))) := ⟨_, rfl⟩
  obtain ⟨⟨q0, q1, q2, q3, q4, q5, q6⟩, he⟩ := fi_end HF.out _ _ _ _ _ _ _ hW6
  have HE := Lib.hid he
  clear he
  rw [← hW6]; clear hW6
  exact bodyPost_ret (v := .agg #[I (4), I (i), I (a0), I (a1), I (sa), I (sb), I (0)]) (by simp [results, Tryz.results88, go_sem, q0, q1, q2, q3, q4, q5, q6]) rfl ⟨rfl, HE.out⟩
set_option maxRecDepth 100000 in
set_option maxHeartbeats 1000000 in
theorem first_8 {w : World} {D : Dia} {F : Nat → Int} {p : Pl} {q : So} (m : SoM w D F p q) (wf : WF D) (hF : ∀ j, j < D.nb → 0 ≤ F j ∧ F j ≤ 30) (i : Nat) (hi : i < D.nb) (hk : (D.B i).k = 8) (hT : TabO w) : Calls Tryz.prog 88 #[sov D p q, I i] w (FiR D F i w) := by
  obtain ⟨b, o, hA, hbl, hc⟩ := m.dm.blocks (by omega)
  obtain ⟨y0, y1, y2, y3, y4, y5⟩ := hc i hi
  have hi' : (i : Int) < (D.nb : Int) := by omega
  have ht := hT 8 (by omega)
  have htl := World.block_lt_of_cell? w _ ht
  have har := wf.ar i hi
  have harg := wf.arg i hi
  have hnb := wf.nb
  have bFi := hF i hi
  rw [hk] at har
  rw [hk] at y0
  have HM := Lib.hid m
  have hn : (D.B i).n = 2 := by
    have : arity 8 = 2 := by decide
    omega
  obtain ⟨ba, oa, hAA, hba, hca⟩ := (m.dm.args i hi).1 (by omega)
  rw [hn, hAA] at y1
  have z0 := hca 0 (by omega)
  have g0 := harg 0 (by omega)
  obtain ⟨a0, ha0⟩ : ∃ a0 : Nat, (D.B i).a 0 = (a0 : Int) := ⟨((D.B i).a 0).toNat, by omega⟩
  have l0 : a0 < D.nb := by unfold cntB at g0; rw [hk] at g0; simp at g0; omega
  have z1 := hca 1 (by omega)
  have g1 := harg 1 (by omega)
  obtain ⟨a1, ha1⟩ : ∃ a1 : Nat, (D.B i).a 1 = (a1 : Int) := ⟨((D.B i).a 1).toNat, by omega⟩
  have l1 : a1 < D.nb := by unfold cntB at g1; rw [hk] at g1; simp at g1; omega
  rw [Nat.add_zero] at z0
  rw [ha0] at z0
  have Z0 := Lib.hid z0
  rw [ha1] at z1
  have Z1 := Lib.hid z1
  clear hca hAA g0 z0 g1 z1
  obtain ⟨W4, hW4⟩ : ∃ W4, W4 = (((w.alloc (.cells #[.slice p.AI D.ni p.cI, .slice p.AB D.nb p.cB, .slice p.AO D.no p.cO, .slice q.Ao q.lo q.co, .slice q.Ad q.ld q.cd, .slice q.Ac q.lc q.cc, .slice q.Af D.nb q.cf, .slice q.Ar D.nb q.cr] 85)).alloc (.cells #[I 0, I 0, I 0, I 0, I 0, I 0, I 0] 83)).alloc (.cells #[I 8, .slice (some ⟨ba, oa, none⟩) 2 (p.cA i), I (D.B i).vn, I (D.B i).ve, I (D.B i).un, I (D.B i).ue] 51)).alloc (.cells #[I 8, I i, I 0, I 0, I 0, I 0, I 0] 83) := ⟨_, rfl⟩
  have HF := Lib.hid (f4_start w D p q 8 8 (some ⟨ba, oa, none⟩) 2 (p.cA i) (D.B i).vn (D.B i).ve (D.B i).un (D.B i).ue i hW4 (D.B i).a)
  have HT0 : Hid (∀ w', Ext w w' → Calls Tryz.prog 134 #[sov D p q, I i, I a0] w' fun e w'' => e = .returned (I (F i - F a0)) ∧ Ext w' w'') := fun w' x => toScale_any (HM.out.ext x) i a0 hi l0 (hF i hi) (hF a0 l0)
  have HT1 : Hid (∀ w', Ext w w' → Calls Tryz.prog 134 #[sov D p q, I i, I a1] w' fun e w'' => e = .returned (I (F i - F a1)) ∧ Ext w' w'') := fun w' x => toScale_any (HM.out.ext x) i a1 hi l1 (hF i hi) (hF a1 l1)
  have HV : Hid (fiX D F i = ⟨8, i, a0, a1, F i - F a0, F i - F a1, 0⟩) := by show _ = _; unfold fiX; simp [hk, ha0, ha1]
  unfold FiR
  rw [HV.out]; clear HV
  obtain ⟨sa, hsa⟩ : ∃ sa, F i - F a0 = sa := ⟨_, rfl⟩
  obtain ⟨sb, hsb⟩ : ∃ sb, F i - F a1 = sb := ⟨_, rfl⟩
  rw [hsa] at HT0 ⊢
  rw [hsb] at HT1 ⊢
  clear hsa hsb
  clear hc m har harg
  go_enter Tryz.func88, Tryz.ntmps88
  go_upto_region 3 with fail
  (try rw [← hA])
  rw [← hW4]; clear hW4 hA
  obtain ⟨c0, c1, c2, c3, c4, c5, c6, c7⟩ := HF.out.src; obtain ⟨b0, b1, b2, b3, b4, b5⟩ := HF.out.blk; obtain ⟨x0, x1, x2, x3, x4, x5, x6, xf⟩ := Wx.of HF.out.box; obtain ⟨r0, r1, r2, r3, r4, r5, r6, rf⟩ := Wx.of HF.out.res; have hsz := HF.out.ext.size; have z0 := (HF.out.ext.old.1 _ _ hba).trans Z0.out; have z1 := (HF.out.ext.old.1 _ _ hba).trans Z1.out
  go_upto_region 13 with (go_at_call 134; have HF2 := Lib.hid (HF.out.put2 (a0)); (with_reducible refine (HT0.out _ HF2.out.ext).mono ?_); rintro e1 w1 ⟨rfl, hx1⟩; replace HF := Lib.hid (HF2.out.to hx1); clear HF2 hx1 c0 c1 c2 c3 c4 c5 c6 c7 b0 b1 b2 b3 b4 b5 x0 x1 x2 x3 x4 x5 x6 xf r0 r1 r2 r3 r4 r5 r6 rf hsz z0 z1; obtain ⟨c0, c1, c2, c3, c4, c5, c6, c7⟩ := HF.out.src; obtain ⟨b0, b1, b2, b3, b4, b5⟩ := HF.out.blk; obtain ⟨x0, x1, x2, x3, x4, x5, x6, xf⟩ := Wx.of HF.out.box; obtain ⟨r0, r1, r2, r3, r4, r5, r6, rf⟩ := Wx.of HF.out.res; have hsz := HF.out.ext.size; have z0 := (HF.out.ext.old.1 _ _ hba).trans Z0.out; have z1 := (HF.out.ext.old.1 _ _ hba).trans Z1.out)
  replace HF := Lib.hid (HF.out.put4 (sa))
  clear c0 c1 c2 c3 c4 c5 c6 c7 b0 b1 b2 b3 b4 b5 x0 x1 x2 x3 x4 x5 x6 xf r0 r1 r2 r3 r4 r5 r6 rf hsz z0 z1
  generalize hG : (w1.setCell ⟨w.heap.size + 1 + 1 + 1, 4, none⟩ (I (sa))) = V1 at HF ⊢
  clear hG
  obtain ⟨c0, c1, c2, c3, c4, c5, c6, c7⟩ := HF.out.src; obtain ⟨b0, b1, b2, b3, b4, b5⟩ := HF.out.blk; obtain ⟨x0, x1, x2, x3, x4, x5, x6, xf⟩ := Wx.of HF.out.box; obtain ⟨r0, r1, r2, r3, r4, r5, r6, rf⟩ := Wx.of HF.out.res; have hsz := HF.out.ext.size; have z0 := (HF.out.ext.old.1 _ _ hba).trans Z0.out; have z1 := (HF.out.ext.old.1 _ _ hba).trans Z1.out
  go_wp2_with (go_at_call 134; have HF2 := Lib.hid (HF.out.put3 (a1)); (with_reducible refine (HT1.out _ HF2.out.ext).mono ?_); rintro e2 w2 ⟨rfl, hx1⟩; replace HF := Lib.hid (HF2.out.to hx1); clear HF2 hx1 c0 c1 c2 c3 c4 c5 c6 c7 b0 b1 b2 b3 b4 b5 x0 x1 x2 x3 x4 x5 x6 xf r0 r1 r2 r3 r4 r5 r6 rf hsz z0 z1; obtain ⟨c0, c1, c2, c3, c4, c5, c6, c7⟩ := HF.out.src; obtain ⟨b0, b1, b2, b3, b4, b5⟩ := HF.out.blk; obtain ⟨x0, x1, x2, x3, x4, x5, x6, xf⟩ := Wx.of HF.out.box; obtain ⟨r0, r1, r2, r3, r4, r5, r6, rf⟩ := Wx.of HF.out.res; have hsz := HF.out.ext.size; have z0 := (HF.out.ext.old.1 _ _ hba).trans Z0.out; have z1 := (HF.out.ext.old.1 _ _ hba).trans Z1.out)
  replace HF := Lib.hid (HF.out.put5 (sb))
  clear c0 c1 c2 c3 c4 c5 c6 c7 b0 b1 b2 b3 b4 b5 x0 x1 x2 x3 x4 x5 x6 xf r0 r1 r2 r3 r4 r5 r6 rf hsz z0 z1
  generalize hG : (w2.setCell ⟨w.heap.size + 1 + 1 + 1, 5, none⟩ (I (sb))) = W5 at HF ⊢
  clear hG
  obtain ⟨W6, hW6⟩ : ∃ W6, W6 = (((((((W5.setCell ⟨w.heap.size + 1, 0, none⟩ (I (8))).setCell ⟨w.heap.size + 1, 1, none⟩ (I (i))).setCell ⟨w.heap.size + 1, 2, none⟩ (I (a0))).setCell ⟨w.heap.size + 1, 3, none⟩ (I (a1))).setCell ⟨w.heap.size + 1, 4, none⟩ (I (sa))).setCell ⟨w.heap.size + 1, 5, none⟩ (I (sb))).setCell ⟨w.heap.size + 1, 6, none⟩ (I (0))) := ⟨_, rfl⟩
  obtain ⟨⟨q0, q1, q2, q3, q4, q5, q6⟩, he⟩ := fi_end HF.out _ _ _ _ _ _ _ hW6
  have HE := Lib.hid he
  clear he
  rw [← hW6]; clear hW6
  exact bodyPost_ret (v := .agg #[I (8), I (i), I (a0), I (a1), I (sa), I (sb), I (0)]) (by simp [results, Tryz.results88, go_sem, q0, q1, q2, q3, q4, q5, q6]) rfl ⟨rfl, HE.out⟩
set_option maxRecDepth 100000 in
set_option maxHeartbeats 1000000 in
theorem first_9 {w : World} {D : Dia} {F : Nat → Int} {p : Pl} {q : So} (m : SoM w D F p q) (wf : WF D) (hF : ∀ j, j < D.nb → 0 ≤ F j ∧ F j ≤ 30) (i : Nat) (hi : i < D.nb) (hk : (D.B i).k = 9) (hT : TabO w) : Calls Tryz.prog 88 #[sov D p q, I i] w (FiR D F i w) := by
  obtain ⟨b, o, hA, hbl, hc⟩ := m.dm.blocks (by omega)
  obtain ⟨y0, y1, y2, y3, y4, y5⟩ := hc i hi
  have hi' : (i : Int) < (D.nb : Int) := by omega
  have ht := hT 9 (by omega)
  have htl := World.block_lt_of_cell? w _ ht
  have har := wf.ar i hi
  have harg := wf.arg i hi
  have hnb := wf.nb
  have bFi := hF i hi
  rw [hk] at har
  rw [hk] at y0
  have HM := Lib.hid m
  have hn : (D.B i).n = 2 := by
    have : arity 9 = 2 := by decide
    omega
  obtain ⟨ba, oa, hAA, hba, hca⟩ := (m.dm.args i hi).1 (by omega)
  rw [hn, hAA] at y1
  have z0 := hca 0 (by omega)
  have g0 := harg 0 (by omega)
  obtain ⟨a0, ha0⟩ : ∃ a0 : Nat, (D.B i).a 0 = (a0 : Int) := ⟨((D.B i).a 0).toNat, by omega⟩
  have l0 : a0 < D.nb := by unfold cntB at g0; rw [hk] at g0; simp at g0; omega
  have z1 := hca 1 (by omega)
  have g1 := harg 1 (by omega)
  obtain ⟨a1, ha1⟩ : ∃ a1 : Nat, (D.B i).a 1 = (a1 : Int) := ⟨((D.B i).a 1).toNat, by omega⟩
  have l1 : a1 < D.nb := by unfold cntB at g1; rw [hk] at g1; simp at g1; omega
  rw [Nat.add_zero] at z0
  rw [ha0] at z0
  have Z0 := Lib.hid z0
  rw [ha1] at z1
  have Z1 := Lib.hid z1
  clear hca hAA g0 z0 g1 z1
  obtain ⟨W4, hW4⟩ : ∃ W4, W4 = (((w.alloc (.cells #[.slice p.AI D.ni p.cI, .slice p.AB D.nb p.cB, .slice p.AO D.no p.cO, .slice q.Ao q.lo q.co, .slice q.Ad q.ld q.cd, .slice q.Ac q.lc q.cc, .slice q.Af D.nb q.cf, .slice q.Ar D.nb q.cr] 85)).alloc (.cells #[I 0, I 0, I 0, I 0, I 0, I 0, I 0] 83)).alloc (.cells #[I 9, .slice (some ⟨ba, oa, none⟩) 2 (p.cA i), I (D.B i).vn, I (D.B i).ve, I (D.B i).un, I (D.B i).ue] 51)).alloc (.cells #[I 9, I i, I 0, I 0, I 0, I 0, I 0] 83) := ⟨_, rfl⟩
  have HF := Lib.hid (f4_start w D p q 9 9 (some ⟨ba, oa, none⟩) 2 (p.cA i) (D.B i).vn (D.B i).ve (D.B i).un (D.B i).ue i hW4 (D.B i).a)
  have HT0 : Hid (∀ w', Ext w w' → Calls Tryz.prog 134 #[sov D p q, I i, I a0] w' fun e w'' => e = .returned (I (F i - F a0)) ∧ Ext w' w'') := fun w' x => toScale_any (HM.out.ext x) i a0 hi l0 (hF i hi) (hF a0 l0)
  have HT1 : Hid (∀ w', Ext w w' → Calls Tryz.prog 134 #[sov D p q, I i, I a1] w' fun e w'' => e = .returned (I (F i - F a1)) ∧ Ext w' w'') := fun w' x => toScale_any (HM.out.ext x) i a1 hi l1 (hF i hi) (hF a1 l1)
  have HV : Hid (fiX D F i = ⟨9, i, a0, a1, F i - F a0, F i - F a1, 0⟩) := by show _ = _; unfold fiX; simp [hk, ha0, ha1]
  unfold FiR
  rw [HV.out]; clear HV
  obtain ⟨sa, hsa⟩ : ∃ sa, F i - F a0 = sa := ⟨_, rfl⟩
  obtain ⟨sb, hsb⟩ : ∃ sb, F i - F a1 = sb := ⟨_, rfl⟩
  rw [hsa] at HT0 ⊢
  rw [hsb] at HT1 ⊢
  clear hsa hsb
  clear hc m har harg
  go_enter Tryz.func88, Tryz.ntmps88
  go_upto_region 3 with fail
  (try rw [← hA])
  rw [← hW4]; clear hW4 hA
  obtain ⟨c0, c1, c2, c3, c4, c5, c6, c7⟩ := HF.out.src; obtain ⟨b0, b1, b2, b3, b4, b5⟩ := HF.out.blk; obtain ⟨x0, x1, x2, x3, x4, x5, x6, xf⟩ := Wx.of HF.out.box; obtain ⟨r0, r1, r2, r3, r4, r5, r6, rf⟩ := Wx.of HF.out.res; have hsz := HF.out.ext.size; have z0 := (HF.out.ext.old.1 _ _ hba).trans Z0.out; have z1 := (HF.out.ext.old.1 _ _ hba).trans Z1.out
  go_upto_region 13 with (go_at_call 134; have HF2 := Lib.hid (HF.out.put2 (a0)); (with_reducible refine (HT0.out _ HF2.out.ext).mono ?_); rintro e1 w1 ⟨rfl, hx1⟩; replace HF := Lib.hid (HF2.out.to hx1); clear HF2 hx1 c0 c1 c2 c3 c4 c5 c6 c7 b0 b1 b2 b3 b4 b5 x0 x1 x2 x3 x4 x5 x6 xf r0 r1 r2 r3 r4 r5 r6 rf hsz z0 z1; obtain ⟨c0, c1, c2, c3, c4, c5, c6, c7⟩ := HF.out.src; obtain ⟨b0, b1, b2, b3, b4, b5⟩ := HF.out.blk; obtain ⟨x0, x1, x2, x3, x4, x5, x6, xf⟩ := Wx.of HF.out.box; obtain ⟨r0, r1, r2, r3, r4, r5, r6, rf⟩ := Wx.of HF.out.res; have hsz := HF.out.ext.size; have z0 := (HF.out.ext.old.1 _ _ hba).trans Z0.out; have z1 := (HF.out.ext.old.1 _ _ hba).trans Z1.out)
  replace HF := Lib.hid (HF.out.put4 (sa))
  clear c0 c1 c2 c3 c4 c5 c6 c7 b0 b1 b2 b3 b4 b5 x0 x1 x2 x3 x4 x5 x6 xf r0 r1 r2 r3 r4 r5 r6 rf hsz z0 z1
  generalize hG : (w1.setCell ⟨w.heap.size + 1 + 1 + 1, 4, none⟩ (I (sa))) = V1 at HF ⊢
  clear hG
  obtain ⟨c0, c1, c2, c3, c4, c5, c6, c7⟩ := HF.out.src; obtain ⟨b0, b1, b2, b3, b4, b5⟩ := HF.out.blk; obtain ⟨x0, x1, x2, x3, x4, x5, x6, xf⟩ := Wx.of HF.out.box; obtain ⟨r0, r1, r2, r3, r4, r5, r6, rf⟩ := Wx.of HF.out.res; have hsz := HF.out.ext.size; have z0 := (HF.out.ext.old.1 _ _ hba).trans Z0.out; have z1 := (HF.out.ext.old.1 _ _ hba).trans Z1.out
  go_wp2_with (go_at_call 134; have HF2 := Lib.hid (HF.out.put3 (a1)); (with_reducible refine (HT1.out _ HF2.out.ext).mono ?_); rintro e2 w2 ⟨rfl, hx1⟩; replace HF := Lib.hid (HF2.out.to hx1); clear HF2 hx1 c0 c1 c2 c3 c4 c5 c6 c7 b0 b1 b2 b3 b4 b5 x0 x1 x2 x3 x4 x5 x6 xf r0 r1 r2 r3 r4 r5 r6 rf hsz z0 z1; obtain ⟨c0, c1, c2, c3, c4, c5, c6, c7⟩ := HF.out.src; obtain ⟨b0, b1, b2, b3, b4, b5⟩ := HF.out.blk; obtain ⟨x0, x1, x2, x3, x4, x5, x6, xf⟩ := Wx.of HF.out.box; obtain ⟨r0, r1, r2, r3, r4, r5, r6, rf⟩ := Wx.of HF.out.res; have hsz := HF.out.ext.size; have z0 := (HF.out.ext.old.1 _ _ hba).trans Z0.out; have z1 := (HF.out.ext.old.1 _ _ hba).trans Z1.out)
  replace HF := Lib.hid (HF.out.put5 (sb))
  clear c0 c1 c2 c3 c4 c5 c6 c7 b0 b1 b2 b3 b4 b5 x0 x1 x2 x3 x4 x5 x6 xf r0 r1 r2 r3 r4 r5 r6 rf hsz z0 z1
  generalize hG : (w2.setCell ⟨w.heap.size + 1 + 1 + 1, 5, none⟩ (I (sb))) = W5 at HF ⊢
  clear hG
  obtain ⟨W6, hW6⟩ : ∃ W6, W6 = (((((((W5.setCell ⟨w.heap.size + 1, 0, none⟩ (I (9))).setCell ⟨w.heap.size + 1, 1, none⟩ (I (i))).setCell ⟨w.heap.size + 1, 2, none⟩ (I (a0))).setCell ⟨w.heap.size + 1, 3, none⟩ (I (a1))).setCell ⟨w.heap.size + 1, 4, none⟩ (I (sa))).setCell ⟨w.heap.size + 1, 5, none⟩ (I (sb))).setCell ⟨w.heap.size + 1, 6, none⟩ (I (0))) := ⟨_, rfl⟩
  obtain ⟨⟨q0, q1, q2, q3, q4, q5, q6⟩, he⟩ := fi_end HF.out _ _ _ _ _ _ _ hW6
  have HE := Lib.hid he
  clear he
  rw [← hW6]; clear hW6
  exact bodyPost_ret (v := .agg #[I (9), I (i), I (a0), I (a1), I (sa), I (sb), I (0)]) (by simp [results, Tryz.results88, go_sem, q0, q1, q2, q3, q4, q5, q6]) rfl ⟨rfl, HE.out⟩
set_option maxRecDepth 100000 in
set_option maxHeartbeats 1000000 in
theorem first_6 {w : World} {D : Dia} {F : Nat → Int} {p : Pl} {q : So} (m : SoM w D F p q) (wf : WF D) (hF : ∀ j, j < D.nb → 0 ≤ F j ∧ F j ≤ 30) (i : Nat) (hi : i < D.nb) (hk : (D.B i).k = 6) (hT : TabO w) (hv : -62 ≤ (D.B i).ve ∧ (D.B i).ve ≤ 30) : Calls Tryz.prog 88 #[sov D p q, I i] w (FiR D F i w) := by
  obtain ⟨b, o, hA, hbl, hc⟩ := m.dm.blocks (by omega)
  obtain ⟨y0, y1, y2, y3, y4, y5⟩ := hc i hi
  have hi' : (i : Int) < (D.nb : Int) := by omega
  have ht := hT 6 (by omega)
  have htl := World.block_lt_of_cell? w _ ht
  have har := wf.ar i hi
  have harg := wf.arg i hi
  have hnb := wf.nb
  have bFi := hF i hi
  rw [hk] at har
  rw [hk] at y0
  have HM := Lib.hid m
  have hn : (D.B i).n = 1 := by
    have : arity 6 = 1 := by decide
    omega
  obtain ⟨ba, oa, hAA, hba, hca⟩ := (m.dm.args i hi).1 (by omega)
  rw [hn, hAA] at y1
  have z0 := hca 0 (by omega)
  have g0 := harg 0 (by omega)
  obtain ⟨a0, ha0⟩ : ∃ a0 : Nat, (D.B i).a 0 = (a0 : Int) := ⟨((D.B i).a 0).toNat, by omega⟩
  have l0 : a0 < D.nb := by unfold cntB at g0; rw [hk] at g0; simp at g0; omega
  rw [Nat.add_zero] at z0
  rw [ha0] at z0
  have Z0 := Lib.hid z0
  clear hca hAA g0 z0
  obtain ⟨W4, hW4⟩ : ∃ W4, W4 = (((w.alloc (.cells #[.slice p.AI D.ni p.cI, .slice p.AB D.nb p.cB, .slice p.AO D.no p.cO, .slice q.Ao q.lo q.co, .slice q.Ad q.ld q.cd, .slice q.Ac q.lc q.cc, .slice q.Af D.nb q.cf, .slice q.Ar D.nb q.cr] 85)).alloc (.cells #[I 0, I 0, I 0, I 0, I 0, I 0, I 0] 83)).alloc (.cells #[I 6, .slice (some ⟨ba, oa, none⟩) 1 (p.cA i), I (D.B i).vn, I (D.B i).ve, I (D.B i).un, I (D.B i).ue] 51)).alloc (.cells #[I 6, I i, I 0, I 0, I 0, I 0, I 0] 83) := ⟨_, rfl⟩
  have HF := Lib.hid (f4_start w D p q 6 6 (some ⟨ba, oa, none⟩) 1 (p.cA i) (D.B i).vn (D.B i).ve (D.B i).un (D.B i).ue i hW4 (D.B i).a)
  have bF0 := hF a0 l0
  have HT0 : Hid (∀ w', Ext w w' → Calls Tryz.prog 134 #[sov D p q, I i, I a0] w' fun e w'' => e = .returned (I (F i - F a0)) ∧ Ext w' w'') := fun w' x => toScale_any (HM.out.ext x) i a0 hi l0 (hF i hi) (hF a0 l0)
  have HV : Hid (fiX D F i = ⟨6, i, a0, 0, F i - F a0 + (D.B i).ve, 0, (D.B i).vn⟩) := by show _ = _; unfold fiX; simp [hk, ha0]
  unfold FiR
  rw [HV.out]; clear HV
  have hw : IntKind.i64.wrap (F i - F a0 + (D.B i).ve) = F i - F a0 + (D.B i).ve := IntWalk.i64_in _ (by omega)
  obtain ⟨sa, hsa⟩ : ∃ sa, F i - F a0 = sa := ⟨_, rfl⟩
  rw [hsa] at HT0 hw ⊢
  clear hsa
  clear hc m har harg
  go_enter Tryz.func88, Tryz.ntmps88
  go_upto_region 3 with fail
  (try rw [← hA])
  rw [← hW4]; clear hW4 hA
  obtain ⟨c0, c1, c2, c3, c4, c5, c6, c7⟩ := HF.out.src; obtain ⟨b0, b1, b2, b3, b4, b5⟩ := HF.out.blk; obtain ⟨x0, x1, x2, x3, x4, x5, x6, xf⟩ := Wx.of HF.out.box; obtain ⟨r0, r1, r2, r3, r4, r5, r6, rf⟩ := Wx.of HF.out.res; have hsz := HF.out.ext.size; have z0 := (HF.out.ext.old.1 _ _ hba).trans Z0.out
  go_upto_region 13 with (go_at_call 134; have HF2 := Lib.hid (HF.out.put2 (a0)); (with_reducible refine (HT0.out _ HF2.out.ext).mono ?_); rintro e1 w1 ⟨rfl, hx1⟩; replace HF := Lib.hid (HF2.out.to hx1); clear HF2 hx1 c0 c1 c2 c3 c4 c5 c6 c7 b0 b1 b2 b3 b4 b5 x0 x1 x2 x3 x4 x5 x6 xf r0 r1 r2 r3 r4 r5 r6 rf hsz z0; obtain ⟨c0, c1, c2, c3, c4, c5, c6, c7⟩ := HF.out.src; obtain ⟨b0, b1, b2, b3, b4, b5⟩ := HF.out.blk; obtain ⟨x0, x1, x2, x3, x4, x5, x6, xf⟩ := Wx.of HF.out.box; obtain ⟨r0, r1, r2, r3, r4, r5, r6, rf⟩ := Wx.of HF.out.res; have hsz := HF.out.ext.size; have z0 := (HF.out.ext.old.1 _ _ hba).trans Z0.out)
  replace HF := Lib.hid (HF.out.put4 (sa))
  clear c0 c1 c2 c3 c4 c5 c6 c7 b0 b1 b2 b3 b4 b5 x0 x1 x2 x3 x4 x5 x6 xf r0 r1 r2 r3 r4 r5 r6 rf hsz z0
  generalize hG : (w1.setCell ⟨w.heap.size + 1 + 1 + 1, 4, none⟩ (I (sa))) = V1 at HF ⊢
  clear hG
  obtain ⟨c0, c1, c2, c3, c4, c5, c6, c7⟩ := HF.out.src; obtain ⟨b0, b1, b2, b3, b4, b5⟩ := HF.out.blk; obtain ⟨x0, x1, x2, x3, x4, x5, x6, xf⟩ := Wx.of HF.out.box; obtain ⟨r0, r1, r2, r3, r4, r5, r6, rf⟩ := Wx.of HF.out.res; have hsz := HF.out.ext.size; have z0 := (HF.out.ext.old.1 _ _ hba).trans Z0.out
  go_wp2_with fail
  replace HF := Lib.hid ((HF.out.put6 ((D.B i).vn)).put4 (sa + (D.B i).ve))
  clear c0 c1 c2 c3 c4 c5 c6 c7 b0 b1 b2 b3 b4 b5 x0 x1 x2 x3 x4 x5 x6 xf r0 r1 r2 r3 r4 r5 r6 rf hsz z0
  generalize hG : ((V1.setCell ⟨w.heap.size + 1 + 1 + 1, 6, none⟩ (I ((D.B i).vn))).setCell ⟨w.heap.size + 1 + 1 + 1, 4, none⟩ (I (sa + (D.B i).ve))) = W5 at HF ⊢
  clear hG
  obtain ⟨W6, hW6⟩ : ∃ W6, W6 = (((((((W5.setCell ⟨w.heap.size + 1, 0, none⟩ (I (6))).setCell ⟨w.heap.size + 1, 1, none⟩ (I (i))).setCell ⟨w.heap.size + 1, 2, none⟩ (I (a0))).setCell ⟨w.heap.size + 1, 3, none⟩ (I (0))).setCell ⟨w.heap.size + 1, 4, none⟩ (I (sa + (D.B i).ve))).setCell ⟨w.heap.size + 1, 5, none⟩ (I (0))).setCell ⟨w.heap.size + 1, 6, none⟩ (I ((D.B i).vn))) := ⟨_, rfl⟩
  obtain ⟨⟨q0, q1, q2, q3, q4, q5, q6⟩, he⟩ := fi_end HF.out _ _ _ _ _ _ _ hW6
  have HE := Lib.hid he
  clear he
  rw [← hW6]; clear hW6
  exact bodyPost_ret (v := .agg #[I (6), I (i), I (a0), I (0), I (sa + (D.B i).ve), I (0), I ((D.B i).vn)]) (by simp [results, Tryz.results88, go_sem, q0, q1, q2, q3, q4, q5, q6]) rfl ⟨rfl, HE.out⟩
set_option maxRecDepth 100000 in
set_option maxHeartbeats 1000000 in
theorem first_7 {w : World} {D : Dia} {F : Nat → Int} {p : Pl} {q : So} (m : SoM w D F p q) (wf : WF D) (hF : ∀ j, j < D.nb → 0 ≤ F j ∧ F j ≤ 30) (i : Nat) (hi : i < D.nb) (hk : (D.B i).k = 7) (hT : TabO w) : Calls Tryz.prog 88 #[sov D p q, I i] w (FiR D F i w) := by
  obtain ⟨b, o, hA, hbl, hc⟩ := m.dm.blocks (by omega)
  obtain ⟨y0, y1, y2, y3, y4, y5⟩ := hc i hi
  have hi' : (i : Int) < (D.nb : Int) := by omega
  have ht := hT 7 (by omega)
  have htl := World.block_lt_of_cell? w _ ht
  have har := wf.ar i hi
  have harg := wf.arg i hi
  have hnb := wf.nb
  have bFi := hF i hi
  rw [hk] at har
  rw [hk] at y0
  have HM := Lib.hid m
  have hn : (D.B i).n = 2 := by
    have : arity 7 = 2 := by decide
    omega
  obtain ⟨ba, oa, hAA, hba, hca⟩ := (m.dm.args i hi).1 (by omega)
  rw [hn, hAA] at y1
  have z0 := hca 0 (by omega)
  have g0 := harg 0 (by omega)
  obtain ⟨a0, ha0⟩ : ∃ a0 : Nat, (D.B i).a 0 = (a0 : Int) := ⟨((D.B i).a 0).toNat, by omega⟩
  have l0 : a0 < D.nb := by unfold cntB at g0; rw [hk] at g0; simp at g0; omega
  have z1 := hca 1 (by omega)
  have g1 := harg 1 (by omega)
  obtain ⟨a1, ha1⟩ : ∃ a1 : Nat, (D.B i).a 1 = (a1 : Int) := ⟨((D.B i).a 1).toNat, by omega⟩
  have l1 : a1 < D.nb := by unfold cntB at g1; rw [hk] at g1; simp at g1; omega
  rw [Nat.add_zero] at z0
  rw [ha0] at z0
  have Z0 := Lib.hid z0
  rw [ha1] at z1
  have Z1 := Lib.hid z1
  clear hca hAA g0 z0 g1 z1
  obtain ⟨W4, hW4⟩ : ∃ W4, W4 = (((w.alloc (.cells #[.slice p.AI D.ni p.cI, .slice p.AB D.nb p.cB, .slice p.AO D.no p.cO, .slice q.Ao q.lo q.co, .slice q.Ad q.ld q.cd, .slice q.Ac q.lc q.cc, .slice q.Af D.nb q.cf, .slice q.Ar D.nb q.cr] 85)).alloc (.cells #[I 0, I 0, I 0, I 0, I 0, I 0, I 0] 83)).alloc (.cells #[I 7, .slice (some ⟨ba, oa, none⟩) 2 (p.cA i), I (D.B i).vn, I (D.B i).ve, I (D.B i).un, I (D.B i).ue] 51)).alloc (.cells #[I 7, I i, I 0, I 0, I 0, I 0, I 0] 83) := ⟨_, rfl⟩
  have HF := Lib.hid (f4_start w D p q 7 7 (some ⟨ba, oa, none⟩) 2 (p.cA i) (D.B i).vn (D.B i).ve (D.B i).un (D.B i).ue i hW4 (D.B i).a)
  have bF0 := hF a0 l0
  have bF1 := hF a1 l1
  have HT0 : Hid (∀ w', Ext w w' → Calls Tryz.prog 134 #[sov D p q, I i, I a0] w' fun e w'' => e = .returned (I (F i - F a0)) ∧ Ext w' w'') := fun w' x => toScale_any (HM.out.ext x) i a0 hi l0 (hF i hi) (hF a0 l0)
  have HV : Hid (fiX D F i = ⟨7, i, a0, a1, F i - F a0 - F a1, 0, 0⟩) := by show _ = _; unfold fiX; simp [hk, ha0, ha1]
  unfold FiR
  rw [HV.out]; clear HV
  obtain ⟨bf, of, hf, hfl, hfc⟩ := m.sc (by omega)
  have k1 := hfc a1 l1
  have hw : IntKind.i64.wrap (F i - F a0 - F a1) = F i - F a0 - F a1 := IntWalk.i64_in _ (by omega)
  have hl1 : (a1 : Int) < (D.nb : Int) := by omega
  obtain ⟨sa, hsa⟩ : ∃ sa, F i - F a0 = sa := ⟨_, rfl⟩
  rw [hsa] at HT0 hw ⊢
  clear hsa
  generalize F a1 = f1 at *
  have HFF := Lib.hid hf; have K1 := Lib.hid k1
  clear hc m har harg hfc hf k1
  go_enter Tryz.func88, Tryz.ntmps88
  go_upto_region 3 with fail
  (try rw [← hA])
  rw [← hW4]; clear hW4 hA
  obtain ⟨c0, c1, c2, c3, c4, c5, c6, c7⟩ := HF.out.src; obtain ⟨b0, b1, b2, b3, b4, b5⟩ := HF.out.blk; obtain ⟨x0, x1, x2, x3, x4, x5, x6, xf⟩ := Wx.of HF.out.box; obtain ⟨r0, r1, r2, r3, r4, r5, r6, rf⟩ := Wx.of HF.out.res; have hsz := HF.out.ext.size; have z0 := (HF.out.ext.old.1 _ _ hba).trans Z0.out; have z1 := (HF.out.ext.old.1 _ _ hba).trans Z1.out
  go_upto_region 13 with (go_at_call 134; have HF2 := Lib.hid (HF.out.put2 (a0)); (with_reducible refine (HT0.out _ HF2.out.ext).mono ?_); rintro e1 w1 ⟨rfl, hx1⟩; replace HF := Lib.hid (HF2.out.to hx1); clear HF2 hx1 c0 c1 c2 c3 c4 c5 c6 c7 b0 b1 b2 b3 b4 b5 x0 x1 x2 x3 x4 x5 x6 xf r0 r1 r2 r3 r4 r5 r6 rf hsz z0 z1; obtain ⟨c0, c1, c2, c3, c4, c5, c6, c7⟩ := HF.out.src; obtain ⟨b0, b1, b2, b3, b4, b5⟩ := HF.out.blk; obtain ⟨x0, x1, x2, x3, x4, x5, x6, xf⟩ := Wx.of HF.out.box; obtain ⟨r0, r1, r2, r3, r4, r5, r6, rf⟩ := Wx.of HF.out.res; have hsz := HF.out.ext.size; have z0 := (HF.out.ext.old.1 _ _ hba).trans Z0.out; have z1 := (HF.out.ext.old.1 _ _ hba).trans Z1.out)
  replace HF := Lib.hid (HF.out.put4 (sa))
  clear c0 c1 c2 c3 c4 c5 c6 c7 b0 b1 b2 b3 b4 b5 x0 x1 x2 x3 x4 x5 x6 xf r0 r1 r2 r3 r4 r5 r6 rf hsz z0 z1
  generalize hG : (w1.setCell ⟨w.heap.size + 1 + 1 + 1, 4, none⟩ (I (sa))) = V1 at HF ⊢
  clear hG
  obtain ⟨c0, c1, c2, c3, c4, c5, c6, c7⟩ := HF.out.src; obtain ⟨b0, b1, b2, b3, b4, b5⟩ := HF.out.blk; obtain ⟨x0, x1, x2, x3, x4, x5, x6, xf⟩ := Wx.of HF.out.box; obtain ⟨r0, r1, r2, r3, r4, r5, r6, rf⟩ := Wx.of HF.out.res; have hsz := HF.out.ext.size; have z0 := (HF.out.ext.old.1 _ _ hba).trans Z0.out; have z1 := (HF.out.ext.old.1 _ _ hba).trans Z1.out
  go_upto_region 19 with fail
  replace HF := Lib.hid (HF.out.put3 (a1))
  clear c0 c1 c2 c3 c4 c5 c6 c7 b0 b1 b2 b3 b4 b5 x0 x1 x2 x3 x4 x5 x6 xf r0 r1 r2 r3 r4 r5 r6 rf hsz z0 z1
  generalize hG : (V1.setCell ⟨w.heap.size + 1 + 1 + 1, 3, none⟩ (I (a1))) = V2 at HF ⊢
  clear hG
  have HS : Hid (∀ w', Ext V2 w' → w'.cell? ⟨w.heap.size, 6, none⟩ = some (.slice (some ⟨bf, of, none⟩) D.nb q.cf) ∧ w'.cell? ⟨w.heap.size + 1 + 1 + 1, 3, none⟩ = some (I a1) ∧ w'.cell? ⟨bf, of + a1, none⟩ = some (I f1)) := fun w' x => by
    have h := HF.out.to x
    have c := h.src.c6
    rw [HFF.out] at c
    exact ⟨c, (Wx.of h.box).x3, (h.ext.old.1 _ _ hfl).trans K1.out⟩
  have HK : Hid (∀ w' v, Ext V2 w' → (w'.setCell ⟨w.heap.size + 1 + 1 + 1, 4, none⟩ (I v)).cell? ⟨w.heap.size, 6, none⟩ = some (.slice (some ⟨bf, of, none⟩) D.nb q.cf) ∧ (w'.setCell ⟨w.heap.size + 1 + 1 + 1, 4, none⟩ (I v)).cell? ⟨w.heap.size + 1 + 1 + 1, 3, none⟩ = some (I a1) ∧ (w'.setCell ⟨w.heap.size + 1 + 1 + 1, 4, none⟩ (I v)).cell? ⟨bf, of + a1, none⟩ = some (I f1)) := fun w' v x => by
    have h := (HF.out.to x).put4 v
    have c := h.src.c6
    rw [HFF.out] at c
    exact ⟨c, (Wx.of h.box).x3, (h.ext.old.1 _ _ hfl).trans K1.out⟩
  obtain ⟨c0, c1, c2, c3, c4, c5, c6, c7⟩ := HF.out.src; obtain ⟨b0, b1, b2, b3, b4, b5⟩ := HF.out.blk; obtain ⟨x0, x1, x2, x3, x4, x5, x6, xf⟩ := Wx.of HF.out.box; obtain ⟨r0, r1, r2, r3, r4, r5, r6, rf⟩ := Wx.of HF.out.res; have hsz := HF.out.ext.size; have z0 := (HF.out.ext.old.1 _ _ hba).trans Z0.out; have z1 := (HF.out.ext.old.1 _ _ hba).trans Z1.out
  obtain ⟨s1, s2, s3⟩ := HS.out _ (Ext.refl _)
  rw [HFF.out] at c6
  have f4 := xf 4
  clear HS HK
  go_region
  replace HF := Lib.hid ((HF.out.put4 (sa - f1)).to (Ext.drew _))
  clear c0 c1 c2 c3 c4 c5 c6 c7 b0 b1 b2 b3 b4 b5 x0 x1 x2 x3 x4 x5 x6 xf r0 r1 r2 r3 r4 r5 r6 rf hsz z0 z1 s1 s2 s3 f4
  generalize hG : (V2.setCell ⟨w.heap.size + 1 + 1 + 1, 4, none⟩ (I (sa - f1))).drew = V3 at HF ⊢
  clear hG
  obtain ⟨c0, c1, c2, c3, c4, c5, c6, c7⟩ := HF.out.src; obtain ⟨b0, b1, b2, b3, b4, b5⟩ := HF.out.blk; obtain ⟨x0, x1, x2, x3, x4, x5, x6, xf⟩ := Wx.of HF.out.box; obtain ⟨r0, r1, r2, r3, r4, r5, r6, rf⟩ := Wx.of HF.out.res; have hsz := HF.out.ext.size; have z0 := (HF.out.ext.old.1 _ _ hba).trans Z0.out; have z1 := (HF.out.ext.old.1 _ _ hba).trans Z1.out
  go_wp2_with fail
  clear c0 c1 c2 c3 c4 c5 c6 c7 b0 b1 b2 b3 b4 b5 x0 x1 x2 x3 x4 x5 x6 xf r0 r1 r2 r3 r4 r5 r6 rf hsz z0 z1
  obtain ⟨W6, hW6⟩ : ∃ W6, W6 = (((((((V3.setCell ⟨w.heap.size + 1, 0, none⟩ (I (7))).setCell ⟨w.heap.size + 1, 1, none⟩ (I (i))).setCell ⟨w.heap.size + 1, 2, none⟩ (I (a0))).setCell ⟨w.heap.size + 1, 3, none⟩ (I (a1))).setCell ⟨w.heap.size + 1, 4, none⟩ (I (sa - f1))).setCell ⟨w.heap.size + 1, 5, none⟩ (I (0))).setCell ⟨w.heap.size + 1, 6, none⟩ (I (0))) := ⟨_, rfl⟩
  obtain ⟨⟨q0, q1, q2, q3, q4, q5, q6⟩, he⟩ := fi_end HF.out _ _ _ _ _ _ _ hW6
  have HE := Lib.hid he
  clear he
  rw [← hW6]; clear hW6
  exact bodyPost_ret (v := .agg #[I (7), I (i), I (a0), I (a1), I (sa - f1), I (0), I (0)]) (by simp [results, Tryz.results88, go_sem, q0, q1, q2, q3, q4, q5, q6]) rfl ⟨rfl, HE.out⟩
set_option maxRecDepth 100000 in
set_option maxHeartbeats 1000000 in
theorem first_11 {w : World} {D : Dia} {F : Nat → Int} {p : Pl} {q : So} (m : SoM w D F p q) (wf : WF D) (hF : ∀ j, j < D.nb → 0 ≤ F j ∧ F j ≤ 30) (i : Nat) (hi : i < D.nb) (hk : (D.B i).k = 11) (hT : TabO w) : Calls Tryz.prog 88 #[sov D p q, I i] w (FiR D F i w) := by
  obtain ⟨b, o, hA, hbl, hc⟩ := m.dm.blocks (by omega)
  obtain ⟨y0, y1, y2, y3, y4, y5⟩ := hc i hi
  have hi' : (i : Int) < (D.nb : Int) := by omega
  have ht := hT 11 (by omega)
  have htl := World.block_lt_of_cell? w _ ht
  have har := wf.ar i hi
  have harg := wf.arg i hi
  have hnb := wf.nb
  have bFi := hF i hi
  rw [hk] at har
  rw [hk] at y0
  have HM := Lib.hid m
  have hn : (D.B i).n = 1 := by
    have : arity 11 = 1 := by decide
    omega
  obtain ⟨ba, oa, hAA, hba, hca⟩ := (m.dm.args i hi).1 (by omega)
  rw [hn, hAA] at y1
  have z0 := hca 0 (by omega)
  have g0 := harg 0 (by omega)
  obtain ⟨a0, ha0⟩ : ∃ a0 : Nat, (D.B i).a 0 = (a0 : Int) := ⟨((D.B i).a 0).toNat, by omega⟩
  have l0 : a0 < D.nb := by unfold cntB at g0; rw [hk] at g0; simp at g0; omega
  rw [Nat.add_zero] at z0
  rw [ha0] at z0
  have Z0 := Lib.hid z0
  clear hca hAA g0 z0
  obtain ⟨W4, hW4⟩ : ∃ W4, W4 = (((w.alloc (.cells #[.slice p.AI D.ni p.cI, .slice p.AB D.nb p.cB, .slice p.AO D.no p.cO, .slice q.Ao q.lo q.co, .slice q.Ad q.ld q.cd, .slice q.Ac q.lc q.cc, .slice q.Af D.nb q.cf, .slice q.Ar D.nb q.cr] 85)).alloc (.cells #[I 0, I 0, I 0, I 0, I 0, I 0, I 0] 83)).alloc (.cells #[I 11, .slice (some ⟨ba, oa, none⟩) 1 (p.cA i), I (D.B i).vn, I (D.B i).ve, I (D.B i).un, I (D.B i).ue] 51)).alloc (.cells #[I 9, I i, I 0, I 0, I 0, I 0, I 0] 83) := ⟨_, rfl⟩
  have HF := Lib.hid (f4_start w D p q 11 9 (some ⟨ba, oa, none⟩) 1 (p.cA i) (D.B i).vn (D.B i).ve (D.B i).un (D.B i).ue i hW4 (D.B i).a)
  have HT0 : Hid (∀ w', Ext w w' → Calls Tryz.prog 134 #[sov D p q, I i, I a0] w' fun e w'' => e = .returned (I (F i - F a0)) ∧ Ext w' w'') := fun w' x => toScale_any (HM.out.ext x) i a0 hi l0 (hF i hi) (hF a0 l0)
  have HV : Hid (fiX D F i = ⟨9, i, a0, bnC D i, F i - F a0, 0, 0⟩) := by show _ = _; unfold fiX; simp [hk, ha0]
  unfold FiR
  rw [HV.out]; clear HV
  have HBN : Hid (∀ w', Ext w w' → Calls Tryz.prog 89 #[sov D p q, I i] w' fun e w'' => e = .returned (I ((bnC D i : Nat) : Int)) ∧ Ext w' w'') := fun w' x => bounds_any (HM.out.ext x) hnb i hi (by simp [isC, hk])
  generalize bnC D i = bc at *
  generalize F i - F a0 = sa at *
  clear hc m har harg
  go_enter Tryz.func88, Tryz.ntmps88
  go_upto_region 3 with fail
  (try rw [← hA])
  rw [← hW4]; clear hW4 hA
  obtain ⟨c0, c1, c2, c3, c4, c5, c6, c7⟩ := HF.out.src; obtain ⟨b0, b1, b2, b3, b4, b5⟩ := HF.out.blk; obtain ⟨x0, x1, x2, x3, x4, x5, x6, xf⟩ := Wx.of HF.out.box; obtain ⟨r0, r1, r2, r3, r4, r5, r6, rf⟩ := Wx.of HF.out.res; have hsz := HF.out.ext.size; have z0 := (HF.out.ext.old.1 _ _ hba).trans Z0.out
  go_upto_region 13 with (go_at_call 134; have HF2 := Lib.hid (HF.out.put2 (a0)); (with_reducible refine (HT0.out _ HF2.out.ext).mono ?_); rintro e1 w1 ⟨rfl, hx1⟩; replace HF := Lib.hid (HF2.out.to hx1); clear HF2 hx1 c0 c1 c2 c3 c4 c5 c6 c7 b0 b1 b2 b3 b4 b5 x0 x1 x2 x3 x4 x5 x6 xf r0 r1 r2 r3 r4 r5 r6 rf hsz z0; obtain ⟨c0, c1, c2, c3, c4, c5, c6, c7⟩ := HF.out.src; obtain ⟨b0, b1, b2, b3, b4, b5⟩ := HF.out.blk; obtain ⟨x0, x1, x2, x3, x4, x5, x6, xf⟩ := Wx.of HF.out.box; obtain ⟨r0, r1, r2, r3, r4, r5, r6, rf⟩ := Wx.of HF.out.res; have hsz := HF.out.ext.size; have z0 := (HF.out.ext.old.1 _ _ hba).trans Z0.out)
  replace HF := Lib.hid (HF.out.put4 (sa))
  clear c0 c1 c2 c3 c4 c5 c6 c7 b0 b1 b2 b3 b4 b5 x0 x1 x2 x3 x4 x5 x6 xf r0 r1 r2 r3 r4 r5 r6 rf hsz z0
  generalize hG : (w1.setCell ⟨w.heap.size + 1 + 1 + 1, 4, none⟩ (I (sa))) = V1 at HF ⊢
  clear hG
  obtain ⟨c0, c1, c2, c3, c4, c5, c6, c7⟩ := HF.out.src; obtain ⟨b0, b1, b2, b3, b4, b5⟩ := HF.out.blk; obtain ⟨x0, x1, x2, x3, x4, x5, x6, xf⟩ := Wx.of HF.out.box; obtain ⟨r0, r1, r2, r3, r4, r5, r6, rf⟩ := Wx.of HF.out.res; have hsz := HF.out.ext.size; have z0 := (HF.out.ext.old.1 _ _ hba).trans Z0.out
  go_wp2_with (go_at_call 89; have HF2 := Lib.hid HF.out; (with_reducible refine (HBN.out _ HF2.out.ext).mono ?_); rintro e2 w2 ⟨rfl, hx1⟩; replace HF := Lib.hid (HF2.out.to hx1); clear HF2 hx1 c0 c1 c2 c3 c4 c5 c6 c7 b0 b1 b2 b3 b4 b5 x0 x1 x2 x3 x4 x5 x6 xf r0 r1 r2 r3 r4 r5 r6 rf hsz z0; obtain ⟨c0, c1, c2, c3, c4, c5, c6, c7⟩ := HF.out.src; obtain ⟨b0, b1, b2, b3, b4, b5⟩ := HF.out.blk; obtain ⟨x0, x1, x2, x3, x4, x5, x6, xf⟩ := Wx.of HF.out.box; obtain ⟨r0, r1, r2, r3, r4, r5, r6, rf⟩ := Wx.of HF.out.res; have hsz := HF.out.ext.size; have z0 := (HF.out.ext.old.1 _ _ hba).trans Z0.out)
  replace HF := Lib.hid (HF.out.put3 (bc))
  clear c0 c1 c2 c3 c4 c5 c6 c7 b0 b1 b2 b3 b4 b5 x0 x1 x2 x3 x4 x5 x6 xf r0 r1 r2 r3 r4 r5 r6 rf hsz z0
  generalize hG : (w2.setCell ⟨w.heap.size + 1 + 1 + 1, 3, none⟩ (I (bc))) = W5 at HF ⊢
  clear hG
  obtain ⟨W6, hW6⟩ : ∃ W6, W6 = (((((((W5.setCell ⟨w.heap.size + 1, 0, none⟩ (I (9))).setCell ⟨w.heap.size + 1, 1, none⟩ (I (i))).setCell ⟨w.heap.size + 1, 2, none⟩ (I (a0))).setCell ⟨w.heap.size + 1, 3, none⟩ (I (bc))).setCell ⟨w.heap.size + 1, 4, none⟩ (I (sa))).setCell ⟨w.heap.size + 1, 5, none⟩ (I (0))).setCell ⟨w.heap.size + 1, 6, none⟩ (I (0))) := ⟨_, rfl⟩
  obtain ⟨⟨q0, q1, q2, q3, q4, q5, q6⟩, he⟩ := fi_end HF.out _ _ _ _ _ _ _ hW6
  have HE := Lib.hid he
  clear he
  rw [← hW6]; clear hW6
  exact bodyPost_ret (v := .agg #[I (9), I (i), I (a0), I (bc), I (sa), I (0), I (0)]) (by simp [results, Tryz.results88, go_sem, q0, q1, q2, q3, q4, q5, q6]) rfl ⟨rfl, HE.out⟩
set_option maxRecDepth 100000 in
set_option maxHeartbeats 1000000 in
theorem first_0 {w : World} {D : Dia} {F : Nat → Int} {p : Pl} {q : So} (m : SoM w D F p q) (wf : WF D) (hF : ∀ j, j < D.nb → 0 ≤ F j ∧ F j ≤ 30) (i : Nat) (hi : i < D.nb) (hk : (D.B i).k = 0) (hT : TabO w) (hp : ∀ j, j < D.ni → 0 ≤ (D.P j).fr ∧ (D.P j).fr ≤ 30) : Calls Tryz.prog 88 #[sov D p q, I i] w (FiR D F i w) := by
  obtain ⟨b, o, hA, hbl, hc⟩ := m.dm.blocks (by omega)
  obtain ⟨y0, y1, y2, y3, y4, y5⟩ := hc i hi
  have hi' : (i : Int) < (D.nb : Int) := by omega
  have ht := hT 0 (by omega)
  have htl := World.block_lt_of_cell? w _ ht
  have har := wf.ar i hi
  have harg := wf.arg i hi
  have hnb := wf.nb
  have bFi := hF i hi
  rw [hk] at har
  rw [hk] at y0
  have HM := Lib.hid m
  have hn : (D.B i).n = 1 := by
    have : arity 0 = 1 := by decide
    omega
  obtain ⟨ba, oa, hAA, hba, hca⟩ := (m.dm.args i hi).1 (by omega)
  rw [hn, hAA] at y1
  have z0 := hca 0 (by omega)
  have g0 := harg 0 (by omega)
  obtain ⟨a0, ha0⟩ : ∃ a0 : Nat, (D.B i).a 0 = (a0 : Int) := ⟨((D.B i).a 0).toNat, by omega⟩
  have l0 : a0 < D.ni := by unfold cntB at g0; rw [hk] at g0; simp at g0; omega
  rw [Nat.add_zero] at z0
  rw [ha0] at z0
  have Z0 := Lib.hid z0
  clear hca hAA g0 z0
  obtain ⟨W4, hW4⟩ : ∃ W4, W4 = (((w.alloc (.cells #[.slice p.AI D.ni p.cI, .slice p.AB D.nb p.cB, .slice p.AO D.no p.cO, .slice q.Ao q.lo q.co, .slice q.Ad q.ld q.cd, .slice q.Ac q.lc q.cc, .slice q.Af D.nb q.cf, .slice q.Ar D.nb q.cr] 85)).alloc (.cells #[I 0, I 0, I 0, I 0, I 0, I 0, I 0] 83)).alloc (.cells #[I 0, .slice (some ⟨ba, oa, none⟩) 1 (p.cA i), I (D.B i).vn, I (D.B i).ve, I (D.B i).un, I (D.B i).ue] 51)).alloc (.cells #[I 0, I i, I 0, I 0, I 0, I 0, I 0] 83) := ⟨_, rfl⟩
  have HF := Lib.hid (f4_start w D p q 0 0 (some ⟨ba, oa, none⟩) 1 (p.cA i) (D.B i).vn (D.B i).ve (D.B i).un (D.B i).ue i hW4 (D.B i).a)
  have HV : Hid (fiX D F i = ⟨0, i, a0, 0, F i - (D.P a0).fr, 0, 0⟩) := by show _ = _; unfold fiX; simp [hk, ha0]
  unfold FiR
  rw [HV.out]; clear HV
  obtain ⟨bf, of, hf, hfl, hfc⟩ := m.sc (by omega)
  have k1 := hfc i hi
  obtain ⟨bp, op, hpp, hpl, hpc⟩ := m.dm.ports (by omega)
  have k2 := (hpc a0 l0).2.2
  have bP := hp a0 l0
  have hl0 : (a0 : Int) < (D.ni : Int) := by omega
  generalize F i = fi at *
  generalize (D.P a0).fr = fp at *
  have hw : IntKind.i64.wrap (fi - fp) = fi - fp := IntWalk.i64_in _ (by omega)
  have HFF := Lib.hid hf; have K1 := Lib.hid k1; have HPP := Lib.hid hpp; have K2 := Lib.hid k2
  clear hc m har harg hfc hf k1 hpc hpp k2
  go_enter Tryz.func88, Tryz.ntmps88
  go_upto_region 3 with fail
  (try rw [← hA])
  rw [← hW4]; clear hW4 hA
  obtain ⟨c0, c1, c2, c3, c4, c5, c6, c7⟩ := HF.out.src; obtain ⟨b0, b1, b2, b3, b4, b5⟩ := HF.out.blk; obtain ⟨x0, x1, x2, x3, x4, x5, x6, xf⟩ := Wx.of HF.out.box; obtain ⟨r0, r1, r2, r3, r4, r5, r6, rf⟩ := Wx.of HF.out.res; have hsz := HF.out.ext.size; have z0 := (HF.out.ext.old.1 _ _ hba).trans Z0.out
  go_upto_region 6 with fail
  replace HF := Lib.hid (HF.out.put2 (a0))
  clear c0 c1 c2 c3 c4 c5 c6 c7 b0 b1 b2 b3 b4 b5 x0 x1 x2 x3 x4 x5 x6 xf r0 r1 r2 r3 r4 r5 r6 rf hsz z0
  generalize hG : (W4.setCell ⟨w.heap.size + 1 + 1 + 1, 2, none⟩ (I (a0))) = V2 at HF ⊢
  clear hG
  obtain ⟨c0, c1, c2, c3, c4, c5, c6, c7⟩ := HF.out.src; obtain ⟨b0, b1, b2, b3, b4, b5⟩ := HF.out.blk; obtain ⟨x0, x1, x2, x3, x4, x5, x6, xf⟩ := Wx.of HF.out.box; obtain ⟨r0, r1, r2, r3, r4, r5, r6, rf⟩ := Wx.of HF.out.res; have hsz := HF.out.ext.size; have z0 := (HF.out.ext.old.1 _ _ hba).trans Z0.out
  have k1 := (HF.out.ext.old.1 _ _ hfl).trans K1.out
  have k2 := (HF.out.ext.old.1 _ _ hpl).trans K2.out
  rw [HFF.out] at c6
  rw [HPP.out] at c0
  have f4 := xf 4
  go_region
  replace HF := Lib.hid ((HF.out.put4 (fi - fp)).to (Ext.drew _))
  clear c0 c1 c2 c3 c4 c5 c6 c7 b0 b1 b2 b3 b4 b5 x0 x1 x2 x3 x4 x5 x6 xf r0 r1 r2 r3 r4 r5 r6 rf hsz z0 k1 k2 f4
  generalize hG : (V2.setCell ⟨w.heap.size + 1 + 1 + 1, 4, none⟩ (I (fi - fp))).drew = V3 at HF ⊢
  clear hG
  obtain ⟨c0, c1, c2, c3, c4, c5, c6, c7⟩ := HF.out.src; obtain ⟨b0, b1, b2, b3, b4, b5⟩ := HF.out.blk; obtain ⟨x0, x1, x2, x3, x4, x5, x6, xf⟩ := Wx.of HF.out.box; obtain ⟨r0, r1, r2, r3, r4, r5, r6, rf⟩ := Wx.of HF.out.res; have hsz := HF.out.ext.size; have z0 := (HF.out.ext.old.1 _ _ hba).trans Z0.out
  go_wp2_with fail
  clear c0 c1 c2 c3 c4 c5 c6 c7 b0 b1 b2 b3 b4 b5 x0 x1 x2 x3 x4 x5 x6 xf r0 r1 r2 r3 r4 r5 r6 rf hsz z0
  obtain ⟨W6, hW6⟩ : ∃ W6, W6 = (((((((V3.setCell ⟨w.heap.size + 1, 0, none⟩ (I (0))).setCell ⟨w.heap.size + 1, 1, none⟩ (I (i))).setCell ⟨w.heap.size + 1, 2, none⟩ (I (a0))).setCell ⟨w.heap.size + 1, 3, none⟩ (I (0))).setCell ⟨w.heap.size + 1, 4, none⟩ (I (fi - fp))).setCell ⟨w.heap.size + 1, 5, none⟩ (I (0))).setCell ⟨w.heap.size + 1, 6, none⟩ (I (0))) := ⟨_, rfl⟩
  obtain ⟨⟨q0, q1, q2, q3, q4, q5, q6⟩, he⟩ := fi_end HF.out _ _ _ _ _ _ _ hW6
  have HE := Lib.hid he
  clear he
  rw [← hW6]; clear hW6
  exact bodyPost_ret (v := .agg #[I (0), I (i), I (a0), I (0), I (fi - fp), I (0), I (0)]) (by simp [results, Tryz.results88, go_sem, q0, q1, q2, q3, q4, q5, q6]) rfl ⟨rfl, HE.out⟩
/-- The scalars of a block that is accepted. -/
theorem ok_sc {D : Dia} {b : Blk} (h : blkE D b = 0) : (usesV b.k = true → -2147483648 < b.vn ∧ b.vn < 2147483648 ∧ -62 ≤ b.ve ∧ b.ve ≤ 30) ∧ (b.k = 11 → -2147483648 < b.un ∧ b.un < 2147483648 ∧ -62 ≤ b.ue ∧ b.ue ≤ 30) := by
  unfold blkE at h
  split at h
  · omega
  split at h
  · omega
  split at h
  · rename_i h3; exact absurd h h3
  split at h
  · rename_i h3; exact absurd h h3
  rename_i h4
  split at h
  · rename_i h3; exact absurd h h3
  rename_i h5
  constructor
  · intro hu
    rw [hu] at h4
    unfold scE at h4
    rw [if_pos rfl] at h4
    split at h4
    · omega
    · omega
  · intro hk
    rw [show (b.k == 11) = true by simp [hk]] at h5
    unfold scE at h5
    rw [if_pos rfl] at h5
    split at h5
    · omega
    · omega
theorem first_any {w : World} {D : Dia} {F : Nat → Int} {p : Pl} {q : So} (m : SoM w D F p q) (ok : OkD D) (hF : ∀ j, j < D.nb → 0 ≤ F j ∧ F j ≤ 30) (i : Nat) (hi : i < D.nb) (hT : TabO w) : Calls Tryz.prog 88 #[sov D p q, I i] w (FiR D F i w) := by
  have wf := ok.toWF
  have hk := wf.k0 i hi
  have hc : (D.B i).k = 0 ∨ (D.B i).k = 1 ∨ (D.B i).k = 2 ∨ (D.B i).k = 3 ∨ (D.B i).k = 4 ∨ (D.B i).k = 5 ∨ (D.B i).k = 6 ∨ (D.B i).k = 7 ∨ (D.B i).k = 8 ∨ (D.B i).k = 9 ∨ (D.B i).k = 10 ∨ (D.B i).k = 11 := by omega
  rcases hc with h | h | h | h | h | h | h | h | h | h | h | h
  · exact first_0 m wf hF i hi h hT (fun j hj => by
      have := ok.pe j hj
      unfold prtE at this
      split at this
      · omega
      · omega)
  · exact first_1 m wf hF i hi h hT
  · exact first_2 m wf hF i hi h hT
  · exact first_3 m wf hF i hi h hT
  · exact first_4 m wf hF i hi h hT
  · exact first_5 m wf hF i hi h hT
  · exact first_6 m wf hF i hi h hT (by have := (ok_sc (ok.be i hi)).1 (by simp [usesV, h]); omega)
  · exact first_7 m wf hF i hi h hT
  · exact first_8 m wf hF i hi h hT
  · exact first_9 m wf hF i hi h hT
  · exact first_10 m wf hF i hi h hT
  · exact first_11 m wf hF i hi h hT
end Go.Proofs.YtkocmdpfknoiaaaGreatDoor
