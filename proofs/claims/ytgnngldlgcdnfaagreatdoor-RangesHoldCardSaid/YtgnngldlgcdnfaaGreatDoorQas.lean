import Derived.Test.YtgnngldlgcdnfaaGreatDoorQar
import Derived.Deep.RegionHeld3
import Derived.Deep.DeepCutAuto
namespace Go.Proofs.YtgnngldlgcdnfaaGreatDoor
section
section
open Go.RowKit
theorem St.mk' {w : World} {g : Nat} {v0 v1 v2 : Value} (h0 : w.cell? ⟨g, 0, none⟩ = some v0) (h1 : w.cell? ⟨g, 1, none⟩ = some v1) (h2 : w.cell? ⟨g, 2, none⟩ = some v2) : St w g v0 v1 v2 := ⟨h0, h1, h2⟩
theorem least1 {w : World} {n0 n1 : Bool} {A0 A0' A1 A1' : Option Addr} {k0 c0 c0' k1 c1 c1' : Nat} {d0 d1 : Int} {x y : DV} {g cap : Nat} (hx : Dy w n0 A0 k0 c0 d0 x A0' c0') (hy : Dy w n1 A1 k1 c1 d1 y A1' c1') (hT : Tabs w)
    (hs : St w g (.bool n1) (.slice A1 k1 c1) (I d1)) : Calls Tryz.prog 182 #[dv n0 A0 k0 c0 d0, .slice (some ⟨g, 0, none⟩) 1 cap] w (IvRes (lo2 x y) (hi2 x y) w) := by
  have h := least_any (N := 1) (cap := cap) (ng := fun _ => n1) (As := fun _ => A1) (A' := fun _ => A1') (ns := fun _ => k1) (cs := fun _ => c1) (c' := fun _ => c1') (dn := fun _ => d1) (D := fun _ => y) hx hT
    (fun i hi => by obtain rfl : i = 0 := by omega
                    exact ⟨hs, hy⟩) hs.lt (by decide)
  rw [show loF x (fun _ => y) 1 = lo2 x y by show minD (minD x x) y = minD x y; rw [minD_self], show hiF x (fun _ => y) 1 = hi2 x y by show maxD (maxD x x) y = maxD x y; rw [maxD_self]] at h
  exact h
theorem least2 {w : World} {n0 n1 n2 : Bool} {A0 A0' A1 A1' A2 A2' : Option Addr} {k0 c0 c0' k1 c1 c1' k2 c2 c2' : Nat} {d0 d1 d2 : Int} {x y z : DV} {g cap : Nat} (hx : Dy w n0 A0 k0 c0 d0 x A0' c0') (hy : Dy w n1 A1 k1 c1 d1 y A1' c1') (hz : Dy w n2 A2 k2 c2 d2 z A2' c2') (hT : Tabs w)
  (hs : St w g (.bool n1) (.slice A1 k1 c1) (I d1)) (h3 : w.cell? ⟨g, 3, none⟩ = some (.bool n2)) (h4 : w.cell? ⟨g, 4, none⟩ = some (.slice A2 k2 c2)) (h5 : w.cell? ⟨g, 5, none⟩ = some (I d2)) :
  Calls Tryz.prog 182 #[dv n0 A0 k0 c0 d0, .slice (some ⟨g, 0, none⟩) 2 cap] w (IvRes (lo3 x y z) (hi3 x y z) w) := by
 have h := least_any (N := 2) (cap := cap) (ng := fun i => if i = 0 then n1 else n2) (As := fun i => if i = 0 then A1 else A2) (A' := fun i => if i = 0 then A1' else A2') (ns := fun i => if i = 0 then k1 else k2) (cs := fun i => if i = 0 then c1 else c2) (c' := fun i => if i = 0 then c1' else c2') (dn := fun i => if i = 0 then d1 else d2) (D := fun i => if i = 0 then y else z) hx hT
  (fun i hi => by
   have : i = 0 ∨ i = 1 := by omega
   rcases this with rfl | rfl
   ·exact ⟨hs, hy⟩
   ·exact ⟨⟨h3, h4, h5⟩, hz⟩) hs.lt (by decide)
 rw [show loF x (fun i => if i = 0 then y else z) 2 = lo3 x y z by show minD (minD (minD x x) y) z = minD (minD x y) z; rw [minD_self], show hiF x (fun i => if i = 0 then y else z) 2 = hi3 x y z by show maxD (maxD (maxD x x) y) z = maxD (maxD x y) z; rw [maxD_self]] at h
 exact h
theorem least3 {w : World} {n0 n1 n2 n3 : Bool} {A0 A0' A1 A1' A2 A2' A3 A3' : Option Addr} {k0 c0 c0' k1 c1 c1' k2 c2 c2' k3 c3 c3' : Nat} {d0 d1 d2 d3 : Int} {x y z u : DV} {g cap : Nat} (hx : Dy w n0 A0 k0 c0 d0 x A0' c0') (hy : Dy w n1 A1 k1 c1 d1 y A1' c1') (hz : Dy w n2 A2 k2 c2 d2 z A2' c2') (hu : Dy w n3 A3 k3 c3 d3 u A3' c3') (hT : Tabs w)
  (hs : St w g (.bool n1) (.slice A1 k1 c1) (I d1)) (h3 : w.cell? ⟨g, 3, none⟩ = some (.bool n2)) (h4 : w.cell? ⟨g, 4, none⟩ = some (.slice A2 k2 c2)) (h5 : w.cell? ⟨g, 5, none⟩ = some (I d2))
  (h6 : w.cell? ⟨g, 6, none⟩ = some (.bool n3)) (h7 : w.cell? ⟨g, 7, none⟩ = some (.slice A3 k3 c3)) (h8 : w.cell? ⟨g, 8, none⟩ = some (I d3)) :
  Calls Tryz.prog 182 #[dv n0 A0 k0 c0 d0, .slice (some ⟨g, 0, none⟩) 3 cap] w (IvRes (lo4 x y z u) (hi4 x y z u) w) := by
 have h := least_any (N := 3) (cap := cap) (ng := fun i => if i = 0 then n1 else if i = 1 then n2 else n3) (As := fun i => if i = 0 then A1 else if i = 1 then A2 else A3) (A' := fun i => if i = 0 then A1' else if i = 1 then A2' else A3') (ns := fun i => if i = 0 then k1 else if i = 1 then k2 else k3) (cs := fun i => if i = 0 then c1 else if i = 1 then c2 else c3) (c' := fun i => if i = 0 then c1' else if i = 1 then c2' else c3') (dn := fun i => if i = 0 then d1 else if i = 1 then d2 else d3) (D := fun i => if i = 0 then y else if i = 1 then z else u) hx hT
  (fun i hi => by
   have : i = 0 ∨ i = 1 ∨ i = 2 := by omega
   rcases this with rfl | rfl | rfl
   ·exact ⟨hs, hy⟩
   ·exact ⟨⟨h3, h4, h5⟩, hz⟩
   ·exact ⟨⟨h6, h7, h8⟩, hu⟩) hs.lt (by decide)
 rw [show loF x (fun i => if i = 0 then y else if i = 1 then z else u) 3 = lo4 x y z u by show minD (minD (minD (minD x x) y) z) u = minD (minD (minD x y) z) u; rw [minD_self], show hiF x (fun i => if i = 0 then y else if i = 1 then z else u) 3 = hi4 x y z u by show maxD (maxD (maxD (maxD x x) y) z) u = maxD (maxD (maxD x y) z) u; rw [maxD_self]] at h
 exact h
theorem B6.far6 {w : World} {g g' : Nat} {v0 v1 v2 v3 v4 v5 : Value} (h : B6 w g v0 v1 v2 v3 v4 v5) (hne : g' ≠ g) (u0 u1 u2 u3 u4 u5 : Value) : B6 ((((((w.setCell ⟨g', 0, none⟩ u0).setCell ⟨g', 1, none⟩ u1).setCell ⟨g', 2, none⟩ u2).setCell ⟨g', 3, none⟩ u3).setCell ⟨g', 4, none⟩ u4).setCell ⟨g', 5, none⟩ u5) g v0 v1 v2 v3 v4 v5 := by
 obtain ⟨⟨h0, h1, h2, h3, h4, h5⟩, hf⟩ := h
 have o (W : World) (i j : Nat) (u : Value) {v : Value} (hv : W.cell? ⟨g, i, none⟩ = some v) : (W.setCell ⟨g', j, none⟩ u).cell? ⟨g, i, none⟩ = some v := by
  rw [World.cell?_setCell_other _ _ _ _ (by intro e; injection e with e; exact hne e)]; exact hv
 refine ⟨⟨?_, ?_, ?_, ?_, ?_, ?_⟩, fun i => by simp [hf i]⟩
 all_goals
  repeat refine o _ _ _ _ ?_
  assumption
theorem B6.set6 {w : World} {g : Nat} {v0 v1 v2 v3 v4 v5 : Value} (h : B6 w g v0 v1 v2 v3 v4 v5) (u0 u1 u2 u3 u4 u5 : Value) : B6 ((((((w.setCell ⟨g, 0, none⟩ u0).setCell ⟨g, 1, none⟩ u1).setCell ⟨g, 2, none⟩ u2).setCell ⟨g, 3, none⟩ u3).setCell ⟨g, 4, none⟩ u4).setCell ⟨g, 5, none⟩ u5) g u0 u1 u2 u3 u4 u5 := by
 obtain ⟨⟨h0, h1, h2, h3, h4, h5⟩, hf⟩ := h
 have o (W : World) (i j : Nat) (u : Value) {v : Value} (hij : i ≠ j) (hv : W.cell? ⟨g, i, none⟩ = some v) : (W.setCell ⟨g, j, none⟩ u).cell? ⟨g, i, none⟩ = some v := by
  rw [World.cell?_setCell_other _ _ _ _ (by intro e; injection e with _ e; exact hij e.symm)]; exact hv
 have s (W : World) (i : Nat) (u : Value) {v : Value} (hv : W.cell? ⟨g, i, none⟩ = some v) : (W.setCell ⟨g, i, none⟩ u).cell? ⟨g, i, none⟩ = some u := World.cell?_setCell_same W _ u hv
 refine ⟨⟨?_, ?_, ?_, ?_, ?_, ?_⟩, fun i => by simp [hf i]⟩
 ·exact o _ _ _ _ (by decide) (o _ _ _ _ (by decide) (o _ _ _ _ (by decide) (o _ _ _ _ (by decide) (o _ _ _ _ (by decide) (s _ _ _ h0)))))
 ·exact o _ _ _ _ (by decide) (o _ _ _ _ (by decide) (o _ _ _ _ (by decide) (o _ _ _ _ (by decide) (s _ _ _ (o _ _ _ _ (by decide) h1)))))
 ·exact o _ _ _ _ (by decide) (o _ _ _ _ (by decide) (o _ _ _ _ (by decide) (s _ _ _ (o _ _ _ _ (by decide) (o _ _ _ _ (by decide) h2)))))
 ·exact o _ _ _ _ (by decide) (o _ _ _ _ (by decide) (s _ _ _ (o _ _ _ _ (by decide) (o _ _ _ _ (by decide) (o _ _ _ _ (by decide) h3)))))
 ·exact o _ _ _ _ (by decide) (s _ _ _ (o _ _ _ _ (by decide) (o _ _ _ _ (by decide) (o _ _ _ _ (by decide) (o _ _ _ _ (by decide) h4)))))
 ·exact s _ _ _ (o _ _ _ _ (by decide) (o _ _ _ _ (by decide) (o _ _ _ _ (by decide) (o _ _ _ _ (by decide) (o _ _ _ _ (by decide) h5)))))
abbrev BI (w : World) (g : Nat) (a : DV) (A : Option Addr) (c : Nat) (b : DV) (B : Option Addr) (e : Nat) : Prop := B6 w g (.bool a.neg) (.slice A (len a.m) c) (I a.den) (.bool b.neg) (.slice B (len b.m) e) (I b.den)
abbrev BZ (w : World) (g : Nat) : Prop := B6 w g (.bool false) (.slice none 0 0) (I 0) (.bool false) (.slice none 0 0) (I 0)
def OneI (w : World) (a b : DV) (A : Option Addr) (c : Nat) (B : Option Addr) (e : Nat) (wx : World) : Prop := Ext w wx ∧ BI wx w.heap.size a A c b B e ∧ BZ wx (w.heap.size + 1)
def TwoI (w : World) (a b : DV) (A : Option Addr) (c : Nat) (B : Option Addr) (e : Nat) (x y : DV) (X : Option Addr) (k : Nat) (Y : Option Addr) (l : Nat) (wx : World) : Prop :=
 Ext w wx ∧ BI wx w.heap.size a A c b B e ∧ BI wx (w.heap.size + 1) x X k y Y l ∧ BZ wx (w.heap.size + 1 + 1)
theorem boxes2 (w : World) (n1 n2 : Bool) (A B : Option Addr) (k c m e : Nat) (d1 d2 : Int) :
  B6 ((w.alloc (.cells #[.bool n1, .slice A k c, I d1, .bool n2, .slice B m e, I d2] 58)).alloc (.cells #[.bool false, .slice none 0 0, I 0, .bool false, .slice none 0 0, I 0] 58)) w.heap.size (.bool n1) (.slice A k c) (I d1) (.bool n2) (.slice B m e) (I d2) ∧
  BZ ((w.alloc (.cells #[.bool n1, .slice A k c, I d1, .bool n2, .slice B m e, I d2] 58)).alloc (.cells #[.bool false, .slice none 0 0, I 0, .bool false, .slice none 0 0, I 0] 58)) (w.heap.size + 1) ∧
  Ext w ((w.alloc (.cells #[.bool n1, .slice A k c, I d1, .bool n2, .slice B m e, I d2] 58)).alloc (.cells #[.bool false, .slice none 0 0, I 0, .bool false, .slice none 0 0, I 0] 58)) := by
 have s1 := (B6.new w (.bool n1) (.slice A k c) (I d1) (.bool n2) (.slice B m e) (I d2) 58).ext (Ext.alloc _ (.cells #[.bool false, .slice none 0 0, I 0, .bool false, .slice none 0 0, I 0] 58))
 have s2 := B6.new (w.alloc (.cells #[.bool n1, .slice A k c, I d1, .bool n2, .slice B m e, I d2] 58)) (.bool false) (.slice none 0 0) (I 0) (.bool false) (.slice none 0 0) (I 0) 58
 rw [show (w.alloc (.cells #[.bool n1, .slice A k c, I d1, .bool n2, .slice B m e, I d2] 58)).heap.size = w.heap.size + 1 by simp] at s2
 exact ⟨s1, s2, (Ext.alloc _ _).trans (Ext.alloc _ _)⟩
theorem boxes3 (w : World) (n1 n2 : Bool) (A B : Option Addr) (k c m e : Nat) (d1 d2 : Int) (n3 n4 : Bool) (X Y : Option Addr) (p q r s : Nat) (d3 d4 : Int) :
  let W := ((w.alloc (.cells #[.bool n1, .slice A k c, I d1, .bool n2, .slice B m e, I d2] 58)).alloc (.cells #[.bool n3, .slice X p q, I d3, .bool n4, .slice Y r s, I d4] 58)).alloc (.cells #[.bool false, .slice none 0 0, I 0, .bool false, .slice none 0 0, I 0] 58)
  B6 W w.heap.size (.bool n1) (.slice A k c) (I d1) (.bool n2) (.slice B m e) (I d2) ∧ B6 W (w.heap.size + 1) (.bool n3) (.slice X p q) (I d3) (.bool n4) (.slice Y r s) (I d4) ∧ BZ W (w.heap.size + 1 + 1) ∧ Ext w W := by
 have s1 := ((B6.new w (.bool n1) (.slice A k c) (I d1) (.bool n2) (.slice B m e) (I d2) 58).ext (Ext.alloc _ (.cells #[.bool n3, .slice X p q, I d3, .bool n4, .slice Y r s, I d4] 58))).ext (Ext.alloc _ (.cells #[.bool false, .slice none 0 0, I 0, .bool false, .slice none 0 0, I 0] 58))
 have s2 := (B6.new (w.alloc (.cells #[.bool n1, .slice A k c, I d1, .bool n2, .slice B m e, I d2] 58)) (.bool n3) (.slice X p q) (I d3) (.bool n4) (.slice Y r s) (I d4) 58).ext (Ext.alloc _ (.cells #[.bool false, .slice none 0 0, I 0, .bool false, .slice none 0 0, I 0] 58))
 have s3 := B6.new ((w.alloc (.cells #[.bool n1, .slice A k c, I d1, .bool n2, .slice B m e, I d2] 58)).alloc (.cells #[.bool n3, .slice X p q, I d3, .bool n4, .slice Y r s, I d4] 58)) (.bool false) (.slice none 0 0) (I 0) (.bool false) (.slice none 0 0) (I 0) 58
 rw [show (w.alloc (.cells #[.bool n1, .slice A k c, I d1, .bool n2, .slice B m e, I d2] 58)).heap.size = w.heap.size + 1 by simp] at s2
 rw [show ((w.alloc (.cells #[.bool n1, .slice A k c, I d1, .bool n2, .slice B m e, I d2] 58)).alloc (.cells #[.bool n3, .slice X p q, I d3, .bool n4, .slice Y r s, I d4] 58)).heap.size = w.heap.size + 1 + 1 by simp] at s3
 exact ⟨s1, s2, s3, ((Ext.alloc _ _).trans (Ext.alloc _ _)).trans (Ext.alloc _ _)⟩
theorem oneI_of {w W0 W : World} {a b : DV} {A B : Option Addr} {c e : Nat} {v0 v1 v2 v3 v4 v5 : Value} (h0 : B6 W0 w.heap.size v0 v1 v2 v3 v4 v5) (hz : BZ W0 (w.heap.size + 1)) (hw : Ext w W0) (hx : Ext W0 W) :
  OneI w a b A c B e ((((((W.setCell ⟨w.heap.size, 0, none⟩ (.bool a.neg)).setCell ⟨w.heap.size, 1, none⟩ (.slice A (len a.m) c)).setCell ⟨w.heap.size, 2, none⟩ (I a.den)).setCell ⟨w.heap.size, 3, none⟩ (.bool b.neg)).setCell ⟨w.heap.size, 4, none⟩ (.slice B (len b.m) e)).setCell ⟨w.heap.size, 5, none⟩ (I b.den)) :=
 ⟨ext_set6 (hw.trans hx) (Nat.le_refl _) _ _ _ _ _ _, (h0.ext hx).set6 _ _ _ _ _ _, (hz.ext hx).far6 (by omega) _ _ _ _ _ _⟩
theorem twoI_of {w W0 W : World} {a b x y : DV} {A B X Y : Option Addr} {c e k l : Nat} {v0 v1 v2 v3 v4 v5 u0 u1 u2 u3 u4 u5 : Value} (h0 : B6 W0 w.heap.size v0 v1 v2 v3 v4 v5) (h1 : B6 W0 (w.heap.size + 1) u0 u1 u2 u3 u4 u5) (hz : BZ W0 (w.heap.size + 1 + 1)) (hw : Ext w W0) (hx : Ext W0 W) :
  TwoI w a b A c B e x y X k Y l ((((((((((((W.setCell ⟨w.heap.size, 0, none⟩ (.bool a.neg)).setCell ⟨w.heap.size, 1, none⟩ (.slice A (len a.m) c)).setCell ⟨w.heap.size, 2, none⟩ (I a.den)).setCell ⟨w.heap.size, 3, none⟩ (.bool b.neg)).setCell ⟨w.heap.size, 4, none⟩ (.slice B (len b.m) e)).setCell ⟨w.heap.size, 5, none⟩ (I b.den)).setCell ⟨w.heap.size + 1, 0, none⟩ (.bool x.neg)).setCell ⟨w.heap.size + 1, 1, none⟩ (.slice X (len x.m) k)).setCell ⟨w.heap.size + 1, 2, none⟩ (I x.den)).setCell ⟨w.heap.size + 1, 3, none⟩ (.bool y.neg)).setCell ⟨w.heap.size + 1, 4, none⟩ (.slice Y (len y.m) l)).setCell ⟨w.heap.size + 1, 5, none⟩ (I y.den)) :=
 ⟨ext_set6 (ext_set6 (hw.trans hx) (Nat.le_refl _) _ _ _ _ _ _) (by omega) _ _ _ _ _ _, ((h0.ext hx).set6 _ _ _ _ _ _).far6 (by omega) _ _ _ _ _ _, ((h1.ext hx).far6 (by omega) _ _ _ _ _ _).set6 _ _ _ _ _ _, ((hz.ext hx).far6 (by omega) _ _ _ _ _ _).far6 (by omega) _ _ _ _ _ _⟩
end
section
open Go.RowKit
def NumI (w : World) (a b : DV) (A : Option Addr) (c : Nat) (B : Option Addr) (e : Nat) (n3 : Bool) (X : Option Addr) (p q : Nat) (d3 : Int) (wx : World) : Prop :=
 Ext w wx ∧ BI wx w.heap.size a A c b B e ∧ Bx wx (w.heap.size + 1) (.bool n3) (.slice X p q) (I d3)
def NumZ (w : World) (a b : DV) (A : Option Addr) (c : Nat) (B : Option Addr) (e : Nat) (n3 : Bool) (X : Option Addr) (p q : Nat) (d3 : Int) (wx : World) : Prop :=
 Ext w wx ∧ BI wx w.heap.size a A c b B e ∧ Bx wx (w.heap.size + 1) (.bool n3) (.slice X p q) (I d3) ∧ BZ wx (w.heap.size + 1 + 1)
theorem Bx.far6 {w : World} {g g' : Nat} {v0 v1 v2 : Value} (h : Bx w g v0 v1 v2) (hne : g' ≠ g) (u0 u1 u2 u3 u4 u5 : Value) : Bx ((((((w.setCell ⟨g', 0, none⟩ u0).setCell ⟨g', 1, none⟩ u1).setCell ⟨g', 2, none⟩ u2).setCell ⟨g', 3, none⟩ u3).setCell ⟨g', 4, none⟩ u4).setCell ⟨g', 5, none⟩ u5) g v0 v1 v2 := by
 obtain ⟨⟨h0, h1, h2⟩, hf⟩ := h
 have o (W : World) (i j : Nat) (u : Value) {v : Value} (hv : W.cell? ⟨g, i, none⟩ = some v) : (W.setCell ⟨g', j, none⟩ u).cell? ⟨g, i, none⟩ = some v := by
  rw [World.cell?_setCell_other _ _ _ _ (by intro e; injection e with e; exact hne e)]; exact hv
 refine ⟨⟨?_, ?_, ?_⟩, fun i => by simp [hf i]⟩
 all_goals
  repeat refine o _ _ _ _ ?_
  assumption
theorem numI_of {w W0 W : World} {a b : DV} {A B X : Option Addr} {c e p q : Nat} {n3 : Bool} {d3 : Int} {v0 v1 v2 v3 v4 v5 : Value} (h0 : B6 W0 w.heap.size v0 v1 v2 v3 v4 v5) (h1 : Bx W0 (w.heap.size + 1) (.bool n3) (.slice X p q) (I d3)) (hw : Ext w W0) (hx : Ext W0 W) :
  NumI w a b A c B e n3 X p q d3 ((((((W.setCell ⟨w.heap.size, 0, none⟩ (.bool a.neg)).setCell ⟨w.heap.size, 1, none⟩ (.slice A (len a.m) c)).setCell ⟨w.heap.size, 2, none⟩ (I a.den)).setCell ⟨w.heap.size, 3, none⟩ (.bool b.neg)).setCell ⟨w.heap.size, 4, none⟩ (.slice B (len b.m) e)).setCell ⟨w.heap.size, 5, none⟩ (I b.den)) :=
 ⟨ext_set6 (hw.trans hx) (Nat.le_refl _) _ _ _ _ _ _, (h0.ext hx).set6 _ _ _ _ _ _, (h1.ext hx).far6 (by omega) _ _ _ _ _ _⟩
theorem numZ_of {w W0 W : World} {a b : DV} {A B X : Option Addr} {c e p q : Nat} {n3 : Bool} {d3 : Int} {v0 v1 v2 v3 v4 v5 : Value} (h0 : B6 W0 w.heap.size v0 v1 v2 v3 v4 v5) (h1 : Bx W0 (w.heap.size + 1) (.bool n3) (.slice X p q) (I d3)) (hz : BZ W0 (w.heap.size + 1 + 1)) (hw : Ext w W0) (hx : Ext W0 W) :
  NumZ w a b A c B e n3 X p q d3 ((((((W.setCell ⟨w.heap.size, 0, none⟩ (.bool a.neg)).setCell ⟨w.heap.size, 1, none⟩ (.slice A (len a.m) c)).setCell ⟨w.heap.size, 2, none⟩ (I a.den)).setCell ⟨w.heap.size, 3, none⟩ (.bool b.neg)).setCell ⟨w.heap.size, 4, none⟩ (.slice B (len b.m) e)).setCell ⟨w.heap.size, 5, none⟩ (I b.den)) :=
 ⟨ext_set6 (hw.trans hx) (Nat.le_refl _) _ _ _ _ _ _, (h0.ext hx).set6 _ _ _ _ _ _, (h1.ext hx).far6 (by omega) _ _ _ _ _ _, (hz.ext hx).far6 (by omega) _ _ _ _ _ _⟩
theorem boxesN (w : World) (n1 n2 : Bool) (A B : Option Addr) (k c m e : Nat) (d1 d2 : Int) (n3 : Bool) (X : Option Addr) (p q : Nat) (d3 : Int) :
  let W := ((w.alloc (.cells #[.bool n1, .slice A k c, I d1, .bool n2, .slice B m e, I d2] 58)).alloc (.cells #[.bool n3, .slice X p q, I d3] 56))
  B6 W w.heap.size (.bool n1) (.slice A k c) (I d1) (.bool n2) (.slice B m e) (I d2) ∧ Bx W (w.heap.size + 1) (.bool n3) (.slice X p q) (I d3) ∧ Ext w W := by
 have s1 := (B6.new w (.bool n1) (.slice A k c) (I d1) (.bool n2) (.slice B m e) (I d2) 58).ext (Ext.alloc _ (.cells #[.bool n3, .slice X p q, I d3] 56))
 have s2 := Bx.new (w.alloc (.cells #[.bool n1, .slice A k c, I d1, .bool n2, .slice B m e, I d2] 58)) (.bool n3) (.slice X p q) (I d3) 56
 rw [show (w.alloc (.cells #[.bool n1, .slice A k c, I d1, .bool n2, .slice B m e, I d2] 58)).heap.size = w.heap.size + 1 by simp] at s2
 exact ⟨s1, s2, (Ext.alloc _ _).trans (Ext.alloc _ _)⟩
theorem boxesNZ (w : World) (n1 n2 : Bool) (A B : Option Addr) (k c m e : Nat) (d1 d2 : Int) (n3 : Bool) (X : Option Addr) (p q : Nat) (d3 : Int) :
  let W := ((w.alloc (.cells #[.bool n1, .slice A k c, I d1, .bool n2, .slice B m e, I d2] 58)).alloc (.cells #[.bool n3, .slice X p q, I d3] 56)).alloc (.cells #[.bool false, .slice none 0 0, I 0, .bool false, .slice none 0 0, I 0] 58)
  B6 W w.heap.size (.bool n1) (.slice A k c) (I d1) (.bool n2) (.slice B m e) (I d2) ∧ Bx W (w.heap.size + 1) (.bool n3) (.slice X p q) (I d3) ∧ BZ W (w.heap.size + 1 + 1) ∧ Ext w W := by
 obtain ⟨h0, h1, h2⟩ := boxesN w n1 n2 A B k c m e d1 d2 n3 X p q d3
 have s3 := B6.new ((w.alloc (.cells #[.bool n1, .slice A k c, I d1, .bool n2, .slice B m e, I d2] 58)).alloc (.cells #[.bool n3, .slice X p q, I d3] 56)) (.bool false) (.slice none 0 0) (I 0) (.bool false) (.slice none 0 0) (I 0) 58
 rw [show ((w.alloc (.cells #[.bool n1, .slice A k c, I d1, .bool n2, .slice B m e, I d2] 58)).alloc (.cells #[.bool n3, .slice X p q, I d3] 56)).heap.size = w.heap.size + 1 + 1 by simp] at s3
 exact ⟨h0.ext (Ext.alloc _ _), h1.ext (Ext.alloc _ _), s3, h2.trans (Ext.alloc _ _)⟩
end
end
section
open Go.RowKit
attribute [local go_sem ↓] Go.wp_at_zero Go.wp_at_succ
def conB (a b x : DV) : Bool := decide (cmpD a x ≤ 0) && decide (cmpD x b ≤ 0)
theorem conB_f {a b x : DV} {v : Int} (h : cmpD a x = v) (hv : ¬ v ≤ 0) : conB a b x = false := by unfold conB; rw [h, decide_eq_false hv]; rfl
theorem conB_t {a b x : DV} {v z : Int} (h : cmpD a x = v) (hv : v ≤ 0) (h2 : cmpD x b = z) : conB a b x = decide (z ≤ 0) := by unfold conB; rw [h, h2, decide_eq_true hv]; rfl
set_option maxRecDepth 100000 in
set_option maxHeartbeats 1000000 in
theorem contains_any {w : World} {n1 n2 : Bool} {A B A' B' : Option Addr} {k c m e c' e' : Nat} {d1 d2 : Int} {a b : DV} {n3 : Bool} {X X' : Option Addr} {p q q' : Nat} {d3 : Int} {x : DV} (ha : Iw w n1 A k c d1 n2 B m e d2 a b A' c' B' e') (hb : Dy w n3 X p q d3 x X' q') :
  Calls Tryz.prog 31 #[iv n1 A k c d1 n2 B m e d2, dv n3 X p q d3] w fun e' w' => e' = .returned (.bool (conB a b x)) ∧ Ext w w' := by
 obtain ⟨v, hv⟩ : ∃ v, cmpD a x = v := ⟨_, rfl⟩
 obtain ⟨z, hz⟩ : ∃ z, cmpD x b = z := ⟨_, rfl⟩
 by_cases h : v ≤ 0
 ·rw [conB_t hv h hz]
  have Ev := Lib.hid hv; have Ez := Lib.hid hz; clear hv hz
  have HA := Lib.hid ha; have HB := Lib.hid hb; clear ha hb
  obtain ⟨X0, X1, XE⟩ := boxesN w n1 n2 A B k c m e d1 d2 n3 X p q d3
  have HX0 := Lib.hid X0; have HX1 := Lib.hid X1; have HXE := Lib.hid XE
  clear X0 X1 XE
  go_enter Tryz.func31, Tryz.ntmps31
  go_upto_region 1 with fail
  go_cut [] (fun wx => NumI w a b A' c' B' e' n3 X p q d3 wx)
  case first =>
   obtain ⟨⟨k0, k1, k2, k3, k4, k5⟩, kz⟩ := HX0.out
   go_wp2_with (go_at_call 87; (with_reducible refine (HA.out.itv _ HXE.out).mono ?_); rintro e1 w1 ⟨rfl, hx⟩; clear k0 k1 k2 k3 k4 k5 kz; obtain ⟨⟨k0, k1, k2, k3, k4, k5⟩, kz⟩ := HX0.out.ext hx; have HX := Lib.hid hx; clear hx)
   go_meet
   exact numI_of HX0.out HX1.out HXE.out HX.out
  case rest =>
   clear HX0 HX1 HXE
   obtain ⟨hE, hX0, hX1⟩ := hcut
   have HE := Lib.hid hE; have HX0 := Lib.hid hX0; have HX1 := Lib.hid hX1
   clear hE hX0 hX1
   obtain ⟨⟨k0, k1, k2, k3, k4, k5⟩, kz⟩ := HX0.out
   obtain ⟨⟨l0, l1, l2⟩, lz⟩ := HX1.out
   go_wp2_with (first
    | (have hg := X1; clear hg; go_at_call 88; (with_reducible refine (cmp_any (HB.out.ext (HE.out.trans X1.out)) (HA.out.dyb.ext (HE.out.trans X1.out))).mono ?_); rw [Ez.out]; rintro e2 w2 ⟨rfl, hx⟩; have X2 := Lib.hid (X1.out.trans hx); clear hx)
    | (go_at_call 88; (with_reducible refine (cmp_any (HA.out.dya.ext (HE.out.trans (Ext.refl _))) (HB.out.ext (HE.out.trans (Ext.refl _)))).mono ?_); rw [Ev.out]; rintro e1 w1 ⟨rfl, hx⟩; have X1 := Lib.hid hx; clear k0 k1 k2 k3 k4 k5 kz l0 l1 l2 lz; obtain ⟨⟨k0, k1, k2, k3, k4, k5⟩, kz⟩ := HX0.out.ext hx; obtain ⟨⟨l0, l1, l2⟩, lz⟩ := HX1.out.ext hx; clear hx))
   go_ret
   exact ⟨rfl, HE.out.trans X2.out⟩
 ·rw [conB_f hv h]
  have Ev := Lib.hid hv; have Ez := Lib.hid hz; clear hv hz
  have HA := Lib.hid ha; have HB := Lib.hid hb; clear ha hb
  obtain ⟨X0, X1, XE⟩ := boxesN w n1 n2 A B k c m e d1 d2 n3 X p q d3
  have HX0 := Lib.hid X0; have HX1 := Lib.hid X1; have HXE := Lib.hid XE
  clear X0 X1 XE
  go_enter Tryz.func31, Tryz.ntmps31
  go_upto_region 1 with fail
  go_cut [] (fun wx => NumI w a b A' c' B' e' n3 X p q d3 wx)
  case first =>
   obtain ⟨⟨k0, k1, k2, k3, k4, k5⟩, kz⟩ := HX0.out
   go_wp2_with (go_at_call 87; (with_reducible refine (HA.out.itv _ HXE.out).mono ?_); rintro e1 w1 ⟨rfl, hx⟩; clear k0 k1 k2 k3 k4 k5 kz; obtain ⟨⟨k0, k1, k2, k3, k4, k5⟩, kz⟩ := HX0.out.ext hx; have HX := Lib.hid hx; clear hx)
   go_meet
   exact numI_of HX0.out HX1.out HXE.out HX.out
  case rest =>
   clear HX0 HX1 HXE
   obtain ⟨hE, hX0, hX1⟩ := hcut
   have HE := Lib.hid hE; have HX0 := Lib.hid hX0; have HX1 := Lib.hid hX1
   clear hE hX0 hX1
   obtain ⟨⟨k0, k1, k2, k3, k4, k5⟩, kz⟩ := HX0.out
   obtain ⟨⟨l0, l1, l2⟩, lz⟩ := HX1.out
   go_wp2_with (go_at_call 88; (with_reducible refine (cmp_any (HA.out.dya.ext (HE.out.trans (Ext.refl _))) (HB.out.ext (HE.out.trans (Ext.refl _)))).mono ?_); rw [Ev.out]; rintro e1 w1 ⟨rfl, hx⟩; have X1 := Lib.hid hx; clear k0 k1 k2 k3 k4 k5 kz l0 l1 l2 lz; obtain ⟨⟨k0, k1, k2, k3, k4, k5⟩, kz⟩ := HX0.out.ext hx; obtain ⟨⟨l0, l1, l2⟩, lz⟩ := HX1.out.ext hx; clear hx)
   go_ret
   exact ⟨rfl, HE.out.trans X1.out⟩
end
section
open Go.RowKit
attribute [local go_sem ↓] Go.wp_at_zero Go.wp_at_succ
def InI (w : World) (a b : DV) (A : Option Addr) (c : Nat) (B : Option Addr) (e : Nat) (n3 : Bool) (X : Option Addr) (p q : Nat) (d3 : Int) (n4 : Bool) (Y : Option Addr) (r s : Nat) (d4 : Int) (wx : World) : Prop :=
 Ext w wx ∧ BI wx w.heap.size a A c b B e ∧ B6 wx (w.heap.size + 1) (.bool n3) (.slice X p q) (I d3) (.bool n4) (.slice Y r s) (I d4)
theorem inI_of {w W0 W : World} {a b : DV} {A B X Y : Option Addr} {c e p q r s : Nat} {n3 n4 : Bool} {d3 d4 : Int} {v0 v1 v2 v3 v4 v5 : Value} (h0 : B6 W0 w.heap.size v0 v1 v2 v3 v4 v5) (h1 : B6 W0 (w.heap.size + 1) (.bool n3) (.slice X p q) (I d3) (.bool n4) (.slice Y r s) (I d4)) (hw : Ext w W0) (hx : Ext W0 W) :
  InI w a b A c B e n3 X p q d3 n4 Y r s d4 ((((((W.setCell ⟨w.heap.size, 0, none⟩ (.bool a.neg)).setCell ⟨w.heap.size, 1, none⟩ (.slice A (len a.m) c)).setCell ⟨w.heap.size, 2, none⟩ (I a.den)).setCell ⟨w.heap.size, 3, none⟩ (.bool b.neg)).setCell ⟨w.heap.size, 4, none⟩ (.slice B (len b.m) e)).setCell ⟨w.heap.size, 5, none⟩ (I b.den)) :=
 ⟨ext_set6 (hw.trans hx) (Nat.le_refl _) _ _ _ _ _ _, (h0.ext hx).set6 _ _ _ _ _ _, (h1.ext hx).far6 (by omega) _ _ _ _ _ _⟩
theorem boxesI (w : World) (n1 n2 : Bool) (A B : Option Addr) (k c m e : Nat) (d1 d2 : Int) (n3 n4 : Bool) (X Y : Option Addr) (p q r s : Nat) (d3 d4 : Int) :
  let W := (w.alloc (.cells #[.bool n1, .slice A k c, I d1, .bool n2, .slice B m e, I d2] 58)).alloc (.cells #[.bool n3, .slice X p q, I d3, .bool n4, .slice Y r s, I d4] 58)
  B6 W w.heap.size (.bool n1) (.slice A k c) (I d1) (.bool n2) (.slice B m e) (I d2) ∧ B6 W (w.heap.size + 1) (.bool n3) (.slice X p q) (I d3) (.bool n4) (.slice Y r s) (I d4) ∧ Ext w W := by
 have s1 := (B6.new w (.bool n1) (.slice A k c) (I d1) (.bool n2) (.slice B m e) (I d2) 58).ext (Ext.alloc _ (.cells #[.bool n3, .slice X p q, I d3, .bool n4, .slice Y r s, I d4] 58))
 have s2 := B6.new (w.alloc (.cells #[.bool n1, .slice A k c, I d1, .bool n2, .slice B m e, I d2] 58)) (.bool n3) (.slice X p q) (I d3) (.bool n4) (.slice Y r s) (I d4) 58
 rw [show (w.alloc (.cells #[.bool n1, .slice A k c, I d1, .bool n2, .slice B m e, I d2] 58)).heap.size = w.heap.size + 1 by simp] at s2
 exact ⟨s1, s2, (Ext.alloc _ _).trans (Ext.alloc _ _)⟩
def insB (a b x y : DV) : Bool := conB x y a && conB x y b
theorem insB_f {a b x y : DV} (h : conB x y a = false) : insB a b x y = false := by unfold insB; rw [h]; rfl
theorem insB_t {a b x y : DV} {z : Bool} (h : conB x y a = true) (h2 : conB x y b = z) : insB a b x y = z := by unfold insB; rw [h, h2]; rfl
set_option maxRecDepth 100000 in
set_option maxHeartbeats 1000000 in
theorem inside_any {w : World} {n1 n2 : Bool} {A B A' B' : Option Addr} {k c m e c' e' : Nat} {d1 d2 : Int} {a b : DV} {n3 n4 : Bool} {X Y X' Y' : Option Addr} {p q r s q' s' : Nat} {d3 d4 : Int} {x y : DV} (ha : Iw w n1 A k c d1 n2 B m e d2 a b A' c' B' e') (hb : Iw w n3 X p q d3 n4 Y r s d4 x y X' q' Y' s') :
  Calls Tryz.prog 34 #[iv n1 A k c d1 n2 B m e d2, iv n3 X p q d3 n4 Y r s d4] w fun e' w' => e' = .returned (.bool (insB a b x y)) ∧ Ext w w' := by
 obtain ⟨z, hz⟩ : ∃ z, conB x y b = z := ⟨_, rfl⟩
 cases hv : conB x y a with
 | true =>
  rw [insB_t hv hz]
  have Ev := Lib.hid hv; have Ez := Lib.hid hz; clear hv hz
  have HA := Lib.hid ha; have HB := Lib.hid hb; clear ha hb
  obtain ⟨X0, X1, XE⟩ := boxesI w n1 n2 A B k c m e d1 d2 n3 n4 X Y p q r s d3 d4
  have HX0 := Lib.hid X0; have HX1 := Lib.hid X1; have HXE := Lib.hid XE
  clear X0 X1 XE
  go_enter Tryz.func34, Tryz.ntmps34
  go_upto_region 1 with fail
  go_cut [] (fun wx => InI w a b A' c' B' e' n3 X p q d3 n4 Y r s d4 wx)
  case first =>
   obtain ⟨⟨k0, k1, k2, k3, k4, k5⟩, kz⟩ := HX0.out
   go_wp2_with (go_at_call 87; (with_reducible refine (HA.out.itv _ HXE.out).mono ?_); rintro e1 w1 ⟨rfl, hx⟩; clear k0 k1 k2 k3 k4 k5 kz; obtain ⟨⟨k0, k1, k2, k3, k4, k5⟩, kz⟩ := HX0.out.ext hx; have HX := Lib.hid hx; clear hx)
   go_meet
   exact inI_of HX0.out HX1.out HXE.out HX.out
  case rest =>
   clear HX0 HX1 HXE
   obtain ⟨hE, hX0, hX1⟩ := hcut
   have HE := Lib.hid hE; have HX0 := Lib.hid hX0; have HX1 := Lib.hid hX1
   clear hE hX0 hX1
   obtain ⟨⟨k0, k1, k2, k3, k4, k5⟩, kz⟩ := HX0.out
   obtain ⟨⟨l0, l1, l2, l3, l4, l5⟩, lz⟩ := HX1.out
   go_wp2_with (first
    | (have hg := X1; clear hg; go_at_call 31; (with_reducible refine (contains_any (HB.out.ext (HE.out.trans X1.out)) (HA.out.dyb.ext (HE.out.trans X1.out))).mono ?_); rw [Ez.out]; rintro e2 w2 ⟨rfl, hx⟩; have X2 := Lib.hid (X1.out.trans hx); clear hx)
    | (go_at_call 31; (with_reducible refine (contains_any (HB.out.ext (HE.out.trans (Ext.refl _))) (HA.out.dya.ext (HE.out.trans (Ext.refl _)))).mono ?_); rw [Ev.out]; rintro e1 w1 ⟨rfl, hx⟩; have X1 := Lib.hid hx; clear k0 k1 k2 k3 k4 k5 kz l0 l1 l2 l3 l4 l5 lz; obtain ⟨⟨k0, k1, k2, k3, k4, k5⟩, kz⟩ := HX0.out.ext hx; obtain ⟨⟨l0, l1, l2, l3, l4, l5⟩, lz⟩ := HX1.out.ext hx; clear hx))
   go_ret
   exact ⟨rfl, HE.out.trans X2.out⟩
 | false =>
  rw [insB_f hv]
  have Ev := Lib.hid hv; have Ez := Lib.hid hz; clear hv hz
  have HA := Lib.hid ha; have HB := Lib.hid hb; clear ha hb
  obtain ⟨X0, X1, XE⟩ := boxesI w n1 n2 A B k c m e d1 d2 n3 n4 X Y p q r s d3 d4
  have HX0 := Lib.hid X0; have HX1 := Lib.hid X1; have HXE := Lib.hid XE
  clear X0 X1 XE
  go_enter Tryz.func34, Tryz.ntmps34
  go_upto_region 1 with fail
  go_cut [] (fun wx => InI w a b A' c' B' e' n3 X p q d3 n4 Y r s d4 wx)
  case first =>
   obtain ⟨⟨k0, k1, k2, k3, k4, k5⟩, kz⟩ := HX0.out
   go_wp2_with (go_at_call 87; (with_reducible refine (HA.out.itv _ HXE.out).mono ?_); rintro e1 w1 ⟨rfl, hx⟩; clear k0 k1 k2 k3 k4 k5 kz; obtain ⟨⟨k0, k1, k2, k3, k4, k5⟩, kz⟩ := HX0.out.ext hx; have HX := Lib.hid hx; clear hx)
   go_meet
   exact inI_of HX0.out HX1.out HXE.out HX.out
  case rest =>
   clear HX0 HX1 HXE
   obtain ⟨hE, hX0, hX1⟩ := hcut
   have HE := Lib.hid hE; have HX0 := Lib.hid hX0; have HX1 := Lib.hid hX1
   clear hE hX0 hX1
   obtain ⟨⟨k0, k1, k2, k3, k4, k5⟩, kz⟩ := HX0.out
   obtain ⟨⟨l0, l1, l2, l3, l4, l5⟩, lz⟩ := HX1.out
   go_wp2_with (go_at_call 31; (with_reducible refine (contains_any (HB.out.ext (HE.out.trans (Ext.refl _))) (HA.out.dya.ext (HE.out.trans (Ext.refl _)))).mono ?_); rw [Ev.out]; rintro e1 w1 ⟨rfl, hx⟩; have X1 := Lib.hid hx; clear k0 k1 k2 k3 k4 k5 kz l0 l1 l2 l3 l4 l5 lz; obtain ⟨⟨k0, k1, k2, k3, k4, k5⟩, kz⟩ := HX0.out.ext hx; obtain ⟨⟨l0, l1, l2, l3, l4, l5⟩, lz⟩ := HX1.out.ext hx; clear hx)
   go_ret
   exact ⟨rfl, HE.out.trans X1.out⟩
end
section
open Go.RowKit
attribute [local go_sem ↓] Go.wp_at_zero Go.wp_at_succ
def IvOk (a b : DV) (w : World) (e : Ending) (w' : World) : Prop := ∃ A c B k, e = .returned (.tuple #[ivd a A c b B k, .nilIface]) ∧ Fr w' w.heap.size A (len a.m) c (dg a.m) ∧ Fr w' w.heap.size B (len b.m) k (dg b.m) ∧ Ext w w'
theorem IvOk.end6 {a b : DV} {w w2 : World} {A B : Option Addr} {c k g b1 b2 : Nat} {e : Ending} {u0 u1 u2 u3 u4 u5 : Value} (he : e = .returned (.tuple #[ivd a A c b B k, .nilIface])) (ha : Fr w2 b1 A (len a.m) c (dg a.m)) (hb : Fr w2 b2 B (len b.m) k (dg b.m)) (hx : Ext w w2) (hg : w.heap.size ≤ g) (h1 : g < b1) (h2 : g < b2) :
  IvOk a b w e ((((((w2.setCell ⟨g, 0, none⟩ u0).setCell ⟨g, 1, none⟩ u1).setCell ⟨g, 2, none⟩ u2).setCell ⟨g, 3, none⟩ u3).setCell ⟨g, 4, none⟩ u4).setCell ⟨g, 5, none⟩ u5) :=
 ⟨A, c, B, k, he, (ha.set6 h1 _ _ _ _ _ _).mono (by omega), (hb.set6 h2 _ _ _ _ _ _).mono (by omega), ext_set6 hx hg _ _ _ _ _ _⟩
end
end Go.Proofs.YtgnngldlgcdnfaaGreatDoor
