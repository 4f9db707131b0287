/- Intervals: the least interval of two, three and four numbers; what the first statement of a function of intervals leaves. -/
import Derived.Test.YtcdkkohklhmpgaaGreatDoorIvl
namespace Go.Proofs.YtcdkkohklhmpgaaGreatDoor

/-! ### Ivc -/
section
open Go.RowKit

theorem St.mk' {w : World} {g : Nat} {v0 v1 v2 : Value} (h0 : w.cell? ⟨g, 0, none⟩ = some v0) (h1 : w.cell? ⟨g, 1, none⟩ = some v1) (h2 : w.cell? ⟨g, 2, none⟩ = some v2) : St w g v0 v1 v2 := ⟨h0, h1, h2⟩
theorem least1 {w : World} {n0 n1 : Bool} {A0 A0' A1 A1' : Option Addr} {k0 c0 c0' k1 c1 c1' : Nat} {d0 d1 : Int} {x y : DV} {g cap : Nat} (hx : Dy w n0 A0 k0 c0 d0 x A0' c0') (hy : Dy w n1 A1 k1 c1 d1 y A1' c1') (hT : Tabs w)
    (hs : St w g (.bool n1) (.slice A1 k1 c1) (I d1)) : Calls Tryz.prog 71 #[dv n0 A0 k0 c0 d0, .slice (some ⟨g, 0, none⟩) 1 cap] w (IvRes (lo2 x y) (hi2 x y) w) := by
  have h := least_any (N := 1) (cap := cap) (ng := fun _ => n1) (As := fun _ => A1) (A' := fun _ => A1') (ns := fun _ => k1) (cs := fun _ => c1) (c' := fun _ => c1') (dn := fun _ => d1) (D := fun _ => y) hx hT
    (fun i hi => by obtain rfl : i = 0 := by omega
                    exact ⟨hs, hy⟩) hs.lt (by decide)
  rw [show loF x (fun _ => y) 1 = lo2 x y by show minD (minD x x) y = minD x y; rw [minD_self], show hiF x (fun _ => y) 1 = hi2 x y by show maxD (maxD x x) y = maxD x y; rw [maxD_self]] at h
  exact h
theorem least2 {w : World} {n0 n1 n2 : Bool} {A0 A0' A1 A1' A2 A2' : Option Addr} {k0 c0 c0' k1 c1 c1' k2 c2 c2' : Nat} {d0 d1 d2 : Int} {x y z : DV} {g cap : Nat} (hx : Dy w n0 A0 k0 c0 d0 x A0' c0') (hy : Dy w n1 A1 k1 c1 d1 y A1' c1') (hz : Dy w n2 A2 k2 c2 d2 z A2' c2') (hT : Tabs w)
    (hs : St w g (.bool n1) (.slice A1 k1 c1) (I d1)) (h3 : w.cell? ⟨g, 3, none⟩ = some (.bool n2)) (h4 : w.cell? ⟨g, 4, none⟩ = some (.slice A2 k2 c2)) (h5 : w.cell? ⟨g, 5, none⟩ = some (I d2)) :
    Calls Tryz.prog 71 #[dv n0 A0 k0 c0 d0, .slice (some ⟨g, 0, none⟩) 2 cap] w (IvRes (lo3 x y z) (hi3 x y z) w) := by
  have h := least_any (N := 2) (cap := cap) (ng := fun i => if i = 0 then n1 else n2) (As := fun i => if i = 0 then A1 else A2) (A' := fun i => if i = 0 then A1' else A2') (ns := fun i => if i = 0 then k1 else k2) (cs := fun i => if i = 0 then c1 else c2) (c' := fun i => if i = 0 then c1' else c2') (dn := fun i => if i = 0 then d1 else d2) (D := fun i => if i = 0 then y else z) hx hT
    (fun i hi => by
      have : i = 0 ∨ i = 1 := by omega
      rcases this with rfl | rfl
      · exact ⟨hs, hy⟩
      · exact ⟨⟨h3, h4, h5⟩, hz⟩) hs.lt (by decide)
  rw [show loF x (fun i => if i = 0 then y else z) 2 = lo3 x y z by show minD (minD (minD x x) y) z = minD (minD x y) z; rw [minD_self], show hiF x (fun i => if i = 0 then y else z) 2 = hi3 x y z by show maxD (maxD (maxD x x) y) z = maxD (maxD x y) z; rw [maxD_self]] at h
  exact h
theorem least3 {w : World} {n0 n1 n2 n3 : Bool} {A0 A0' A1 A1' A2 A2' A3 A3' : Option Addr} {k0 c0 c0' k1 c1 c1' k2 c2 c2' k3 c3 c3' : Nat} {d0 d1 d2 d3 : Int} {x y z u : DV} {g cap : Nat} (hx : Dy w n0 A0 k0 c0 d0 x A0' c0') (hy : Dy w n1 A1 k1 c1 d1 y A1' c1') (hz : Dy w n2 A2 k2 c2 d2 z A2' c2') (hu : Dy w n3 A3 k3 c3 d3 u A3' c3') (hT : Tabs w)
    (hs : St w g (.bool n1) (.slice A1 k1 c1) (I d1)) (h3 : w.cell? ⟨g, 3, none⟩ = some (.bool n2)) (h4 : w.cell? ⟨g, 4, none⟩ = some (.slice A2 k2 c2)) (h5 : w.cell? ⟨g, 5, none⟩ = some (I d2))
    (h6 : w.cell? ⟨g, 6, none⟩ = some (.bool n3)) (h7 : w.cell? ⟨g, 7, none⟩ = some (.slice A3 k3 c3)) (h8 : w.cell? ⟨g, 8, none⟩ = some (I d3)) :
    Calls Tryz.prog 71 #[dv n0 A0 k0 c0 d0, .slice (some ⟨g, 0, none⟩) 3 cap] w (IvRes (lo4 x y z u) (hi4 x y z u) w) := by
  have h := least_any (N := 3) (cap := cap) (ng := fun i => if i = 0 then n1 else if i = 1 then n2 else n3) (As := fun i => if i = 0 then A1 else if i = 1 then A2 else A3) (A' := fun i => if i = 0 then A1' else if i = 1 then A2' else A3') (ns := fun i => if i = 0 then k1 else if i = 1 then k2 else k3) (cs := fun i => if i = 0 then c1 else if i = 1 then c2 else c3) (c' := fun i => if i = 0 then c1' else if i = 1 then c2' else c3') (dn := fun i => if i = 0 then d1 else if i = 1 then d2 else d3) (D := fun i => if i = 0 then y else if i = 1 then z else u) hx hT
    (fun i hi => by
      have : i = 0 ∨ i = 1 ∨ i = 2 := by omega
      rcases this with rfl | rfl | rfl
      · exact ⟨hs, hy⟩
      · exact ⟨⟨h3, h4, h5⟩, hz⟩
      · exact ⟨⟨h6, h7, h8⟩, hu⟩) hs.lt (by decide)
  rw [show loF x (fun i => if i = 0 then y else if i = 1 then z else u) 3 = lo4 x y z u by show minD (minD (minD (minD x x) y) z) u = minD (minD (minD x y) z) u; rw [minD_self], show hiF x (fun i => if i = 0 then y else if i = 1 then z else u) 3 = hi4 x y z u by show maxD (maxD (maxD (maxD x x) y) z) u = maxD (maxD (maxD x y) z) u; rw [maxD_self]] at h
  exact h

theorem B6.far6 {w : World} {g g' : Nat} {v0 v1 v2 v3 v4 v5 : Value} (h : B6 w g v0 v1 v2 v3 v4 v5) (hne : g' ≠ g) (u0 u1 u2 u3 u4 u5 : Value) : B6 ((((((w.setCell ⟨g', 0, none⟩ u0).setCell ⟨g', 1, none⟩ u1).setCell ⟨g', 2, none⟩ u2).setCell ⟨g', 3, none⟩ u3).setCell ⟨g', 4, none⟩ u4).setCell ⟨g', 5, none⟩ u5) g v0 v1 v2 v3 v4 v5 := by
  obtain ⟨⟨h0, h1, h2, h3, h4, h5⟩, hf⟩ := h
  have o (W : World) (i j : Nat) (u : Value) {v : Value} (hv : W.cell? ⟨g, i, none⟩ = some v) : (W.setCell ⟨g', j, none⟩ u).cell? ⟨g, i, none⟩ = some v := by
    rw [World.cell?_setCell_other _ _ _ _ (by intro e; injection e with e; exact hne e)]; exact hv
  refine ⟨⟨?_, ?_, ?_, ?_, ?_, ?_⟩, fun i => by simp [hf i]⟩
  all_goals
    repeat refine o _ _ _ _ ?_
    assumption
theorem B6.set6 {w : World} {g : Nat} {v0 v1 v2 v3 v4 v5 : Value} (h : B6 w g v0 v1 v2 v3 v4 v5) (u0 u1 u2 u3 u4 u5 : Value) : B6 ((((((w.setCell ⟨g, 0, none⟩ u0).setCell ⟨g, 1, none⟩ u1).setCell ⟨g, 2, none⟩ u2).setCell ⟨g, 3, none⟩ u3).setCell ⟨g, 4, none⟩ u4).setCell ⟨g, 5, none⟩ u5) g u0 u1 u2 u3 u4 u5 := by
  obtain ⟨⟨h0, h1, h2, h3, h4, h5⟩, hf⟩ := h
  have o (W : World) (i j : Nat) (u : Value) {v : Value} (hij : i ≠ j) (hv : W.cell? ⟨g, i, none⟩ = some v) : (W.setCell ⟨g, j, none⟩ u).cell? ⟨g, i, none⟩ = some v := by
    rw [World.cell?_setCell_other _ _ _ _ (by intro e; injection e with _ e; exact hij e.symm)]; exact hv
  have s (W : World) (i : Nat) (u : Value) {v : Value} (hv : W.cell? ⟨g, i, none⟩ = some v) : (W.setCell ⟨g, i, none⟩ u).cell? ⟨g, i, none⟩ = some u := World.cell?_setCell_same W _ u hv
  refine ⟨⟨?_, ?_, ?_, ?_, ?_, ?_⟩, fun i => by simp [hf i]⟩
  · exact o _ _ _ _ (by decide) (o _ _ _ _ (by decide) (o _ _ _ _ (by decide) (o _ _ _ _ (by decide) (o _ _ _ _ (by decide) (s _ _ _ h0)))))
  · exact o _ _ _ _ (by decide) (o _ _ _ _ (by decide) (o _ _ _ _ (by decide) (o _ _ _ _ (by decide) (s _ _ _ (o _ _ _ _ (by decide) h1)))))
  · exact o _ _ _ _ (by decide) (o _ _ _ _ (by decide) (o _ _ _ _ (by decide) (s _ _ _ (o _ _ _ _ (by decide) (o _ _ _ _ (by decide) h2)))))
  · exact o _ _ _ _ (by decide) (o _ _ _ _ (by decide) (s _ _ _ (o _ _ _ _ (by decide) (o _ _ _ _ (by decide) (o _ _ _ _ (by decide) h3)))))
  · exact o _ _ _ _ (by decide) (s _ _ _ (o _ _ _ _ (by decide) (o _ _ _ _ (by decide) (o _ _ _ _ (by decide) (o _ _ _ _ (by decide) h4)))))
  · exact s _ _ _ (o _ _ _ _ (by decide) (o _ _ _ _ (by decide) (o _ _ _ _ (by decide) (o _ _ _ _ (by decide) (o _ _ _ _ (by decide) h5)))))

/-- A box of an interval. -/
abbrev BI (w : World) (g : Nat) (a : DV) (A : Option Addr) (c : Nat) (b : DV) (B : Option Addr) (e : Nat) : Prop := B6 w g (.bool a.neg) (.slice A (len a.m) c) (I a.den) (.bool b.neg) (.slice B (len b.m) e) (I b.den)
abbrev BZ (w : World) (g : Nat) : Prop := B6 w g (.bool false) (.slice none 0 0) (I 0) (.bool false) (.slice none 0 0) (I 0)
/-- What the first statement of a function of one interval leaves; of two. -/
def OneI (w : World) (a b : DV) (A : Option Addr) (c : Nat) (B : Option Addr) (e : Nat) (wx : World) : Prop := Ext w wx ∧ BI wx w.heap.size a A c b B e ∧ BZ wx (w.heap.size + 1)
def TwoI (w : World) (a b : DV) (A : Option Addr) (c : Nat) (B : Option Addr) (e : Nat) (x y : DV) (X : Option Addr) (k : Nat) (Y : Option Addr) (l : Nat) (wx : World) : Prop :=
  Ext w wx ∧ BI wx w.heap.size a A c b B e ∧ BI wx (w.heap.size + 1) x X k y Y l ∧ BZ wx (w.heap.size + 1 + 1)
/-- Boxes of arguments and of the result. -/
abbrev box6 (n1 : Bool) (A : Option Addr) (k c : Nat) (d1 : Int) (n2 : Bool) (B : Option Addr) (m e : Nat) (d2 : Int) : Obj := .cells #[.bool n1, .slice A k c, I d1, .bool n2, .slice B m e, I d2] 26
abbrev boxZ : Obj := .cells #[.bool false, .slice none 0 0, I 0, .bool false, .slice none 0 0, I 0] 26
theorem boxes2 (w : World) (n1 n2 : Bool) (A B : Option Addr) (k c m e : Nat) (d1 d2 : Int) :
    B6 ((w.alloc (.cells #[.bool n1, .slice A k c, I d1, .bool n2, .slice B m e, I d2] 26)).alloc (.cells #[.bool false, .slice none 0 0, I 0, .bool false, .slice none 0 0, I 0] 26)) w.heap.size (.bool n1) (.slice A k c) (I d1) (.bool n2) (.slice B m e) (I d2) ∧
    BZ ((w.alloc (.cells #[.bool n1, .slice A k c, I d1, .bool n2, .slice B m e, I d2] 26)).alloc (.cells #[.bool false, .slice none 0 0, I 0, .bool false, .slice none 0 0, I 0] 26)) (w.heap.size + 1) ∧
    Ext w ((w.alloc (.cells #[.bool n1, .slice A k c, I d1, .bool n2, .slice B m e, I d2] 26)).alloc (.cells #[.bool false, .slice none 0 0, I 0, .bool false, .slice none 0 0, I 0] 26)) := by
  have s1 := (B6.new w (.bool n1) (.slice A k c) (I d1) (.bool n2) (.slice B m e) (I d2) 26).ext (Ext.alloc _ (.cells #[.bool false, .slice none 0 0, I 0, .bool false, .slice none 0 0, I 0] 26))
  have s2 := B6.new (w.alloc (.cells #[.bool n1, .slice A k c, I d1, .bool n2, .slice B m e, I d2] 26)) (.bool false) (.slice none 0 0) (I 0) (.bool false) (.slice none 0 0) (I 0) 26
  rw [show (w.alloc (.cells #[.bool n1, .slice A k c, I d1, .bool n2, .slice B m e, I d2] 26)).heap.size = w.heap.size + 1 by simp] at s2
  exact ⟨s1, s2, (Ext.alloc _ _).trans (Ext.alloc _ _)⟩
theorem boxes3 (w : World) (n1 n2 : Bool) (A B : Option Addr) (k c m e : Nat) (d1 d2 : Int) (n3 n4 : Bool) (X Y : Option Addr) (p q r s : Nat) (d3 d4 : Int) :
    let W := ((w.alloc (.cells #[.bool n1, .slice A k c, I d1, .bool n2, .slice B m e, I d2] 26)).alloc (.cells #[.bool n3, .slice X p q, I d3, .bool n4, .slice Y r s, I d4] 26)).alloc (.cells #[.bool false, .slice none 0 0, I 0, .bool false, .slice none 0 0, I 0] 26)
    B6 W w.heap.size (.bool n1) (.slice A k c) (I d1) (.bool n2) (.slice B m e) (I d2) ∧ B6 W (w.heap.size + 1) (.bool n3) (.slice X p q) (I d3) (.bool n4) (.slice Y r s) (I d4) ∧ BZ W (w.heap.size + 1 + 1) ∧ Ext w W := by
  have s1 := ((B6.new w (.bool n1) (.slice A k c) (I d1) (.bool n2) (.slice B m e) (I d2) 26).ext (Ext.alloc _ (.cells #[.bool n3, .slice X p q, I d3, .bool n4, .slice Y r s, I d4] 26))).ext (Ext.alloc _ (.cells #[.bool false, .slice none 0 0, I 0, .bool false, .slice none 0 0, I 0] 26))
  have s2 := (B6.new (w.alloc (.cells #[.bool n1, .slice A k c, I d1, .bool n2, .slice B m e, I d2] 26)) (.bool n3) (.slice X p q) (I d3) (.bool n4) (.slice Y r s) (I d4) 26).ext (Ext.alloc _ (.cells #[.bool false, .slice none 0 0, I 0, .bool false, .slice none 0 0, I 0] 26))
  have s3 := B6.new ((w.alloc (.cells #[.bool n1, .slice A k c, I d1, .bool n2, .slice B m e, I d2] 26)).alloc (.cells #[.bool n3, .slice X p q, I d3, .bool n4, .slice Y r s, I d4] 26)) (.bool false) (.slice none 0 0) (I 0) (.bool false) (.slice none 0 0) (I 0) 26
  rw [show (w.alloc (.cells #[.bool n1, .slice A k c, I d1, .bool n2, .slice B m e, I d2] 26)).heap.size = w.heap.size + 1 by simp] at s2
  rw [show ((w.alloc (.cells #[.bool n1, .slice A k c, I d1, .bool n2, .slice B m e, I d2] 26)).alloc (.cells #[.bool n3, .slice X p q, I d3, .bool n4, .slice Y r s, I d4] 26)).heap.size = w.heap.size + 1 + 1 by simp] at s3
  exact ⟨s1, s2, s3, ((Ext.alloc _ _).trans (Ext.alloc _ _)).trans (Ext.alloc _ _)⟩
theorem oneI_of {w W0 W : World} {a b : DV} {A B : Option Addr} {c e : Nat} {v0 v1 v2 v3 v4 v5 : Value} (h0 : B6 W0 w.heap.size v0 v1 v2 v3 v4 v5) (hz : BZ W0 (w.heap.size + 1)) (hw : Ext w W0) (hx : Ext W0 W) :
    OneI w a b A c B e ((((((W.setCell ⟨w.heap.size, 0, none⟩ (.bool a.neg)).setCell ⟨w.heap.size, 1, none⟩ (.slice A (len a.m) c)).setCell ⟨w.heap.size, 2, none⟩ (I a.den)).setCell ⟨w.heap.size, 3, none⟩ (.bool b.neg)).setCell ⟨w.heap.size, 4, none⟩ (.slice B (len b.m) e)).setCell ⟨w.heap.size, 5, none⟩ (I b.den)) :=
  ⟨ext_set6 (hw.trans hx) (Nat.le_refl _) _ _ _ _ _ _, (h0.ext hx).set6 _ _ _ _ _ _, (hz.ext hx).far6 (by omega) _ _ _ _ _ _⟩
theorem twoI_of {w W0 W : World} {a b x y : DV} {A B X Y : Option Addr} {c e k l : Nat} {v0 v1 v2 v3 v4 v5 u0 u1 u2 u3 u4 u5 : Value} (h0 : B6 W0 w.heap.size v0 v1 v2 v3 v4 v5) (h1 : B6 W0 (w.heap.size + 1) u0 u1 u2 u3 u4 u5) (hz : BZ W0 (w.heap.size + 1 + 1)) (hw : Ext w W0) (hx : Ext W0 W) :
    TwoI w a b A c B e x y X k Y l ((((((((((((W.setCell ⟨w.heap.size, 0, none⟩ (.bool a.neg)).setCell ⟨w.heap.size, 1, none⟩ (.slice A (len a.m) c)).setCell ⟨w.heap.size, 2, none⟩ (I a.den)).setCell ⟨w.heap.size, 3, none⟩ (.bool b.neg)).setCell ⟨w.heap.size, 4, none⟩ (.slice B (len b.m) e)).setCell ⟨w.heap.size, 5, none⟩ (I b.den)).setCell ⟨w.heap.size + 1, 0, none⟩ (.bool x.neg)).setCell ⟨w.heap.size + 1, 1, none⟩ (.slice X (len x.m) k)).setCell ⟨w.heap.size + 1, 2, none⟩ (I x.den)).setCell ⟨w.heap.size + 1, 3, none⟩ (.bool y.neg)).setCell ⟨w.heap.size + 1, 4, none⟩ (.slice Y (len y.m) l)).setCell ⟨w.heap.size + 1, 5, none⟩ (I y.den)) :=
  ⟨ext_set6 (ext_set6 (hw.trans hx) (Nat.le_refl _) _ _ _ _ _ _) (by omega) _ _ _ _ _ _, ((h0.ext hx).set6 _ _ _ _ _ _).far6 (by omega) _ _ _ _ _ _, ((h1.ext hx).far6 (by omega) _ _ _ _ _ _).set6 _ _ _ _ _ _, ((hz.ext hx).far6 (by omega) _ _ _ _ _ _).far6 (by omega) _ _ _ _ _ _⟩
end

/-! ### Ivd -/
section
open Go.RowKit

/-- What the first statement of a function of an interval and a number leaves. -/
def NumI (w : World) (a b : DV) (A : Option Addr) (c : Nat) (B : Option Addr) (e : Nat) (n3 : Bool) (X : Option Addr) (p q : Nat) (d3 : Int) (wx : World) : Prop :=
  Ext w wx ∧ BI wx w.heap.size a A c b B e ∧ Bx wx (w.heap.size + 1) (.bool n3) (.slice X p q) (I d3)
def NumZ (w : World) (a b : DV) (A : Option Addr) (c : Nat) (B : Option Addr) (e : Nat) (n3 : Bool) (X : Option Addr) (p q : Nat) (d3 : Int) (wx : World) : Prop :=
  Ext w wx ∧ BI wx w.heap.size a A c b B e ∧ Bx wx (w.heap.size + 1) (.bool n3) (.slice X p q) (I d3) ∧ BZ wx (w.heap.size + 1 + 1)
theorem Bx.far6 {w : World} {g g' : Nat} {v0 v1 v2 : Value} (h : Bx w g v0 v1 v2) (hne : g' ≠ g) (u0 u1 u2 u3 u4 u5 : Value) : Bx ((((((w.setCell ⟨g', 0, none⟩ u0).setCell ⟨g', 1, none⟩ u1).setCell ⟨g', 2, none⟩ u2).setCell ⟨g', 3, none⟩ u3).setCell ⟨g', 4, none⟩ u4).setCell ⟨g', 5, none⟩ u5) g v0 v1 v2 := by
  obtain ⟨⟨h0, h1, h2⟩, hf⟩ := h
  have o (W : World) (i j : Nat) (u : Value) {v : Value} (hv : W.cell? ⟨g, i, none⟩ = some v) : (W.setCell ⟨g', j, none⟩ u).cell? ⟨g, i, none⟩ = some v := by
    rw [World.cell?_setCell_other _ _ _ _ (by intro e; injection e with e; exact hne e)]; exact hv
  refine ⟨⟨?_, ?_, ?_⟩, fun i => by simp [hf i]⟩
  all_goals
    repeat refine o _ _ _ _ ?_
    assumption
theorem numI_of {w W0 W : World} {a b : DV} {A B X : Option Addr} {c e p q : Nat} {n3 : Bool} {d3 : Int} {v0 v1 v2 v3 v4 v5 : Value} (h0 : B6 W0 w.heap.size v0 v1 v2 v3 v4 v5) (h1 : Bx W0 (w.heap.size + 1) (.bool n3) (.slice X p q) (I d3)) (hw : Ext w W0) (hx : Ext W0 W) :
    NumI w a b A c B e n3 X p q d3 ((((((W.setCell ⟨w.heap.size, 0, none⟩ (.bool a.neg)).setCell ⟨w.heap.size, 1, none⟩ (.slice A (len a.m) c)).setCell ⟨w.heap.size, 2, none⟩ (I a.den)).setCell ⟨w.heap.size, 3, none⟩ (.bool b.neg)).setCell ⟨w.heap.size, 4, none⟩ (.slice B (len b.m) e)).setCell ⟨w.heap.size, 5, none⟩ (I b.den)) :=
  ⟨ext_set6 (hw.trans hx) (Nat.le_refl _) _ _ _ _ _ _, (h0.ext hx).set6 _ _ _ _ _ _, (h1.ext hx).far6 (by omega) _ _ _ _ _ _⟩
theorem numZ_of {w W0 W : World} {a b : DV} {A B X : Option Addr} {c e p q : Nat} {n3 : Bool} {d3 : Int} {v0 v1 v2 v3 v4 v5 : Value} (h0 : B6 W0 w.heap.size v0 v1 v2 v3 v4 v5) (h1 : Bx W0 (w.heap.size + 1) (.bool n3) (.slice X p q) (I d3)) (hz : BZ W0 (w.heap.size + 1 + 1)) (hw : Ext w W0) (hx : Ext W0 W) :
    NumZ w a b A c B e n3 X p q d3 ((((((W.setCell ⟨w.heap.size, 0, none⟩ (.bool a.neg)).setCell ⟨w.heap.size, 1, none⟩ (.slice A (len a.m) c)).setCell ⟨w.heap.size, 2, none⟩ (I a.den)).setCell ⟨w.heap.size, 3, none⟩ (.bool b.neg)).setCell ⟨w.heap.size, 4, none⟩ (.slice B (len b.m) e)).setCell ⟨w.heap.size, 5, none⟩ (I b.den)) :=
  ⟨ext_set6 (hw.trans hx) (Nat.le_refl _) _ _ _ _ _ _, (h0.ext hx).set6 _ _ _ _ _ _, (h1.ext hx).far6 (by omega) _ _ _ _ _ _, (hz.ext hx).far6 (by omega) _ _ _ _ _ _⟩
theorem boxesN (w : World) (n1 n2 : Bool) (A B : Option Addr) (k c m e : Nat) (d1 d2 : Int) (n3 : Bool) (X : Option Addr) (p q : Nat) (d3 : Int) :
    let W := ((w.alloc (.cells #[.bool n1, .slice A k c, I d1, .bool n2, .slice B m e, I d2] 26)).alloc (.cells #[.bool n3, .slice X p q, I d3] 24))
    B6 W w.heap.size (.bool n1) (.slice A k c) (I d1) (.bool n2) (.slice B m e) (I d2) ∧ Bx W (w.heap.size + 1) (.bool n3) (.slice X p q) (I d3) ∧ Ext w W := by
  have s1 := (B6.new w (.bool n1) (.slice A k c) (I d1) (.bool n2) (.slice B m e) (I d2) 26).ext (Ext.alloc _ (.cells #[.bool n3, .slice X p q, I d3] 24))
  have s2 := Bx.new (w.alloc (.cells #[.bool n1, .slice A k c, I d1, .bool n2, .slice B m e, I d2] 26)) (.bool n3) (.slice X p q) (I d3) 24
  rw [show (w.alloc (.cells #[.bool n1, .slice A k c, I d1, .bool n2, .slice B m e, I d2] 26)).heap.size = w.heap.size + 1 by simp] at s2
  exact ⟨s1, s2, (Ext.alloc _ _).trans (Ext.alloc _ _)⟩
theorem boxesNZ (w : World) (n1 n2 : Bool) (A B : Option Addr) (k c m e : Nat) (d1 d2 : Int) (n3 : Bool) (X : Option Addr) (p q : Nat) (d3 : Int) :
    let W := ((w.alloc (.cells #[.bool n1, .slice A k c, I d1, .bool n2, .slice B m e, I d2] 26)).alloc (.cells #[.bool n3, .slice X p q, I d3] 24)).alloc (.cells #[.bool false, .slice none 0 0, I 0, .bool false, .slice none 0 0, I 0] 26)
    B6 W w.heap.size (.bool n1) (.slice A k c) (I d1) (.bool n2) (.slice B m e) (I d2) ∧ Bx W (w.heap.size + 1) (.bool n3) (.slice X p q) (I d3) ∧ BZ W (w.heap.size + 1 + 1) ∧ Ext w W := by
  obtain ⟨h0, h1, h2⟩ := boxesN w n1 n2 A B k c m e d1 d2 n3 X p q d3
  have s3 := B6.new ((w.alloc (.cells #[.bool n1, .slice A k c, I d1, .bool n2, .slice B m e, I d2] 26)).alloc (.cells #[.bool n3, .slice X p q, I d3] 24)) (.bool false) (.slice none 0 0) (I 0) (.bool false) (.slice none 0 0) (I 0) 26
  rw [show ((w.alloc (.cells #[.bool n1, .slice A k c, I d1, .bool n2, .slice B m e, I d2] 26)).alloc (.cells #[.bool n3, .slice X p q, I d3] 24)).heap.size = w.heap.size + 1 + 1 by simp] at s3
  exact ⟨h0.ext (Ext.alloc _ _), h1.ext (Ext.alloc _ _), s3, h2.trans (Ext.alloc _ _)⟩
end

end Go.Proofs.YtcdkkohklhmpgaaGreatDoor
