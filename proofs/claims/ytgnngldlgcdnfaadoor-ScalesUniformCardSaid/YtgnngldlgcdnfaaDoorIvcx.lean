/- Intervals: the least interval of two, three and four numbers; what the first statement of a function of intervals leaves. -/
import Derived.Test.YtgnngldlgcdnfaaDoorIvl
import Derived.Deep.RegionHeld3
import Derived.Deep.DeepCutAuto
namespace Go.Proofs.YtgnngldlgcdnfaaDoor

/-! ### Ivcd -/
section
/-! ### Ivc -/
section
open Go.RowKit

theorem St.mk' {w : World} {g : Nat} {v0 v1 v2 : Value} (h0 : w.cell? ⟨g, 0, none⟩ = some v0) (h1 : w.cell? ⟨g, 1, none⟩ = some v1) (h2 : w.cell? ⟨g, 2, none⟩ = some v2) : St w g v0 v1 v2 := ⟨h0, h1, h2⟩
theorem B6.far6 {w : World} {g g' : Nat} {v0 v1 v2 v3 v4 v5 : Value} (h : B6 w g v0 v1 v2 v3 v4 v5) (hne : g' ≠ g) (u0 u1 u2 u3 u4 u5 : Value) : B6 ((((((w.setCell ⟨g', 0, none⟩ u0).setCell ⟨g', 1, none⟩ u1).setCell ⟨g', 2, none⟩ u2).setCell ⟨g', 3, none⟩ u3).setCell ⟨g', 4, none⟩ u4).setCell ⟨g', 5, none⟩ u5) g v0 v1 v2 v3 v4 v5 := by
  obtain ⟨⟨h0, h1, h2, h3, h4, h5⟩, hf⟩ := h
  have o (W : World) (i j : Nat) (u : Value) {v : Value} (hv : W.cell? ⟨g, i, none⟩ = some v) : (W.setCell ⟨g', j, none⟩ u).cell? ⟨g, i, none⟩ = some v := by
    rw [World.cell?_setCell_other _ _ _ _ (by intro e; injection e with e; exact hne e)]; exact hv
  refine ⟨⟨?_, ?_, ?_, ?_, ?_, ?_⟩, fun i => by simp [hf i]⟩
  all_goals
    repeat refine o _ _ _ _ ?_
    assumption
theorem B6.set6 {w : World} {g : Nat} {v0 v1 v2 v3 v4 v5 : Value} (h : B6 w g v0 v1 v2 v3 v4 v5) (u0 u1 u2 u3 u4 u5 : Value) : B6 ((((((w.setCell ⟨g, 0, none⟩ u0).setCell ⟨g, 1, none⟩ u1).setCell ⟨g, 2, none⟩ u2).setCell ⟨g, 3, none⟩ u3).setCell ⟨g, 4, none⟩ u4).setCell ⟨g, 5, none⟩ u5) g u0 u1 u2 u3 u4 u5 := by
  obtain ⟨⟨h0, h1, h2, h3, h4, h5⟩, hf⟩ := h
  have o (W : World) (i j : Nat) (u : Value) {v : Value} (hij : i ≠ j) (hv : W.cell? ⟨g, i, none⟩ = some v) : (W.setCell ⟨g, j, none⟩ u).cell? ⟨g, i, none⟩ = some v := by
    rw [World.cell?_setCell_other _ _ _ _ (by intro e; injection e with _ e; exact hij e.symm)]; exact hv
  have s (W : World) (i : Nat) (u : Value) {v : Value} (hv : W.cell? ⟨g, i, none⟩ = some v) : (W.setCell ⟨g, i, none⟩ u).cell? ⟨g, i, none⟩ = some u := World.cell?_setCell_same W _ u hv
  refine ⟨⟨?_, ?_, ?_, ?_, ?_, ?_⟩, fun i => by simp [hf i]⟩
  · exact o _ _ _ _ (by decide) (o _ _ _ _ (by decide) (o _ _ _ _ (by decide) (o _ _ _ _ (by decide) (o _ _ _ _ (by decide) (s _ _ _ h0)))))
  · exact o _ _ _ _ (by decide) (o _ _ _ _ (by decide) (o _ _ _ _ (by decide) (o _ _ _ _ (by decide) (s _ _ _ (o _ _ _ _ (by decide) h1)))))
  · exact o _ _ _ _ (by decide) (o _ _ _ _ (by decide) (o _ _ _ _ (by decide) (s _ _ _ (o _ _ _ _ (by decide) (o _ _ _ _ (by decide) h2)))))
  · exact o _ _ _ _ (by decide) (o _ _ _ _ (by decide) (s _ _ _ (o _ _ _ _ (by decide) (o _ _ _ _ (by decide) (o _ _ _ _ (by decide) h3)))))
  · exact o _ _ _ _ (by decide) (s _ _ _ (o _ _ _ _ (by decide) (o _ _ _ _ (by decide) (o _ _ _ _ (by decide) (o _ _ _ _ (by decide) h4)))))
  · exact s _ _ _ (o _ _ _ _ (by decide) (o _ _ _ _ (by decide) (o _ _ _ _ (by decide) (o _ _ _ _ (by decide) (o _ _ _ _ (by decide) h5)))))

/-- A box of an interval. -/
abbrev BI (w : World) (g : Nat) (a : DV) (A : Option Addr) (c : Nat) (b : DV) (B : Option Addr) (e : Nat) : Prop := B6 w g (.bool a.neg) (.slice A (len a.m) c) (I a.den) (.bool b.neg) (.slice B (len b.m) e) (I b.den)
abbrev BZ (w : World) (g : Nat) : Prop := B6 w g (.bool false) (.slice none 0 0) (I 0) (.bool false) (.slice none 0 0) (I 0)
/-- What the first statement of a function of one interval leaves; of two. -/
def OneI (w : World) (a b : DV) (A : Option Addr) (c : Nat) (B : Option Addr) (e : Nat) (wx : World) : Prop := Ext w wx ∧ BI wx w.heap.size a A c b B e ∧ BZ wx (w.heap.size + 1)
def TwoI (w : World) (a b : DV) (A : Option Addr) (c : Nat) (B : Option Addr) (e : Nat) (x y : DV) (X : Option Addr) (k : Nat) (Y : Option Addr) (l : Nat) (wx : World) : Prop :=
  Ext w wx ∧ BI wx w.heap.size a A c b B e ∧ BI wx (w.heap.size + 1) x X k y Y l ∧ BZ wx (w.heap.size + 1 + 1)
/-- Boxes of arguments and of the result. -/
abbrev box6 (n1 : Bool) (A : Option Addr) (k c : Nat) (d1 : Int) (n2 : Bool) (B : Option Addr) (m e : Nat) (d2 : Int) : Obj := .cells #[.bool n1, .slice A k c, I d1, .bool n2, .slice B m e, I d2] 47
abbrev boxZ : Obj := .cells #[.bool false, .slice none 0 0, I 0, .bool false, .slice none 0 0, I 0] 47
theorem boxes2 (w : World) (n1 n2 : Bool) (A B : Option Addr) (k c m e : Nat) (d1 d2 : Int) :
    B6 ((w.alloc (.cells #[.bool n1, .slice A k c, I d1, .bool n2, .slice B m e, I d2] 47)).alloc (.cells #[.bool false, .slice none 0 0, I 0, .bool false, .slice none 0 0, I 0] 47)) w.heap.size (.bool n1) (.slice A k c) (I d1) (.bool n2) (.slice B m e) (I d2) ∧
    BZ ((w.alloc (.cells #[.bool n1, .slice A k c, I d1, .bool n2, .slice B m e, I d2] 47)).alloc (.cells #[.bool false, .slice none 0 0, I 0, .bool false, .slice none 0 0, I 0] 47)) (w.heap.size + 1) ∧
    Ext w ((w.alloc (.cells #[.bool n1, .slice A k c, I d1, .bool n2, .slice B m e, I d2] 47)).alloc (.cells #[.bool false, .slice none 0 0, I 0, .bool false, .slice none 0 0, I 0] 47)) := by
  have s1 := (B6.new w (.bool n1) (.slice A k c) (I d1) (.bool n2) (.slice B m e) (I d2) 47).ext (Ext.alloc _ (.cells #[.bool false, .slice none 0 0, I 0, .bool false, .slice none 0 0, I 0] 47))
  have s2 := B6.new (w.alloc (.cells #[.bool n1, .slice A k c, I d1, .bool n2, .slice B m e, I d2] 47)) (.bool false) (.slice none 0 0) (I 0) (.bool false) (.slice none 0 0) (I 0) 47
  rw [show (w.alloc (.cells #[.bool n1, .slice A k c, I d1, .bool n2, .slice B m e, I d2] 47)).heap.size = w.heap.size + 1 by simp] at s2
  exact ⟨s1, s2, (Ext.alloc _ _).trans (Ext.alloc _ _)⟩
theorem boxes3 (w : World) (n1 n2 : Bool) (A B : Option Addr) (k c m e : Nat) (d1 d2 : Int) (n3 n4 : Bool) (X Y : Option Addr) (p q r s : Nat) (d3 d4 : Int) :
    let W := ((w.alloc (.cells #[.bool n1, .slice A k c, I d1, .bool n2, .slice B m e, I d2] 47)).alloc (.cells #[.bool n3, .slice X p q, I d3, .bool n4, .slice Y r s, I d4] 47)).alloc (.cells #[.bool false, .slice none 0 0, I 0, .bool false, .slice none 0 0, I 0] 47)
    B6 W w.heap.size (.bool n1) (.slice A k c) (I d1) (.bool n2) (.slice B m e) (I d2) ∧ B6 W (w.heap.size + 1) (.bool n3) (.slice X p q) (I d3) (.bool n4) (.slice Y r s) (I d4) ∧ BZ W (w.heap.size + 1 + 1) ∧ Ext w W := by
  have s1 := ((B6.new w (.bool n1) (.slice A k c) (I d1) (.bool n2) (.slice B m e) (I d2) 47).ext (Ext.alloc _ (.cells #[.bool n3, .slice X p q, I d3, .bool n4, .slice Y r s, I d4] 47))).ext (Ext.alloc _ (.cells #[.bool false, .slice none 0 0, I 0, .bool false, .slice none 0 0, I 0] 47))
  have s2 := (B6.new (w.alloc (.cells #[.bool n1, .slice A k c, I d1, .bool n2, .slice B m e, I d2] 47)) (.bool n3) (.slice X p q) (I d3) (.bool n4) (.slice Y r s) (I d4) 47).ext (Ext.alloc _ (.cells #[.bool false, .slice none 0 0, I 0, .bool false, .slice none 0 0, I 0] 47))
  have s3 := B6.new ((w.alloc (.cells #[.bool n1, .slice A k c, I d1, .bool n2, .slice B m e, I d2] 47)).alloc (.cells #[.bool n3, .slice X p q, I d3, .bool n4, .slice Y r s, I d4] 47)) (.bool false) (.slice none 0 0) (I 0) (.bool false) (.slice none 0 0) (I 0) 47
  rw [show (w.alloc (.cells #[.bool n1, .slice A k c, I d1, .bool n2, .slice B m e, I d2] 47)).heap.size = w.heap.size + 1 by simp] at s2
  rw [show ((w.alloc (.cells #[.bool n1, .slice A k c, I d1, .bool n2, .slice B m e, I d2] 47)).alloc (.cells #[.bool n3, .slice X p q, I d3, .bool n4, .slice Y r s, I d4] 47)).heap.size = w.heap.size + 1 + 1 by simp] at s3
  exact ⟨s1, s2, s3, ((Ext.alloc _ _).trans (Ext.alloc _ _)).trans (Ext.alloc _ _)⟩
theorem oneI_of {w W0 W : World} {a b : DV} {A B : Option Addr} {c e : Nat} {v0 v1 v2 v3 v4 v5 : Value} (h0 : B6 W0 w.heap.size v0 v1 v2 v3 v4 v5) (hz : BZ W0 (w.heap.size + 1)) (hw : Ext w W0) (hx : Ext W0 W) :
    OneI w a b A c B e ((((((W.setCell ⟨w.heap.size, 0, none⟩ (.bool a.neg)).setCell ⟨w.heap.size, 1, none⟩ (.slice A (len a.m) c)).setCell ⟨w.heap.size, 2, none⟩ (I a.den)).setCell ⟨w.heap.size, 3, none⟩ (.bool b.neg)).setCell ⟨w.heap.size, 4, none⟩ (.slice B (len b.m) e)).setCell ⟨w.heap.size, 5, none⟩ (I b.den)) :=
  ⟨ext_set6 (hw.trans hx) (Nat.le_refl _) _ _ _ _ _ _, (h0.ext hx).set6 _ _ _ _ _ _, (hz.ext hx).far6 (by omega) _ _ _ _ _ _⟩
theorem twoI_of {w W0 W : World} {a b x y : DV} {A B X Y : Option Addr} {c e k l : Nat} {v0 v1 v2 v3 v4 v5 u0 u1 u2 u3 u4 u5 : Value} (h0 : B6 W0 w.heap.size v0 v1 v2 v3 v4 v5) (h1 : B6 W0 (w.heap.size + 1) u0 u1 u2 u3 u4 u5) (hz : BZ W0 (w.heap.size + 1 + 1)) (hw : Ext w W0) (hx : Ext W0 W) :
    TwoI w a b A c B e x y X k Y l ((((((((((((W.setCell ⟨w.heap.size, 0, none⟩ (.bool a.neg)).setCell ⟨w.heap.size, 1, none⟩ (.slice A (len a.m) c)).setCell ⟨w.heap.size, 2, none⟩ (I a.den)).setCell ⟨w.heap.size, 3, none⟩ (.bool b.neg)).setCell ⟨w.heap.size, 4, none⟩ (.slice B (len b.m) e)).setCell ⟨w.heap.size, 5, none⟩ (I b.den)).setCell ⟨w.heap.size + 1, 0, none⟩ (.bool x.neg)).setCell ⟨w.heap.size + 1, 1, none⟩ (.slice X (len x.m) k)).setCell ⟨w.heap.size + 1, 2, none⟩ (I x.den)).setCell ⟨w.heap.size + 1, 3, none⟩ (.bool y.neg)).setCell ⟨w.heap.size + 1, 4, none⟩ (.slice Y (len y.m) l)).setCell ⟨w.heap.size + 1, 5, none⟩ (I y.den)) :=
  ⟨ext_set6 (ext_set6 (hw.trans hx) (Nat.le_refl _) _ _ _ _ _ _) (by omega) _ _ _ _ _ _, ((h0.ext hx).set6 _ _ _ _ _ _).far6 (by omega) _ _ _ _ _ _, ((h1.ext hx).far6 (by omega) _ _ _ _ _ _).set6 _ _ _ _ _ _, ((hz.ext hx).far6 (by omega) _ _ _ _ _ _).far6 (by omega) _ _ _ _ _ _⟩
end

/-! ### Ivd -/
section
open Go.RowKit

/-- What the first statement of a function of an interval and a number leaves. -/
def NumI (w : World) (a b : DV) (A : Option Addr) (c : Nat) (B : Option Addr) (e : Nat) (n3 : Bool) (X : Option Addr) (p q : Nat) (d3 : Int) (wx : World) : Prop :=
  Ext w wx ∧ BI wx w.heap.size a A c b B e ∧ Bx wx (w.heap.size + 1) (.bool n3) (.slice X p q) (I d3)
def NumZ (w : World) (a b : DV) (A : Option Addr) (c : Nat) (B : Option Addr) (e : Nat) (n3 : Bool) (X : Option Addr) (p q : Nat) (d3 : Int) (wx : World) : Prop :=
  Ext w wx ∧ BI wx w.heap.size a A c b B e ∧ Bx wx (w.heap.size + 1) (.bool n3) (.slice X p q) (I d3) ∧ BZ wx (w.heap.size + 1 + 1)
theorem Bx.far6 {w : World} {g g' : Nat} {v0 v1 v2 : Value} (h : Bx w g v0 v1 v2) (hne : g' ≠ g) (u0 u1 u2 u3 u4 u5 : Value) : Bx ((((((w.setCell ⟨g', 0, none⟩ u0).setCell ⟨g', 1, none⟩ u1).setCell ⟨g', 2, none⟩ u2).setCell ⟨g', 3, none⟩ u3).setCell ⟨g', 4, none⟩ u4).setCell ⟨g', 5, none⟩ u5) g v0 v1 v2 := by
  obtain ⟨⟨h0, h1, h2⟩, hf⟩ := h
  have o (W : World) (i j : Nat) (u : Value) {v : Value} (hv : W.cell? ⟨g, i, none⟩ = some v) : (W.setCell ⟨g', j, none⟩ u).cell? ⟨g, i, none⟩ = some v := by
    rw [World.cell?_setCell_other _ _ _ _ (by intro e; injection e with e; exact hne e)]; exact hv
  refine ⟨⟨?_, ?_, ?_⟩, fun i => by simp [hf i]⟩
  all_goals
    repeat refine o _ _ _ _ ?_
    assumption
theorem numI_of {w W0 W : World} {a b : DV} {A B X : Option Addr} {c e p q : Nat} {n3 : Bool} {d3 : Int} {v0 v1 v2 v3 v4 v5 : Value} (h0 : B6 W0 w.heap.size v0 v1 v2 v3 v4 v5) (h1 : Bx W0 (w.heap.size + 1) (.bool n3) (.slice X p q) (I d3)) (hw : Ext w W0) (hx : Ext W0 W) :
    NumI w a b A c B e n3 X p q d3 ((((((W.setCell ⟨w.heap.size, 0, none⟩ (.bool a.neg)).setCell ⟨w.heap.size, 1, none⟩ (.slice A (len a.m) c)).setCell ⟨w.heap.size, 2, none⟩ (I a.den)).setCell ⟨w.heap.size, 3, none⟩ (.bool b.neg)).setCell ⟨w.heap.size, 4, none⟩ (.slice B (len b.m) e)).setCell ⟨w.heap.size, 5, none⟩ (I b.den)) :=
  ⟨ext_set6 (hw.trans hx) (Nat.le_refl _) _ _ _ _ _ _, (h0.ext hx).set6 _ _ _ _ _ _, (h1.ext hx).far6 (by omega) _ _ _ _ _ _⟩
theorem numZ_of {w W0 W : World} {a b : DV} {A B X : Option Addr} {c e p q : Nat} {n3 : Bool} {d3 : Int} {v0 v1 v2 v3 v4 v5 : Value} (h0 : B6 W0 w.heap.size v0 v1 v2 v3 v4 v5) (h1 : Bx W0 (w.heap.size + 1) (.bool n3) (.slice X p q) (I d3)) (hz : BZ W0 (w.heap.size + 1 + 1)) (hw : Ext w W0) (hx : Ext W0 W) :
    NumZ w a b A c B e n3 X p q d3 ((((((W.setCell ⟨w.heap.size, 0, none⟩ (.bool a.neg)).setCell ⟨w.heap.size, 1, none⟩ (.slice A (len a.m) c)).setCell ⟨w.heap.size, 2, none⟩ (I a.den)).setCell ⟨w.heap.size, 3, none⟩ (.bool b.neg)).setCell ⟨w.heap.size, 4, none⟩ (.slice B (len b.m) e)).setCell ⟨w.heap.size, 5, none⟩ (I b.den)) :=
  ⟨ext_set6 (hw.trans hx) (Nat.le_refl _) _ _ _ _ _ _, (h0.ext hx).set6 _ _ _ _ _ _, (h1.ext hx).far6 (by omega) _ _ _ _ _ _, (hz.ext hx).far6 (by omega) _ _ _ _ _ _⟩
theorem boxesN (w : World) (n1 n2 : Bool) (A B : Option Addr) (k c m e : Nat) (d1 d2 : Int) (n3 : Bool) (X : Option Addr) (p q : Nat) (d3 : Int) :
    let W := ((w.alloc (.cells #[.bool n1, .slice A k c, I d1, .bool n2, .slice B m e, I d2] 47)).alloc (.cells #[.bool n3, .slice X p q, I d3] 43))
    B6 W w.heap.size (.bool n1) (.slice A k c) (I d1) (.bool n2) (.slice B m e) (I d2) ∧ Bx W (w.heap.size + 1) (.bool n3) (.slice X p q) (I d3) ∧ Ext w W := by
  have s1 := (B6.new w (.bool n1) (.slice A k c) (I d1) (.bool n2) (.slice B m e) (I d2) 47).ext (Ext.alloc _ (.cells #[.bool n3, .slice X p q, I d3] 43))
  have s2 := Bx.new (w.alloc (.cells #[.bool n1, .slice A k c, I d1, .bool n2, .slice B m e, I d2] 47)) (.bool n3) (.slice X p q) (I d3) 43
  rw [show (w.alloc (.cells #[.bool n1, .slice A k c, I d1, .bool n2, .slice B m e, I d2] 47)).heap.size = w.heap.size + 1 by simp] at s2
  exact ⟨s1, s2, (Ext.alloc _ _).trans (Ext.alloc _ _)⟩
theorem boxesNZ (w : World) (n1 n2 : Bool) (A B : Option Addr) (k c m e : Nat) (d1 d2 : Int) (n3 : Bool) (X : Option Addr) (p q : Nat) (d3 : Int) :
    let W := ((w.alloc (.cells #[.bool n1, .slice A k c, I d1, .bool n2, .slice B m e, I d2] 47)).alloc (.cells #[.bool n3, .slice X p q, I d3] 43)).alloc (.cells #[.bool false, .slice none 0 0, I 0, .bool false, .slice none 0 0, I 0] 47)
    B6 W w.heap.size (.bool n1) (.slice A k c) (I d1) (.bool n2) (.slice B m e) (I d2) ∧ Bx W (w.heap.size + 1) (.bool n3) (.slice X p q) (I d3) ∧ BZ W (w.heap.size + 1 + 1) ∧ Ext w W := by
  obtain ⟨h0, h1, h2⟩ := boxesN w n1 n2 A B k c m e d1 d2 n3 X p q d3
  have s3 := B6.new ((w.alloc (.cells #[.bool n1, .slice A k c, I d1, .bool n2, .slice B m e, I d2] 47)).alloc (.cells #[.bool n3, .slice X p q, I d3] 43)) (.bool false) (.slice none 0 0) (I 0) (.bool false) (.slice none 0 0) (I 0) 47
  rw [show ((w.alloc (.cells #[.bool n1, .slice A k c, I d1, .bool n2, .slice B m e, I d2] 47)).alloc (.cells #[.bool n3, .slice X p q, I d3] 43)).heap.size = w.heap.size + 1 + 1 by simp] at s3
  exact ⟨h0.ext (Ext.alloc _ _), h1.ext (Ext.alloc _ _), s3, h2.trans (Ext.alloc _ _)⟩
end
end

/-! ### Ivco -/
section
open Go.RowKit
attribute [local go_sem ↓] Go.wp_at_zero Go.wp_at_succ

/-- Is x in the interval from a to b? -/
def conB (a b x : DV) : Bool := decide (cmpD a x ≤ 0) && decide (cmpD x b ≤ 0)
theorem conB_f {a b x : DV} {v : Int} (h : cmpD a x = v) (hv : ¬ v ≤ 0) : conB a b x = false := by unfold conB; rw [h, decide_eq_false hv]; rfl
theorem conB_t {a b x : DV} {v z : Int} (h : cmpD a x = v) (hv : v ≤ 0) (h2 : cmpD x b = z) : conB a b x = decide (z ≤ 0) := by unfold conB; rw [h, h2, decide_eq_true hv]; rfl

end

/-! ### Ivin -/
section
open Go.RowKit
attribute [local go_sem ↓] Go.wp_at_zero Go.wp_at_succ

/-- What the first statement of Inside leaves. -/
def InI (w : World) (a b : DV) (A : Option Addr) (c : Nat) (B : Option Addr) (e : Nat) (n3 : Bool) (X : Option Addr) (p q : Nat) (d3 : Int) (n4 : Bool) (Y : Option Addr) (r s : Nat) (d4 : Int) (wx : World) : Prop :=
  Ext w wx ∧ BI wx w.heap.size a A c b B e ∧ B6 wx (w.heap.size + 1) (.bool n3) (.slice X p q) (I d3) (.bool n4) (.slice Y r s) (I d4)
theorem inI_of {w W0 W : World} {a b : DV} {A B X Y : Option Addr} {c e p q r s : Nat} {n3 n4 : Bool} {d3 d4 : Int} {v0 v1 v2 v3 v4 v5 : Value} (h0 : B6 W0 w.heap.size v0 v1 v2 v3 v4 v5) (h1 : B6 W0 (w.heap.size + 1) (.bool n3) (.slice X p q) (I d3) (.bool n4) (.slice Y r s) (I d4)) (hw : Ext w W0) (hx : Ext W0 W) :
    InI w a b A c B e n3 X p q d3 n4 Y r s d4 ((((((W.setCell ⟨w.heap.size, 0, none⟩ (.bool a.neg)).setCell ⟨w.heap.size, 1, none⟩ (.slice A (len a.m) c)).setCell ⟨w.heap.size, 2, none⟩ (I a.den)).setCell ⟨w.heap.size, 3, none⟩ (.bool b.neg)).setCell ⟨w.heap.size, 4, none⟩ (.slice B (len b.m) e)).setCell ⟨w.heap.size, 5, none⟩ (I b.den)) :=
  ⟨ext_set6 (hw.trans hx) (Nat.le_refl _) _ _ _ _ _ _, (h0.ext hx).set6 _ _ _ _ _ _, (h1.ext hx).far6 (by omega) _ _ _ _ _ _⟩
theorem boxesI (w : World) (n1 n2 : Bool) (A B : Option Addr) (k c m e : Nat) (d1 d2 : Int) (n3 n4 : Bool) (X Y : Option Addr) (p q r s : Nat) (d3 d4 : Int) :
    let W := (w.alloc (.cells #[.bool n1, .slice A k c, I d1, .bool n2, .slice B m e, I d2] 47)).alloc (.cells #[.bool n3, .slice X p q, I d3, .bool n4, .slice Y r s, I d4] 47)
    B6 W w.heap.size (.bool n1) (.slice A k c) (I d1) (.bool n2) (.slice B m e) (I d2) ∧ B6 W (w.heap.size + 1) (.bool n3) (.slice X p q) (I d3) (.bool n4) (.slice Y r s) (I d4) ∧ Ext w W := by
  have s1 := (B6.new w (.bool n1) (.slice A k c) (I d1) (.bool n2) (.slice B m e) (I d2) 47).ext (Ext.alloc _ (.cells #[.bool n3, .slice X p q, I d3, .bool n4, .slice Y r s, I d4] 47))
  have s2 := B6.new (w.alloc (.cells #[.bool n1, .slice A k c, I d1, .bool n2, .slice B m e, I d2] 47)) (.bool n3) (.slice X p q) (I d3) (.bool n4) (.slice Y r s) (I d4) 47
  rw [show (w.alloc (.cells #[.bool n1, .slice A k c, I d1, .bool n2, .slice B m e, I d2] 47)).heap.size = w.heap.size + 1 by simp] at s2
  exact ⟨s1, s2, (Ext.alloc _ _).trans (Ext.alloc _ _)⟩
/-- Does the interval from a to b lie in that from x to y? -/
def insB (a b x y : DV) : Bool := conB x y a && conB x y b
theorem insB_f {a b x y : DV} (h : conB x y a = false) : insB a b x y = false := by unfold insB; rw [h]; rfl
theorem insB_t {a b x y : DV} {z : Bool} (h : conB x y a = true) (h2 : conB x y b = z) : insB a b x y = z := by unfold insB; rw [h, h2]; rfl

end

/-! ### Ivmk -/
section
open Go.RowKit
attribute [local go_sem ↓] Go.wp_at_zero Go.wp_at_succ

def IvOk (a b : DV) (w : World) (e : Ending) (w' : World) : Prop := ∃ A c B k, e = .returned (.tuple #[ivd a A c b B k, .nilIface]) ∧ Fr w' w.heap.size A (len a.m) c (dg a.m) ∧ Fr w' w.heap.size B (len b.m) k (dg b.m) ∧ Ext w w'
def IvErr (k : Int) (w : World) (e : Ending) (w' : World) : Prop := e = .returned (.tuple #[iv false none 0 0 0 false none 0 0 0, .iface 38 (I k)]) ∧ Ext w w'
theorem IvOk.end6 {a b : DV} {w w2 : World} {A B : Option Addr} {c k g b1 b2 : Nat} {e : Ending} {u0 u1 u2 u3 u4 u5 : Value} (he : e = .returned (.tuple #[ivd a A c b B k, .nilIface])) (ha : Fr w2 b1 A (len a.m) c (dg a.m)) (hb : Fr w2 b2 B (len b.m) k (dg b.m)) (hx : Ext w w2) (hg : w.heap.size ≤ g) (h1 : g < b1) (h2 : g < b2) :
    IvOk a b w e ((((((w2.setCell ⟨g, 0, none⟩ u0).setCell ⟨g, 1, none⟩ u1).setCell ⟨g, 2, none⟩ u2).setCell ⟨g, 3, none⟩ u3).setCell ⟨g, 4, none⟩ u4).setCell ⟨g, 5, none⟩ u5) :=
  ⟨A, c, B, k, he, (ha.set6 h1 _ _ _ _ _ _).mono (by omega), (hb.set6 h2 _ _ _ _ _ _).mono (by omega), ext_set6 hx hg _ _ _ _ _ _⟩
theorem boxesM (w : World) (n1 n2 : Bool) (A B : Option Addr) (k c m e : Nat) (d1 d2 : Int) :
    let W := ((w.alloc (.cells #[.bool n1, .slice A k c, I d1] 43)).alloc (.cells #[.bool n2, .slice B m e, I d2] 43)).alloc (.cells #[.bool false, .slice none 0 0, I 0, .bool false, .slice none 0 0, I 0] 47)
    Bx W w.heap.size (.bool n1) (.slice A k c) (I d1) ∧ Bx W (w.heap.size + 1) (.bool n2) (.slice B m e) (I d2) ∧ BZ W (w.heap.size + 1 + 1) ∧ Ext w W := by
  have s1 := ((Bx.new w (.bool n1) (.slice A k c) (I d1) 43).ext (Ext.alloc _ (.cells #[.bool n2, .slice B m e, I d2] 43))).ext (Ext.alloc _ (.cells #[.bool false, .slice none 0 0, I 0, .bool false, .slice none 0 0, I 0] 47))
  have s2 := (Bx.new (w.alloc (.cells #[.bool n1, .slice A k c, I d1] 43)) (.bool n2) (.slice B m e) (I d2) 43).ext (Ext.alloc _ (.cells #[.bool false, .slice none 0 0, I 0, .bool false, .slice none 0 0, I 0] 47))
  have s3 := B6.new ((w.alloc (.cells #[.bool n1, .slice A k c, I d1] 43)).alloc (.cells #[.bool n2, .slice B m e, I d2] 43)) (.bool false) (.slice none 0 0) (I 0) (.bool false) (.slice none 0 0) (I 0) 47
  rw [show (w.alloc (.cells #[.bool n1, .slice A k c, I d1] 43)).heap.size = w.heap.size + 1 by simp] at s2
  rw [show ((w.alloc (.cells #[.bool n1, .slice A k c, I d1] 43)).alloc (.cells #[.bool n2, .slice B m e, I d2] 43)).heap.size = w.heap.size + 1 + 1 by simp] at s3
  exact ⟨s1, s2, s3, ((Ext.alloc _ _).trans (Ext.alloc _ _)).trans (Ext.alloc _ _)⟩

end

end Go.Proofs.YtgnngldlgcdnfaaDoor
