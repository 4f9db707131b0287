/- Intervals and numbers: boxes. -/
import Derived.Test.YtaljininilaemaaGreatDoorIvc
namespace Go.Proofs.YtaljininilaemaaGreatDoor
open Go.RowKit

/-- What the first statement of a function of an interval and a number leaves. -/
def NumI (w : World) (a b : DV) (A : Option Addr) (c : Nat) (B : Option Addr) (e : Nat) (n3 : Bool) (X : Option Addr) (p q : Nat) (d3 : Int) (wx : World) : Prop :=
  Ext w wx ∧ BI wx w.heap.size a A c b B e ∧ Bx wx (w.heap.size + 1) (.bool n3) (.slice X p q) (I d3)
def NumZ (w : World) (a b : DV) (A : Option Addr) (c : Nat) (B : Option Addr) (e : Nat) (n3 : Bool) (X : Option Addr) (p q : Nat) (d3 : Int) (wx : World) : Prop :=
  Ext w wx ∧ BI wx w.heap.size a A c b B e ∧ Bx wx (w.heap.size + 1) (.bool n3) (.slice X p q) (I d3) ∧ BZ wx (w.heap.size + 1 + 1)
theorem Bx.far6 {w : World} {g g' : Nat} {v0 v1 v2 : Value} (h : Bx w g v0 v1 v2) (hne : g' ≠ g) (u0 u1 u2 u3 u4 u5 : Value) : Bx ((((((w.setCell ⟨g', 0, none⟩ u0).setCell ⟨g', 1, none⟩ u1).setCell ⟨g', 2, none⟩ u2).setCell ⟨g', 3, none⟩ u3).setCell ⟨g', 4, none⟩ u4).setCell ⟨g', 5, none⟩ u5) g v0 v1 v2 := by
  obtain ⟨⟨h0, h1, h2⟩, hf⟩ := h
  have o (W : World) (i j : Nat) (u : Value) {v : Value} (hv : W.cell? ⟨g, i, none⟩ = some v) : (W.setCell ⟨g', j, none⟩ u).cell? ⟨g, i, none⟩ = some v := by
    rw [World.cell?_setCell_other _ _ _ _ (by intro e; injection e with e; exact hne e)]; exact hv
  refine ⟨⟨?_, ?_, ?_⟩, fun i => by simp [hf i]⟩
  all_goals
    repeat refine o _ _ _ _ ?_
    assumption
theorem numI_of {w W0 W : World} {a b : DV} {A B X : Option Addr} {c e p q : Nat} {n3 : Bool} {d3 : Int} {v0 v1 v2 v3 v4 v5 : Value} (h0 : B6 W0 w.heap.size v0 v1 v2 v3 v4 v5) (h1 : Bx W0 (w.heap.size + 1) (.bool n3) (.slice X p q) (I d3)) (hw : Ext w W0) (hx : Ext W0 W) :
    NumI w a b A c B e n3 X p q d3 ((((((W.setCell ⟨w.heap.size, 0, none⟩ (.bool a.neg)).setCell ⟨w.heap.size, 1, none⟩ (.slice A (len a.m) c)).setCell ⟨w.heap.size, 2, none⟩ (I a.den)).setCell ⟨w.heap.size, 3, none⟩ (.bool b.neg)).setCell ⟨w.heap.size, 4, none⟩ (.slice B (len b.m) e)).setCell ⟨w.heap.size, 5, none⟩ (I b.den)) :=
  ⟨ext_set6 (hw.trans hx) (Nat.le_refl _) _ _ _ _ _ _, (h0.ext hx).set6 _ _ _ _ _ _, (h1.ext hx).far6 (by omega) _ _ _ _ _ _⟩
theorem numZ_of {w W0 W : World} {a b : DV} {A B X : Option Addr} {c e p q : Nat} {n3 : Bool} {d3 : Int} {v0 v1 v2 v3 v4 v5 : Value} (h0 : B6 W0 w.heap.size v0 v1 v2 v3 v4 v5) (h1 : Bx W0 (w.heap.size + 1) (.bool n3) (.slice X p q) (I d3)) (hz : BZ W0 (w.heap.size + 1 + 1)) (hw : Ext w W0) (hx : Ext W0 W) :
    NumZ w a b A c B e n3 X p q d3 ((((((W.setCell ⟨w.heap.size, 0, none⟩ (.bool a.neg)).setCell ⟨w.heap.size, 1, none⟩ (.slice A (len a.m) c)).setCell ⟨w.heap.size, 2, none⟩ (I a.den)).setCell ⟨w.heap.size, 3, none⟩ (.bool b.neg)).setCell ⟨w.heap.size, 4, none⟩ (.slice B (len b.m) e)).setCell ⟨w.heap.size, 5, none⟩ (I b.den)) :=
  ⟨ext_set6 (hw.trans hx) (Nat.le_refl _) _ _ _ _ _ _, (h0.ext hx).set6 _ _ _ _ _ _, (h1.ext hx).far6 (by omega) _ _ _ _ _ _, (hz.ext hx).far6 (by omega) _ _ _ _ _ _⟩
theorem boxesN (w : World) (n1 n2 : Bool) (A B : Option Addr) (k c m e : Nat) (d1 d2 : Int) (n3 : Bool) (X : Option Addr) (p q : Nat) (d3 : Int) :
    let W := ((w.alloc (.cells #[.bool n1, .slice A k c, I d1, .bool n2, .slice B m e, I d2] 40)).alloc (.cells #[.bool n3, .slice X p q, I d3] 24))
    B6 W w.heap.size (.bool n1) (.slice A k c) (I d1) (.bool n2) (.slice B m e) (I d2) ∧ Bx W (w.heap.size + 1) (.bool n3) (.slice X p q) (I d3) ∧ Ext w W := by
  have s1 := (B6.new w (.bool n1) (.slice A k c) (I d1) (.bool n2) (.slice B m e) (I d2) 40).ext (Ext.alloc _ (.cells #[.bool n3, .slice X p q, I d3] 24))
  have s2 := Bx.new (w.alloc (.cells #[.bool n1, .slice A k c, I d1, .bool n2, .slice B m e, I d2] 40)) (.bool n3) (.slice X p q) (I d3) 24
  rw [show (w.alloc (.cells #[.bool n1, .slice A k c, I d1, .bool n2, .slice B m e, I d2] 40)).heap.size = w.heap.size + 1 by simp] at s2
  exact ⟨s1, s2, (Ext.alloc _ _).trans (Ext.alloc _ _)⟩
theorem boxesNZ (w : World) (n1 n2 : Bool) (A B : Option Addr) (k c m e : Nat) (d1 d2 : Int) (n3 : Bool) (X : Option Addr) (p q : Nat) (d3 : Int) :
    let W := ((w.alloc (.cells #[.bool n1, .slice A k c, I d1, .bool n2, .slice B m e, I d2] 40)).alloc (.cells #[.bool n3, .slice X p q, I d3] 24)).alloc (.cells #[.bool false, .slice none 0 0, I 0, .bool false, .slice none 0 0, I 0] 40)
    B6 W w.heap.size (.bool n1) (.slice A k c) (I d1) (.bool n2) (.slice B m e) (I d2) ∧ Bx W (w.heap.size + 1) (.bool n3) (.slice X p q) (I d3) ∧ BZ W (w.heap.size + 1 + 1) ∧ Ext w W := by
  obtain ⟨h0, h1, h2⟩ := boxesN w n1 n2 A B k c m e d1 d2 n3 X p q d3
  have s3 := B6.new ((w.alloc (.cells #[.bool n1, .slice A k c, I d1, .bool n2, .slice B m e, I d2] 40)).alloc (.cells #[.bool n3, .slice X p q, I d3] 24)) (.bool false) (.slice none 0 0) (I 0) (.bool false) (.slice none 0 0) (I 0) 40
  rw [show ((w.alloc (.cells #[.bool n1, .slice A k c, I d1, .bool n2, .slice B m e, I d2] 40)).alloc (.cells #[.bool n3, .slice X p q, I d3] 24)).heap.size = w.heap.size + 1 + 1 by simp] at s3
  exact ⟨h0.ext (Ext.alloc _ _), h1.ext (Ext.alloc _ _), s3, h2.trans (Ext.alloc _ _)⟩

end Go.Proofs.YtaljininilaemaaGreatDoor
