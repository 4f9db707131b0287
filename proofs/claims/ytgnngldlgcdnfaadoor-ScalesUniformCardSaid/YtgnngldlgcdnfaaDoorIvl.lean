/- The least interval of some numbers. -/
import Derived.Test.YtgnngldlgcdnfaaDoorIvb
import Derived.Deep.RegionHeld3
import Derived.Deep.DeepCutAuto
namespace Go.Proofs.YtgnngldlgcdnfaaDoor
open Go.RowKit

/-- The i-th number in the block g, as which it counts. -/
def Nth (w : World) (g i : Nat) (n : Bool) (A : Option Addr) (k c : Nat) (d : Int) (x : DV) (A' : Option Addr) (c' : Nat) : Prop :=
  (w.cell? ⟨g, i * 3, none⟩ = some (.bool n) ∧ w.cell? ⟨g, i * 3 + 1, none⟩ = some (.slice A k c) ∧ w.cell? ⟨g, i * 3 + 2, none⟩ = some (I d)) ∧ Dy w n A k c d x A' c'
/-- The words of a number do not lie in these blocks. -/
def Off (w : World) (base p q : Nat) (A : Option Addr) (n c : Nat) (f : Nat → Nat) : Prop := Fr w base A n c f ∧ (0 < n → ∀ a, A = some a → a.block ≠ p ∧ a.block ≠ q)
theorem Off.ext {w w' : World} {base p q n c : Nat} {A : Option Addr} {f : Nat → Nat} (h : Off w base p q A n c f) (e : Ext w w') : Off w' base p q A n c f := ⟨h.1.ext e, h.2⟩
theorem Off.toAlloc {w : World} {o : Obj} {base p q n c : Nat} {A : Option Addr} {f : Nat → Nat} (h : Off w base p q A n c f) : Off (w.alloc o) base p q A n c f := h.ext (Ext.alloc _ _)
theorem Off.setp {w : World} {base p q n c : Nat} {A : Option Addr} {f : Nat → Nat} (h : Off w base p q A n c f) (i : Nat) (u : Value) : Off (w.setCell ⟨p, i, none⟩ u) base p q A n c f :=
  ⟨⟨h.1.1.set' (fun hn a ha => (h.2 hn a ha).1) i u, h.1.2⟩, h.2⟩
theorem Off.setq {w : World} {base p q n c : Nat} {A : Option Addr} {f : Nat → Nat} (h : Off w base p q A n c f) (i : Nat) (u : Value) : Off (w.setCell ⟨q, i, none⟩ u) base p q A n c f :=
  ⟨⟨h.1.1.set' (fun hn a ha => (h.2 hn a ha).2) i u, h.1.2⟩, h.2⟩
theorem Off.set3p {w : World} {base p q n c : Nat} {A : Option Addr} {f : Nat → Nat} (h : Off w base p q A n c f) (u0 u1 u2 : Value) : Off (((w.setCell ⟨p, 0, none⟩ u0).setCell ⟨p, 1, none⟩ u1).setCell ⟨p, 2, none⟩ u2) base p q A n c f := ((h.setp _ _).setp _ _).setp _ _
theorem Off.set3q {w : World} {base p q n c : Nat} {A : Option Addr} {f : Nat → Nat} (h : Off w base p q A n c f) (u0 u1 u2 : Value) : Off (((w.setCell ⟨q, 0, none⟩ u0).setCell ⟨q, 1, none⟩ u1).setCell ⟨q, 2, none⟩ u2) base p q A n c f := ((h.setq _ _).setq _ _).setq _ _
theorem On.off {w : World} {b base p q n c : Nat} {A : Option Addr} {f : Nat → Nat} (h : On w b A n c f) (hb : base ≤ b) (hp : p < b ∨ w.heap.size ≤ p) (hq : q < b ∨ w.heap.size ≤ q) : Off w base p q A n c f := by
  refine ⟨h.fr.mono hb, fun hn a ha => ?_⟩
  have h1 := h.fr.2.2 hn a ha
  obtain ⟨b', o, e, hb', _⟩ := h.rd hn
  rw [e] at ha
  injection ha with ha
  subst ha
  have h2 : b' < w.heap.size := hb'
  have h3 : b ≤ b' := h1
  exact ⟨by show b' ≠ p; omega, by show b' ≠ q; omega⟩
theorem B6.far3 {w : World} {g g' : Nat} {v0 v1 v2 v3 v4 v5 : Value} (h : B6 w g v0 v1 v2 v3 v4 v5) (hne : g' ≠ g) (u0 u1 u2 : Value) : B6 (((w.setCell ⟨g', 0, none⟩ u0).setCell ⟨g', 1, none⟩ u1).setCell ⟨g', 2, none⟩ u2) g v0 v1 v2 v3 v4 v5 := by
  obtain ⟨⟨h0, h1, h2, h3, h4, h5⟩, hf⟩ := h
  have o (i : Nat) {v : Value} (hv : w.cell? ⟨g, i, none⟩ = some v) : (((w.setCell ⟨g', 0, none⟩ u0).setCell ⟨g', 1, none⟩ u1).setCell ⟨g', 2, none⟩ u2).cell? ⟨g, i, none⟩ = some v := by
    rw [World.cell?_setCell_other _ _ _ _ (by intro e; injection e with e; exact hne e), World.cell?_setCell_other _ _ _ _ (by intro e; injection e with e; exact hne e), World.cell?_setCell_other _ _ _ _ (by intro e; injection e with e; exact hne e)]
    exact hv
  exact ⟨⟨o _ h0, o _ h1, o _ h2, o _ h3, o _ h4, o _ h5⟩, fun i => by simp [hf i]⟩

/-- Between the rounds: the ends lie in the boxes p and q. -/
def Lst (w wx : World) (p q : Nat) (lo hi : DV) : Prop := ∃ A c B e,
  Ext w wx ∧ Bx wx p (.bool lo.neg) (.slice A (len lo.m) c) (I lo.den) ∧ Bx wx q (.bool hi.neg) (.slice B (len hi.m) e) (I hi.den) ∧
  B6 wx (w.heap.size + 1) (.bool false) (.slice none 0 0) (I 0) (.bool false) (.slice none 0 0) (I 0) ∧ p ≠ q ∧ w.heap.size + 1 < p ∧ w.heap.size + 1 < q ∧
  Off wx (w.heap.size + 2) p q A (len lo.m) c (dg lo.m) ∧ Off wx (w.heap.size + 2) p q B (len hi.m) e (dg hi.m)
/-- The two boxes are written. -/
theorem lst_of {w W : World} {p q : Nat} {lo hi : DV} {A B : Option Addr} {c e : Nat} {a0 a1 a2 b0 b1 b2 : Value} (hx : Ext w W) (hp : Bx W p a0 a1 a2) (hq : Bx W q b0 b1 b2)
    (hz : B6 W (w.heap.size + 1) (.bool false) (.slice none 0 0) (I 0) (.bool false) (.slice none 0 0) (I 0)) (hne : p ≠ q) (h1 : w.heap.size + 1 < p) (h2 : w.heap.size + 1 < q)
    (ha : Off W (w.heap.size + 2) p q A (len lo.m) c (dg lo.m)) (hb : Off W (w.heap.size + 2) p q B (len hi.m) e (dg hi.m)) :
    Lst w ((((((W.setCell ⟨p, 0, none⟩ (.bool lo.neg)).setCell ⟨p, 1, none⟩ (.slice A (len lo.m) c)).setCell ⟨p, 2, none⟩ (I lo.den)).setCell ⟨q, 0, none⟩ (.bool hi.neg)).setCell ⟨q, 1, none⟩ (.slice B (len hi.m) e)).setCell ⟨q, 2, none⟩ (I hi.den)) p q lo hi :=
  ⟨A, c, B, e, ext_set3 (ext_set3 hx (by omega) _ _ _) (by omega) _ _ _, (hp.set3 _ _ _).far3 (Ne.symm hne) _ _ _, (hq.far3 hne _ _ _).set3 _ _ _, (hz.far3 (by omega) _ _ _).far3 (by omega) _ _ _, hne, h1, h2,
    (ha.set3p _ _ _).set3q _ _ _, (hb.set3p _ _ _).set3q _ _ _⟩

end Go.Proofs.YtgnngldlgcdnfaaDoor
