/- Numbers as structs: comparison. -/
import Derived.Test.YtimpgdkeiopboaaGreatDoorMdyf
namespace Go.Proofs.YtimpgdkeiopboaaGreatDoor
open Go.RowKit
attribute [local go_sem ↓] Go.wp_at_zero Go.wp_at_succ

def TwoC (w : World) (a b : DV) (A B : Option Addr) (ca cb : Nat) (wx : World) : Prop :=
  Ext w wx ∧ Bx wx w.heap.size (.bool a.neg) (.slice A (len a.m) ca) (I a.den) ∧ Bx wx (w.heap.size + 1) (.bool b.neg) (.slice B (len b.m) cb) (I b.den)
theorem twoC_of {w W0 W : World} {a b : DV} {A B : Option Addr} {ca cb : Nat} {a0 a1 a2 b0 b1 b2 : Value} (h0 : Bx W0 w.heap.size a0 a1 a2) (h1 : Bx W0 (w.heap.size + 1) b0 b1 b2) (hw : Ext w W0) (hx : Ext W0 W) :
    TwoC w a b A B ca cb ((((((W.setCell ⟨w.heap.size, 0, none⟩ (.bool a.neg)).setCell ⟨w.heap.size, 1, none⟩ (.slice A (len a.m) ca)).setCell ⟨w.heap.size, 2, none⟩ (I a.den)).setCell ⟨w.heap.size + 1, 0, none⟩ (.bool b.neg)).setCell ⟨w.heap.size + 1, 1, none⟩ (.slice B (len b.m) cb)).setCell ⟨w.heap.size + 1, 2, none⟩ (I b.den)) :=
  ⟨ext_set3 (ext_set3 (hw.trans hx) (Nat.le_refl _) _ _ _) (by omega) _ _ _, ((h0.ext hx).set3 _ _ _).far3 (by omega) _ _ _, ((h1.ext hx).far3 (by omega) _ _ _).set3 _ _ _⟩

theorem cmp_ne_val {a b : DV} (ha : a.ok) (hb : b.ok) (h : signD a ≠ signD b) : cmpI (signD a) (signD b) = cmpD a b := by rw [cmpD_signs ha hb h, cmp_ne h]

end Go.Proofs.YtimpgdkeiopboaaGreatDoor
