/- Two new boxes beside the words of two numbers. -/
import Derived.Test.YtimpgdkeiopboaaDoorExt
import Derived.Test.YtimpgdkeiopboaaDoorLwqm
namespace Go.Proofs.YtimpgdkeiopboaaDoor
open Go.RowKit

theorem qtwo_new {w w1 : World} {u0 u1 u2 v0 v1 v2 : Value} {t t' : TypeId} (hx : Ext ((w.alloc (.cells #[u0, u1, u2] t)).alloc (.cells #[v0, v1, v2] t')) w1) : Bx w1 w.heap.size u0 u1 u2 ∧ Bx w1 (w.heap.size + 1) v0 v1 v2 := by
  have s1 := ((Bx.new w u0 u1 u2 t).ext (Ext.alloc _ (.cells #[v0, v1, v2] t'))).ext hx
  have s2 := (Bx.new (w.alloc (.cells #[u0, u1, u2] t)) v0 v1 v2 t').ext hx
  rw [show (w.alloc (.cells #[u0, u1, u2] t)).heap.size = w.heap.size + 1 by simp] at s2
  exact ⟨s1, s2⟩
theorem qone_new {w w1 : World} {v0 v1 v2 : Value} {t : TypeId} (hx : Ext (w.alloc (.cells #[v0, v1, v2] t)) w1) : Bx w1 w.heap.size v0 v1 v2 := (Bx.new w v0 v1 v2 t).ext hx
theorem qtwo_newd {w w1 : World} {u0 u1 u2 v0 v1 v2 : Value} {t t' : TypeId} (hx : Ext ((w.alloc (.cells #[u0, u1, u2] t)).alloc (.cells #[v0, v1, v2] t')).drew w1) : Bx w1 w.heap.size u0 u1 u2 ∧ Bx w1 (w.heap.size + 1) v0 v1 v2 := qtwo_new ((Ext.drew _).trans hx)
theorem qone_newd {w w1 : World} {v0 v1 v2 : Value} {t : TypeId} (hx : Ext (w.alloc (.cells #[v0, v1, v2] t)).drew w1) : Bx w1 w.heap.size v0 v1 v2 := (Bx.new w v0 v1 v2 t).ext ((Ext.drew _).trans hx)
/-- The words of a number do not lie in these blocks. -/
def Ofq (w : World) (p q : Nat) (A : Option Addr) (n c : Nat) (f : Nat → Nat) : Prop := (Rd w A n f ∧ SlOk A n c) ∧ (0 < n → ∀ a, A = some a → a.block ≠ p ∧ a.block ≠ q)
theorem Ofq.ext {w w' : World} {p q n c : Nat} {A : Option Addr} {f : Nat → Nat} (h : Ofq w p q A n c f) (e : Ext w w') : Ofq w' p q A n c f := ⟨⟨h.1.1.ext e, h.1.2⟩, h.2⟩
theorem Ofq.toAlloc {w : World} {o : Obj} {p q n c : Nat} {A : Option Addr} {f : Nat → Nat} (h : Ofq w p q A n c f) : Ofq (w.alloc o) p q A n c f := h.ext (Ext.alloc _ _)
theorem Ofq.setp {w : World} {p q n c : Nat} {A : Option Addr} {f : Nat → Nat} (h : Ofq w p q A n c f) (i : Nat) (u : Value) : Ofq (w.setCell ⟨p, i, none⟩ u) p q A n c f :=
  ⟨⟨fun hn => (h.1.1.set (fun a ha => (h.2 hn a ha).1) i u) hn, h.1.2⟩, h.2⟩
theorem Ofq.setq {w : World} {p q n c : Nat} {A : Option Addr} {f : Nat → Nat} (h : Ofq w p q A n c f) (i : Nat) (u : Value) : Ofq (w.setCell ⟨q, i, none⟩ u) p q A n c f :=
  ⟨⟨fun hn => (h.1.1.set (fun a ha => (h.2 hn a ha).2) i u) hn, h.1.2⟩, h.2⟩
theorem On.ofq {w : World} {b p q n c : Nat} {A : Option Addr} {f : Nat → Nat} (h : On w b A n c f) (hp : p < b ∨ w.heap.size ≤ p) (hq : q < b ∨ w.heap.size ≤ q) : Ofq w p q A n c f := by
  refine ⟨⟨h.rd, h.ok⟩, fun hn a ha => ?_⟩
  have h1 : b ≤ a.block := by
    by_cases hb : b ≤ a.block
    · exact hb
    · exact absurd rfl (h.ne (g := a.block) (by omega) a ha)
  obtain ⟨b', o, e, hb', _⟩ := h.rd hn
  rw [e] at ha
  injection ha with ha
  subst ha
  have h2 : b' < w.heap.size := hb'
  have h3 : b ≤ b' := h1
  exact ⟨by show b' ≠ p; omega, by show b' ≠ q; omega⟩
/-- Two new boxes hold two new numbers. -/
def LoHi (w wx : World) (p q : Nat) (x y : DV) (A : Option Addr) (c : Nat) (B : Option Addr) (e : Nat) : Prop :=
  Ext w wx ∧ St wx p (.bool x.neg) (.slice A (len x.m) c) (I x.den) ∧ St wx q (.bool y.neg) (.slice B (len y.m) e) (I y.den) ∧ Ofq wx p q A (len x.m) c (dg x.m) ∧ Ofq wx p q B (len y.m) e (dg y.m)
end Go.Proofs.YtimpgdkeiopboaaDoor
