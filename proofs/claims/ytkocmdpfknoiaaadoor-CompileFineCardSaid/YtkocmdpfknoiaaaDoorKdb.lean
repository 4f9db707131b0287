/- The fixed-point machine: how programs lie in memory; the small functions of the code. -/
import Derived.Test.YtkocmdpfknoiaaaDoorRib
import Derived.Test.YtkocmdpfknoiaaaDoorKda
namespace Go.Proofs.YtkocmdpfknoiaaaDoor
open Go Go.RowKit

/-- Where the parts of a program lie. -/
structure Pp where
  AP : Option Addr
  cP : Nat
  AC : Option Addr
  cC : Nat
  AX : Option Addr
  cX : Nat
  AO : Option Addr
  cO : Nat
abbrev insV (x : Ins) : Value := .agg #[I x.op, I x.dst, I x.a, I x.b, I x.sa, I x.sb, I x.im]
abbrev pgv (G : Pgm) (p : Pp) : Value := .agg #[.slice p.AP G.np p.cP, .slice p.AC G.nc p.cC, .slice p.AX G.ni p.cX, .slice p.AO G.no p.cO]
/-- n instructions behind A. -/
def Rx (w : World) (A : Option Addr) (n : Nat) (X : Nat → Ins) : Prop :=
  0 < n → ∃ b o, A = some ⟨b, o, none⟩ ∧ b < w.heap.size ∧ ∀ i, i < n → w.cell? ⟨b, o + i * 7, none⟩ = some (I (X i).op) ∧ w.cell? ⟨b, o + i * 7 + 1, none⟩ = some (I (X i).dst) ∧ w.cell? ⟨b, o + i * 7 + 2, none⟩ = some (I (X i).a) ∧
    w.cell? ⟨b, o + i * 7 + 3, none⟩ = some (I (X i).b) ∧ w.cell? ⟨b, o + i * 7 + 4, none⟩ = some (I (X i).sa) ∧ w.cell? ⟨b, o + i * 7 + 5, none⟩ = some (I (X i).sb) ∧ w.cell? ⟨b, o + i * 7 + 6, none⟩ = some (I (X i).im)
theorem Rx.ext {w w' : World} {A : Option Addr} {n : Nat} {X : Nat → Ins} (h : Rx w A n X) (e : Ext w w') : Rx w' A n X := fun hn => by
  obtain ⟨b, o, rfl, hb, hc⟩ := h hn
  have q := fun j => e.old.1 b j hb
  exact ⟨b, o, rfl, Nat.lt_of_lt_of_le hb e.size, fun i hi => by simp only [q]; exact hc i hi⟩
/-- n ports behind A. -/
def Rp (w : World) (A : Option Addr) (n : Nat) (P : Nat → Prt) : Prop :=
  0 < n → ∃ b o, A = some ⟨b, o, none⟩ ∧ b < w.heap.size ∧ ∀ i, i < n → w.cell? ⟨b, o + i * 3, none⟩ = some (I (P i).lo) ∧ w.cell? ⟨b, o + i * 3 + 1, none⟩ = some (I (P i).hi) ∧ w.cell? ⟨b, o + i * 3 + 2, none⟩ = some (I (P i).fr)
theorem Rp.ext {w w' : World} {A : Option Addr} {n : Nat} {P : Nat → Prt} (h : Rp w A n P) (e : Ext w w') : Rp w' A n P := fun hn => by
  obtain ⟨b, o, rfl, hb, hc⟩ := h hn
  have q := fun j => e.old.1 b j hb
  exact ⟨b, o, rfl, Nat.lt_of_lt_of_le hb e.size, fun i hi => by simp only [q]; exact hc i hi⟩
structure Pm (w : World) (G : Pgm) (p : Pp) : Prop where
  ports : Rp w p.AP G.np G.P
  init : Ri w p.AC G.nc G.C
  code : Rx w p.AX G.ni G.X
  outs : Ri w p.AO G.no G.O
  lp : G.np ≤ maxLen
  lc : G.nc ≤ maxLen
  lx : G.ni ≤ maxLen
  lo : G.no ≤ maxLen
  nC : p.AC = none → p.cC = 0
  kX : G.ni ≤ p.cX
theorem Pm.ext {w w' : World} {G : Pgm} {p : Pp} (h : Pm w G p) (e : Ext w w') : Pm w' G p :=
  ⟨h.ports.ext e, h.init.ext e, h.code.ext e, h.outs.ext e, h.lp, h.lc, h.lx, h.lo, h.nC, h.kX⟩
/-- A program's box. -/
structure Px (w : World) (g : Nat) (G : Pgm) (p : Pp) : Prop where
  c0 : w.cell? ⟨g, 0, none⟩ = some (.slice p.AP G.np p.cP)
  c1 : w.cell? ⟨g, 1, none⟩ = some (.slice p.AC G.nc p.cC)
  c2 : w.cell? ⟨g, 2, none⟩ = some (.slice p.AX G.ni p.cX)
  c3 : w.cell? ⟨g, 3, none⟩ = some (.slice p.AO G.no p.cO)
theorem Px.lt {w : World} {g : Nat} {G : Pgm} {p : Pp} (h : Px w g G p) : g < w.heap.size := World.block_lt_of_cell? w _ h.c0
theorem Px.ext {w w' : World} {g : Nat} {G : Pgm} {p : Pp} (h : Px w g G p) (e : Ext w w') : Px w' g G p :=
  ⟨(e.old.1 _ _ h.lt).trans h.c0, (e.old.1 _ _ h.lt).trans h.c1, (e.old.1 _ _ h.lt).trans h.c2, (e.old.1 _ _ h.lt).trans h.c3⟩
theorem Px.new (w : World) (G : Pgm) (p : Pp) (t : TypeId) : Px (w.alloc (.cells #[.slice p.AP G.np p.cP, .slice p.AC G.nc p.cC, .slice p.AX G.ni p.cX, .slice p.AO G.no p.cO] t)) w.heap.size G p :=
  ⟨by go_simp, by go_simp, by go_simp, by go_simp⟩
/-- An instruction's box. -/
structure BI7 (w : World) (g : Nat) (x : Ins) : Prop where
  c0 : w.cell? ⟨g, 0, none⟩ = some (I x.op)
  c1 : w.cell? ⟨g, 1, none⟩ = some (I x.dst)
  c2 : w.cell? ⟨g, 2, none⟩ = some (I x.a)
  c3 : w.cell? ⟨g, 3, none⟩ = some (I x.b)
  c4 : w.cell? ⟨g, 4, none⟩ = some (I x.sa)
  c5 : w.cell? ⟨g, 5, none⟩ = some (I x.sb)
  c6 : w.cell? ⟨g, 6, none⟩ = some (I x.im)
theorem BI7.lt {w : World} {g : Nat} {x : Ins} (h : BI7 w g x) : g < w.heap.size := World.block_lt_of_cell? w _ h.c0
theorem BI7.ext {w w' : World} {g : Nat} {x : Ins} (h : BI7 w g x) (e : Ext w w') : BI7 w' g x := by
  have q := fun j => e.old.1 g j h.lt
  exact ⟨by rw [q]; exact h.c0, by rw [q]; exact h.c1, by rw [q]; exact h.c2, by rw [q]; exact h.c3, by rw [q]; exact h.c4, by rw [q]; exact h.c5, by rw [q]; exact h.c6⟩
theorem BI7.new (w : World) (x : Ins) (t : TypeId) : BI7 (w.alloc (.cells #[I x.op, I x.dst, I x.a, I x.b, I x.sa, I x.sb, I x.im] t)) w.heap.size x :=
  ⟨by go_simp, by go_simp, by go_simp, by go_simp, by go_simp, by go_simp, by go_simp⟩

/-- A port's box. -/
structure Bp (w : World) (g : Nat) (x : Prt) : Prop where
  c0 : w.cell? ⟨g, 0, none⟩ = some (I x.lo)
  c1 : w.cell? ⟨g, 1, none⟩ = some (I x.hi)
  c2 : w.cell? ⟨g, 2, none⟩ = some (I x.fr)
theorem Bp.lt {w : World} {g : Nat} {x : Prt} (h : Bp w g x) : g < w.heap.size := World.block_lt_of_cell? w _ h.c0
theorem Bp.ext {w w' : World} {g : Nat} {x : Prt} (h : Bp w g x) (e : Ext w w') : Bp w' g x :=
  ⟨(e.old.1 _ _ h.lt).trans h.c0, (e.old.1 _ _ h.lt).trans h.c1, (e.old.1 _ _ h.lt).trans h.c2⟩
theorem Bp.new (w : World) (x : Prt) (t : TypeId) : Bp (w.alloc (.cells #[I x.lo, I x.hi, I x.fr] t)) w.heap.size x := ⟨by go_simp, by go_simp, by go_simp⟩
end Go.Proofs.YtkocmdpfknoiaaaDoor
