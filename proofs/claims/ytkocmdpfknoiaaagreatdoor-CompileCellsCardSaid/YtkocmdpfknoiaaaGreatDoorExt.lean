/- Worlds that only grew: steps that unify at once. -/
import Derived.Test.YtkocmdpfknoiaaaGreatDoorNum
namespace Go.Proofs.YtkocmdpfknoiaaaGreatDoor
open Go.RowKit
theorem Ext.toAlloc {w w' : World} {o : Obj} (h : Ext w w') : Ext w (w'.alloc o) := h.trans (Ext.alloc _ _)
theorem Ext.toDrew {w w' : World} (h : Ext w w') : Ext w w'.drew := h.trans (Ext.drew _)
theorem Ext.toDrewN {w w' : World} {n : Nat} (h : Ext w w') : Ext w (w'.drewN n) := h.trans (Ext.drewN _ _)
theorem Ext.toSet {w w' : World} {g i : Nat} {u : Value} (h : Ext w w') (hg : w.heap.size ≤ g) : Ext w (w'.setCell ⟨g, i, none⟩ u) := h.set hg u
end Go.Proofs.YtkocmdpfknoiaaaGreatDoor
