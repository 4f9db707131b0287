/- Arguments that are lists of ints. -/
import Derived.Test.YtkocmdpfknoiaaaGreatDoorDgp
namespace Go.Proofs.YtkocmdpfknoiaaaGreatDoor
open Go.ChangeShapes Go.WideShapes Go.ChangeAt Go.RowKit

section
variable {H : Type} {enc : TypeId × Value → H} {w : World} {base : Nat} {held : Bool}
set_option maxRecDepth 100000 in
theorem open_ints' {w' : World} {b0 : Nat} {v : Value} {d : DataW H} {p : List MemPlace}
    (hv : Value.okWide Tryz.prog w' .any b0 24 v) (h : DataW.Trod enc Tryz.prog w base (fun _ => true) held 24 v d p) :
    ∃ (A : Option Addr) (n c : Nat) (X : Nat → Int), v = .slice A n c ∧ Ri w A n X ∧ n ≤ maxLen ∧ ∀ i, i < n → in64 (X i) := by
  obtain ⟨a, L, cap, rfl⟩ := okWide_slice Tryz.underlying24 hv
  obtain ⟨fuel, h1⟩ := h
  obtain ⟨A, n, c, X, e1, hn, r, _, hw⟩ := ri_slice h1
  have e2 : [Value.slice a L cap] = [Value.slice A n c] := by simpa [Value.cells] using e1
  simp only [List.cons.injEq, and_true, Value.slice.injEq] at e2
  obtain ⟨rfl, rfl, rfl⟩ := e2
  exact ⟨_, _, _, X, rfl, r, hn, hw⟩
end
end Go.Proofs.YtkocmdpfknoiaaaGreatDoor
