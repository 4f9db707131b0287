/- Arguments that are curves. -/
import Derived.Test.YtdcollchhcjaaaaSlicei
import Derived.Test.YtdcollchhcjaaaaCrvd
namespace Go.Proofs.Ytdcollchhcjaaaa
open Go.ChangeShapes Go.WideShapes Go.ChangeAt Go.RowKit

theorem ri_slice {H : Type} {enc : TypeId × Value → H} {w : World} {base : Nat} {held : Bool} {fuel : Nat} {cs : List Value} {x : DataW H × List MemPlace}
    (h : DataW.trod enc Try.prog w base (fun _ => true) held fuel 22 cs = some x) :
    ∃ (A : Option Addr) (n c : Nat) (f : Nat → Int), cs = [.slice A n c] ∧ n ≤ maxLen ∧ Ri w A n f ∧ ∀ i, i < n → -9223372036854775808 ≤ f i ∧ f i ≤ 9223372036854775807 := by
  obtain ⟨A, n, c, e, hl, hm, hf⟩ := int_slice (t := 22) Try.underlying22 Try.underlying3 (by kernel_rfl) h
  by_cases h0 : 1 ≤ n
  · obtain ⟨b, off, f, rfl, hb, hc, hw⟩ := hf h0
    exact ⟨_, n, c, f, e, by omega, fun _ => ⟨b, off, rfl, hb, hc⟩, fun i hi => in64w (hw i hi)⟩
  · exact ⟨A, n, c, fun _ => 0, e, by omega, fun hn => by omega, fun i hi => by omega⟩

set_option maxRecDepth 100000 in
theorem open_curve {H : Type} {enc : TypeId × Value → H} {w w' : World} {base b0 : Nat} {held : Bool} {v : Value} {d : DataW H} {p : List MemPlace}
    (hv : Value.okWide Try.prog w' .any b0 24 v) (h : DataW.Trod enc Try.prog w base (fun _ => true) held 24 v d p) :
    ∃ (A : Option Addr) (n c : Nat) (B : Option Addr) (m e : Nat) (X Y : Nat → Int), v = cv A n c B m e ∧ n ≤ maxLen ∧ m ≤ maxLen ∧ Ri w A n X ∧ Ri w B m Y := by
  obtain ⟨cs, rfl, _⟩ := okWide_struct Try.underlying24 hv
  obtain ⟨l⟩ := cs
  obtain ⟨fuel, hd⟩ := h
  have hd' : DataW.trod enc Try.prog w base (fun _ => true) held fuel 24 l = some (d, p) := hd
  obtain ⟨xs, m, _, _, hl, hlen, hf⟩ := DataW.trod_struct Try.underlying24 hd'
  have h2 : l.length = 2 := by rw [hl]; kernel_rfl
  match xs, hlen with
  | [y0, y1], _ =>
    match l, h2 with
    | [c0, c1], _ =>
      have k0 : Try.prog.cellsOf 22 = 1 := by kernel_rfl
      have e0 : DataW.trod enc Try.prog w base (fun _ => true) held m 22 (([c0, c1].drop 0).take (Try.prog.cellsOf 22)) = some y0 := hf 0 _ rfl
      have e1 : DataW.trod enc Try.prog w base (fun _ => true) held m 22 (([c0, c1].drop 1).take (Try.prog.cellsOf 22)) = some y1 := hf 1 _ rfl
      rw [k0] at e0 e1
      obtain ⟨A, n, c, X, g0, n0, r0, _⟩ := ri_slice e0
      obtain ⟨B, q, e, Y, g1, n1, r1, _⟩ := ri_slice e1
      cases g0; cases g1
      exact ⟨A, n, c, B, q, e, X, Y, rfl, n0, n1, r0, r1⟩

theorem open_ints' {H : Type} {enc : TypeId × Value → H} {w w' : World} {base b0 : Nat} {held : Bool} {v : Value} {d : DataW H} {p : List MemPlace}
    (hv : Value.okWide Try.prog w' .any b0 22 v) (h : DataW.Trod enc Try.prog w base (fun _ => true) held 22 v d p) :
    ∃ (A : Option Addr) (n c : Nat) (X : Nat → Int), v = .slice A n c ∧ n ≤ maxLen ∧ Ri w A n X ∧ ∀ i, i < n → -9223372036854775808 ≤ X i ∧ X i ≤ 9223372036854775807 := by
  obtain ⟨a, L, cap, rfl⟩ := okWide_slice Try.underlying22 hv
  obtain ⟨fuel, h1⟩ := h
  obtain ⟨A, n, c, X, e1, hn, r, hw⟩ := ri_slice h1
  have e2 : [Value.slice a L cap] = [Value.slice A n c] := by simpa [Value.cells] using e1
  simp only [List.cons.injEq, and_true, Value.slice.injEq] at e2
  obtain ⟨rfl, rfl, rfl⟩ := e2
  exact ⟨_, _, _, X, rfl, hn, r, hw⟩

end Go.Proofs.Ytdcollchhcjaaaa
