/- Diagrams as arguments: no argument list is longer than its capacity. -/
import Derived.Test.YtgajibdmihdkcaaDoorDhm
namespace Go.Proofs.YtgajibdmihdkcaaDoor
open Go.ChangeShapes Go.WideShapes Go.ChangeAt Go.RowKit

section
variable {H : Type} {enc : TypeId × Value → H} {w : World} {base : Nat} {held : Bool}
theorem block_cap {m : Nat} {cs : List Value} {y : DataW H × List MemPlace} (h : DataW.trod enc Tryd.prog w base (fun _ => true) held m 53 cs = some y) (k : Int) (A : Option Addr) (n c : Nat) (vn ve un ue : Int) (e : cs = [I k, .slice A n c, I vn, I ve, I un, I ue]) : n ≤ c ∧ c ≤ maxLen := by
  obtain ⟨xs, n0, _, _, hl, hlen, hf⟩ := DataW.trod_struct Tryd.underlying53 h
  match xs, hlen with
  | [y0, y1, y2, y3], _ =>
    subst e
    have k1 : Tryd.prog.cellsOf 24 = 1 := by kernel_rfl
    have e1 : DataW.trod enc Tryd.prog w base (fun _ => true) held n0 24 (([I k, .slice A n c, I vn, I ve, I un, I ue].drop 1).take (Tryd.prog.cellsOf 24)) = some y1 := hf 1 _ rfl
    rw [k1] at e1
    exact ri_slice' e1 A n c rfl
/-- The argument lists of D's blocks are no longer than their capacities. -/
def CapD (D : Dia) (p : Pl) : Prop := ∀ i, i < D.nb → (D.B i).n ≤ p.cA i ∧ p.cA i ≤ maxLen
set_option maxRecDepth 100000 in
theorem dia_cap {w' : World} {b0 : Nat} {v : Value} {d : DataW H} {p : List MemPlace}
    (hv : Value.okWide Tryd.prog w' .any b0 26 v) (h : DataW.Trod enc Tryd.prog w base (fun _ => true) held 26 v d p) (D : Dia) (pl : Pl) (e : v = dgv D pl) (dm : Dm w D pl) : CapD D pl := by
  obtain ⟨cs, rfl, _⟩ := okWide_struct Tryd.underlying26 hv
  obtain ⟨l⟩ := cs
  obtain ⟨fuel, hd⟩ := h
  have hd' : DataW.trod enc Tryd.prog w base (fun _ => true) held fuel 26 l = some (d, p) := hd
  obtain ⟨xs, m, _, _, hl, hlen, hf⟩ := DataW.trod_struct Tryd.underlying26 hd'
  have hle : l = [.slice pl.AI D.ni pl.cI, .slice pl.AB D.nb pl.cB, .slice pl.AO D.no pl.cO] := by
    have e' : Value.agg ⟨l⟩ = Value.agg ⟨[.slice pl.AI D.ni pl.cI, .slice pl.AB D.nb pl.cB, .slice pl.AO D.no pl.cO]⟩ := e
    injection e' with e'
    injection e'
  match xs, hlen with
  | [y0, y1, y2], _ =>
    subst hle
    have k1 : Tryd.prog.cellsOf 23 = 1 := by kernel_rfl
    have e1 : DataW.trod enc Tryd.prog w base (fun _ => true) held m 23 (([Value.slice pl.AI D.ni pl.cI, .slice pl.AB D.nb pl.cB, .slice pl.AO D.no pl.cO].drop 1).take (Tryd.prog.cellsOf 23)) = some y1 := hf 1 _ rfl
    rw [k1] at e1
    obtain ⟨AB, nb, cB, g1, n1, z1, r1⟩ := rows_slice Tryd.underlying23 (k := 6) (by kernel_rfl) (by omega) e1
    have g1' : Value.slice pl.AB D.nb pl.cB = Value.slice AB nb cB := by
      have : [Value.slice pl.AB D.nb pl.cB] = [Value.slice AB nb cB] := g1
      injection this
    injection g1' with q1 q2 q3
    subst q1; subst q2; subst q3
    intro i hi
    obtain ⟨b, o, ea, hb, hx⟩ := r1 (by omega)
    obtain ⟨b', o', ea', hb', hx'⟩ := dm.blocks (by omega)
    rw [ea] at ea'
    injection ea' with ea'
    injection ea' with q4 q5 _
    subst q4; subst q5
    obtain ⟨cs', y, m', hl', hc', ht'⟩ := hx i hi
    obtain ⟨k, A, n, c, f, vn, ve, un, ue, rfl, hn, r, ok, _⟩ := block_cells ht'
    have h1 := hc' 1 (by omega)
    rw [(hx' i hi).2.1] at h1
    have h2 : Value.slice (pl.AA i) (D.B i).n (pl.cA i) = Value.slice A n c := by
      have : some (Value.slice (pl.AA i) (D.B i).n (pl.cA i)) = some (Value.slice A n c) := h1
      injection this
    injection h2 with q6 q7 q8
    have := block_cap ht' k A n c vn ve un ue rfl
    rw [q7, q8]; exact this
end
end Go.Proofs.YtgajibdmihdkcaaDoor
