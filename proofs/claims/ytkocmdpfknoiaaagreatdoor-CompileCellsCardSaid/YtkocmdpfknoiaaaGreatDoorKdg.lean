/- The fixed-point machine: the state of a run: the cells' own row, the box of what is returned. -/
import Derived.Test.YtkocmdpfknoiaaaGreatDoorKde
import Derived.Test.YtkocmdpfknoiaaaGreatDoorKdf
import Derived.Test.YtkocmdpfknoiaaaGreatDoorKdc
import Derived.Deep.Heap
import Derived.Deep.RegionHeld
import Derived.Laws.Rows
namespace Go.Proofs.YtkocmdpfknoiaaaGreatDoor
open Go Go.RowKit

theorem Ri.setOther {w : World} {A : Option Addr} {n : Nat} {f : Nat → Int} (h : Ri w A n f) {a : Addr} (hne : 0 < n → ∀ b o, A = some ⟨b, o, none⟩ → b ≠ a.block) (v : Value) : Ri (w.setCell a v) A n f := fun h0 => by
  obtain ⟨b, o, e, hb, hc⟩ := h h0
  exact ⟨b, o, e, by simpa using hb, fun i hi => by rw [World.cell?_setCell_far _ _ _ _ (show a.block ≠ b from fun q => hne h0 b o e q.symm)]; exact hc i hi⟩
theorem OwI.off {w : World} {base c n : Nat} {A : Option Addr} {F : Nat → Int} (h : OwI w base A c F n) {g : Nat} (hg : g < base) (i : Nat) (v : Value) : OwI (w.setCell ⟨g, i, none⟩ v) base A c F n := by
  refine World.ownsRow.kept (row := some g) h ⟨rfl, rfl, rfl, by simp, fun k _ hk => Go.Deep.blk_setCell_other _ _ _ _ (fun q => hk (by rw [q]))⟩ ?_
  cases hv : (Value.slice A n c).ownBlock with
  | none => simp
  | some k => right; have := (h.lt k hv).1; intro e; injection e with e; omega
theorem OwI.nz {w : World} {base c n : Nat} {A : Option Addr} {F : Nat → Int} (h : OwI w base A c F n) (hA : A = none) : c = 0 := by
  have h' := h
  obtain ⟨_, ⟨e, _⟩ | ⟨g, cap, cur, e, _⟩⟩ := h'
  · injection e
  · injection e with e1; rw [hA] at e1; cases e1
theorem Rx.setOther {w : World} {A : Option Addr} {n : Nat} {X : Nat → Ins} (h : Rx w A n X) {a : Addr} (hne : 0 < n → ∀ b o, A = some ⟨b, o, none⟩ → b ≠ a.block) (v : Value) : Rx (w.setCell a v) A n X := fun h0 => by
  obtain ⟨b, o, e, hb, hc⟩ := h h0
  have q := fun j => World.cell?_setCell_far w a ⟨b, j, none⟩ v (show a.block ≠ b from fun q => hne h0 b o e q.symm)
  exact ⟨b, o, e, by simpa using hb, fun i hi => by simp only [q]; exact hc i hi⟩
theorem appI_step {ops : Array Oper} {o : Oper} {a : Act} {w : World} {K : Act → World → Prop} {Q : Exit → Act → World → Prop} {E : Prop} (hgd : o.guard = none) (s x : Operand) (ho : o.op = .call { callee := .builtin .append, args := #[s, x], argTypes := #[24, 24] })
    (base : Nat) (A : Option Addr) (c : Nat) (F : Nat → Int) (n : Nat) (hs : a.eval s = .slice A n c) (hown : OwI w base A c F n) (ad : Addr) (cx : Nat) (hx : a.eval x = .slice (some ad) 1 cx) (hv : w.cell? ad = some (I (F n)))
    (hn : n ≤ 1099511627) (hbase : base ≤ w.heap.size)
    (h : ∀ g cap w', OwI w' base (some ⟨g, 0, none⟩) cap F (n + 1) → w.grownBy w' (Value.slice A n c).ownBlock → ((Value.slice A n c).ownBlock = some g ∨ g = w.heap.size) → g < w'.heap.size →
      K (a.put o.dst (.slice (some ⟨g, 0, none⟩) (n + 1) cap)) w') : if Region.wanted o (yielded ops a.tmps) = true then Oper.wp Tryz.prog o a w K Q else E := by
  obtain ⟨i, hi, hz, h1, hb⟩ := info_parts infoI
  exact step_append_lies w hgd s x _ ho base 3 i _ 1 8 Tryz.underlying24 hi hz h1 hb rfl (by omega) _ n _ hs hown ad 1 cx [I (F n)] hx rfl (news1' hv) (by simp [Value.oneCell']) (by omega) (by unfold maxLen; omega) (by omega) hbase w.heap.size rfl h
/-- Three values by index. -/
def b3 (v0 v1 v2 : Value) (i : Nat) : Value := if i = 0 then v0 else if i = 1 then v1 else v2
/-- The state of a run: the cells lie in a row of their own (if there are any), the box of what is returned at gb. -/
structure RuS (W w : World) (gb : Nat) (A : Option Addr) (k n : Nat) (F : Nat → Int) (B : Option Addr) (m l : Nat) (ov : Bool) : Prop where
  ext : Ext W w
  box : w.rowIs gb 59 3 (b3 (.slice A n k) (.slice B m l) (.bool ov))
  row : 0 < n → ∃ g N f, A = some ⟨g, 0, none⟩ ∧ W.heap.size ≤ g ∧ g ≠ gb ∧ n ≤ N ∧ w.rowIs g 3 N f ∧ ∀ i, i < n → f i = I (F i)
  old : W.heap.size ≤ gb
section
variable {W w : World} {gb : Nat} {A : Option Addr} {k n : Nat} {F : Nat → Int} {B : Option Addr} {m l : Nat} {ov : Bool}
theorem RuS.start (o : OwI w W.heap.size A k F n) (e : Ext W w) {g : Nat} (hg : g = w.heap.size) : RuS W (w.alloc (.cells #[.slice A n k, .slice none 0 0, .bool false] 59)) g A k n F none 0 0 false where
  ext := e.toAlloc
  box := by
    subst hg
    have := World.rowIs_alloc w #[.slice A n k, .slice none 0 0, .bool false] 59 (b3 (.slice A n k) (.slice none 0 0) (.bool false)) (fun i hi => by
      have : i = 0 ∨ i = 1 ∨ i = 2 := by simp at hi; omega
      rcases this with h | h | h <;> subst h <;> rfl)
    exact this
  row := fun h0 => by
    obtain ⟨g', N, f, e1, e2, e3, e4, e5⟩ := o.row h0
    exact ⟨g', N, f, e1, e2, by have := e4.lt; omega, e3, e4.ext (Ext.alloc _ _), e5⟩
  old := by have := e.size; omega
theorem RuS.step {w' : World} (h : RuS W w gb A k n F B m l ov) (e : Ext w w') : RuS W w' gb A k n F B m l ov :=
  ⟨h.ext.trans e, h.box.ext e, fun h0 => by obtain ⟨g, N, f, e1, e2, e3, e4, e5, e6⟩ := h.row h0; exact ⟨g, N, f, e1, e2, e3, e4, e5.ext e, e6⟩, h.old⟩
theorem RuS.put {g0 : Nat} (h : RuS W w gb (some ⟨g0, 0, none⟩) k n F B m l ov) (d : Nat) (hd : d < n) (v : Int) : RuS W (w.setCell ⟨g0, d, none⟩ (I v)) gb (some ⟨g0, 0, none⟩) k n (fun i => if i = d then v else F i) B m l ov := by
  obtain ⟨g, N, f, e1, e2, e3, e4, e5, e6⟩ := h.row (by omega)
  cases e1
  exact ⟨h.ext.toSet e2, h.box.setOther (show gb ≠ g0 from fun q => e3 q.symm) _, fun _ => ⟨g0, N, fun i => if i = d then I v else f i, rfl, e2, e3, e4, e5.set d (I v), fun i hi => by
    show (if i = d then I v else f i) = I (if i = d then v else F i)
    split
    · rfl
    · exact e6 i hi⟩, h.old⟩
theorem RuS.flag (h : RuS W w gb A k n F B m l ov) (b : Bool) : RuS W (w.setCell ⟨gb, 2, none⟩ (.bool b)) gb A k n F B m l b := by
  refine ⟨h.ext.toSet h.old, (h.box.set 2 (.bool b)).congr fun i hi => ?_, fun h0 => ?_, h.old⟩
  · have : i = 0 ∨ i = 1 ∨ i = 2 := by omega
    rcases this with h | h | h <;> subst h <;> rfl
  · obtain ⟨g, N, f, e1, e2, e3, e4, e5, e6⟩ := h.row h0
    exact ⟨g, N, f, e1, e2, e3, e4, e5.setOther (show g ≠ gb from e3) _, e6⟩
theorem RuS.outs (h : RuS W w gb A k n F B m l ov) (B' : Option Addr) (m' l' : Nat) : RuS W (w.setCell ⟨gb, 1, none⟩ (.slice B' m' l')) gb A k n F B' m' l' ov := by
  refine ⟨h.ext.toSet h.old, (h.box.set 1 (.slice B' m' l')).congr fun i hi => ?_, fun h0 => ?_, h.old⟩
  · have : i = 0 ∨ i = 1 ∨ i = 2 := by omega
    rcases this with h | h | h <;> subst h <;> rfl
  · obtain ⟨g, N, f, e1, e2, e3, e4, e5, e6⟩ := h.row h0
    exact ⟨g, N, f, e1, e2, e3, e4, e5.setOther (show g ≠ gb from e3) _, e6⟩
theorem RuS.grown {w' : World} {base : Nat} {row : Option Nat} (h : RuS W w gb A k n F B m l ov) (e : w.grownBy w' row) (hb : gb < base) (hA : 0 < n → ∀ b o, A = some ⟨b, o, none⟩ → b < base) (hr : ∀ r, row = some r → base ≤ r) (hW : W.heap.size ≤ base) : RuS W w' gb A k n F B m l ov := by
  have hn : ∀ b, b < base → some b ≠ row := fun b hb e => by have := hr b e.symm; omega
  refine ⟨Below.grown h.ext e h.ext.size (fun r hr' => Nat.le_trans hW (hr r hr')), h.box.of_block (e.block _ h.box.lt (hn _ hb)), fun h0 => ?_, h.old⟩
  obtain ⟨g, N, f, e1, e2, e3, e4, e5, e6⟩ := h.row h0
  exact ⟨g, N, f, e1, e2, e3, e4, e5.of_block (e.block _ e5.lt (hn _ (hA h0 _ _ e1))), e6⟩
theorem RuS.ri (h : RuS W w gb A k n F B m l ov) : Ri w A n F := fun h0 => by
  obtain ⟨g, N, f, e1, e2, e3, e4, e5, e6⟩ := h.row h0
  exact ⟨g, 0, e1, e5.lt, fun i hi => by rw [Nat.zero_add, e5.cell (by omega), e6 i hi]⟩
theorem RuS.c0 (h : RuS W w gb A k n F B m l ov) : w.cell? ⟨gb, 0, none⟩ = some (.slice A n k) := h.box.cell (by omega)
theorem RuS.c1 (h : RuS W w gb A k n F B m l ov) : w.cell? ⟨gb, 1, none⟩ = some (.slice B m l) := h.box.cell (by omega)
theorem RuS.c2 (h : RuS W w gb A k n F B m l ov) : w.cell? ⟨gb, 2, none⟩ = some (.bool ov) := h.box.cell (by omega)
theorem RuS.at_ {g0 : Nat} (h : RuS W w gb (some ⟨g0, 0, none⟩) k n F B m l ov) {d : Nat} (hd : d < n) : w.cell? ⟨g0, d, none⟩ = some (I (F d)) ∧ w.frozen? ⟨g0, d, none⟩ = false ∧ g0 < w.heap.size := by
  obtain ⟨g, N, f, e1, e2, e3, e4, e5, e6⟩ := h.row (by omega)
  cases e1
  exact ⟨by rw [e5.cell (by omega), e6 d hd], e5.frozen d, e5.lt⟩
end
/-- What a run returns. -/
def RunR (G : Pgm) (c IN : Nat → Int) (w : World) (e : Ending) (w' : World) : Prop := ∃ A k B l, e = .returned (.tuple #[.agg #[.slice A G.nc k, .slice B G.no l, .bool (runC G.X IN c G.ni).2], .nilIface]) ∧ Ri w' A G.nc (runC G.X IN c G.ni).1 ∧
  Ri w' B G.no (fun i => (runC G.X IN c G.ni).1 (G.O i).toNat) ∧ (A = none → k = 0) ∧ (B = none → l = 0) ∧ (∀ b o, A = some ⟨b, o, none⟩ → w.heap.size ≤ b) ∧ (∀ b o, B = some ⟨b, o, none⟩ → w.heap.size ≤ b) ∧ G.nc ≤ maxLen ∧ Ext w w'
end Go.Proofs.YtkocmdpfknoiaaaGreatDoor
