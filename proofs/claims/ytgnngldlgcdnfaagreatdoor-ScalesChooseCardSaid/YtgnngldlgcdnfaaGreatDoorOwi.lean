/- Lists of ints that are appended to. -/
import Derived.Test.YtgnngldlgcdnfaaGreatDoorDgef
import Derived.Deep.AppendLies
namespace Go.Proofs.YtgnngldlgcdnfaaGreatDoor
open Go Go.RowKit

def ivs (F : Nat → Int) : Nat → List Value
  | 0 => []
  | n + 1 => ivs F n ++ [I (F n)]
theorem ivs_len (F : Nat → Int) (n : Nat) : (ivs F n).length = n := by
  induction n with
  | zero => rfl
  | succ n ih => show (ivs F n ++ [_]).length = _; rw [List.length_append, ih]; rfl
theorem ivs_get {F : Nat → Int} {n k : Nat} (hk : k < n) : (ivs F n)[k]? = some (I (F k)) := by
  induction n with
  | zero => omega
  | succ n ih =>
    show (ivs F n ++ [_])[k]? = _
    by_cases e : k = n
    · subst e; rw [List.getElem?_append_right (by rw [ivs_len]; exact Nat.le_refl _), ivs_len]; simp
    · rw [List.getElem?_append_left (by rw [ivs_len]; omega)]; exact ih (by omega)
def OwI (w : World) (base : Nat) (A : Option Addr) (c : Nat) (F : Nat → Int) (n : Nat) : Prop := w.ownsRow base 3 1 (.slice A n c) n (ivs F n)
theorem OwI.nil (w : World) (base : Nat) (F : Nat → Int) : OwI w base none 0 F 0 := World.ownsRow_nil _ _ _ _
theorem OwI.lt {w : World} {base c n : Nat} {A : Option Addr} {F : Nat → Int} (h : OwI w base A c F n) : ∀ k, (Value.slice A n c).ownBlock = some k → base ≤ k ∧ k < w.heap.size := World.ownsRow.lt h
theorem OwI.ext {w w' : World} {base c n : Nat} {A : Option Addr} {F : Nat → Int} (h : OwI w base A c F n) (e : Ext w w') : OwI w' base A c F n :=
  World.ownsRow.kept h (ext_gr e) (by cases (Value.slice A n c).ownBlock <;> simp)
theorem OwI.ri {w : World} {base c n : Nat} {A : Option Addr} {F : Nat → Int} (h : OwI w base A c F n) : Ri w A n F := fun h0 => by
  have h' := h
  obtain ⟨_, ⟨e, hz⟩ | ⟨g, cap, cur, e, _⟩⟩ := h'
  · omega
  · injection e with e1 e2 e3
    subst e1
    refine ⟨g, 0, rfl, (h.lt g rfl).2, fun k hk => ?_⟩
    rw [Nat.zero_add, World.ownsRow.cellAt h k (by omega)]; exact ivs_get hk
theorem OwI.blk {w : World} {base c n : Nat} {A : Option Addr} {F : Nat → Int} (h : OwI w base A c F n) : ∀ b o, A = some ⟨b, o, none⟩ → base ≤ b ∧ b < w.heap.size := fun b o hA => by
  have h' := h
  obtain ⟨_, ⟨e, _⟩ | ⟨g, cap, cur, e, _⟩⟩ := h'
  · injection e with e1; rw [hA] at e1; cases e1
  · injection e with e1 e2 e3
    rw [hA] at e1
    injection e1 with e1
    injection e1 with e1 e4
    subst e1; subst e4; subst hA
    exact h.lt b rfl
theorem growI_ext {W w w' : World} {base c n : Nat} {A : Option Addr} {F : Nat → Int} (e : Ext W w) (h : OwI w base A c F n) (hb : W.heap.size ≤ base) (hg : w.grownBy w' (Value.slice A n c).ownBlock) : Ext W w' :=
  Below.grown e hg e.size (fun k hk => Nat.le_trans hb (h.lt k hk).1)
theorem appI {ops : Array Oper} {rest : List Oper} {o : Oper} {a : Act} {w : World} {Q : Exit → Act → World → Prop} (hgd : o.guard = none) (s x : Operand) (ho : o.op = .call { callee := .builtin .append, args := #[s, x], argTypes := #[24, 24] })
    (base : Nat) (A : Option Addr) (c : Nat) (F : Nat → Int) (n : Nat) (hs : a.eval s = .slice A n c) (hown : OwI w base A c F n) (ad : Addr) (cx : Nat) (hx : a.eval x = .slice (some ad) 1 cx) (hv : w.cell? ad = some (I (F n)))
    (hn : n ≤ 1099511627) (hbase : base ≤ w.heap.size)
    (h : ∀ g cap w', OwI w' base (some ⟨g, 0, none⟩) cap F (n + 1) → w.grownBy w' (Value.slice A n c).ownBlock → ((Value.slice A n c).ownBlock = some g ∨ g = w.heap.size) → g < w'.heap.size →
      wpList Tryz.prog ops Q rest (a.put o.dst (.slice (some ⟨g, 0, none⟩) (n + 1) cap)) w') : wpList Tryz.prog ops Q (o :: rest) a w := by
  obtain ⟨i, hi, hz, h1, hb⟩ := info_parts infoI
  exact wpList_append_lies w hgd s x _ ho base 3 i _ 1 8 Tryz.underlying24 hi hz h1 hb rfl (by omega) _ n _ hs hown ad 1 cx [I (F n)] hx rfl (news1' hv) (by simp [Value.oneCell']) (by omega) (by unfold maxLen; omega) (by omega) hbase w.heap.size rfl h
/-- The row of such a list, which may be longer. -/
theorem OwI.row {w : World} {base c n : Nat} {A : Option Addr} {F : Nat → Int} (h : OwI w base A c F n) (h0 : 0 < n) : ∃ g N f, A = some ⟨g, 0, none⟩ ∧ base ≤ g ∧ n ≤ N ∧ w.rowIs g 3 N f ∧ ∀ i, i < n → f i = I (F i) := by
  have h' := h
  obtain ⟨_, ⟨e, hz⟩ | ⟨g, cap, cur, e, hb, hg, hnc, hcm, hcs, ht⟩⟩ := h'
  · omega
  · injection e with e1 e2 e3
    subst e1; subst e3
    refine ⟨g, cur.size, fun i => cur.getD i (I 0), rfl, hb, by omega, ⟨cur, hg, rfl, fun i hi => ?_⟩, fun i hi => ?_⟩
    · simp [Array.getD_eq_getD_getElem?, Array.getElem?_eq_getElem hi]
    · have hc := World.ownsRow.cellAt h i (by omega)
      rw [ivs_get hi] at hc
      have hk := cell_of_row w g i cur 3 (0, 0) hg
      rw [hc] at hk
      show cur.getD i (I 0) = _
      rw [Array.getD_eq_getD_getElem?, ← hk]; rfl
end Go.Proofs.YtgnngldlgcdnfaaGreatDoor
