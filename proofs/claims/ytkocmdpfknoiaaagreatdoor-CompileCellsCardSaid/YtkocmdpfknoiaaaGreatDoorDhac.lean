/- Diagrams: Same of two that are equal. -/
import Derived.Test.YtkocmdpfknoiaaaGreatDoorDgru
namespace Go.Proofs.YtkocmdpfknoiaaaGreatDoor

/-! ### Dha -/
section
open Go Go.RowKit

theorem two_bd (w : World) (D D' : Dia) (p q : Pl) (t t' : TypeId) :
    Bd ((w.alloc (.cells #[.slice p.AI D.ni p.cI, .slice p.AB D.nb p.cB, .slice p.AO D.no p.cO] t)).alloc (.cells #[.slice q.AI D'.ni q.cI, .slice q.AB D'.nb q.cB, .slice q.AO D'.no q.cO] t')) w.heap.size D p ∧
    Bd ((w.alloc (.cells #[.slice p.AI D.ni p.cI, .slice p.AB D.nb p.cB, .slice p.AO D.no p.cO] t)).alloc (.cells #[.slice q.AI D'.ni q.cI, .slice q.AB D'.nb q.cB, .slice q.AO D'.no q.cO] t')) (w.heap.size + 1) D' q := by
  refine ⟨(Bd.new _ _ _ _).ext (Ext.alloc _ _), ?_⟩
  have := Bd.new (w.alloc (.cells #[.slice p.AI D.ni p.cI, .slice p.AB D.nb p.cB, .slice p.AO D.no p.cO] t)) D' q t'
  rwa [show (w.alloc (.cells #[.slice p.AI D.ni p.cI, .slice p.AB D.nb p.cB, .slice p.AO D.no p.cO] t)).heap.size = w.heap.size + 1 by simp] at this

end

/-! ### Dhc -/
section
open Go Go.RowKit

def addM (D : Dia) (i : Nat) (M : Nat → Bool) : Nat → Nat → Bool
  | 0 => M
  | k + 1 => fun x => if x = sr D i k then true else addM D i M k x
theorem addM_sub {D : Dia} {i : Nat} {M : Nat → Bool} (k x : Nat) (h : M x = true) : addM D i M k x = true := by
  induction k with
  | zero => exact h
  | succ k ih => show (if x = sr D i k then true else addM D i M k x) = true; split; rfl; exact ih
theorem addM_in {D : Dia} {i : Nat} {M : Nat → Bool} {k j : Nat} (h : j < k) : addM D i M k (sr D i j) = true := by
  induction k with
  | zero => omega
  | succ k ih =>
    show (if sr D i j = sr D i k then true else addM D i M k (sr D i j)) = true
    by_cases e : j = k
    · subst e; rw [if_pos rfl]
    · split
      · rfl
      · exact ih (by omega)
theorem addM_cases {D : Dia} {i : Nat} {M : Nat → Bool} {k x : Nat} (h : addM D i M k x = true) : M x = true ∨ ∃ j, j < k ∧ x = sr D i j := by
  induction k with
  | zero => exact .inl h
  | succ k ih =>
    have h' : (if x = sr D i k then true else addM D i M k x) = true := h
    by_cases e : x = sr D i k
    · exact .inr ⟨k, by omega, e⟩
    · rw [if_neg e] at h'
      rcases ih h' with a | ⟨j, hj, e2⟩
      · exact .inl a
      · exact .inr ⟨j, by omega, e2⟩

/-- What needed's loops keep: old memory, the box, the marks. -/
structure NdM (W0 w : World) (g3 gm : Nat) (D : Dia) (p : Pl) (M : Nat → Bool) : Prop where
  ext : Ext W0 w
  old : W0.heap.size ≤ gm
  box : Bd w g3 D p
  ne : gm ≠ g3
  row : w.rowIs gm 4 D.nb (fun i => .bool (M i))
theorem NdM.to {W0 w w' : World} {g3 gm : Nat} {D : Dia} {p : Pl} {M : Nat → Bool} (h : NdM W0 w g3 gm D p M) (e : Ext w w') : NdM W0 w' g3 gm D p M := ⟨h.ext.trans e, h.old, h.box.ext e, h.ne, h.row.ext e⟩
theorem NdM.put {W0 w : World} {g3 gm : Nat} {D : Dia} {p : Pl} {M : Nat → Bool} (h : NdM W0 w g3 gm D p M) (x : Nat) : NdM W0 (w.setCell ⟨gm, x, none⟩ (.bool true)) g3 gm D p (fun i => if i = x then true else M i) := by
  have ne : ∀ i, (w.setCell ⟨gm, x, none⟩ (.bool true)).cell? ⟨g3, i, none⟩ = w.cell? ⟨g3, i, none⟩ := fun i => World.cell?_setCell_other _ _ _ _ (by intro e; injection e with e; exact h.ne e)
  refine ⟨h.ext.set h.old _, h.old, ⟨(ne _).trans h.box.c0, (ne _).trans h.box.c1, (ne _).trans h.box.c2⟩, h.ne, (h.row.set x (.bool true)).congr fun i _ => ?_⟩
  by_cases q : i = x <;> simp [q]
def NdP (W0 : World) (gm nb : Nat) (N : Nx) (st : Nat → Bool) (e : Ending) (w' : World) : Prop :=
  ∃ S, e = .returned (.slice (some ⟨gm, 0, none⟩) nb nb) ∧ w'.rowIs gm 4 nb (fun i => .bool (S i)) ∧ IsR nb N st S ∧ Ext W0 w'
set_option maxRecDepth 100000 in
set_option maxHeartbeats 1000000 in
theorem blocks_is (k : Int) (A : Option Addr) (n c : Nat) (vn ve un ue : Int) (w : World) (h : k ≠ 0) :
    Calls Tryz.prog 97 #[bkv k A n c vn ve un ue] w fun e w' => e = .returned (.slice A n c) ∧ Ext w w' := by
  have h' : (k == 0) = false := by simpa using h
  clear h
  go_enter Tryz.func97, Tryz.ntmps97
  go_wp2
  go_ret
  exact ⟨rfl, (by repeat (first | exact Ext.refl _ | assumption | exact Ext.alloc _ _ | refine Ext.trans ?_ (by assumption) | refine Ext.trans ?_ (Ext.alloc _ _) | refine Ext.trans ?_ (Ext.drewN _ _) | refine Ext.trans ?_ (Ext.drew _)))⟩
set_option maxRecDepth 100000 in
set_option maxHeartbeats 1000000 in
theorem blocks_no (A : Option Addr) (n c : Nat) (vn ve un ue : Int) (w : World) :
    Calls Tryz.prog 97 #[bkv 0 A n c vn ve un ue] w fun e w' => e = .returned (.slice none 0 0) ∧ Ext w w' := by
  go_enter Tryz.func97, Tryz.ntmps97
  go_wp2
  go_ret
  exact ⟨rfl, (by repeat (first | exact Ext.refl _ | assumption | exact Ext.alloc _ _ | refine Ext.trans ?_ (by assumption) | refine Ext.trans ?_ (Ext.alloc _ _) | refine Ext.trans ?_ (Ext.drewN _ _) | refine Ext.trans ?_ (Ext.drew _)))⟩
theorem blocks_at {W0 : World} {D : Dia} {p : Pl} (d : Dm W0 D p) {i : Nat} (hi : i < D.nb) : ∃ A3 c3, (∀ w, Calls Tryz.prog 97 #[bkv (D.B i).k (p.AA i) (D.B i).n (p.cA i) (D.B i).vn (D.B i).ve (D.B i).un (D.B i).ue] w fun e w' => e = .returned (.slice A3 (ns D i) c3) ∧ Ext w w') ∧
    ∀ w', Ext W0 w' → Ri w' A3 (ns D i) (D.B i).a := by
  unfold ns
  by_cases h : (D.B i).k = 0
  · rw [if_pos h, h]; exact ⟨none, 0, fun w => blocks_no _ _ _ _ _ _ _ w, fun _ _ => Ri.none_⟩
  · rw [if_neg h]; exact ⟨_, _, fun w => blocks_is _ _ _ _ _ _ _ _ w h, fun w' e => ((d.ext e).args i hi).1⟩
end

end Go.Proofs.YtkocmdpfknoiaaaGreatDoor
