/- Lists of intervals that are appended to. -/
import Derived.Test.YtgnngldlgcdnfaaDoorRga
import Derived.Deep.AppendLies
namespace Go.Proofs.YtgnngldlgcdnfaaDoor
open Go Go.RowKit

def nc6 (r : RI) : List Value := [.bool r.lo.neg, .slice r.lo.A r.lo.n r.lo.c, I r.lo.den, .bool r.hi.neg, .slice r.hi.A r.hi.n r.hi.c, I r.hi.den]
def ivs6 (R : Nat → RI) : Nat → List Value
  | 0 => []
  | i + 1 => ivs6 R i ++ nc6 (R i)
theorem ivs6_len (R : Nat → RI) (i : Nat) : (ivs6 R i).length = i * 6 := by
  induction i with
  | zero => rfl
  | succ i ih => show (ivs6 R i ++ nc6 (R i)).length = _; rw [List.length_append, ih]; show _ + 6 = _; omega
theorem ivs6_get {R : Nat → RI} {n i j : Nat} (hi : i < n) (hj : j < 6) : (ivs6 R n)[i * 6 + j]? = (nc6 (R i))[j]? := by
  induction n with
  | zero => omega
  | succ n ih =>
    show (ivs6 R n ++ nc6 (R n))[i * 6 + j]? = _
    by_cases e : i = n
    · subst e
      rw [List.getElem?_append_right (by rw [ivs6_len]; omega), ivs6_len]
      congr 1; omega
    · rw [List.getElem?_append_left (by rw [ivs6_len]; omega)]; exact ih (by omega)
theorem ivs6_congr {R R' : Nat → RI} {n : Nat} (h : ∀ i, i < n → R i = R' i) : ivs6 R n = ivs6 R' n := by
  induction n with
  | zero => rfl
  | succ n ih => show ivs6 R n ++ nc6 (R n) = ivs6 R' n ++ nc6 (R' n); rw [ih fun i hi => h i (by omega), h n (by omega)]
def OwV (w : World) (base : Nat) (A : Option Addr) (c : Nat) (R : Nat → RI) (n : Nat) : Prop := w.ownsRow base 47 6 (.slice A n c) n (ivs6 R n)
theorem OwV.nil (w : World) (base : Nat) (R : Nat → RI) : OwV w base none 0 R 0 := World.ownsRow_nil _ _ _ _
theorem OwV.lt {w : World} {base c n : Nat} {A : Option Addr} {R : Nat → RI} (h : OwV w base A c R n) : ∀ k, (Value.slice A n c).ownBlock = some k → base ≤ k ∧ k < w.heap.size := World.ownsRow.lt h
theorem OwV.ext {w w' : World} {base c n : Nat} {A : Option Addr} {R : Nat → RI} (h : OwV w base A c R n) (e : Ext w w') : OwV w' base A c R n :=
  World.ownsRow.kept h (ext_gr e) (by cases (Value.slice A n c).ownBlock <;> simp)
theorem OwV.congr {w : World} {base c n : Nat} {A : Option Addr} {R R' : Nat → RI} (h : OwV w base A c R n) (e : ∀ i, i < n → R i = R' i) : OwV w base A c R' n := by
  unfold OwV at h ⊢; rw [← ivs6_congr e]; exact h
theorem OwV.rn {w : World} {base c n : Nat} {A : Option Addr} {R : Nat → RI} (h : OwV w base A c R n) : RnI w A n R := fun h0 => by
  have h' := h
  obtain ⟨_, ⟨e, hz⟩ | ⟨g, cap, cur, e, _⟩⟩ := h'
  · omega
  · injection e with e1 e2 e3
    subst e1
    refine ⟨g, 0, rfl, (World.ownsRow.lt h g rfl).2, fun i hi => ?_⟩
    rw [Nat.zero_add]
    have hc : ∀ j, j < 6 → w.cell? ⟨g, i * 6 + j, none⟩ = (nc6 (R i))[j]? := fun j hj => by
      rw [World.ownsRow.cellAt h (i * 6 + j) (by omega)]; exact ivs6_get hi hj
    exact ⟨hc 0 (by omega), hc 1 (by omega), hc 2 (by omega), hc 3 (by omega), hc 4 (by omega), hc 5 (by omega)⟩
/-- A list of good intervals that is being built: its row is newer than W. -/
structure WdI (W w : World) (A : Option Addr) (c : Nat) (R : Nat → RI) (V : Nat → IV) (n : Nat) : Prop where
  own : OwV w W.heap.size A c R n
  ext : Ext W w
  el : ∀ i, i < n → CnI w (R i) (V i)
  far : ∀ i, i < n → ∀ g, (Value.slice A n c).ownBlock = some g → FarI g (R i) (V i)
theorem WdI.nil (W : World) (R : Nat → RI) (V : Nat → IV) : WdI W W none 0 R V 0 := ⟨OwV.nil _ _ _, Ext.refl _, fun i hi => absurd hi (by omega), fun i hi => absurd hi (by omega)⟩
theorem WdI.to {W w w' : World} {A : Option Addr} {c n : Nat} {R : Nat → RI} {V : Nat → IV} (h : WdI W w A c R V n) (e : Ext w w') : WdI W w' A c R V n := ⟨h.own.ext e, h.ext.trans e, fun i hi => (h.el i hi).ext e, h.far⟩
theorem WdI.ln {W w : World} {A : Option Addr} {c n : Nat} {R : Nat → RI} {V : Nat → IV} (h : WdI W w A c R V n) : LnI w A n R V := ⟨h.own.rn, h.el⟩
theorem WdI.congr {W w : World} {A : Option Addr} {c n : Nat} {R : Nat → RI} {V V' : Nat → IV} (h : WdI W w A c R V n) (e : ∀ i, i < n → V i = V' i) : WdI W w A c R V' n :=
  ⟨h.own, h.ext, fun i hi => by rw [← e i hi]; exact h.el i hi, fun i hi => by rw [← e i hi]; exact h.far i hi⟩
theorem WdI.app {W w wa w' : World} {A : Option Addr} {c n g cap : Nat} {R : Nat → RI} {V : Nat → IV} {r : RI} {x : IV} (h : WdI W w A c R V n) (e : Ext w wa) (cn : CnI wa r x) (nw : NwI w.heap.size r x)
    (hown : w'.ownsRow W.heap.size 47 6 (.slice (some ⟨g, 0, none⟩) (n + 1) cap) (n + 1) (ivs6 R n ++ nc6 r)) (hgrow : wa.grownBy w' (Value.slice A n c).ownBlock) (hat : (Value.slice A n c).ownBlock = some g ∨ g = wa.heap.size) :
    WdI W w' (some ⟨g, 0, none⟩) cap (putI R n r) (putI V n x) (n + 1) := by
  have hk : ∀ {r : RI} {x : IV}, CnI wa r x → (∀ g, (Value.slice A n c).ownBlock = some g → FarI g r x) → CnI w' r x := fun {r x} hc hf => by
    cases hb : (Value.slice A n c).ownBlock with
    | none => rw [hb] at hgrow; exact hc.ext (ext_fr_none (Ext.refl _) hgrow)
    | some k => rw [hb] at hgrow; exact hc.fr hgrow (hf k hb)
  refine ⟨?_, Below.grown (h.ext.trans e) hgrow (h.ext.trans e).size (fun k hk => (h.own.lt k hk).1), fun i hi => ?_, fun i hi k hk' => ?_⟩
  · show w'.ownsRow _ _ _ _ _ (ivs6 (putI R n r) n ++ nc6 (putI R n r n))
    have e1 : ivs6 (putI R n r) n = ivs6 R n := ivs6_congr fun i hi => by unfold putI; rw [if_neg (by omega)]
    have e2 : putI R n r n = r := by unfold putI; rw [if_pos rfl]
    rw [e1, e2]; exact hown
  · unfold putI
    by_cases q : i = n
    · rw [if_pos q, if_pos q]; exact hk cn fun k hb => nw.far (h.own.lt k hb).2
    · rw [if_neg q, if_neg q]; exact hk ((h.el i (by omega)).ext e) fun k hb => h.far i (by omega) k hb
  · have hgk : g = k := by injection hk'
    subst hgk
    unfold putI
    by_cases q : i = n
    · rw [if_pos q, if_pos q]
      rcases hat with hb | hb
      · exact nw.far (h.own.lt g hb).2
      · exact cn.farNew (by omega)
    · rw [if_neg q, if_neg q]
      rcases hat with hb | hb
      · exact h.far i (by omega) g hb
      · exact ((h.el i (by omega)).ext e).farNew (by omega)
end Go.Proofs.YtgnngldlgcdnfaaDoor
