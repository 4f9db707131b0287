/- Diagrams: how they lie in memory; the small checks by the code. -/
import Derived.Test.YtgajibdmihdkcaaDoorDgb
import Derived.Test.YtgajibdmihdkcaaDoorExt
import Derived.Test.YtgajibdmihdkcaaDoorRows
import Derived.Deep.AppendLies
import Derived.Deep.RegionHeld3
import Derived.Deep.RegionWith
import Derived.Deep.DeepCutAuto
import Derived.Laws.OwnMore
import Derived.Laws.MakeOwn
import Derived.OwnWalk
namespace Go.Proofs.YtgajibdmihdkcaaDoor
open Go.RowKit

def errv (k : Int) : Value := if k = 0 then .nilIface else .iface 46 (I k)
theorem errv_z : errv 0 = .nilIface := rfl
theorem errv_n {k : Int} (h : k ≠ 0) : errv k = .iface 46 (I k) := if_neg h

/-- The first n numbers behind A are those of f. -/
def Ri (w : World) (A : Option Addr) (n : Nat) (f : Nat → Int) : Prop :=
  0 < n → ∃ b o, A = some ⟨b, o, none⟩ ∧ b < w.heap.size ∧ ∀ i, i < n → w.cell? ⟨b, o + i, none⟩ = some (I (f i))
theorem Ri.none_ {w : World} {A : Option Addr} {f : Nat → Int} : Ri w A 0 f := fun h => absurd h (by omega)
theorem Ri.ext {w w' : World} {A : Option Addr} {n : Nat} {f : Nat → Int} (h : Ri w A n f) (e : Ext w w') : Ri w' A n f := fun hn => by
  obtain ⟨b, o, rfl, hb, hc⟩ := h hn
  exact ⟨b, o, rfl, Nat.lt_of_lt_of_le hb e.size, fun i hi => (e.old.1 _ _ hb).trans (hc i hi)⟩
theorem Ri.congr {w : World} {A : Option Addr} {n : Nat} {f g : Nat → Int} (h : Ri w A n f) (e : ∀ i, i < n → f i = g i) : Ri w A n g := fun hn => by
  obtain ⟨b, o, rfl, hb, hc⟩ := h hn
  exact ⟨b, o, rfl, hb, fun i hi => by rw [hc i hi, e i hi]⟩
theorem Ri.at_ {w : World} {b o n k : Nat} {f : Nat → Int} (h : Ri w (some ⟨b, o, none⟩) n f) (hk : k < n) : b < w.heap.size ∧ w.cell? ⟨b, o + k, none⟩ = some (I (f k)) := by
  obtain ⟨b, o, e, hb, hc⟩ := h (by omega)
  cases e; exact ⟨hb, hc k hk⟩

/-- Where the parts of a diagram lie. -/
structure Pl where
  AI : Option Addr
  cI : Nat
  AB : Option Addr
  cB : Nat
  AO : Option Addr
  cO : Nat
  AA : Nat → Option Addr
  cA : Nat → Nat
abbrev bkv (k : Int) (A : Option Addr) (n c : Nat) (vn ve un ue : Int) : Value := .agg #[I k, .slice A n c, I vn, I ve, I un, I ue]
abbrev dgv (D : Dia) (p : Pl) : Value := .agg #[.slice p.AI D.ni p.cI, .slice p.AB D.nb p.cB, .slice p.AO D.no p.cO]
structure Dm (w : World) (D : Dia) (p : Pl) : Prop where
  ports : 0 < D.ni → ∃ b o, p.AI = some ⟨b, o, none⟩ ∧ b < w.heap.size ∧ ∀ i, i < D.ni → w.cell? ⟨b, o + i * 3, none⟩ = some (I (D.P i).lo) ∧ w.cell? ⟨b, o + i * 3 + 1, none⟩ = some (I (D.P i).hi) ∧ w.cell? ⟨b, o + i * 3 + 2, none⟩ = some (I (D.P i).fr)
  blocks : 0 < D.nb → ∃ b o, p.AB = some ⟨b, o, none⟩ ∧ b < w.heap.size ∧ ∀ i, i < D.nb → w.cell? ⟨b, o + i * 6, none⟩ = some (I (D.B i).k) ∧ w.cell? ⟨b, o + i * 6 + 1, none⟩ = some (.slice (p.AA i) (D.B i).n (p.cA i)) ∧
    w.cell? ⟨b, o + i * 6 + 2, none⟩ = some (I (D.B i).vn) ∧ w.cell? ⟨b, o + i * 6 + 3, none⟩ = some (I (D.B i).ve) ∧ w.cell? ⟨b, o + i * 6 + 4, none⟩ = some (I (D.B i).un) ∧ w.cell? ⟨b, o + i * 6 + 5, none⟩ = some (I (D.B i).ue)
  args : ∀ i, i < D.nb → Ri w (p.AA i) (D.B i).n (D.B i).a ∧ (D.B i).n ≤ maxLen
  outs : Ri w p.AO D.no D.O
  li : D.ni ≤ maxLen
  lb : D.nb ≤ maxLen
  lo : D.no ≤ maxLen
  nA : ∀ i, i < D.nb → p.AA i = none → p.cA i = 0
  nO : p.AO = none → p.cO = 0
  nI : p.AI = none → p.cI = 0
theorem Dm.ext {w w' : World} {D : Dia} {p : Pl} (h : Dm w D p) (e : Ext w w') : Dm w' D p where
  ports := fun hn => by
    obtain ⟨b, o, h1, hb, hc⟩ := h.ports hn
    exact ⟨b, o, h1, Nat.lt_of_lt_of_le hb e.size, fun i hi => by
      obtain ⟨c0, c1, c2⟩ := hc i hi
      exact ⟨(e.old.1 _ _ hb).trans c0, (e.old.1 _ _ hb).trans c1, (e.old.1 _ _ hb).trans c2⟩⟩
  blocks := fun hn => by
    obtain ⟨b, o, h1, hb, hc⟩ := h.blocks hn
    exact ⟨b, o, h1, Nat.lt_of_lt_of_le hb e.size, fun i hi => by
      obtain ⟨c0, c1, c2, c3, c4, c5⟩ := hc i hi
      exact ⟨(e.old.1 _ _ hb).trans c0, (e.old.1 _ _ hb).trans c1, (e.old.1 _ _ hb).trans c2, (e.old.1 _ _ hb).trans c3, (e.old.1 _ _ hb).trans c4, (e.old.1 _ _ hb).trans c5⟩⟩
  args := fun i hi => ⟨(h.args i hi).1.ext e, (h.args i hi).2⟩
  outs := h.outs.ext e
  li := h.li
  lb := h.lb
  lo := h.lo
  nA := h.nA
  nO := h.nO
  nI := h.nI

set_option maxRecDepth 100000 in
set_option maxHeartbeats 1000000 in
theorem isPort_any (p : Prt) (w : World) : Calls Tryd.prog 33 #[.agg #[I p.lo, I p.hi, I p.fr]] w fun e w' => e = .returned (.bool (prtE p == 0)) ∧ Ext w w' := by
  obtain ⟨lo, hi, fr⟩ := p
  show Calls _ _ #[.agg #[I lo, I hi, I fr]] _ _
  by_cases h1 : -2147483648 ≤ lo
  · by_cases h2 : lo ≤ hi
    · by_cases h3 : hi < 2147483648
      · by_cases h4 : 0 ≤ fr
        · by_cases h5 : fr ≤ 30
          all_goals
            have H := Lib.hid (show (prtE ⟨lo, hi, fr⟩ == 0) = decide (fr ≤ 30) by simp [prtE, h1, h2, h3, h4, h5])
            rw [H.out]
            go_enter Tryd.func33, Tryd.ntmps33
            go_wp2
            go_ret
            exact ⟨by simp [h5], (by repeat (first | exact Ext.refl _ | assumption | exact Ext.alloc _ _ | refine Ext.trans ?_ (by assumption) | refine Ext.trans ?_ (Ext.alloc _ _) | refine Ext.trans ?_ (Ext.drewN _ _) | refine Ext.trans ?_ (Ext.drew _)))⟩
        · have H := Lib.hid (show (prtE ⟨lo, hi, fr⟩ == 0) = false by simp [prtE, h4])
          rw [H.out]
          go_enter Tryd.func33, Tryd.ntmps33
          go_wp2
          go_ret
          exact ⟨rfl, (by repeat (first | exact Ext.refl _ | assumption | exact Ext.alloc _ _ | refine Ext.trans ?_ (by assumption) | refine Ext.trans ?_ (Ext.alloc _ _) | refine Ext.trans ?_ (Ext.drewN _ _) | refine Ext.trans ?_ (Ext.drew _)))⟩
      · have H := Lib.hid (show (prtE ⟨lo, hi, fr⟩ == 0) = false by simp [prtE, h3])
        rw [H.out]
        go_enter Tryd.func33, Tryd.ntmps33
        go_wp2
        go_ret
        exact ⟨rfl, (by repeat (first | exact Ext.refl _ | assumption | exact Ext.alloc _ _ | refine Ext.trans ?_ (by assumption) | refine Ext.trans ?_ (Ext.alloc _ _) | refine Ext.trans ?_ (Ext.drewN _ _) | refine Ext.trans ?_ (Ext.drew _)))⟩
    · have H := Lib.hid (show (prtE ⟨lo, hi, fr⟩ == 0) = false by simp [prtE, h2])
      rw [H.out]
      go_enter Tryd.func33, Tryd.ntmps33
      go_wp2
      go_ret
      exact ⟨rfl, (by repeat (first | exact Ext.refl _ | assumption | exact Ext.alloc _ _ | refine Ext.trans ?_ (by assumption) | refine Ext.trans ?_ (Ext.alloc _ _) | refine Ext.trans ?_ (Ext.drewN _ _) | refine Ext.trans ?_ (Ext.drew _)))⟩
  · have H := Lib.hid (show (prtE ⟨lo, hi, fr⟩ == 0) = false by simp [prtE, h1])
    rw [H.out]
    go_enter Tryd.func33, Tryd.ntmps33
    go_wp2
    go_ret
    exact ⟨rfl, (by repeat (first | exact Ext.refl _ | assumption | exact Ext.alloc _ _ | refine Ext.trans ?_ (by assumption) | refine Ext.trans ?_ (Ext.alloc _ _) | refine Ext.trans ?_ (Ext.drewN _ _) | refine Ext.trans ?_ (Ext.drew _)))⟩

set_option maxHeartbeats 400000 in
theorem isIndex_any (i c : Int) (w : World) : Calls Tryd.prog 38 #[I i, I c] w fun e w' => e = .returned (.bool (inE c i == 0)) ∧ Ext w w' := by
  by_cases h1 : 0 ≤ i
  · by_cases h2 : i < c
    all_goals
      have H := Lib.hid (show (inE c i == 0) = decide (i < c) by simp [inE, h1, h2])
      rw [H.out]
      go_enter Tryd.func38, Tryd.ntmps38
      go_wp2
      go_ret
      exact ⟨by simp [h2], Ext.refl _⟩
  · have H := Lib.hid (show (inE c i == 0) = false by simp [inE, h1])
    rw [H.out]
    go_enter Tryd.func38, Tryd.ntmps38
    go_wp2
    go_ret
    exact ⟨rfl, Ext.refl _⟩

set_option maxRecDepth 100000 in
set_option maxHeartbeats 1000000 in
theorem areIndices_any {w : World} {A : Option Addr} {n c : Nat} {f : Nat → Int} (k : Int) (ra : Ri w A n f) (hn : n ≤ maxLen) :
    Calls Tryd.prog 35 #[.slice A n c, I k] w fun e w' => e = .returned (.bool (fstE n (fun i => inE k (f i)) == 0)) ∧ Ext w w' := by
  unfold maxLen at hn
  have HR := Lib.hid ra; clear ra
  obtain ⟨r, hr⟩ : ∃ r, (fstE n (fun i => inE k (f i)) == 0) = r := ⟨_, rfl⟩
  have HQ := Lib.hid hr
  rw [hr]; clear hr
  go_enter Tryd.func35, Tryd.ntmps35
  go_wp2_with fail
  go_loopw [9] (fun s wr => ∃ j : Nat, j ≤ n ∧ s = I j ∧ Ext w wr ∧ Hid (∀ i, i < j → inE k (f i) = 0)) (fun s _ => n - (intOf s).toNat)
  case atStart => exact ⟨0, Nat.zero_le _, rfl, Ext.refl _, fun i hi => absurd hi (by omega)⟩
  case round =>
    obtain ⟨j, hj, rfl, hb, HG⟩ := hrel
    by_cases hlt : j < n
    · obtain ⟨b, o, rfl, hba, ca⟩ := HR.out (by omega)
      have xa := (hb.old.1 _ _ hba).trans (ca j hlt)
      clear ca
      have HI := Lib.hid (isIndex_any (f j) k)
      by_cases q : inE k (f j) = 0
      · have HG2 : Hid (∀ i, i < j + 1 → inE k (f i) = 0) := fun i hi => by
          by_cases h : i = j
          · subst h; exact q
          · exact HG.out i (by omega)
        have q2 : (inE k (f j) == 0) = true := by simp [q]
        rw [q2] at HI
        clear q q2
        go_wp2_with (go_at_call 38; refine (HI.out _).mono ?_; rintro e w1 ⟨rfl, hb1⟩; replace hb := Ext.trans hb hb1; clear hb1)
        go_roundw
        case rel => exact ⟨j + 1, by omega, by go_num, hb, HG2⟩
        case measure => simp [intOf]; omega
      · have hq : r = false := by
          rw [← HQ.out, fstE_hit (f := fun i => inE k (f i)) HG.out hlt q]; simp [q]
        have q2 : (inE k (f j) == 0) = false := by simp [q]
        rw [q2] at HI
        subst hq
        clear q q2
        go_wp2_with (go_at_call 38; refine (HI.out _).mono ?_; rintro e w1 ⟨rfl, hb1⟩; replace hb := Ext.trans hb hb1; clear hb1)
        go_ret
        exact ⟨rfl, hb⟩
    · obtain rfl : j = n := by omega
      have hq : r = true := by rw [← HQ.out, fstE_none HG.out]; rfl
      subst hq
      go_wp2_with fail
      go_ret
      exact ⟨rfl, hb⟩

set_option maxHeartbeats 400000 in
theorem arguments_any (k : Int) (w : World) : Calls Tryd.prog 54 #[I k] w fun e w' => e = .returned (I (arity k)) ∧ Ext w w' := by
  by_cases h1 : k = 1
  · subst h1
    go_enter Tryd.func54, Tryd.ntmps54
    go_wp2
    go_ret
    exact ⟨rfl, Ext.refl _⟩
  · by_cases h3 : k = 3 ∨ k = 4 ∨ k = 7 ∨ k = 8 ∨ k = 9
    · rcases h3 with rfl | rfl | rfl | rfl | rfl
      all_goals
        go_enter Tryd.func54, Tryd.ntmps54
        go_wp2
        go_ret
        exact ⟨rfl, Ext.refl _⟩
    · have H := Lib.hid (show arity k = 1 by unfold arity; rw [if_neg h1, if_neg h3])
      rw [H.out]
      have g1 : (k == 1) = false := by simpa using h1
      have g3 : (k == 3) = false := by simp; omega
      have g4 : (k == 4) = false := by simp; omega
      have g7 : (k == 7) = false := by simp; omega
      have g8 : (k == 8) = false := by simp; omega
      have g9 : (k == 9) = false := by simp; omega
      clear h1 h3
      go_enter Tryd.func54, Tryd.ntmps54
      go_wp2
      go_ret
      exact ⟨rfl, Ext.refl _⟩
set_option maxHeartbeats 400000 in
theorem usesValue_any (k : Int) (w : World) : Calls Tryd.prog 56 #[I k] w fun e w' => e = .returned (.bool (usesV k)) ∧ Ext w w' := by
  by_cases h3 : k = 1 ∨ k = 2 ∨ k = 6 ∨ k = 11
  · rcases h3 with rfl | rfl | rfl | rfl
    all_goals
      go_enter Tryd.func56, Tryd.ntmps56
      go_wp2
      go_ret
      exact ⟨rfl, Ext.refl _⟩
  · have H := Lib.hid (show usesV k = false by unfold usesV; simp; omega)
    rw [H.out]
    have g1 : (k == 1) = false := by simp; omega
    have g2 : (k == 2) = false := by simp; omega
    have g6 : (k == 6) = false := by simp; omega
    have g11 : (k == 11) = false := by simp; omega
    clear h3
    go_enter Tryd.func56, Tryd.ntmps56
    go_wp2
    go_ret
    exact ⟨rfl, Ext.refl _⟩
set_option maxHeartbeats 400000 in
theorem usesUpper_any (k : Int) (w : World) : Calls Tryd.prog 57 #[I k] w fun e w' => e = .returned (.bool (k == 11)) ∧ Ext w w' := by
  go_enter Tryd.func57, Tryd.ntmps57
  go_wp2
  go_ret
  exact ⟨rfl, Ext.refl _⟩
end Go.Proofs.YtgajibdmihdkcaaDoor
