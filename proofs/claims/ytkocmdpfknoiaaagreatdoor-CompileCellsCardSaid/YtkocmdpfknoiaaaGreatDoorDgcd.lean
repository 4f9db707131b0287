/- Diagrams: how they lie in memory; the small checks by the code. -/
import Derived.Test.YtkocmdpfknoiaaaGreatDoorDgab
import Derived.Test.YtkocmdpfknoiaaaGreatDoorRib
import Derived.Test.YtkocmdpfknoiaaaGreatDoorExt
import Derived.Test.YtkocmdpfknoiaaaGreatDoorRows
import Derived.Deep.AppendLies
import Derived.Deep.RegionHeld3
import Derived.Deep.RegionWith
import Derived.Deep.DeepCutAuto
import Derived.Laws.OwnMore
import Derived.Laws.MakeOwn
import Derived.OwnWalk
import Derived.Test.YtkocmdpfknoiaaaGreatDoorMdz
import Derived.ChangeKeysEq
namespace Go.Proofs.YtkocmdpfknoiaaaGreatDoor

/-! ### Dgc -/
section
open Go.RowKit



/-- Where the parts of a diagram lie. -/
structure Pl where
  AI : Option Addr
  cI : Nat
  AB : Option Addr
  cB : Nat
  AO : Option Addr
  cO : Nat
  AA : Nat → Option Addr
  cA : Nat → Nat
abbrev bkv (k : Int) (A : Option Addr) (n c : Nat) (vn ve un ue : Int) : Value := .agg #[I k, .slice A n c, I vn, I ve, I un, I ue]
abbrev dgv (D : Dia) (p : Pl) : Value := .agg #[.slice p.AI D.ni p.cI, .slice p.AB D.nb p.cB, .slice p.AO D.no p.cO]
structure Dm (w : World) (D : Dia) (p : Pl) : Prop where
  ports : 0 < D.ni → ∃ b o, p.AI = some ⟨b, o, none⟩ ∧ b < w.heap.size ∧ ∀ i, i < D.ni → w.cell? ⟨b, o + i * 3, none⟩ = some (I (D.P i).lo) ∧ w.cell? ⟨b, o + i * 3 + 1, none⟩ = some (I (D.P i).hi) ∧ w.cell? ⟨b, o + i * 3 + 2, none⟩ = some (I (D.P i).fr)
  blocks : 0 < D.nb → ∃ b o, p.AB = some ⟨b, o, none⟩ ∧ b < w.heap.size ∧ ∀ i, i < D.nb → w.cell? ⟨b, o + i * 6, none⟩ = some (I (D.B i).k) ∧ w.cell? ⟨b, o + i * 6 + 1, none⟩ = some (.slice (p.AA i) (D.B i).n (p.cA i)) ∧
    w.cell? ⟨b, o + i * 6 + 2, none⟩ = some (I (D.B i).vn) ∧ w.cell? ⟨b, o + i * 6 + 3, none⟩ = some (I (D.B i).ve) ∧ w.cell? ⟨b, o + i * 6 + 4, none⟩ = some (I (D.B i).un) ∧ w.cell? ⟨b, o + i * 6 + 5, none⟩ = some (I (D.B i).ue)
  args : ∀ i, i < D.nb → Ri w (p.AA i) (D.B i).n (D.B i).a ∧ (D.B i).n ≤ maxLen
  outs : Ri w p.AO D.no D.O
  li : D.ni ≤ maxLen
  lb : D.nb ≤ maxLen
  lo : D.no ≤ maxLen
  nA : ∀ i, i < D.nb → p.AA i = none → p.cA i = 0
  nO : p.AO = none → p.cO = 0
  nI : p.AI = none → p.cI = 0
theorem Dm.ext {w w' : World} {D : Dia} {p : Pl} (h : Dm w D p) (e : Ext w w') : Dm w' D p where
  ports := fun hn => by
    obtain ⟨b, o, h1, hb, hc⟩ := h.ports hn
    exact ⟨b, o, h1, Nat.lt_of_lt_of_le hb e.size, fun i hi => by
      obtain ⟨c0, c1, c2⟩ := hc i hi
      exact ⟨(e.old.1 _ _ hb).trans c0, (e.old.1 _ _ hb).trans c1, (e.old.1 _ _ hb).trans c2⟩⟩
  blocks := fun hn => by
    obtain ⟨b, o, h1, hb, hc⟩ := h.blocks hn
    exact ⟨b, o, h1, Nat.lt_of_lt_of_le hb e.size, fun i hi => by
      obtain ⟨c0, c1, c2, c3, c4, c5⟩ := hc i hi
      exact ⟨(e.old.1 _ _ hb).trans c0, (e.old.1 _ _ hb).trans c1, (e.old.1 _ _ hb).trans c2, (e.old.1 _ _ hb).trans c3, (e.old.1 _ _ hb).trans c4, (e.old.1 _ _ hb).trans c5⟩⟩
  args := fun i hi => ⟨(h.args i hi).1.ext e, (h.args i hi).2⟩
  outs := h.outs.ext e
  li := h.li
  lb := h.lb
  lo := h.lo
  nA := h.nA
  nO := h.nO
  nI := h.nI

set_option maxRecDepth 100000 in
set_option maxHeartbeats 1000000 in
theorem isPort_any (p : Prt) (w : World) : Calls Tryz.prog 51 #[.agg #[I p.lo, I p.hi, I p.fr]] w fun e w' => e = .returned (.bool (prtE p == 0)) ∧ Ext w w' := by
  obtain ⟨lo, hi, fr⟩ := p
  show Calls _ _ #[.agg #[I lo, I hi, I fr]] _ _
  by_cases h1 : -2147483648 ≤ lo
  · by_cases h2 : lo ≤ hi
    · by_cases h3 : hi < 2147483648
      · by_cases h4 : 0 ≤ fr
        · by_cases h5 : fr ≤ 30
          all_goals
            have H := Lib.hid (show (prtE ⟨lo, hi, fr⟩ == 0) = decide (fr ≤ 30) by simp [prtE, h1, h2, h3, h4, h5])
            rw [H.out]
            go_enter Tryz.func51, Tryz.ntmps51
            go_wp2
            go_ret
            exact ⟨by simp [h5], (by repeat (first | exact Ext.refl _ | assumption | exact Ext.alloc _ _ | refine Ext.trans ?_ (by assumption) | refine Ext.trans ?_ (Ext.alloc _ _) | refine Ext.trans ?_ (Ext.drewN _ _) | refine Ext.trans ?_ (Ext.drew _)))⟩
        · have H := Lib.hid (show (prtE ⟨lo, hi, fr⟩ == 0) = false by simp [prtE, h4])
          rw [H.out]
          go_enter Tryz.func51, Tryz.ntmps51
          go_wp2
          go_ret
          exact ⟨rfl, (by repeat (first | exact Ext.refl _ | assumption | exact Ext.alloc _ _ | refine Ext.trans ?_ (by assumption) | refine Ext.trans ?_ (Ext.alloc _ _) | refine Ext.trans ?_ (Ext.drewN _ _) | refine Ext.trans ?_ (Ext.drew _)))⟩
      · have H := Lib.hid (show (prtE ⟨lo, hi, fr⟩ == 0) = false by simp [prtE, h3])
        rw [H.out]
        go_enter Tryz.func51, Tryz.ntmps51
        go_wp2
        go_ret
        exact ⟨rfl, (by repeat (first | exact Ext.refl _ | assumption | exact Ext.alloc _ _ | refine Ext.trans ?_ (by assumption) | refine Ext.trans ?_ (Ext.alloc _ _) | refine Ext.trans ?_ (Ext.drewN _ _) | refine Ext.trans ?_ (Ext.drew _)))⟩
    · have H := Lib.hid (show (prtE ⟨lo, hi, fr⟩ == 0) = false by simp [prtE, h2])
      rw [H.out]
      go_enter Tryz.func51, Tryz.ntmps51
      go_wp2
      go_ret
      exact ⟨rfl, (by repeat (first | exact Ext.refl _ | assumption | exact Ext.alloc _ _ | refine Ext.trans ?_ (by assumption) | refine Ext.trans ?_ (Ext.alloc _ _) | refine Ext.trans ?_ (Ext.drewN _ _) | refine Ext.trans ?_ (Ext.drew _)))⟩
  · have H := Lib.hid (show (prtE ⟨lo, hi, fr⟩ == 0) = false by simp [prtE, h1])
    rw [H.out]
    go_enter Tryz.func51, Tryz.ntmps51
    go_wp2
    go_ret
    exact ⟨rfl, (by repeat (first | exact Ext.refl _ | assumption | exact Ext.alloc _ _ | refine Ext.trans ?_ (by assumption) | refine Ext.trans ?_ (Ext.alloc _ _) | refine Ext.trans ?_ (Ext.drewN _ _) | refine Ext.trans ?_ (Ext.drew _)))⟩

set_option maxHeartbeats 400000 in
theorem isIndex_any (i c : Int) (w : World) : Calls Tryz.prog 107 #[I i, I c] w fun e w' => e = .returned (.bool (inE c i == 0)) ∧ Ext w w' := by
  by_cases h1 : 0 ≤ i
  · by_cases h2 : i < c
    all_goals
      have H := Lib.hid (show (inE c i == 0) = decide (i < c) by simp [inE, h1, h2])
      rw [H.out]
      go_enter Tryz.func107, Tryz.ntmps107
      go_wp2
      go_ret
      exact ⟨by simp [h2], Ext.refl _⟩
  · have H := Lib.hid (show (inE c i == 0) = false by simp [inE, h1])
    rw [H.out]
    go_enter Tryz.func107, Tryz.ntmps107
    go_wp2
    go_ret
    exact ⟨rfl, Ext.refl _⟩

set_option maxRecDepth 100000 in
set_option maxHeartbeats 1000000 in
theorem areIndices_any {w : World} {A : Option Addr} {n c : Nat} {f : Nat → Int} (k : Int) (ra : Ri w A n f) (hn : n ≤ maxLen) :
    Calls Tryz.prog 53 #[.slice A n c, I k] w fun e w' => e = .returned (.bool (fstE n (fun i => inE k (f i)) == 0)) ∧ Ext w w' := by
  unfold maxLen at hn
  have HR := Lib.hid ra; clear ra
  obtain ⟨r, hr⟩ : ∃ r, (fstE n (fun i => inE k (f i)) == 0) = r := ⟨_, rfl⟩
  have HQ := Lib.hid hr
  rw [hr]; clear hr
  go_enter Tryz.func53, Tryz.ntmps53
  go_wp2_with fail
  go_loopw [9] (fun s wr => ∃ j : Nat, j ≤ n ∧ s = I j ∧ Ext w wr ∧ Hid (∀ i, i < j → inE k (f i) = 0)) (fun s _ => n - (intOf s).toNat)
  case atStart => exact ⟨0, Nat.zero_le _, rfl, Ext.refl _, fun i hi => absurd hi (by omega)⟩
  case round =>
    obtain ⟨j, hj, rfl, hb, HG⟩ := hrel
    by_cases hlt : j < n
    · obtain ⟨b, o, rfl, hba, ca⟩ := HR.out (by omega)
      have xa := (hb.old.1 _ _ hba).trans (ca j hlt)
      clear ca
      have HI := Lib.hid (isIndex_any (f j) k)
      by_cases q : inE k (f j) = 0
      · have HG2 : Hid (∀ i, i < j + 1 → inE k (f i) = 0) := fun i hi => by
          by_cases h : i = j
          · subst h; exact q
          · exact HG.out i (by omega)
        have q2 : (inE k (f j) == 0) = true := by simp [q]
        rw [q2] at HI
        clear q q2
        go_wp2_with (go_at_call 107; refine (HI.out _).mono ?_; rintro e w1 ⟨rfl, hb1⟩; replace hb := Ext.trans hb hb1; clear hb1)
        go_roundw
        case rel => exact ⟨j + 1, by omega, by go_num, hb, HG2⟩
        case measure => simp [intOf]; omega
      · have hq : r = false := by
          rw [← HQ.out, fstE_hit (f := fun i => inE k (f i)) HG.out hlt q]; simp [q]
        have q2 : (inE k (f j) == 0) = false := by simp [q]
        rw [q2] at HI
        subst hq
        clear q q2
        go_wp2_with (go_at_call 107; refine (HI.out _).mono ?_; rintro e w1 ⟨rfl, hb1⟩; replace hb := Ext.trans hb hb1; clear hb1)
        go_ret
        exact ⟨rfl, hb⟩
    · obtain rfl : j = n := by omega
      have hq : r = true := by rw [← HQ.out, fstE_none HG.out]; rfl
      subst hq
      go_wp2_with fail
      go_ret
      exact ⟨rfl, hb⟩

set_option maxHeartbeats 400000 in
theorem arguments_any (k : Int) (w : World) : Calls Tryz.prog 102 #[I k] w fun e w' => e = .returned (I (arity k)) ∧ Ext w w' := by
  by_cases h1 : k = 1
  · subst h1
    go_enter Tryz.func102, Tryz.ntmps102
    go_wp2
    go_ret
    exact ⟨rfl, Ext.refl _⟩
  · by_cases h3 : k = 3 ∨ k = 4 ∨ k = 7 ∨ k = 8 ∨ k = 9
    · rcases h3 with rfl | rfl | rfl | rfl | rfl
      all_goals
        go_enter Tryz.func102, Tryz.ntmps102
        go_wp2
        go_ret
        exact ⟨rfl, Ext.refl _⟩
    · have H := Lib.hid (show arity k = 1 by unfold arity; rw [if_neg h1, if_neg h3])
      rw [H.out]
      have g1 : (k == 1) = false := by simpa using h1
      have g3 : (k == 3) = false := by simp; omega
      have g4 : (k == 4) = false := by simp; omega
      have g7 : (k == 7) = false := by simp; omega
      have g8 : (k == 8) = false := by simp; omega
      have g9 : (k == 9) = false := by simp; omega
      clear h1 h3
      go_enter Tryz.func102, Tryz.ntmps102
      go_wp2
      go_ret
      exact ⟨rfl, Ext.refl _⟩
set_option maxHeartbeats 400000 in
theorem usesValue_any (k : Int) (w : World) : Calls Tryz.prog 104 #[I k] w fun e w' => e = .returned (.bool (usesV k)) ∧ Ext w w' := by
  by_cases h3 : k = 1 ∨ k = 2 ∨ k = 6 ∨ k = 11
  · rcases h3 with rfl | rfl | rfl | rfl
    all_goals
      go_enter Tryz.func104, Tryz.ntmps104
      go_wp2
      go_ret
      exact ⟨rfl, Ext.refl _⟩
  · have H := Lib.hid (show usesV k = false by unfold usesV; simp; omega)
    rw [H.out]
    have g1 : (k == 1) = false := by simp; omega
    have g2 : (k == 2) = false := by simp; omega
    have g6 : (k == 6) = false := by simp; omega
    have g11 : (k == 11) = false := by simp; omega
    clear h3
    go_enter Tryz.func104, Tryz.ntmps104
    go_wp2
    go_ret
    exact ⟨rfl, Ext.refl _⟩
set_option maxHeartbeats 400000 in
theorem usesUpper_any (k : Int) (w : World) : Calls Tryz.prog 105 #[I k] w fun e w' => e = .returned (.bool (k == 11)) ∧ Ext w w' := by
  go_enter Tryz.func105, Tryz.ntmps105
  go_wp2
  go_ret
  exact ⟨rfl, Ext.refl _⟩
end

/-! ### Dgd -/
section
open Go.RowKit

theorem scE_t0 {n e : Int} (h1 : -2147483648 < n) (h2 : n < 2147483648) (h3 : -62 ≤ e) (h4 : e ≤ 30) : scE true n e = 0 := by
  unfold scE; rw [if_pos rfl, if_neg (by omega)]
theorem scE_t1 {n e : Int} (h : n ≤ -2147483648 ∨ 2147483648 ≤ n ∨ e < -62 ∨ 30 < e) : scE true n e = 3 := by
  unfold scE; rw [if_pos rfl, if_pos h]
theorem scE_t {n e : Int} (h : scE true n e = 0) : -2147483648 < n ∧ n < 2147483648 ∧ -62 ≤ e ∧ e ≤ 30 := by
  by_cases q : n ≤ -2147483648 ∨ 2147483648 ≤ n ∨ e < -62 ∨ 30 < e
  · rw [scE_t1 q] at h; cases h
  · omega
set_option maxRecDepth 100000 in
set_option maxHeartbeats 1000000 in
theorem checkScalar_t (n e : Int) (w : World) : Calls Tryz.prog 103 #[.agg #[I n, I e], .bool true] w fun x w' => x = .returned (errv (scE true n e)) ∧ Ext w w' := by
  by_cases h1 : n ≤ -2147483648
  · rw [scE_t1 (.inl h1)]
    go_enter Tryz.func103, Tryz.ntmps103
    go_wp2
    go_ret
    exact ⟨rfl, (by repeat (first | exact Ext.refl _ | assumption | exact Ext.alloc _ _ | refine Ext.trans ?_ (by assumption) | refine Ext.trans ?_ (Ext.alloc _ _) | refine Ext.trans ?_ (Ext.drewN _ _) | refine Ext.trans ?_ (Ext.drew _)))⟩
  by_cases h2 : 2147483648 ≤ n
  · rw [scE_t1 (.inr (.inl h2))]
    go_enter Tryz.func103, Tryz.ntmps103
    go_wp2
    go_ret
    exact ⟨rfl, (by repeat (first | exact Ext.refl _ | assumption | exact Ext.alloc _ _ | refine Ext.trans ?_ (by assumption) | refine Ext.trans ?_ (Ext.alloc _ _) | refine Ext.trans ?_ (Ext.drewN _ _) | refine Ext.trans ?_ (Ext.drew _)))⟩
  by_cases h3 : e < -62
  · rw [scE_t1 (.inr (.inr (.inl h3)))]
    go_enter Tryz.func103, Tryz.ntmps103
    go_wp2
    go_ret
    exact ⟨rfl, (by repeat (first | exact Ext.refl _ | assumption | exact Ext.alloc _ _ | refine Ext.trans ?_ (by assumption) | refine Ext.trans ?_ (Ext.alloc _ _) | refine Ext.trans ?_ (Ext.drewN _ _) | refine Ext.trans ?_ (Ext.drew _)))⟩
  by_cases h4 : 30 < e
  · rw [scE_t1 (.inr (.inr (.inr h4)))]
    go_enter Tryz.func103, Tryz.ntmps103
    go_wp2
    go_ret
    exact ⟨rfl, (by repeat (first | exact Ext.refl _ | assumption | exact Ext.alloc _ _ | refine Ext.trans ?_ (by assumption) | refine Ext.trans ?_ (Ext.alloc _ _) | refine Ext.trans ?_ (Ext.drewN _ _) | refine Ext.trans ?_ (Ext.drew _)))⟩
  rw [scE_t0 (by omega) (by omega) (by omega) (by omega)]
  go_enter Tryz.func103, Tryz.ntmps103
  go_wp2
  go_ret
  exact ⟨rfl, (by repeat (first | exact Ext.refl _ | assumption | exact Ext.alloc _ _ | refine Ext.trans ?_ (by assumption) | refine Ext.trans ?_ (Ext.alloc _ _) | refine Ext.trans ?_ (Ext.drewN _ _) | refine Ext.trans ?_ (Ext.drew _)))⟩
set_option maxRecDepth 100000 in
set_option maxHeartbeats 1000000 in
theorem checkScalar_f (n e : Int) (w : World) : Calls Tryz.prog 103 #[.agg #[I n, I e], .bool false] w fun x w' => x = .returned (errv (scE false n e)) ∧ Ext w w' := by
  by_cases h1 : n = 0
  · subst h1
    by_cases h2 : e = 0
    · subst h2
      go_enter Tryz.func103, Tryz.ntmps103
      go_wp2
      go_ret
      exact ⟨rfl, (by repeat (first | exact Ext.refl _ | assumption | exact Ext.alloc _ _ | refine Ext.trans ?_ (by assumption) | refine Ext.trans ?_ (Ext.alloc _ _) | refine Ext.trans ?_ (Ext.drewN _ _) | refine Ext.trans ?_ (Ext.drew _)))⟩
    · have H := Lib.hid (show scE false 0 e = 2 by simp [scE, h2])
      rw [H.out]
      go_enter Tryz.func103, Tryz.ntmps103
      go_wp2
      go_ret
      exact ⟨rfl, (by repeat (first | exact Ext.refl _ | assumption | exact Ext.alloc _ _ | refine Ext.trans ?_ (by assumption) | refine Ext.trans ?_ (Ext.alloc _ _) | refine Ext.trans ?_ (Ext.drewN _ _) | refine Ext.trans ?_ (Ext.drew _)))⟩
  · have H := Lib.hid (show scE false n e = 2 by simp [scE, h1])
    rw [H.out]
    go_enter Tryz.func103, Tryz.ntmps103
    go_wp2
    go_ret
    exact ⟨rfl, (by repeat (first | exact Ext.refl _ | assumption | exact Ext.alloc _ _ | refine Ext.trans ?_ (by assumption) | refine Ext.trans ?_ (Ext.alloc _ _) | refine Ext.trans ?_ (Ext.drewN _ _) | refine Ext.trans ?_ (Ext.drew _)))⟩
theorem checkScalar_any (u : Bool) (n e : Int) (w : World) : Calls Tryz.prog 103 #[.agg #[I n, I e], .bool u] w fun x w' => x = .returned (errv (scE u n e)) ∧ Ext w w' := by
  cases u
  · exact checkScalar_f n e w
  · exact checkScalar_t n e w

/-! ### The number of a scalar -/
def nmS (n e : Int) : DV := shiftD (ofI n 0) e
theorem nmS_ok (n e : Int) : (nmS n e).ok := shiftD_ok _ _
theorem hv_zero' (m : Nat) : hv m 0 = 0 := by have := hv_le m 0; omega
theorem ofI_form (n : Int) : ofI n 0 = if n = 0 then DV.zero else ⟨decide (n < 0), n.natAbs, 0⟩ := by
  unfold ofI
  rw [mkD_small (Nat.zero_le _)]
  by_cases h : n = 0
  · subst h; exact nrm_zero _ _
  · rw [if_neg h, nrm_pos _ _ (by omega), hv_zero']; simp
theorem qOf_int (n : Int) (X : Nat) (k : Nat) (hX : n.natAbs = X) : qOf (decide (n < 0)) X k = (n : Rat) / qp k := by
  unfold qOf
  by_cases h : n < 0
  · obtain ⟨m, rfl⟩ : ∃ m : Nat, n = -(m : Int) := ⟨n.natAbs, by omega⟩
    have hm : X = m := by omega
    subst hm
    rw [decide_eq_true h, if_pos rfl]
    have hc : ((X : Int) : Rat) = ((X : Nat) : Rat) := by first | rfl | exact Rat.intCast_natCast X
    rw [Rat.intCast_neg, hc]; grind
  · obtain ⟨m, rfl⟩ : ∃ m : Nat, n = (m : Int) := ⟨n.natAbs, by omega⟩
    have hm : X = m := by omega
    subst hm
    rw [decide_eq_false h]
    have hc : ((X : Int) : Rat) = ((X : Nat) : Rat) := by first | rfl | exact Rat.intCast_natCast X
    rw [hc]; rfl
theorem nmS_q {n e : Int} (h1 : -62 ≤ e) (h2 : e ≤ 30) : (nmS n e).q = ((n * 2 ^ (e + 62).toNat : Int) : Rat) / qp 62 := by
  unfold nmS shiftD
  have hc : clampN e = e := by unfold clampN; omega
  rw [hc, ofI_form]
  by_cases hn : n = 0
  · subst hn
    rw [if_pos rfl]
    split
    · rw [q_mkD _ _ (by show 0 + _ ≤ _; omega)]
      show qOf false 0 _ = _
      rw [qOf_zero, Int.zero_mul]; have := qp_ne 62; grind
    · rw [q_mkD _ _ (by show 0 ≤ _; omega)]
      show qOf false (0 * _) _ = _
      rw [Nat.zero_mul, qOf_zero, Int.zero_mul]; have := qp_ne 62; grind
  · rw [if_neg hn]
    have hs : decide (n < 0) = decide (n * 2 ^ (e + 62).toNat < 0) := by
      have hp : (0 : Int) < 2 ^ (e + 62).toNat := Int.pow_pos (by decide)
      by_cases hlt : n < 0
      · rw [decide_eq_true hlt, decide_eq_true (Int.mul_neg_of_neg_of_pos hlt hp)]
      · rw [decide_eq_false hlt, decide_eq_false (by have := Int.mul_nonneg (show 0 ≤ n by omega) (Int.le_of_lt hp); omega)]
    split
    · rw [q_mkD _ _ (by show 0 + _ ≤ _; omega)]
      show qOf (decide (n < 0)) n.natAbs (0 + (-e).toNat) = _
      rw [← qOf_shift _ _ _ (e + 62).toNat, show 0 + (-e).toNat + (e + 62).toNat = 62 by omega, hs]
      exact qOf_int _ _ _ (by rw [Int.natAbs_mul, Int.natAbs_pow]; rfl)
    · rw [q_mkD _ _ (by show 0 ≤ _; omega)]
      show qOf (decide (n < 0)) (n.natAbs * 2 ^ e.toNat) 0 = _
      rw [← qOf_shift _ _ _ 62, Nat.mul_assoc, ← Nat.pow_add, show e.toNat + 62 = (e + 62).toNat by omega, Nat.zero_add, hs]
      exact qOf_int _ _ _ (by rw [Int.natAbs_mul, Int.natAbs_pow]; rfl)
theorem cmp_gtS {n e m f : Int} (h1 : -62 ≤ e) (h2 : e ≤ 30) (h3 : -62 ≤ f) (h4 : f ≤ 30) : decide (0 < cmpD (nmS n e) (nmS m f)) = gtS n e m f := by
  rw [cmpD_sgn (nmS_ok _ _) (nmS_ok _ _), nmS_q h1 h2, nmS_q h3 h4]
  unfold gtS
  generalize n * 2 ^ (e + 62).toNat = a
  generalize m * 2 ^ (f + 62).toNat = b
  have hq := qp_pos 62
  have key : (a : Rat) / qp 62 - (b : Rat) / qp 62 = ((a - b : Int) : Rat) / qp 62 := by rw [Rat.intCast_sub]; grind
  rw [key]
  have hs : sgn (((a - b : Int) : Rat) / qp 62) = if a - b < 0 then -1 else if 0 < a - b then 1 else 0 := by
    have h5 : ∀ z : Int, ((z : Rat) / qp 62 < 0 ↔ z < 0) ∧ (0 < (z : Rat) / qp 62 ↔ 0 < z) := fun z => by
      have e1 : (z : Rat) / qp 62 = (z : Rat) * (qp 62)⁻¹ := Rat.div_def _ _
      have hi : 0 < (qp 62)⁻¹ := Rat.inv_pos.2 hq
      have z0 : ((0 : Int) : Rat) = 0 := rfl
      constructor
      · rw [e1, ← Rat.intCast_neg_iff]
        constructor
        · intro h
          by_cases q : (z : Rat) < 0
          · exact q
          · have := Rat.mul_nonneg (Rat.not_lt.1 q) (Rat.le_of_lt hi); grind
        · intro h; have := Rat.mul_lt_mul_of_pos_right h hi; grind
      · rw [e1, ← Rat.intCast_pos]
        constructor
        · intro h
          by_cases q : 0 < (z : Rat)
          · exact q
          · have : 0 ≤ -(z : Rat) := by grind
            have := Rat.mul_nonneg this (Rat.le_of_lt hi); grind
        · intro h; exact Rat.mul_pos h hi
    unfold sgn
    obtain ⟨g1, g2⟩ := h5 (a - b)
    by_cases q1 : a - b < 0
    · rw [if_pos q1, if_pos (g1.2 q1)]
    · rw [if_neg q1, if_neg (fun h => q1 (g1.1 h))]
      by_cases q2 : 0 < a - b
      · rw [if_pos q2, if_pos (g2.2 q2)]
      · rw [if_neg q2, if_neg (fun h => q2 (g2.1 h))]
  rw [hs]
  by_cases q1 : a - b < 0
  · rw [if_pos q1]; simp; omega
  · rw [if_neg q1]
    by_cases q2 : 0 < a - b
    · rw [if_pos q2]; simp; omega
    · rw [if_neg q2]; simp; omega

theorem dy_of_on {w w0 : World} {d : DV} {A : Option Addr} {c b : Nat} (h : On w b A (len d.m) c (dg d.m)) (wf : d.ok) (hl : len d.m ≤ 16777216) (e : Ext w w0) : Dy w0 d.neg A (len d.m) c d.den d A c := (Dy.valid h.rd h.ok wf hl).ext e
/-- A number in new memory. -/
def NmR (d : DV) (w : World) (e : Ending) (w' : World) : Prop := ∃ A c, e = .returned (dv d.neg A (len d.m) c d.den) ∧ Dy w' d.neg A (len d.m) c d.den d A c ∧ Ext w w'
theorem nrm_le (neg : Bool) (m k : Nat) : (nrm neg m k).m ≤ m := by
  unfold nrm; split
  · exact Nat.zero_le _
  · exact Nat.div_le_self _ _
theorem mkD_le (neg : Bool) (m k : Nat) : (mkD neg m k).m ≤ m := by
  unfold mkD; split
  · exact nrm_le _ _ _
  · exact Nat.le_trans (nrm_le _ _ _) (Nat.div_le_self _ _)
theorem nmS_len {n e : Int} (h1 : -2147483648 < n) (h2 : n < 2147483648) (h3 : e ≤ 30) : len (ofI n 0).m ≤ 16777216 ∧ len (nmS n e).m ≤ 16777216 := by
  have a : (ofI n 0).m ≤ n.natAbs := by
    rw [ofI_form]; split
    · exact Nat.zero_le _
    · exact Nat.le_refl _
  have b : (nmS n e).m ≤ 2147483648 * 1073741824 := by
    unfold nmS shiftD
    split
    · exact Nat.le_trans (mkD_le _ _ _) (by omega)
    · refine Nat.le_trans (mkD_le _ _ _) (Nat.mul_le_mul (by omega) ?_)
      have : (2 : Nat) ^ (clampN e).toNat ≤ 2 ^ 30 := Nat.pow_le_pow_right (by decide) (by unfold clampN; omega)
      simpa using this
  refine ⟨Nat.le_trans (len_le (n := 2) ?_) (by decide), Nat.le_trans (len_le (n := 2) ?_) (by decide)⟩
  · show _ < 4294967296 ^ 2; omega
  · show _ < 4294967296 ^ 2; omega

def S2 (w : World) (g : Nat) (v0 v1 : Value) : Prop := (w.cell? ⟨g, 0, none⟩ = some v0 ∧ w.cell? ⟨g, 1, none⟩ = some v1) ∧ ∀ i, w.frozen? ⟨g, i, none⟩ = false
theorem S2.lt {w : World} {g : Nat} {v0 v1 : Value} (h : S2 w g v0 v1) : g < w.heap.size := World.block_lt_of_cell? w _ h.1.1
theorem S2.ext {w w' : World} {g : Nat} {v0 v1 : Value} (h : S2 w g v0 v1) (e : Ext w w') : S2 w' g v0 v1 := by
  have hl := h.lt
  obtain ⟨⟨h0, h1⟩, hf⟩ := h
  exact ⟨⟨(e.old.1 _ _ hl).trans h0, (e.old.1 _ _ hl).trans h1⟩, fun i => (e.old.2 _ _ hl).trans (hf i)⟩
theorem num_boxes (w : World) (a0 a1 b0 b1 b2 : Value) (t t' : TypeId) :
    S2 ((w.alloc (.cells #[a0, a1] t)).alloc (.cells #[b0, b1, b2] t')) w.heap.size a0 a1 ∧ Bx ((w.alloc (.cells #[a0, a1] t)).alloc (.cells #[b0, b1, b2] t')) (w.heap.size + 1) b0 b1 b2 ∧
      Ext w ((w.alloc (.cells #[a0, a1] t)).alloc (.cells #[b0, b1, b2] t')) := by
  refine ⟨⟨⟨by go_simp, by go_simp⟩, fun i => by go_simp⟩, ?_, (Ext.alloc _ _).trans (Ext.alloc _ _)⟩
  have := Bx.new (w.alloc (.cells #[a0, a1] t)) b0 b1 b2 t'
  rwa [show (w.alloc (.cells #[a0, a1] t)).heap.size = w.heap.size + 1 by simp] at this

set_option maxRecDepth 100000 in
set_option maxHeartbeats 1000000 in
theorem number_any (n e : Int) (w : World) (hT : Tabs w) (h1 : -2147483648 < n) (h2 : n < 2147483648) (h3 : -62 ≤ e) (h4 : e ≤ 30) :
    Calls Tryz.prog 106 #[.agg #[I n, I e]] w (NmR (nmS n e) w) := by
  have HT := Lib.hid hT; clear hT
  obtain ⟨X0, X2, XE⟩ := num_boxes w (I n) (I e) (.bool false) (.slice none 0 0) (I 0) 49 66
  have HX0 := Lib.hid X0; have HX2 := Lib.hid X2; have HXE := Lib.hid XE
  clear X0 X2 XE
  obtain ⟨⟨k0, k1⟩, kf⟩ := HX0.out
  obtain ⟨d', hd'⟩ : ∃ d', nmS n e = d' := ⟨_, rfl⟩
  obtain ⟨l1, l2⟩ := nmS_len h1 h2 h4
  have wf' := nmS_ok n e
  rw [hd'] at l2 wf' ⊢
  have HL := Lib.hid l1; have HL2 := Lib.hid l2; have HW := Lib.hid (ofI_ok n 0); have HW2 := Lib.hid wf'
  have HD' := Lib.hid hd'
  clear hd' l1 l2 wf'
  have hn2 : ¬ w.heap.size + 1 = w.heap.size := by omega
  have hn3 : ¬ w.heap.size = w.heap.size + 1 := by omega
  go_enter Tryz.func106, Tryz.ntmps106
  go_upto_region 1 with fail
  go_region_held3 (fun w' => w'.cell? ⟨w.heap.size, 0, none⟩ = some (I n) ∧ w'.cell? ⟨w.heap.size, 1, none⟩ = some (I e)) (go_keep)
    (first
      | (go_at_call 23; refine (of_any n _ (HT.out.ext (HXE.out.trans (Ext.drew _))) (by omega) (by omega)).mono ?_; rintro e5 w5 ⟨A5, c5, rfl, hon5, hx5⟩; obtain ⟨⟨q0, q1⟩, _⟩ := HX0.out.ext (w' := w5) ((Ext.drew _).trans hx5); have HDN := Lib.hid (dy_of_on hon5 HW.out HL.out (Ext.refl _)); clear hon5)
      | (go_at_call 138; refine (shift_any e HDN.out (HT.out.ext ((HXE.out.trans (Ext.drew _)).trans hx5)) (by omega) (by omega)).mono ?_; rw [show shiftD (ofI n 0) e = d' from HD'.out]; rintro e6 w6 ⟨A6, c6, rfl, hon6, hx6⟩; obtain ⟨⟨p0, p1⟩, _⟩ := HX0.out.ext (w' := w6) (((Ext.drew _).trans hx5).trans hx6); have gz := (HX2.out.ext (w' := w6) (((Ext.drew _).trans hx5).trans hx6)).2; obtain ⟨z0, z1, z2⟩ := (HX2.out.ext (w' := w6) (((Ext.drew _).trans hx5).trans hx6)).1; have HO6 := Lib.hid hon6; clear hon6))
  all_goals
    have HXF := Lib.hid (((HXE.out.trans (Ext.drew _)).trans hx5).trans hx6)
    have hlt := (HX2.out.ext (w' := w5) ((Ext.drew _).trans hx5)).lt
    go_wp2_with fail
    refine bodyPost_ret (v := dv d'.neg A6 (len d'.m) c6 d'.den) (by simp [results, Tryz.results106, go_sem, z0, z1, z2]) rfl ⟨A6, c6, rfl, ?_, ?_⟩
    · exact dy_of_on (HO6.out.set3 hlt _ _ _) HW2.out HL2.out (Ext.refl _)
    · exact ext_set3 HXF.out (by omega) _ _ _
end

end Go.Proofs.YtkocmdpfknoiaaaGreatDoor
