/- The reference's functions on absolute values, part 1: trim, less. -/
import Derived.Test.YtgmmcfnahfcadaaDoorNatb
import Derived.Test.YtgmmcfnahfcadaaDoorOwn
namespace Go.Proofs.YtgmmcfnahfcadaaDoor
open Go.RowKit

/-- What a reference function hands back: the digits of x, somewhere. -/
def RdRes (x : Nat) (w : World) (e : Ending) (w' : World) : Prop := ∃ A c, e = .returned (.slice A (len x) c) ∧ Rd w' A (len x) (dg x) ∧ SlOk A (len x) c ∧ Ext w w'

set_option maxHeartbeats 400000 in
theorem rtrim_any (A : Option Addr) (n c : Nat) (f : Nat → Nat) (w : World) (hr : Rd w A n f) (hb : ∀ i, i < n → f i < 4294967296) (hc : n ≤ c) (hm : c ≤ maxLen) :
    Calls Tryd.prog 116 #[.slice A n c] w fun e w' => e = .returned (.slice A (len (valN f n)) c) ∧ w = w' := by
  unfold maxLen at hm
  have HB := Lib.hid hb; clear hb
  have HR := Lib.hid hr; clear hr
  go_enter Tryd.func116, Tryd.ntmps116
  go_wp2
  go_loop [3] (fun s => ∃ k : Nat, k ≤ n ∧ Hid (∀ i, k ≤ i → i < n → f i = 0) ∧ s = I k) (fun s => (intOf s).toNat)
  case atStart => exact ⟨n, Nat.le_refl _, (fun i h1 h2 => by omega), rfl⟩
  case round =>
    obtain ⟨k, hk, hz, rfl⟩ := hrel
    cases k with
    | zero =>
      have hl := Lib.hid (len_valN HB.out hk hz.out (.inl rfl))
      go_wp2
      go_ret
      exact ⟨by rw [hl.out]; rfl, rfl⟩
    | succ j =>
      obtain ⟨b, o, rfl, hbw, hcell⟩ := HR.out.at_ (k := j) (by omega)
      by_cases h0 : f j = 0
      · have hz' : Hid (∀ i, j ≤ i → i < n → f i = 0) := fun i h1 h2 => by
          by_cases e : i = j
          · subst e; exact h0
          · exact hz.out i (by omega) h2
        rw [h0] at hcell
        clear h0 hz
        go_wp2
        go_round
        case rel => exact ⟨j, by omega, hz', by go_num⟩
        case measure => simp [intOf]
      · have hl := Lib.hid (len_valN HB.out hk hz.out (.inr (by simpa using h0)))
        have h1 : ((f j : Int) == 0) = false := by simp; omega
        clear h0 hz
        go_wp2
        go_ret
        exact ⟨by rw [hl.out]; rfl, rfl⟩

set_option maxHeartbeats 400000 in
theorem rless_any (A B : Option Addr) (m n ca cb : Nat) (w : World) (ha : Rd w A (len m) (dg m)) (hb' : Rd w B (len n) (dg n)) (ha1 : len m ≤ 1073741824) :
    Calls Tryd.prog 84 #[.slice A (len m) ca, .slice B (len n) cb] w fun e w' => e = .returned (.bool (decide (m < n))) ∧ Ext w w' := by
  have HA := Lib.hid ha; clear ha
  have HB := Lib.hid hb'; clear hb'
  by_cases hl : len m = len n
  · have h0 := Lib.hid (cmp_start hl)
    obtain ⟨L, hL⟩ : ∃ L, len m = L := ⟨_, rfl⟩
    rw [hL] at hl ha1 h0
    rw [hL, ← hl]
    rw [hL] at HA
    rw [← hl] at HB
    clear hL hl
    have H0 : Hid (m / pB L = n / pB L) := h0
    clear h0
    go_enter Tryd.func84, Tryd.ntmps84
    go_wp2
    go_loopw [5] (fun s wr => Ext w wr ∧ (s = I (-1) ∧ Hid (m / pB 0 = n / pB 0) ∨ ∃ j : Nat, j < L ∧ s = I j ∧ Hid (m / pB (j + 1) = n / pB (j + 1)))) (fun s _ => (intOf s + 1).toNat)
    case atStart =>
      refine ⟨Ext.refl _, ?_⟩
      cases L with
      | zero => exact .inl ⟨rfl, H0⟩
      | succ l => exact .inr ⟨l, by omega, by go_num, H0⟩
    case round =>
      clear H0
      obtain ⟨hb, ⟨rfl, hz⟩ | ⟨j, hj, rfl, hz⟩⟩ := hrel
      · have HC : Hid (decide (m < n) = false) := by have := cmp_end hz.out; show _ = _; simp; omega
        go_wp2
        go_ret
        exact ⟨by rw [HC.out]; rfl, hb⟩
      · obtain ⟨b1, o1, rfl, hb1, c1⟩ := HA.out.at_ hj
        obtain ⟨b2, o2, rfl, hb2, c2⟩ := HB.out.at_ hj
        obtain ⟨hc, hf⟩ := hb.old
        have hi1 : (0 : Int) ≤ (j : Int) := by omega
        have hi2 : (j : Int) < (L : Int) := by omega
        by_cases e : dg m j = dg n j
        · have hz' := Lib.hid (cmp_step hz.out e)
          rw [e] at c1
          clear e hz
          go_wp2
          go_quiet (fail)
          go_wp2
          go_roundw
          case rel =>
            refine ⟨hb.trans (Ext.drewN _ _), ?_⟩
            cases j with
            | zero => exact .inl ⟨rfl, hz'⟩
            | succ l => exact .inr ⟨l, by omega, by go_num, hz'⟩
          case measure => simp [intOf]
        · have e1 : ((dg m j : Int) != (dg n j : Int)) = true := by simp; omega
          rcases Nat.lt_or_gt_of_ne e with e2 | e2
          · have HC : Hid (decide (m < n) = decide (dg m j < dg n j)) := by have := cmp_dg hz.out e2; show _ = _; rw [decide_eq_true this, decide_eq_true e2]
            clear e hz e2
            go_wp2
            go_quiet (fail)
            go_wp2
            go_quiet (fail)
            go_wp2
            go_ret
            exact ⟨by rw [HC.out]; rfl, (hb.trans (Ext.drewN _ _)).trans (Ext.drewN _ _)⟩
          · have HC : Hid (decide (m < n) = decide (dg m j < dg n j)) := by have := cmp_dg hz.out.symm e2; show _ = _; rw [decide_eq_false (by omega), decide_eq_false (by omega)]
            clear e hz e2
            go_wp2
            go_quiet (fail)
            go_wp2
            go_quiet (fail)
            go_wp2
            go_ret
            exact ⟨by rw [HC.out]; rfl, (hb.trans (Ext.drewN _ _)).trans (Ext.drewN _ _)⟩
  · have h1 : ((len m : Int) != (len n : Int)) = true := by simp; omega
    have HC : Hid (decide (m < n) = decide (len m < len n)) := by
      show _ = _
      rcases Nat.lt_or_gt_of_ne hl with h | h
      · rw [decide_eq_true h, decide_eq_true (cmp_len h)]
      · have := cmp_len h
        rw [decide_eq_false (by omega), decide_eq_false (by omega)]
    clear hl
    go_enter Tryd.func84, Tryd.ntmps84
    go_wp2
    go_ret
    exact ⟨by rw [HC.out]; rfl, Ext.refl _⟩

end Go.Proofs.YtgmmcfnahfcadaaDoor
