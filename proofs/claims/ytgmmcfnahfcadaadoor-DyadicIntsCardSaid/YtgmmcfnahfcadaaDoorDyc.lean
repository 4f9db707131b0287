/- Numbers as structs: which are valid, and what the others count as. -/
import Derived.Test.YtgmmcfnahfcadaaDoorDyb
namespace Go.Proofs.YtgmmcfnahfcadaaDoor
open Go.RowKit

def vld (neg : Bool) (n : Nat) (f : Nat → Nat) (den : Int) : Bool :=
  if n = 0 then !neg && decide (den = 0) else decide (f (n - 1) ≠ 0) && decide (0 ≤ den) && decide (den ≤ 65536) && (decide (den = 0) || decide (f 0 % 2 = 1))
theorem vld_zero (neg : Bool) (f : Nat → Nat) (den : Int) : vld neg 0 f den = (!neg && decide (den = 0)) := by unfold vld; rw [if_pos rfl]
theorem vld_succ (neg : Bool) (n : Nat) (f : Nat → Nat) (den : Int) : vld neg (n + 1) f den = (decide (f n ≠ 0) && decide (0 ≤ den) && decide (den ≤ 65536) && (decide (den = 0) || decide (f 0 % 2 = 1))) := by unfold vld; rw [if_neg (by omega)]; rfl

set_option maxHeartbeats 400000 in
theorem isGrid_t (k : Int) (w : World) (h0 : 0 ≤ k) (h1 : k ≤ 65536) : Calls Tryd.prog 65 #[I k] w fun e w' => e = .returned (.bool true) ∧ w = w' := by
  go_enter Tryd.func65, Tryd.ntmps65
  go_wp2
  go_ret
  exact ⟨rfl, rfl⟩
set_option maxHeartbeats 400000 in
theorem isGrid_f (k : Int) (w : World) (h : k < 0 ∨ 65536 < k) : Calls Tryd.prog 65 #[I k] w fun e w' => e = .returned (.bool false) ∧ w = w' := by
  rcases h with h | h
  · have h1 : ¬ 0 ≤ k := by omega
    go_enter Tryd.func65, Tryd.ntmps65
    go_wp2
    go_ret
    exact ⟨rfl, rfl⟩
  · have h1 : ¬ k ≤ 65536 := by omega
    have h2 : 0 ≤ k := by omega
    go_enter Tryd.func65, Tryd.ntmps65
    go_wp2
    go_ret
    exact ⟨rfl, rfl⟩

def VldRes (b : Bool) (w : World) (e : Ending) (w' : World) : Prop := e = .returned (.bool b) ∧ Ext w w'
set_option maxRecDepth 100000 in
set_option maxHeartbeats 1000000 in
theorem valid_any (neg : Bool) (A : Option Addr) (n c : Nat) (den : Int) (f : Nat → Nat) (w : World) (hr : Rd w A n f) (hb : ∀ i, i < n → f i < 4294967296) (hn : n ≤ 1073741824) :
    Calls Tryd.prog 19 #[dv neg A n c den] w (VldRes (vld neg n f den) w) := by
  have HR := Lib.hid hr; clear hr
  cases n with
  | zero =>
    rw [vld_zero]
    cases neg with
    | true =>
      go_enter Tryd.func19, Tryd.ntmps19
      go_wp2
      go_ret
      exact ⟨by simp, Ext.alloc _ _⟩
    | false =>
      by_cases h : den = 0
      · subst h
        go_enter Tryd.func19, Tryd.ntmps19
        go_wp2
        go_ret
        exact ⟨by simp, Ext.alloc _ _⟩
      · have h1 : (den == 0) = false := by simpa using h
        have HV : Hid ((!false && decide (den = 0)) = false) := by simp [h, Hid]
        clear h
        rw [HV.out]
        go_enter Tryd.func19, Tryd.ntmps19
        go_wp2
        go_ret
        exact ⟨by simp, Ext.alloc _ _⟩
  | succ k =>
    rw [vld_succ]
    obtain ⟨b, o, rfl, hbw, hc⟩ := HR.out (by omega)
    have c1 := hc k (by omega)
    have c0 := hc 0 (by omega)
    rw [Nat.add_zero] at c0
    have hx := hb k (by omega)
    have hy := hb 0 (by omega)
    clear hc hb HR
    generalize f k = x at *
    generalize f 0 = y at *
    have hbn : b ≠ w.heap.size := by omega
    have hbl : b < w.heap.size + 1 := by omega
    by_cases h0 : x = 0
    · subst h0
      go_enter Tryd.func19, Tryd.ntmps19
      go_wp2
      go_ret
      exact ⟨by simp, Ext.alloc _ _⟩
    · have h1 : ((x : Int) == 0) = false := by simp; omega
      by_cases hg : 0 ≤ den ∧ den ≤ 65536
      · obtain ⟨g0, g1⟩ := hg
        by_cases hd : den = 0
        · subst hd
          have HV : Hid ((decide (x ≠ 0) && decide ((0 : Int) ≤ 0) && decide ((0 : Int) ≤ 65536) && (decide ((0 : Int) = 0) || decide (y % 2 = 1))) = true) := by simp [h0, Hid]
          rw [HV.out]
          clear HV h0
          go_enter Tryd.func19, Tryd.ntmps19
          go_wp2_with (go_at_call 65; refine (isGrid_t _ _ (by omega) (by omega)).mono ?_; rintro e w' ⟨rfl, rfl⟩)
          go_ret
          exact ⟨by simp, Ext.alloc _ _⟩
        · have hd1 : (den == 0) = false := by simpa using hd
          by_cases hy1 : y % 2 = 1
          · have hy2 : (y : Int) % 2 = 1 := by omega
            have HV : Hid ((decide (x ≠ 0) && decide (0 ≤ den) && decide (den ≤ 65536) && (decide (den = 0) || decide (y % 2 = 1))) = true) := by simp [h0, Hid, g0, g1, hy1]
            rw [HV.out]
            clear HV h0 hd hy1
            go_enter Tryd.func19, Tryd.ntmps19
            go_wp2_with (go_at_call 65; refine (isGrid_t _ _ (by omega) (by omega)).mono ?_; rintro e w' ⟨rfl, rfl⟩)
            go_ret
            exact ⟨by simp, Ext.alloc _ _⟩
          · have hy2 : (y : Int) % 2 = 0 := by omega
            have HV : Hid ((decide (x ≠ 0) && decide (0 ≤ den) && decide (den ≤ 65536) && (decide (den = 0) || decide (y % 2 = 1))) = false) := by simp [Hid, hy1, hd]
            rw [HV.out]
            clear HV h0 hd hy1
            go_enter Tryd.func19, Tryd.ntmps19
            go_wp2_with (go_at_call 65; refine (isGrid_t _ _ (by omega) (by omega)).mono ?_; rintro e w' ⟨rfl, rfl⟩)
            go_ret
            exact ⟨by simp, Ext.alloc _ _⟩
      · have hg' : den < 0 ∨ 65536 < den := by omega
        have HV : Hid ((decide (x ≠ 0) && decide (0 ≤ den) && decide (den ≤ 65536) && (decide (den = 0) || decide (y % 2 = 1))) = false) := by
          show _ = _
          rcases hg' with h | h
          · simp [show ¬ 0 ≤ den by omega]
          · simp [show ¬ den ≤ 65536 by omega]
        have HG := Lib.hid hg'
        rw [HV.out]
        clear HV h0 hg hg'
        go_enter Tryd.func19, Tryd.ntmps19
        go_wp2_with (go_at_call 65; refine (isGrid_f _ _ HG.out).mono ?_; rintro e w' ⟨rfl, rfl⟩)
        go_ret
        exact ⟨by simp, Ext.alloc _ _⟩

def NumRes (v : Value) (w : World) (e : Ending) (w' : World) : Prop := e = .returned v ∧ Ext w w'
set_option maxRecDepth 100000 in
set_option maxHeartbeats 1000000 in
theorem number_t (neg : Bool) (A : Option Addr) (n c : Nat) (den : Int) (f : Nat → Nat) (w : World) (hr : Rd w A n f) (hb : ∀ i, i < n → f i < 4294967296) (hn : n ≤ 1073741824) (hv : vld neg n f den = true) :
    Calls Tryd.prog 66 #[dv neg A n c den] w (NumRes (dv neg A n c den) w) := by
  have HV : Hid (∀ w', Ext w w' → Calls Tryd.prog 19 #[dv neg A n c den] w' (VldRes true w')) := fun w' e => hv ▸ valid_any neg A n c den f w' (hr.ext e) hb hn
  clear hr hb hv hn
  go_enter Tryd.func66, Tryd.ntmps66
  go_wp2_with (go_at_call 19; refine (HV.out _ ((Ext.alloc _ _).trans (Ext.alloc _ _))).mono ?_; rintro e w1 ⟨rfl, hx⟩; obtain ⟨hc, hf⟩ := hx.old; have HX := Lib.hid hx; clear hx)
  exact bodyPost_ret (v := dv neg A n c den) (by simp [results, Tryd.results66, go_sem, hc]) rfl ⟨rfl, by repeat (first | exact ((Ext.alloc _ _).trans (Ext.alloc _ _)).trans HX.out | refine Ext.set ?_ (by simp) _)⟩
set_option maxRecDepth 100000 in
set_option maxHeartbeats 1000000 in
theorem number_f (neg : Bool) (A : Option Addr) (n c : Nat) (den : Int) (f : Nat → Nat) (w : World) (hr : Rd w A n f) (hb : ∀ i, i < n → f i < 4294967296) (hn : n ≤ 1073741824) (hv : vld neg n f den = false) :
    Calls Tryd.prog 66 #[dv neg A n c den] w (NumRes (dv false none 0 0 0) w) := by
  have HV : Hid (∀ w', Ext w w' → Calls Tryd.prog 19 #[dv neg A n c den] w' (VldRes false w')) := fun w' e => hv ▸ valid_any neg A n c den f w' (hr.ext e) hb hn
  clear hr hb hv hn
  go_enter Tryd.func66, Tryd.ntmps66
  go_wp2_with (go_at_call 19; refine (HV.out _ ((Ext.alloc _ _).trans (Ext.alloc _ _))).mono ?_; rintro e w1 ⟨rfl, hx⟩; obtain ⟨hc, hf⟩ := hx.old; have HX := Lib.hid hx; clear hx)
  exact bodyPost_ret (v := dv false none 0 0 0) (by simp [results, Tryd.results66, go_sem, hc]) rfl ⟨rfl, by repeat (first | exact ((Ext.alloc _ _).trans (Ext.alloc _ _)).trans HX.out | refine Ext.set ?_ (by simp) _)⟩

end Go.Proofs.YtgmmcfnahfcadaaDoor
