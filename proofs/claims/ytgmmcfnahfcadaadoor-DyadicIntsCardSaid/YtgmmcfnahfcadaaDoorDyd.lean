/- Numbers as structs: the reference's Valid and Norm. -/
import Derived.Test.YtgmmcfnahfcadaaDoorDyc
namespace Go.Proofs.YtgmmcfnahfcadaaDoor
open Go.RowKit

set_option maxRecDepth 100000 in
set_option maxHeartbeats 1000000 in
theorem rvalid_any (neg : Bool) (A : Option Addr) (n c : Nat) (den : Int) (f : Nat → Nat) (w : World) (hr : Rd w A n f) (hb : ∀ i, i < n → f i < 4294967296) (hn : n ≤ 1073741824) :
    Calls Tryd.prog 20 #[dv neg A n c den] w (VldRes (vld neg n f den) w) := by
  have HR := Lib.hid hr; clear hr
  cases n with
  | zero =>
    rw [vld_zero]
    cases neg with
    | true =>
      go_enter Tryd.func20, Tryd.ntmps20
      go_wp2
      go_ret
      exact ⟨by simp, Ext.alloc _ _⟩
    | false =>
      by_cases h : den = 0
      · subst h
        go_enter Tryd.func20, Tryd.ntmps20
        go_wp2
        go_ret
        exact ⟨by simp, Ext.alloc _ _⟩
      · have h1 : (den == 0) = false := by simpa using h
        have HV : Hid ((!false && decide (den = 0)) = false) := by simp [h, Hid]
        clear h
        rw [HV.out]
        go_enter Tryd.func20, Tryd.ntmps20
        go_wp2
        go_ret
        exact ⟨by simp, Ext.alloc _ _⟩
  | succ k =>
    rw [vld_succ]
    obtain ⟨b, o, rfl, hbw, hc⟩ := HR.out (by omega)
    have c1 := hc k (by omega)
    have c0 := hc 0 (by omega)
    rw [Nat.add_zero] at c0
    have hx := hb k (by omega)
    have hy := hb 0 (by omega)
    clear hc hb HR
    generalize f k = x at *
    generalize f 0 = y at *
    have hbn : b ≠ w.heap.size := by omega
    have hbl : b < w.heap.size + 1 := by omega
    by_cases h0 : x = 0
    · subst h0
      go_enter Tryd.func20, Tryd.ntmps20
      go_wp2
      go_ret
      exact ⟨by simp, Ext.alloc _ _⟩
    · have h1 : ((x : Int) == 0) = false := by simp; omega
      have h1n : ((x : Int) != 0) = true := by simp; omega
      by_cases hg : 0 ≤ den ∧ den ≤ 65536
      · obtain ⟨g0, g1⟩ := hg
        by_cases hd : den = 0
        · subst hd
          have HV : Hid ((decide (x ≠ 0) && decide ((0 : Int) ≤ 0) && decide ((0 : Int) ≤ 65536) && (decide ((0 : Int) = 0) || decide (y % 2 = 1))) = true) := by simp [h0, Hid]
          rw [HV.out]
          clear HV h0
          go_enter Tryd.func20, Tryd.ntmps20
          go_wp2
          go_ret
          exact ⟨by simp, Ext.alloc _ _⟩
        · have hd1 : (den == 0) = false := by simpa using hd
          by_cases hy1 : y % 2 = 1
          · have hy2 : (y : Int) % 2 = 1 := by omega
            have HV : Hid ((decide (x ≠ 0) && decide (0 ≤ den) && decide (den ≤ 65536) && (decide (den = 0) || decide (y % 2 = 1))) = true) := by simp [h0, Hid, g0, g1, hy1]
            rw [HV.out]
            clear HV h0 hd hy1
            go_enter Tryd.func20, Tryd.ntmps20
            go_wp2
            go_ret
            exact ⟨by simp, Ext.alloc _ _⟩
          · have hy2 : (y : Int) % 2 = 0 := by omega
            have HV : Hid ((decide (x ≠ 0) && decide (0 ≤ den) && decide (den ≤ 65536) && (decide (den = 0) || decide (y % 2 = 1))) = false) := by simp [Hid, hy1, hd]
            rw [HV.out]
            clear HV h0 hd hy1
            go_enter Tryd.func20, Tryd.ntmps20
            go_wp2
            go_ret
            exact ⟨by simp, Ext.alloc _ _⟩
      · have hg' : den < 0 ∨ 65536 < den := by omega
        have HV : Hid ((decide (x ≠ 0) && decide (0 ≤ den) && decide (den ≤ 65536) && (decide (den = 0) || decide (y % 2 = 1))) = false) := by
          show _ = _
          rcases hg' with h | h
          · simp [show ¬ 0 ≤ den by omega]
          · simp [show ¬ den ≤ 65536 by omega]
        rw [HV.out]
        clear HV h0 hg
        rcases hg' with g | g
        · have g2 : ¬ 0 ≤ den := by omega
          go_enter Tryd.func20, Tryd.ntmps20
          go_wp2
          go_ret
          exact ⟨by simp, Ext.alloc _ _⟩
        · have g2 : ¬ den ≤ 65536 := by omega
          have g3 : 0 ≤ den := by omega
          go_enter Tryd.func20, Tryd.ntmps20
          go_wp2
          go_ret
          exact ⟨by simp, Ext.alloc _ _⟩

set_option maxRecDepth 100000 in
set_option maxHeartbeats 1000000 in
theorem norm_t (neg : Bool) (A : Option Addr) (n c : Nat) (den : Int) (f : Nat → Nat) (w : World) (hr : Rd w A n f) (hb : ∀ i, i < n → f i < 4294967296) (hn : n ≤ 1073741824) (hv : vld neg n f den = true) :
    Calls Tryd.prog 15 #[dv neg A n c den] w (NumRes (dv neg A n c den) w) := by
  have HV : Hid (∀ w', Ext w w' → Calls Tryd.prog 20 #[dv neg A n c den] w' (VldRes true w')) := fun w' e => hv ▸ rvalid_any neg A n c den f w' (hr.ext e) hb hn
  clear hr hb hv hn
  go_enter Tryd.func15, Tryd.ntmps15
  go_wp2_with (go_at_call 20; refine (HV.out _ ((Ext.alloc _ _).trans (Ext.alloc _ _))).mono ?_; rintro e w1 ⟨rfl, hx⟩; obtain ⟨hc, hf⟩ := hx.old; have HX := Lib.hid hx; clear hx)
  exact bodyPost_ret (v := dv neg A n c den) (by simp [results, Tryd.results15, go_sem, hc]) rfl ⟨rfl, by repeat (first | exact ((Ext.alloc _ _).trans (Ext.alloc _ _)).trans HX.out | refine Ext.set ?_ (by simp) _)⟩
set_option maxRecDepth 100000 in
set_option maxHeartbeats 1000000 in
theorem norm_f (neg : Bool) (A : Option Addr) (n c : Nat) (den : Int) (f : Nat → Nat) (w : World) (hr : Rd w A n f) (hb : ∀ i, i < n → f i < 4294967296) (hn : n ≤ 1073741824) (hv : vld neg n f den = false) :
    Calls Tryd.prog 15 #[dv neg A n c den] w (NumRes (dv false none 0 0 0) w) := by
  have HV : Hid (∀ w', Ext w w' → Calls Tryd.prog 20 #[dv neg A n c den] w' (VldRes false w')) := fun w' e => hv ▸ rvalid_any neg A n c den f w' (hr.ext e) hb hn
  clear hr hb hv hn
  go_enter Tryd.func15, Tryd.ntmps15
  go_wp2_with (go_at_call 20; refine (HV.out _ ((Ext.alloc _ _).trans (Ext.alloc _ _))).mono ?_; rintro e w1 ⟨rfl, hx⟩; obtain ⟨hc, hf⟩ := hx.old; have HX := Lib.hid hx; clear hx)
  exact bodyPost_ret (v := dv false none 0 0 0) (by simp [results, Tryd.results15, go_sem, hc]) rfl ⟨rfl, by repeat (first | exact ((Ext.alloc _ _).trans (Ext.alloc _ _)).trans HX.out | refine Ext.set ?_ (by simp) _)⟩

end Go.Proofs.YtgmmcfnahfcadaaDoor
