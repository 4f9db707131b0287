/- The reference's number: zero, and all that is not too fine. -/
import Derived.Test.YtgmmcfnahfcadaaDoorReff
namespace Go.Proofs.YtgmmcfnahfcadaaDoor
open Go.RowKit

set_option maxRecDepth 100000 in
set_option maxHeartbeats 1000000 in
theorem rnumber_zero (neg : Bool) (A : Option Addr) (n c k : Nat) (f : Nat → Nat) (w : World) (ha : Rd w A n f) (oa : SlOk A n c) (hb : ∀ i, i < n → f i < 4294967296) (hv' : valN f n = 0) (hk : k ≤ 65536) :
    Calls Tryd.prog 82 #[.bool neg, .slice A n c, I k] w (DyRes DV.zero w) := by
  have HA := Lib.hid (ha.ext (Ext.alloc w (.cells #[.bool false, .slice none 0 0, I 0] 24))); clear ha
  have HB := Lib.hid hb; clear hb
  obtain ⟨o1, o2, _⟩ := oa
  have HV := Lib.hid hv'; clear hv'
  have hz : Hid (len (0 / 2 ^ 0) = 0) := by show _ = _; rw [Nat.zero_div, len_zero]
  have hright : Hid (Calls Tryd.prog 87 #[.slice A 0 c, I 0] (w.alloc (.cells #[.bool false, .slice none 0 0, I 0] 24)) (RightRes 0 0 (w.alloc (.cells #[.bool false, .slice none 0 0, I 0] 24)))) := by
    have := rright_any A 0 0 c (w.alloc (.cells #[.bool false, .slice none 0 0, I 0] 24)) (by rw [len_zero]; exact Rd.none_) (by rw [len_zero]; decide) (by decide)
    rw [len_zero] at this
    exact this
  go_enter Tryd.func82, Tryd.ntmps82
  go_wp2_with (go_at_call 116; refine (rtrim_any A n c f _ HA.out HB.out o1 o2).mono ?_; rw [HV.out, len_zero]; rintro e w4 ⟨rfl, rfl⟩)
  go_loopw [7] (fun si wr => w.alloc (.cells #[.bool false, .slice none 0 0, I 0] 24) = wr ∧ si = I 0) (fun _ _ => 0)
  case atStart => exact ⟨rfl, rfl⟩
  case round =>
    obtain ⟨rfl, rfl⟩ := hrel
    by_cases hk0 : k = 0
    · subst hk0
      go_wp2_with (go_at_call 87; (with_reducible refine hright.out.mono ?_); rintro e w2 ⟨A1, c1, rfl, hon, hx⟩; rw [hz.out] at *; have HXT := Lib.hid hx; clear hon hx; obtain ⟨hc, hf⟩ := HXT.out.old; have hws : w.heap.size < (w.alloc (.cells #[.bool false, .slice none 0 0, I 0] 24)).heap.size := by simp)
      exact bodyPost_ret (v := dv false none 0 0 0) (by simp [results, Tryd.results82, go_sem, hc]) rfl (DyRes.zero (by repeat (first | exact (Ext.alloc _ _).trans HXT.out | refine Ext.set ?_ (Nat.le_refl _) _)))
    · have hk1 : (0 : Int) < (k : Int) := by omega
      go_wp2_with (go_at_call 87; (with_reducible refine hright.out.mono ?_); rintro e w2 ⟨A1, c1, rfl, hon, hx⟩; rw [hz.out] at *; have HXT := Lib.hid hx; clear hon hx; obtain ⟨hc, hf⟩ := HXT.out.old; have hws : w.heap.size < (w.alloc (.cells #[.bool false, .slice none 0 0, I 0] 24)).heap.size := by simp)
      exact bodyPost_ret (v := dv false none 0 0 0) (by simp [results, Tryd.results82, go_sem, hc]) rfl (DyRes.zero (by repeat (first | exact (Ext.alloc _ _).trans HXT.out | refine Ext.set ?_ (Nat.le_refl _) _)))

theorem rnumber_le (neg : Bool) (A : Option Addr) (n c k m : Nat) (f : Nat → Nat) (w : World) (ha : Rd w A n f) (oa : SlOk A n c) (hb : ∀ i, i < n → f i < 4294967296) (hv' : valN f n = m) (hn : n ≤ 33554432) (hk : k ≤ 65536) :
    Calls Tryd.prog 82 #[.bool neg, .slice A n c, I k] w (DyRes (mkD neg m k) w) := by
  by_cases hm : m = 0
  · subst hm
    rw [mkD_small hk, nrm_zero]
    exact rnumber_zero neg A n c k f w ha oa hb hv' hk
  · exact rnumber_fine neg A n c k m f w ha oa hb hv' hn (by omega) hm (by omega)
theorem rnumber_at (neg : Bool) (A : Option Addr) (c k m : Nat) (w : World) (ha : Rd w A (len m) (dg m)) (oa : SlOk A (len m) c) (hn : len m ≤ 33554432) (hk : k ≤ 65536) :
    Calls Tryd.prog 82 #[.bool neg, .slice A (len m) c, I k] w (DyRes (mkD neg m k) w) :=
  rnumber_le neg A (len m) c k m (dg m) w ha oa (fun i _ => dg_lt m i) (valN_dg_all (Nat.le_refl _)) hn hk

end Go.Proofs.YtgmmcfnahfcadaaDoor
