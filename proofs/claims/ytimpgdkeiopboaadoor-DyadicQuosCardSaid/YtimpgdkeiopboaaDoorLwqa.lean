/- The law DyadicQuos, where a number or the grid is too long. -/
import Derived.Test.YtimpgdkeiopboaaDoorLawo
import Derived.Deep.DeepCutAuto
namespace Go.Proofs.YtimpgdkeiopboaaDoor
open Go.RowKit

def longQ (n k : Nat) (da db nn : Int) : Prop := 6 < n ∨ 6 < k ∨ (100 < da ∧ da ≤ 65536) ∨ (100 < db ∧ db ≤ 65536) ∨ (100 < nn ∧ nn ≤ 65536)
instance (n k : Nat) (da db nn : Int) : Decidable (longQ n k da db nn) := inferInstanceAs (Decidable (_ ∨ _))

set_option maxRecDepth 100000 in
set_option maxHeartbeats 1000000 in
theorem quos_off {w : World} {na nb : Bool} {A B : Option Addr} {n c k e : Nat} {da db nn : Int} (hT : Tabs w) (h : ¬ (fewOk n da ∧ fewOk k db)) :
    Calls Tryd.prog 3 #[dv na A n c da, dv nb B k e db, I nn] w fun e w' => e = .returned (.bool true) ∧ Ext w w' := by
  have HT := Lib.hid hT; clear hT
  have HFW := Lib.hid (few2_not h)
  clear h
  go_enter Tryd.func3, Tryd.ntmps3
  go_wp2_with fail
  have HN := Lib.hid (nums2 ((w.alloc (.cells #[.bool na, .slice A n c, I da] 24)).alloc (.cells #[.bool nb, .slice B k e, I db] 24)) (w.heap.size + 1 + 1) (by simp) na nb A B n k c e da db 24)
  with_reducible refine (few_false HN.out (by simp) (by omega) HFW.out).mono ?_
  rintro e wf ⟨rfl, hx⟩
  have HEF : Hid (Ext w wf) := (((Ext.alloc _ _).trans (Ext.alloc _ _)).trans (Ext.alloc _ _)).trans hx
  clear hx
  go_wp2_with fail
  refine (awake_any _ (HT.out.ext HEF.out)).mono ?_
  rintro e w0 ⟨rfl, hx⟩
  have HEW := Lib.hid (HEF.out.trans hx)
  clear hx
  go_wp2_with fail
  go_ret
  exact ⟨rfl, HEW.out⟩

set_option maxRecDepth 100000 in
set_option maxHeartbeats 4000000 in
theorem quos_long {w : World} {na nb : Bool} {A B : Option Addr} {n c k e : Nat} {da db nn : Int} (hT : Tabs w) (fa : fewOk n da) (fb : fewOk k db) (h : longQ n k da db nn) :
    Calls Tryd.prog 3 #[dv na A n c da, dv nb B k e db, I nn] w fun e w' => e = .returned (.bool true) ∧ Ext w w' := by
  have HT := Lib.hid hT; clear hT
  have HFW := Lib.hid (few2 fa fb)
  have HL := Lib.hid h
  clear fa fb h
  have HS : Hid (∀ w', Ext ((w.alloc (.cells #[.bool na, .slice A n c, I da] 24)).alloc (.cells #[.bool nb, .slice B k e, I db] 24)) w' → w'.cell? ⟨w.heap.size, 1, none⟩ = some (.slice A n c) ∧ w'.cell? ⟨w.heap.size, 2, none⟩ = some (I da) ∧ w'.cell? ⟨w.heap.size + 1, 1, none⟩ = some (.slice B k e) ∧ w'.cell? ⟨w.heap.size + 1, 2, none⟩ = some (I db)) := fun w' hx => by
    have ho := hx.old.1
    refine ⟨?_, ?_, ?_, ?_⟩ <;> (rw [ho _ _ (by simp; try omega)]; go_simp)
  go_enter Tryd.func3, Tryd.ntmps3
  go_wp2_with fail
  have HN := Lib.hid (nums2 ((w.alloc (.cells #[.bool na, .slice A n c, I da] 24)).alloc (.cells #[.bool nb, .slice B k e, I db] 24)) (w.heap.size + 1 + 1) (by simp) na nb A B n k c e da db 24)
  with_reducible refine (few_true HN.out (by simp) (by omega) HFW.out).mono ?_
  rintro e wf ⟨rfl, hx⟩
  obtain ⟨x1, x2, y1, y2⟩ := HS.out _ ((Ext.alloc _ _).trans hx)
  have HEF : Hid (Ext w wf) := (((Ext.alloc _ _).trans (Ext.alloc _ _)).trans (Ext.alloc _ _)).trans hx
  clear hx HN HFW HS
  go_wp2_with (first
    | (go_at_call 5; (with_reducible refine (awake_any _ (HT.out.ext HEF.out)).mono ?_); rintro e w0 ⟨rfl, hx⟩; have HEW := Lib.hid (HEF.out.trans hx); clear hx)
    | (go_at_call 6; exfalso; have hl := HL.out; unfold longQ at hl; omega))
  all_goals
    first
      | (exfalso; have hl := HL.out; unfold longQ at hl; omega)
      | (go_ret; exact ⟨rfl, HEW.out⟩)
end Go.Proofs.YtimpgdkeiopboaaDoor
