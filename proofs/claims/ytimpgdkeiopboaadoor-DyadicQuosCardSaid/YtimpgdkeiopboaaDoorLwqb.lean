/- The law DyadicQuos, where there is no quotient. -/
import Derived.Test.YtimpgdkeiopboaaDoorLwqa
import Derived.Test.YtimpgdkeiopboaaDoorRqu
import Derived.Test.YtimpgdkeiopboaaDoorQuz
namespace Go.Proofs.YtimpgdkeiopboaaDoor
open Go.RowKit

theorem same_zq {w : World} {A B : Option Addr} {c k : Nat} : Calls Tryd.prog 9 #[dv false A 0 c 0, dv false B 0 k 0] w fun e w' => e = .returned (.bool true) ∧ Ext w w' := by
  have := same_true (d := DV.zero) (w := w) (A := A) (B := B) (ca := c) (cb := k) (by rw [show len DV.zero.m = 0 from len_zero]; exact Rd.none_) (by rw [show len DV.zero.m = 0 from len_zero]; exact Rd.none_) (by rw [show len DV.zero.m = 0 from len_zero]; omega)
  rw [show len DV.zero.m = 0 from len_zero] at this; exact this
set_option maxRecDepth 100000 in
theorem num_errq (k : Int) (w : World) : Calls Tryd.prog 8 #[.iface 46 (I k)] w fun e w' => e = .returned (I k) ∧ w = w' := by
  have ta := run_assert_int (P := Tryd.prog) (xT := 28) (v := I k) (w := w) Tryd.underlying46
  go_enter Tryd.func8, Tryd.ntmps8
  go_wp2
  go_ret
  exact ⟨rfl, rfl⟩
set_option maxRecDepth 100000 in
theorem num_nilq (w : World) : Calls Tryd.prog 8 #[.nilIface] w fun e w' => e = .returned (I 0) ∧ w = w' := by
  go_enter Tryd.func8, Tryd.ntmps8
  go_wp2
  go_ret
  exact ⟨rfl, rfl⟩

set_option maxRecDepth 100000 in
set_option maxHeartbeats 4000000 in
theorem quos_err {w : World} {na nb : Bool} {A B : Option Addr} {n c k e : Nat} {da db nn : Int} (z : Int) (hz : z ≠ 0) (hT : Tabs w) (fa : fewOk n da) (fb : fewOk k db) (hlong : ¬ longQ n k da db nn)
    (hq : ∀ w', Ext w w' → Calls Tryd.prog 6 #[dv na A n c da, dv nb B k e db, I nn] w' (DyErr z w')) (hr : ∀ w', Ext w w' → Calls Tryd.prog 7 #[dv na A n c da, dv nb B k e db, I nn] w' fun e w2 => e = .returned (.tuple #[dv false none 0 0 0, I z]) ∧ Ext w' w2) :
    Calls Tryd.prog 3 #[dv na A n c da, dv nb B k e db, I nn] w fun e w' => e = .returned (.bool true) ∧ Ext w w' := by
  have HT := Lib.hid hT; clear hT
  have HQ := Lib.hid hq; have HR := Lib.hid hr; clear hq hr
  have HFW := Lib.hid (few2 fa fb)
  have HL := Lib.hid hlong
  clear fa fb hlong
  have HS : Hid (∀ w', Ext ((w.alloc (.cells #[.bool na, .slice A n c, I da] 24)).alloc (.cells #[.bool nb, .slice B k e, I db] 24)) w' → w'.cell? ⟨w.heap.size, 0, none⟩ = some (.bool na) ∧ w'.cell? ⟨w.heap.size, 1, none⟩ = some (.slice A n c) ∧ w'.cell? ⟨w.heap.size, 2, none⟩ = some (I da) ∧ w'.cell? ⟨w.heap.size + 1, 0, none⟩ = some (.bool nb) ∧ w'.cell? ⟨w.heap.size + 1, 1, none⟩ = some (.slice B k e) ∧ w'.cell? ⟨w.heap.size + 1, 2, none⟩ = some (I db)) := fun w' hx => by
    have ho := hx.old.1
    refine ⟨?_, ?_, ?_, ?_, ?_, ?_⟩ <;> (rw [ho _ _ (by simp; try omega)]; go_simp)
  have HW0 : Hid (Ext w ((w.alloc (.cells #[.bool na, .slice A n c, I da] 24)).alloc (.cells #[.bool nb, .slice B k e, I db] 24))) := (Ext.alloc _ _).trans (Ext.alloc _ _)
  have HZ : Hid (((w.alloc (.cells #[.bool na, .slice A n c, I da] 24)).alloc (.cells #[.bool nb, .slice B k e, I db] 24)).heap.size = w.heap.size + 1 + 1) := by show _ = _; simp
  go_enter Tryd.func3, Tryd.ntmps3
  go_upto_region 1 with fail
  go_cut [64] (fun s wx => s = .bool false ∧ Hid (Ext ((w.alloc (.cells #[.bool na, .slice A n c, I da] 24)).alloc (.cells #[.bool nb, .slice B k e, I db] 24)) wx))
  case first =>
    go_wp2_with fail
    have HN := Lib.hid (nums2 ((w.alloc (.cells #[.bool na, .slice A n c, I da] 24)).alloc (.cells #[.bool nb, .slice B k e, I db] 24)) (w.heap.size + 1 + 1) (by simp) na nb A B n k c e da db 24)
    with_reducible refine (few_true HN.out (by simp) (by omega) HFW.out).mono ?_
    rintro e wf ⟨rfl, hx⟩
    obtain ⟨x0, x1, x2, y0, y1, y2⟩ := HS.out _ ((Ext.alloc _ _).trans hx)
    have HEF := Lib.hid ((Ext.alloc _ _).trans hx)
    clear hx HN HFW
    go_wp2_with (go_at_call 5; (with_reducible refine (awake_any _ (HT.out.ext (HW0.out.trans HEF.out))).mono ?_); rintro e w0 ⟨rfl, hx⟩; have HEW := Lib.hid (HEF.out.trans hx); clear hx)
    all_goals
      first
        | (exfalso; have hl := HL.out; unfold longQ at hl; omega)
        | (go_meet; exact ⟨by have hl := HL.out; unfold longQ at hl; first | rfl | (simp; omega), HEW.out⟩)
  case rest =>
    obtain ⟨rfl, hE0⟩ := hcut
    obtain ⟨x0, x1, x2, y0, y1, y2⟩ := HS.out _ hE0.out
    have hz0 : (z == 0) = false := by simpa using hz
    go_wp2_with (first
      | (have hg := Y2; clear hg; go_at_call 9; (with_reducible refine same_zq.mono ?_); rintro e w4 ⟨rfl, hx⟩; have Y4 := Lib.hid (Y2.out.trans ((Ext.alloc _ _).trans hx)); clear hx)
      | (have hg := Y2; clear hg; go_at_call 8; (with_reducible refine (num_errq z _).mono ?_); rintro e w3 ⟨rfl, rfl⟩)
      | (have hg := Y1; clear hg; go_at_call 7; (with_reducible refine (HR.out _ (HW0.out.trans (Y1.out.trans (Ext.alloc _ _)))).mono ?_); rintro e w2 ⟨rfl, hx⟩; obtain ⟨z0, z1, z2⟩ := ((St.new w1 (.bool false) (.slice none 0 0) (I 0) 24).ext hx).ext (Ext.alloc w2 (.cells #[.bool false, .slice none 0 0, I 0] 24)); have Y2 := Lib.hid ((Y1.out.trans (Ext.alloc _ _)).trans hx); clear hx)
      | (go_at_call 6; (with_reducible refine (HQ.out _ (HW0.out.trans hE0.out)).mono ?_); rintro e w1 ⟨rfl, hx⟩; obtain ⟨x0, x1, x2, y0, y1, y2⟩ := HS.out _ ((hE0.out.trans hx).trans (Ext.alloc _ (.cells #[.bool false, .slice none 0 0, I 0] 24))); have Y1 := Lib.hid (hE0.out.trans hx); clear hx))
    go_ret
    exact ⟨rfl, HW0.out.trans Y4.out⟩
end Go.Proofs.YtimpgdkeiopboaaDoor
