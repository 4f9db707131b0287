/- The reference's Of. -/
import Derived.Test.YtlnphamgmicniaaGreatDoorRefn
import Derived.Test.YtlnphamgmicniaaGreatDoorMdyf
import Derived.Deep.DeepCutAuto
import Derived.Deep.DrawnRows
namespace Go.Proofs.YtlnphamgmicniaaGreatDoor
open Go.RowKit

theorem rnumber_two (neg : Bool) (g lo hi m : Nat) (w : World) (hg : g < w.heap.size) (h0 : w.cell? ⟨g, 0, none⟩ = some (U4 lo)) (h1 : w.cell? ⟨g, 1, none⟩ = some (U4 hi)) (hlo : lo < 4294967296) (hhi : hi < 4294967296) (hm : lo + hi * 4294967296 = m) :
    Calls Tryz.prog 123 #[.bool neg, .slice (some ⟨g, 0, none⟩) 2 2, I 0] w (DyRes (mkD neg m 0) w) := by
  have h := rnumber_any neg (some ⟨g, 0, none⟩) 2 2 0 m (fun i => if i = 0 then lo else hi) w (fun _ => ⟨g, 0, rfl, hg, fun i hi2 => by
      have : i = 0 ∨ i = 1 := by omega
      rcases this with rfl | rfl
      · exact h0
      · exact h1⟩) ⟨Nat.le_refl _, by unfold maxLen; omega, fun e => by cases e⟩ (fun i hi2 => by
      have : i = 0 ∨ i = 1 := by omega
      rcases this with rfl | rfl
      · exact hlo
      · exact hhi) (by
      rw [← hm]
      show 0 + _ * pB 0 + _ * pB 1 = _
      have e1 : pB 1 = 4294967296 := by unfold pB; rw [Nat.pow_one]
      rw [pB_zero, e1]
      simp) (by omega) (by omega)
  exact h

set_option maxRecDepth 100000 in
set_option maxHeartbeats 1000000 in
theorem rof_any (n : Int) (w : World) (h1 : -9223372036854775808 ≤ n) (h2 : n ≤ 9223372036854775807) : Calls Tryz.prog 95 #[I n] w (DyRes (ofI n 0) w) := by
  have SB := Lib.hid (Bx.new w (.bool false) (.slice none 0 0) (I 0) 25)
  obtain ⟨m, hm⟩ : ∃ m, n.natAbs = m := ⟨_, rfl⟩
  obtain ⟨lo, hlo⟩ : ∃ x, m % 4294967296 = x := ⟨_, rfl⟩
  obtain ⟨hi, hhi⟩ : ∃ x, m / 4294967296 = x := ⟨_, rfl⟩
  have el : (m : Int) % 4294967296 = (lo : Int) := by omega
  have eh : (m : Int) / 4294967296 = (hi : Int) := by omega
  have hlb : lo < 4294967296 := by omega
  have hhb : hi < 4294967296 := by omega
  have eh2 : (hi : Int) % 4294967296 = (hi : Int) := by omega
  have hsum : Hid (lo + hi * 4294967296 = m) := by show _ = _; omega
  have HLO := Lib.hid hlb; have HHI := Lib.hid hhb
  by_cases hn : n < 0
  · have HD : Hid (mkD true m 0 = ofI n 0) := by show _ = _; unfold ofI; rw [hm, decide_eq_true hn]
    have e1 : -(n + 1) % 18446744073709551616 = -(n + 1) := by omega
    have e2 : -(n + 1) + 1 = (m : Int) := by omega
    obtain ⟨d', hd'⟩ : ∃ d', ofI n 0 = d' := ⟨_, rfl⟩
    rw [hd'] at HD ⊢
    clear hd' hm hlo hhi
    go_enter Tryz.func95, Tryz.ntmps95
    go_wp2_with (go_at_call 123; (with_reducible refine (rnumber_two true _ lo hi m _ (by go_simp) (by go_simp) (by go_simp) HLO.out HHI.out hsum.out).mono ?_); rw [HD.out]; rintro e w2 ⟨A2, c2, rfl, hon, hx⟩; obtain ⟨⟨r0, r1, r2⟩, rz⟩ := SB.out.ext ((Ext.alloc _ _).trans hx); have HO := Lib.hid hon; have HX := Lib.hid (((Ext.alloc _ _).trans (Ext.alloc _ _)).trans hx); clear hon hx)
    exact bodyPost_ret (v := dv d'.neg A2 (len d'.m) c2 d'.den) (by simp [results, Tryz.results95, go_sem, r0, r1, r2]) rfl (DyRes.end3 rfl HO.out HX.out (by simp; omega) (Nat.le_refl _) (by simp; omega))
  · have HD : Hid (mkD false m 0 = ofI n 0) := by show _ = _; unfold ofI; rw [hm, decide_eq_false hn]
    have e1 : n % 18446744073709551616 = (m : Int) := by omega
    have e2 : n = (m : Int) := by omega
    obtain ⟨d', hd'⟩ : ∃ d', ofI n 0 = d' := ⟨_, rfl⟩
    rw [hd'] at HD ⊢
    subst e2
    have e3 : ¬ (m : Int) < 0 := by omega
    clear hd' hm hlo hhi hn
    go_enter Tryz.func95, Tryz.ntmps95
    go_wp2_with (go_at_call 123; (with_reducible refine (rnumber_two false _ lo hi m _ (by go_simp) (by go_simp) (by go_simp) HLO.out HHI.out hsum.out).mono ?_); rw [HD.out]; rintro e w2 ⟨A2, c2, rfl, hon, hx⟩; obtain ⟨⟨r0, r1, r2⟩, rz⟩ := SB.out.ext ((Ext.alloc _ _).trans hx); have HO := Lib.hid hon; have HX := Lib.hid (((Ext.alloc _ _).trans (Ext.alloc _ _)).trans hx); clear hon hx)
    exact bodyPost_ret (v := dv d'.neg A2 (len d'.m) c2 d'.den) (by simp [results, Tryz.results95, go_sem, r0, r1, r2]) rfl (DyRes.end3 rfl HO.out HX.out (by simp; omega) (Nat.le_refl _) (by simp; omega))
end Go.Proofs.YtlnphamgmicniaaGreatDoor
