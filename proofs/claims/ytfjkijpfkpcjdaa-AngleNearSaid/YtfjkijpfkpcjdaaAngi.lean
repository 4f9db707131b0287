/- The law AngleNear: it returns true. -/
import Derived.Test.YtfjkijpfkpcjdaaAngf
import Derived.Deep.DeepCutAuto
namespace Go.Proofs.Ytfjkijpfkpcjdaa
open Go.RowKit

theorem unw_near (t d : Int) (h0 : -32768 ≤ d) (h1 : d ≤ 32767) (hp : -72057594037927936 ≤ t ∧ t ≤ 72057594037927936) : unw t (nrm (t + d)) = (t + d, 0) := by
  rw [unw_t hp]
  have : dff (nrm (t + d)) t = d := by unfold dff nrm; omega
  rw [this]
theorem unwrap_is (p a v : Int) (w : World) (h : unw p a = (v, 0)) : Calls Try.prog 29 #[I p, I a] w fun e w' => e = .returned (.tuple #[I v, .nilIface]) ∧ Ext w w' :=
  (unwrap_any p a w).mono fun _ _ ⟨he, hw⟩ => ⟨by rw [he, h]; rfl, hw⟩

set_option maxRecDepth 100000 in
set_option maxHeartbeats 1000000 in
theorem near_long (p : Int) (a : Option Addr) (L cap : Nat) (w : World) (hL : 1000 < L) (hm : L ≤ maxLen) :
    Calls Try.prog 12 #[I p, .slice a L cap] w fun e w' => e = .returned (.bool true) ∧ Ext w w' := by
  unfold maxLen at hm
  go_enter Try.func12, Try.ntmps12
  go_wp2_with (first | (go_at_call 13; refine (awake_any _).mono ?_; rintro e w1 ⟨rfl, hb1⟩; (first | replace hb := Ext.trans hb hb1 | replace hb := Ext.trans (Ext.trans hb (Ext.drewN _ _)) hb1 | replace hb := Ext.trans (Ext.trans hb (Ext.alloc _ _)) hb1 | have hb := hb1); clear hb1; obtain ⟨hc1, hf1⟩ := hb.old))
  go_ret
  exact ⟨rfl, (by repeat (first | exact Ext.refl _ | assumption | exact Ext.alloc _ _ | refine Ext.trans ?_ (by assumption) | refine Ext.trans ?_ (Ext.alloc _ _) | refine Ext.trans ?_ (Ext.drewN _ _) | refine Ext.trans ?_ (Ext.drew _)))⟩

set_option maxRecDepth 100000 in
set_option maxHeartbeats 1000000 in
theorem near_any (p : Int) (a : Option Addr) (f : Nat → Int) (L cap : Nat) (w : World) (hL : L ≤ 1000)
    (ha : ∀ k, k < L → ∃ b off : Nat, a = some ⟨b, off, none⟩ ∧ b < w.heap.size ∧ w.cell? ⟨b, off + k, none⟩ = some (.int .i16 (f k))) (hf0 : ∀ k, k < L → -32768 ≤ f k ∧ f k ≤ 32767) :
    Calls Try.prog 12 #[I p, .slice a L cap] w fun e w' => e = .returned (.bool true) ∧ Ext w w' := by
  obtain ⟨p0, p1⟩ := clp_bd p (-1125899906842624) 1125899906842624 (by decide)
  have HA := Lib.hid ha; clear ha
  have HF := Lib.hid hf0; clear hf0
  go_enter Try.func12, Try.ntmps12
  go_wp2_with (first | (go_at_call 13; refine (awake_any _).mono ?_; rintro e w1 ⟨rfl, hb1⟩; (first | replace hb := Ext.trans hb hb1 | replace hb := Ext.trans (Ext.trans hb (Ext.drewN _ _)) hb1 | replace hb := Ext.trans (Ext.trans hb (Ext.alloc _ _)) hb1 | have hb := hb1); clear hb1; obtain ⟨hc1, hf1⟩ := hb.old) | (go_at_call 33; refine (clip_any _ _ _ _ (by decide)).mono ?_; rintro e w1 ⟨rfl, hb1⟩; (first | replace hb := Ext.trans hb hb1 | replace hb := Ext.trans (Ext.trans hb (Ext.drewN _ _)) hb1 | replace hb := Ext.trans (Ext.trans hb (Ext.alloc _ _)) hb1 | have hb := hb1); clear hb1; obtain ⟨hc1, hf1⟩ := hb.old))
  go_loopw [0, 5, 24] (fun q s c wr => Ext w wr ∧ ∃ (k : Nat) (t : Int), k ≤ L ∧ c = I k ∧ q = I t ∧ s = I t ∧ -1125899906842624 - 32768 * (k : Int) ≤ t ∧ t ≤ 1125899906842624 + 32768 * (k : Int)) (fun _ _ c _ => L - (intOf c).toNat)
  case atStart => exact ⟨(by repeat (first | exact Ext.refl _ | assumption | exact Ext.alloc _ _ | refine Ext.trans ?_ (by assumption) | refine Ext.trans ?_ (Ext.alloc _ _) | refine Ext.trans ?_ (Ext.drewN _ _) | refine Ext.trans ?_ (Ext.drew _))), 0, _, Nat.zero_le _, rfl, rfl, rfl, by omega, by omega⟩
  case round =>
    clear hb p0 p1
    obtain ⟨hb, k, t, hk, rfl, rfl, rfl, t0, t1⟩ := hrel
    obtain ⟨hc, hf⟩ := hb.old
    by_cases hlt : k < L
    · obtain ⟨b, off, rfl, hbb, ca⟩ := HA.out k hlt
      obtain ⟨g0, g1⟩ := HF.out k hlt
      obtain ⟨d, hd⟩ : ∃ d, f k = d := ⟨_, rfl⟩
      rw [hd] at ca g0 g1
      clear hd
      have HU := Lib.hid (unw_near t d g0 g1 ⟨by omega, by omega⟩)
      go_wp2_with (first
        | (go_at_call 14; refine (norm_any _ _).mono ?_; rintro e w1 ⟨rfl, hb1⟩; (first | replace hb := Ext.trans hb hb1 | replace hb := Ext.trans (Ext.trans hb (Ext.drewN _ _)) hb1 | replace hb := Ext.trans (Ext.trans hb (Ext.alloc _ _)) hb1 | have hb := hb1); clear hb1; obtain ⟨hc1, hf1⟩ := hb.old)
        | (go_at_call 29; (with_reducible refine (unwrap_is _ _ _ _ HU.out).mono ?_); rintro e w1 ⟨rfl, hb1⟩; replace hb := Ext.trans hb hb1; clear hb1; obtain ⟨hc1, hf1⟩ := hb.old))
      go_roundw
      case rel => exact ⟨(by repeat (first | exact Ext.refl _ | assumption | exact Ext.alloc _ _ | refine Ext.trans ?_ (by assumption) | refine Ext.trans ?_ (Ext.alloc _ _) | refine Ext.trans ?_ (Ext.drewN _ _) | refine Ext.trans ?_ (Ext.drew _))), k + 1, t + d, by omega, by go_num, rfl, rfl, by omega, by omega⟩
      case measure => simp [intOf]; omega
    · obtain rfl : k = L := by omega
      go_wp2_with fail
      go_ret
      exact ⟨rfl, (by repeat (first | exact Ext.refl _ | assumption | exact Ext.alloc _ _ | refine Ext.trans ?_ (by assumption) | refine Ext.trans ?_ (Ext.alloc _ _) | refine Ext.trans ?_ (Ext.drewN _ _) | refine Ext.trans ?_ (Ext.drew _)))⟩
end Go.Proofs.Ytfjkijpfkpcjdaa
