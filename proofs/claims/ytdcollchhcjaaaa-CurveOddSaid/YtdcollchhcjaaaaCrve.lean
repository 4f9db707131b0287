/- Curves: what is wrong with them first. -/
import Derived.Test.YtdcollchhcjaaaaCrvc
namespace Go.Proofs.Ytdcollchhcjaaaa
open Go.RowKit

theorem outside_is {x : Int} {b : Bool} (h : out30 x = b) (w : World) : Calls Try.prog 35 #[I x] w fun e w' => e = .returned (.bool b) ∧ Ext w w' := by
  subst h; exact outside_any x w
theorem ckFrom_step {X Y : Nat → Int} {n k : Nat} (hk : k < n) : ckFrom X Y (n - k) k = if ckAt X Y k = 0 then ckFrom X Y (n - (k + 1)) (k + 1) else ckAt X Y k := by
  rw [show n - k = (n - (k + 1)) + 1 by omega]; rfl
theorem ckAt_3 {X Y : Nat → Int} {k : Nat} (h : out30 (X k) = true ∨ out30 (Y k) = true) : ckAt X Y k = 3 := by unfold ckAt; rw [if_pos h]
theorem ckAt_26 {X Y : Nat → Int} {k : Nat} (h1 : out30 (X (k + 1)) = false) (h2 : out30 (Y (k + 1)) = false) (h : X (k + 1) ≤ X k ∨ Y (k + 1) < Y k) : ckAt X Y (k + 1) = 26 := by
  unfold ckAt; rw [if_neg (by simp [h1, h2]), if_pos (by simpa using h)]
theorem ckAt_ok {X Y : Nat → Int} {k : Nat} (h1 : out30 (X (k + 1)) = false) (h2 : out30 (Y (k + 1)) = false) (h : ¬ X (k + 1) ≤ X k) (h' : ¬ Y (k + 1) < Y k) : ckAt X Y (k + 1) = 0 := by
  unfold ckAt; rw [if_neg (by simp [h1, h2]), if_neg (by simp; omega)]
theorem ckAt_zero {X Y : Nat → Int} (h1 : out30 (X 0) = false) (h2 : out30 (Y 0) = false) : ckAt X Y 0 = 0 := by
  unfold ckAt; rw [if_neg (by simp [h1, h2]), if_neg (by simp)]

set_option maxRecDepth 100000 in
set_option maxHeartbeats 8000000 in
theorem check_any {w : World} {A B : Option Addr} {n c m e : Nat} {X Y : Nat → Int} (ra : Ri w A n X) (rb : Ri w B m Y) (hn : n ≤ maxLen) (hm : m ≤ maxLen) :
    Calls Try.prog 17 #[cv A n c B m e] w fun e' w' => e' = .returned (errv (chk n m X Y)) ∧ Ext w w' := by
  unfold maxLen at hn hm
  by_cases h1 : n = m
  · subst h1
    by_cases h2 : 32 < n
    · have H := Lib.hid (show chk n n X Y = 4 by unfold chk; rw [if_neg (by omega), if_pos h2])
      clear ra rb
      go_enter Try.func17, Try.ntmps17
      go_wp2
      go_ret
      exact ⟨by rw [H.out]; rfl, Ext.alloc _ _⟩
    · by_cases h3 : n < 2
      · have H := Lib.hid (show chk n n X Y = 11 by unfold chk; rw [if_neg (by omega), if_neg h2, if_pos h3])
        clear ra rb
        go_enter Try.func17, Try.ntmps17
        go_wp2
        go_ret
        exact ⟨by rw [H.out]; rfl, Ext.alloc _ _⟩
      · have H := Lib.hid (show chk n n X Y = ckFrom X Y n 0 by unfold chk; rw [if_neg (by omega), if_neg h2, if_neg h3])
        obtain ⟨ba, oa, rfl, hba, ca⟩ := ra (by omega)
        obtain ⟨bb, ob, rfl, hbb, cb⟩ := rb (by omega)
        have CA := Lib.hid ca; clear ca ra
        have CB := Lib.hid cb; clear cb rb
        have ha2 : ba < w.heap.size + 1 := by omega
        have hb2 : bb < w.heap.size + 1 := by omega
        have ha3 : ba ≠ w.heap.size := by omega
        have hb3 : bb ≠ w.heap.size := by omega
        go_enter Try.func17, Try.ntmps17
        go_wp2_with fail
        go_loopw [25] (fun s wr => Ext (w.alloc (.cells #[.slice (some ⟨ba, oa, none⟩) n c, .slice (some ⟨bb, ob, none⟩) n e] 24)) wr ∧ ∃ k : Nat, k ≤ n ∧ s = I k ∧ Hid (ckFrom X Y n 0 = ckFrom X Y (n - k) k)) (fun s _ => n - (intOf s).toNat)
        case atStart => exact ⟨Ext.refl _, 0, Nat.zero_le _, rfl, rfl⟩
        case round =>
          obtain ⟨hb, k, hkn, rfl, HR⟩ := hrel
          obtain ⟨hc, hf⟩ := hb.old
          by_cases hlt : k < n
          · have HS := Lib.hid (ckFrom_step (X := X) (Y := Y) hlt)
            have xk := CA.out k hlt
            have yk := CB.out k hlt
            cases ho1 : out30 (X k) with
            | true =>
              have HV := Lib.hid (show chk n n X Y = 3 by rw [H.out, HR.out, HS.out, ckAt_3 (.inl ho1)]; rfl)
              have HC1 := Lib.hid (outside_is ho1); clear ho1
              go_wp2_with (first | (go_at_call 35; (with_reducible refine (HC1.out _).mono ?_); rintro e w1 ⟨rfl, hb1⟩; replace hb := Ext.trans hb hb1; clear hb1; obtain ⟨hc1, hf1⟩ := hb.old))
              go_ret
              exact ⟨by rw [HV.out]; rfl, (by repeat (first | exact Ext.refl _ | assumption | exact Ext.alloc _ _ | refine Ext.trans ?_ (by assumption) | refine Ext.trans ?_ (Ext.alloc _ _) | refine Ext.trans ?_ (Ext.drewN _ _) | refine Ext.trans ?_ (Ext.drew _)))⟩
            | false =>
              cases ho2 : out30 (Y k) with
              | true =>
                have HV := Lib.hid (show chk n n X Y = 3 by rw [H.out, HR.out, HS.out, ckAt_3 (.inr ho2)]; rfl)
                have HC1 := Lib.hid (outside_is ho1); clear ho1
                have HC2 := Lib.hid (outside_is ho2); clear ho2
                go_wp2_with (first | (go_at_call 35; (with_reducible refine (HC1.out _).mono ?_); rintro e w1 ⟨rfl, hb1⟩; replace hb := Ext.trans hb hb1; clear hb1; obtain ⟨hc1, hf1⟩ := hb.old) | (go_at_call 35; (with_reducible refine (HC2.out _).mono ?_); rintro e w1 ⟨rfl, hb1⟩; replace hb := Ext.trans hb hb1; clear hb1; obtain ⟨hc1, hf1⟩ := hb.old))
                go_ret
                exact ⟨by rw [HV.out]; rfl, (by repeat (first | exact Ext.refl _ | assumption | exact Ext.alloc _ _ | refine Ext.trans ?_ (by assumption) | refine Ext.trans ?_ (Ext.alloc _ _) | refine Ext.trans ?_ (Ext.drewN _ _) | refine Ext.trans ?_ (Ext.drew _)))⟩
              | false =>
                cases k with
                | zero =>
                  have HV := Lib.hid (show ckFrom X Y n 0 = ckFrom X Y (n - 1) 1 by have := HS.out; rw [if_pos (ckAt_zero ho1 ho2)] at this; exact this)
                  have HC1 := Lib.hid (outside_is ho1); clear ho1
                  have HC2 := Lib.hid (outside_is ho2); clear ho2
                  rw [Nat.add_zero] at xk yk
                  go_wp2_with (first | (go_at_call 35; (with_reducible refine (HC1.out _).mono ?_); rintro e w1 ⟨rfl, hb1⟩; replace hb := Ext.trans hb hb1; clear hb1; obtain ⟨hc1, hf1⟩ := hb.old) | (go_at_call 35; (with_reducible refine (HC2.out _).mono ?_); rintro e w1 ⟨rfl, hb1⟩; replace hb := Ext.trans hb hb1; clear hb1; obtain ⟨hc1, hf1⟩ := hb.old))
                  go_quiet (fail)
                  go_wp2_with fail
                  go_roundw
                  case rel => exact ⟨(by repeat (first | exact Ext.refl _ | assumption | exact Ext.alloc _ _ | refine Ext.trans ?_ (by assumption) | refine Ext.trans ?_ (Ext.alloc _ _) | refine Ext.trans ?_ (Ext.drewN _ _) | refine Ext.trans ?_ (Ext.drew _))), 1, by omega, rfl, HV.out⟩
                  case measure => simp [intOf]; omega
                | succ j =>
                  have xj := CA.out j (by omega)
                  have yj := CB.out j (by omega)
                  have e1 : IntKind.i64.wrap (((j + 1 : Nat) : Int) - 1) = (j : Int) := by rw [show ((j + 1 : Nat) : Int) - 1 = (j : Int) by omega]; exact IntWalk.i64_in _ (by omega)
                  by_cases hx : X (j + 1) ≤ X j
                  · have HV := Lib.hid (show chk n n X Y = 26 by rw [H.out, HR.out, HS.out, ckAt_26 ho1 ho2 (.inl hx)]; rfl)
                    have hd1 : decide (X (j + 1) ≤ X j) = true := by simpa using hx
                    have HC1 := Lib.hid (outside_is ho1); clear ho1
                    have HC2 := Lib.hid (outside_is ho2); clear ho2
                    go_wp2_with (first | (go_at_call 35; (with_reducible refine (HC1.out _).mono ?_); rintro e w1 ⟨rfl, hb1⟩; replace hb := Ext.trans hb hb1; clear hb1; obtain ⟨hc1, hf1⟩ := hb.old) | (go_at_call 35; (with_reducible refine (HC2.out _).mono ?_); rintro e w1 ⟨rfl, hb1⟩; replace hb := Ext.trans hb hb1; clear hb1; obtain ⟨hc1, hf1⟩ := hb.old))
                    go_quiet (fail)
                    go_wp2_with fail
                    go_ret
                    exact ⟨by rw [HV.out]; rfl, (by repeat (first | exact Ext.refl _ | assumption | exact Ext.alloc _ _ | refine Ext.trans ?_ (by assumption) | refine Ext.trans ?_ (Ext.alloc _ _) | refine Ext.trans ?_ (Ext.drewN _ _) | refine Ext.trans ?_ (Ext.drew _)))⟩
                  · by_cases hy : Y (j + 1) < Y j
                    · have HV := Lib.hid (show chk n n X Y = 26 by rw [H.out, HR.out, HS.out, ckAt_26 ho1 ho2 (.inr hy)]; rfl)
                      have HC1 := Lib.hid (outside_is ho1); clear ho1
                      have HC2 := Lib.hid (outside_is ho2); clear ho2
                      go_wp2_with (first | (go_at_call 35; (with_reducible refine (HC1.out _).mono ?_); rintro e w1 ⟨rfl, hb1⟩; replace hb := Ext.trans hb hb1; clear hb1; obtain ⟨hc1, hf1⟩ := hb.old) | (go_at_call 35; (with_reducible refine (HC2.out _).mono ?_); rintro e w1 ⟨rfl, hb1⟩; replace hb := Ext.trans hb hb1; clear hb1; obtain ⟨hc1, hf1⟩ := hb.old))
                      have hd1 : decide (X (j + 1) ≤ X j) = false := by simpa using hx
                      have hd2 : decide (Y (j + 1) < Y j) = true := by simpa using hy
                      go_quiet (fail)
                      go_wp2_with fail
                      go_ret
                      exact ⟨by rw [HV.out]; rfl, (by repeat (first | exact Ext.refl _ | assumption | exact Ext.alloc _ _ | refine Ext.trans ?_ (by assumption) | refine Ext.trans ?_ (Ext.alloc _ _) | refine Ext.trans ?_ (Ext.drewN _ _) | refine Ext.trans ?_ (Ext.drew _)))⟩
                    · have HV := Lib.hid (show ckFrom X Y n 0 = ckFrom X Y (n - (j + 1 + 1)) (j + 1 + 1) by have := HS.out; rw [if_pos (ckAt_ok ho1 ho2 hx hy)] at this; rw [HR.out]; exact this)
                      have HC1 := Lib.hid (outside_is ho1); clear ho1
                      have HC2 := Lib.hid (outside_is ho2); clear ho2
                      go_wp2_with (first | (go_at_call 35; (with_reducible refine (HC1.out _).mono ?_); rintro e w1 ⟨rfl, hb1⟩; replace hb := Ext.trans hb hb1; clear hb1; obtain ⟨hc1, hf1⟩ := hb.old) | (go_at_call 35; (with_reducible refine (HC2.out _).mono ?_); rintro e w1 ⟨rfl, hb1⟩; replace hb := Ext.trans hb hb1; clear hb1; obtain ⟨hc1, hf1⟩ := hb.old))
                      have hd1 : decide (X (j + 1) ≤ X j) = false := by simpa using hx
                      have hd2 : decide (Y (j + 1) < Y j) = false := by simpa using hy
                      go_quiet (fail)
                      go_wp2_with fail
                      go_roundw
                      case rel => exact ⟨(by repeat (first | exact Ext.refl _ | assumption | exact Ext.alloc _ _ | refine Ext.trans ?_ (by assumption) | refine Ext.trans ?_ (Ext.alloc _ _) | refine Ext.trans ?_ (Ext.drewN _ _) | refine Ext.trans ?_ (Ext.drew _))), j + 1 + 1, by omega, by go_num, HV.out⟩
                      case measure => simp [intOf]; omega
          · obtain rfl : k = n := by omega
            go_wp2_with fail
            go_ret
            exact ⟨by rw [H.out, HR.out, Nat.sub_self]; rfl, (by repeat (first | exact Ext.refl _ | assumption | exact Ext.alloc _ _ | refine Ext.trans ?_ (by assumption) | refine Ext.trans ?_ (Ext.alloc _ _) | refine Ext.trans ?_ (Ext.drewN _ _) | refine Ext.trans ?_ (Ext.drew _)))⟩
  · have H := Lib.hid (show chk n m X Y = 11 by unfold chk; rw [if_pos h1])
    clear ra rb
    go_enter Try.func17, Try.ntmps17
    go_wp2
    go_ret
    exact ⟨by rw [H.out]; rfl, Ext.alloc _ _⟩
end Go.Proofs.Ytdcollchhcjaaaa
