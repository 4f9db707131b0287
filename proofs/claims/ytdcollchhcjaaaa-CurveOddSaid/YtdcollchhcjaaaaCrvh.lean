/- Curves: what is wrong with them first, by the reference. -/
import Derived.Test.YtdcollchhcjaaaaCrvd
namespace Go.Proofs.Ytdcollchhcjaaaa
open Go.RowKit

theorem rckFrom_step {X Y : Nat → Int} {n k : Nat} (hk : k < n) : ckFrom X Y (n - k) k = if ckAt X Y k = 0 then ckFrom X Y (n - (k + 1)) (k + 1) else ckAt X Y k := by
  rw [show n - k = (n - (k + 1)) + 1 by omega]; rfl
theorem rckAt_3 {X Y : Nat → Int} {k : Nat} (h : ¬ (-1073741824 ≤ X k ∧ X k ≤ 1073741824 ∧ -1073741824 ≤ Y k ∧ Y k ≤ 1073741824)) : ckAt X Y k = 3 := by unfold ckAt; rw [if_pos (by simp [out30]; omega)]
theorem rckAt_26 {X Y : Nat → Int} {k : Nat} (h1 : -1073741824 ≤ X (k + 1) ∧ X (k + 1) ≤ 1073741824 ∧ -1073741824 ≤ Y (k + 1) ∧ Y (k + 1) ≤ 1073741824) (h : X (k + 1) ≤ X k ∨ Y (k + 1) < Y k) : ckAt X Y (k + 1) = 26 := by
  unfold ckAt; rw [if_neg (by simp [out30]; omega), if_pos (by simpa using h)]
theorem rckAt_ok {X Y : Nat → Int} {k : Nat} (h1 : -1073741824 ≤ X (k + 1) ∧ X (k + 1) ≤ 1073741824 ∧ -1073741824 ≤ Y (k + 1) ∧ Y (k + 1) ≤ 1073741824) (h : ¬ X (k + 1) ≤ X k) (h' : ¬ Y (k + 1) < Y k) : ckAt X Y (k + 1) = 0 := by
  unfold ckAt; rw [if_neg (by simp [out30]; omega), if_neg (by simp; omega)]
theorem rckAt_zero {X Y : Nat → Int} (h1 : -1073741824 ≤ X 0 ∧ X 0 ≤ 1073741824 ∧ -1073741824 ≤ Y 0 ∧ Y 0 ≤ 1073741824) : ckAt X Y 0 = 0 := by
  unfold ckAt; rw [if_neg (by simp [out30]; omega), if_neg (by simp)]

set_option maxRecDepth 100000 in
set_option maxHeartbeats 8000000 in
theorem rcheck_any {w : World} {A B : Option Addr} {n c m e : Nat} {X Y : Nat → Int} (ra : Ri w A n X) (rb : Ri w B m Y) (hn : n ≤ maxLen) (hm : m ≤ maxLen) :
    Calls Try.prog 18 #[cv A n c B m e] w fun e' w' => e' = .returned (I (chk n m X Y)) ∧ Ext w w' := by
  unfold maxLen at hn hm
  by_cases h1 : n = m
  · subst h1
    by_cases h2 : 32 < n
    · have H := Lib.hid (show chk n n X Y = 4 by unfold chk; rw [if_neg (by omega), if_pos h2])
      clear ra rb
      go_enter Try.func18, Try.ntmps18
      go_wp2
      go_ret
      exact ⟨by rw [H.out]; rfl, Ext.alloc _ _⟩
    · by_cases h3 : n < 2
      · have H := Lib.hid (show chk n n X Y = 11 by unfold chk; rw [if_neg (by omega), if_neg h2, if_pos h3])
        clear ra rb
        go_enter Try.func18, Try.ntmps18
        go_wp2
        go_ret
        exact ⟨by rw [H.out]; rfl, Ext.alloc _ _⟩
      · have H := Lib.hid (show chk n n X Y = ckFrom X Y n 0 by unfold chk; rw [if_neg (by omega), if_neg h2, if_neg h3])
        obtain ⟨ba, oa, rfl, hba, ca⟩ := ra (by omega)
        obtain ⟨bb, ob, rfl, hbb, cb⟩ := rb (by omega)
        have CA := Lib.hid ca; clear ca ra
        have CB := Lib.hid cb; clear cb rb
        have ha2 : ba < w.heap.size + 1 := by omega
        have hb2 : bb < w.heap.size + 1 := by omega
        have ha3 : ba ≠ w.heap.size := by omega
        have hb3 : bb ≠ w.heap.size := by omega
        go_enter Try.func18, Try.ntmps18
        go_wp2_with fail
        go_loopw [3] (fun s wr => Ext (w.alloc (.cells #[.slice (some ⟨ba, oa, none⟩) n c, .slice (some ⟨bb, ob, none⟩) n e] 24)) wr ∧ ∃ k : Nat, k ≤ n ∧ s = I k ∧ Hid (ckFrom X Y n 0 = ckFrom X Y (n - k) k)) (fun s _ => n - (intOf s).toNat)
        case atStart => exact ⟨Ext.refl _, 0, Nat.zero_le _, rfl, rfl⟩
        case round =>
          obtain ⟨hb, k, hkn, rfl, HR⟩ := hrel
          obtain ⟨hc, hf⟩ := hb.old
          by_cases hlt : k < n
          · have HS := Lib.hid (rckFrom_step (X := X) (Y := Y) hlt)
            have xk := CA.out k hlt
            have yk := CB.out k hlt
            by_cases o1 : X k < -1073741824
            · have HV := Lib.hid (show chk n n X Y = 3 by rw [H.out, HR.out, HS.out, rckAt_3 (by omega)]; rfl)
              go_wp2_with fail
              go_ret
              exact ⟨by rw [HV.out]; rfl, (by repeat (first | exact Ext.refl _ | assumption | exact Ext.alloc _ _ | refine Ext.trans ?_ (by assumption) | refine Ext.trans ?_ (Ext.alloc _ _) | refine Ext.trans ?_ (Ext.drewN _ _) | refine Ext.trans ?_ (Ext.drew _)))⟩
            by_cases o2 : 1073741824 < X k
            · have HV := Lib.hid (show chk n n X Y = 3 by rw [H.out, HR.out, HS.out, rckAt_3 (by omega)]; rfl)
              go_wp2_with fail
              go_ret
              exact ⟨by rw [HV.out]; rfl, (by repeat (first | exact Ext.refl _ | assumption | exact Ext.alloc _ _ | refine Ext.trans ?_ (by assumption) | refine Ext.trans ?_ (Ext.alloc _ _) | refine Ext.trans ?_ (Ext.drewN _ _) | refine Ext.trans ?_ (Ext.drew _)))⟩
            by_cases o3 : Y k < -1073741824
            · have HV := Lib.hid (show chk n n X Y = 3 by rw [H.out, HR.out, HS.out, rckAt_3 (by omega)]; rfl)
              go_wp2_with fail
              go_ret
              exact ⟨by rw [HV.out]; rfl, (by repeat (first | exact Ext.refl _ | assumption | exact Ext.alloc _ _ | refine Ext.trans ?_ (by assumption) | refine Ext.trans ?_ (Ext.alloc _ _) | refine Ext.trans ?_ (Ext.drewN _ _) | refine Ext.trans ?_ (Ext.drew _)))⟩
            by_cases o4 : 1073741824 < Y k
            · have HV := Lib.hid (show chk n n X Y = 3 by rw [H.out, HR.out, HS.out, rckAt_3 (by omega)]; rfl)
              go_wp2_with fail
              go_ret
              exact ⟨by rw [HV.out]; rfl, (by repeat (first | exact Ext.refl _ | assumption | exact Ext.alloc _ _ | refine Ext.trans ?_ (by assumption) | refine Ext.trans ?_ (Ext.alloc _ _) | refine Ext.trans ?_ (Ext.drewN _ _) | refine Ext.trans ?_ (Ext.drew _)))⟩
            have HO := Lib.hid (show -1073741824 ≤ X k ∧ X k ≤ 1073741824 ∧ -1073741824 ≤ Y k ∧ Y k ≤ 1073741824 by omega)
            cases k with
            | zero =>
              have HV := Lib.hid (show ckFrom X Y n 0 = ckFrom X Y (n - 1) 1 by have := HS.out; rw [if_pos (rckAt_zero HO.out)] at this; exact this)
              rw [Nat.add_zero] at xk yk
              go_wp2_with fail
              go_quiet (fail)
              go_wp2_with fail
              go_roundw
              case rel => exact ⟨(by repeat (first | exact Ext.refl _ | assumption | exact Ext.alloc _ _ | refine Ext.trans ?_ (by assumption) | refine Ext.trans ?_ (Ext.alloc _ _) | refine Ext.trans ?_ (Ext.drewN _ _) | refine Ext.trans ?_ (Ext.drew _))), 1, by omega, rfl, HV.out⟩
              case measure => simp [intOf]; omega
            | succ j =>
              have xj := CA.out j (by omega)
              have yj := CB.out j (by omega)
              have e1 : IntKind.i64.wrap (((j + 1 : Nat) : Int) - 1) = (j : Int) := by rw [show ((j + 1 : Nat) : Int) - 1 = (j : Int) by omega]; exact IntWalk.i64_in _ (by omega)
              by_cases hx : X (j + 1) ≤ X j
              · have HV := Lib.hid (show chk n n X Y = 26 by rw [H.out, HR.out, HS.out, rckAt_26 HO.out (.inl hx)]; rfl)
                have hd1 : decide (X (j + 1) ≤ X j) = true := by simpa using hx
                go_wp2_with fail
                go_quiet (fail)
                go_wp2_with fail
                go_ret
                exact ⟨by rw [HV.out]; rfl, (by repeat (first | exact Ext.refl _ | assumption | exact Ext.alloc _ _ | refine Ext.trans ?_ (by assumption) | refine Ext.trans ?_ (Ext.alloc _ _) | refine Ext.trans ?_ (Ext.drewN _ _) | refine Ext.trans ?_ (Ext.drew _)))⟩
              · have hd1 : decide (X (j + 1) ≤ X j) = false := by simpa using hx
                by_cases hy : Y (j + 1) < Y j
                · have HV := Lib.hid (show chk n n X Y = 26 by rw [H.out, HR.out, HS.out, rckAt_26 HO.out (.inr hy)]; rfl)
                  have hd2 : decide (Y (j + 1) < Y j) = true := by simpa using hy
                  go_wp2_with fail
                  go_quiet (fail)
                  go_wp2_with fail
                  go_ret
                  exact ⟨by rw [HV.out]; rfl, (by repeat (first | exact Ext.refl _ | assumption | exact Ext.alloc _ _ | refine Ext.trans ?_ (by assumption) | refine Ext.trans ?_ (Ext.alloc _ _) | refine Ext.trans ?_ (Ext.drewN _ _) | refine Ext.trans ?_ (Ext.drew _)))⟩
                · have HV := Lib.hid (show ckFrom X Y n 0 = ckFrom X Y (n - (j + 1 + 1)) (j + 1 + 1) by have := HS.out; rw [if_pos (rckAt_ok HO.out hx hy)] at this; rw [HR.out]; exact this)
                  have hd2 : decide (Y (j + 1) < Y j) = false := by simpa using hy
                  go_wp2_with fail
                  go_quiet (fail)
                  go_wp2_with fail
                  go_roundw
                  case rel => exact ⟨(by repeat (first | exact Ext.refl _ | assumption | exact Ext.alloc _ _ | refine Ext.trans ?_ (by assumption) | refine Ext.trans ?_ (Ext.alloc _ _) | refine Ext.trans ?_ (Ext.drewN _ _) | refine Ext.trans ?_ (Ext.drew _))), j + 1 + 1, by omega, by go_num, HV.out⟩
                  case measure => simp [intOf]; omega
          · obtain rfl : k = n := by omega
            go_wp2_with fail
            go_ret
            exact ⟨by rw [H.out, HR.out, Nat.sub_self]; rfl, (by repeat (first | exact Ext.refl _ | assumption | exact Ext.alloc _ _ | refine Ext.trans ?_ (by assumption) | refine Ext.trans ?_ (Ext.alloc _ _) | refine Ext.trans ?_ (Ext.drewN _ _) | refine Ext.trans ?_ (Ext.drew _)))⟩
  · have H := Lib.hid (show chk n m X Y = 11 by unfold chk; rw [if_pos h1])
    clear ra rb
    go_enter Try.func18, Try.ntmps18
    go_wp2
    go_ret
    exact ⟨by rw [H.out]; rfl, Ext.alloc _ _⟩
end Go.Proofs.Ytdcollchhcjaaaa
