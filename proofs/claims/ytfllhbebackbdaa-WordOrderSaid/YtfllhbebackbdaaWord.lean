/- Contracts of the functions of package word and of its reference. -/
import Derived.Test.YtfllhbebackbdaaRows
import Derived.Test.YtfllhbebackbdaaNum
import Derived.WalkSpells
import Derived.WalkLawsBesides
namespace Go.Proofs.Ytfllhbebackbdaa
open Go.RowKit

/-- An error by its number; 0 is none. -/
def errv (k : Int) : Value := if k = 0 then .nilIface else .iface 68 (I k)
abbrev fmt (b s : Int) : Value := .agg #[I b, I s]
theorem ret_err {v : Value} {k : Int} (h : v = errv k) : Ending.returned v = .returned (errv k) := by rw [h]
theorem ret3 {a a' : Int} {c c' : Bool} {v : Value} {k : Int} (h1 : a = a') (h2 : c = c') (h3 : v = errv k) : Ending.returned (.tuple #[I a, .bool c, v]) = .returned (.tuple #[I a', .bool c', errv k]) := by rw [h1, h2, h3]

set_option maxHeartbeats 400000 in
theorem round_any (q r d m : Int) (w : World) (hr0 : 0 ≤ r) (hrd : r < d) (hd : d ≤ 4611686018427387904) (hm0 : 0 ≤ m) (hm3 : m ≤ 3)
    (hq0 : -9223372036854775808 ≤ q) (hq : r = 0 ∨ q ≤ 4611686018427387904) :
    Calls Try.prog 53 #[I q, I r, I d, I m] w fun e w' => e = .returned (I (rndQ m q r d)) ∧ Ext w w' := by
  obtain rfl | rfl | rfl | rfl : m = 0 ∨ m = 1 ∨ m = 2 ∨ m = 3 := by omega
  · clear hq
    go_enter Try.func53, Try.ntmps53
    go_wp2
    go_ret
    exact ⟨ret_int (by simp [rndQ, upB] <;> omega), Ext.refl _⟩
  · by_cases h1 : q < 0
    · by_cases h2 : 0 < r
      · clear hq
        go_enter Try.func53, Try.ntmps53
        go_wp2
        go_ret
        exact ⟨ret_int (by simp [rndQ, upB] <;> omega), Ext.refl _⟩
      · clear hq
        go_enter Try.func53, Try.ntmps53
        go_wp2
        go_ret
        exact ⟨ret_int (by simp [rndQ, upB] <;> omega), Ext.refl _⟩
    · clear hq
      go_enter Try.func53, Try.ntmps53
      go_wp2
      go_ret
      exact ⟨ret_int (by simp [rndQ, upB] <;> omega), Ext.refl _⟩
  · by_cases h1 : d ≤ 2 * r
    · replace hq : q ≤ 4611686018427387904 := by omega
      go_enter Try.func53, Try.ntmps53
      go_wp2
      go_ret
      exact ⟨ret_int (by simp [rndQ, upB] <;> omega), Ext.refl _⟩
    · clear hq
      go_enter Try.func53, Try.ntmps53
      go_wp2
      go_ret
      exact ⟨ret_int (by simp [rndQ, upB] <;> omega), Ext.refl _⟩
  · by_cases h1 : d < 2 * r
    · replace hq : q ≤ 4611686018427387904 := by omega
      go_enter Try.func53, Try.ntmps53
      go_wp2
      go_ret
      exact ⟨ret_int (by simp [rndQ, upB] <;> omega), Ext.refl _⟩
    · by_cases h2 : 2 * r = d
      · replace hq : q ≤ 4611686018427387904 := by omega
        have h2' : (2 * r == d) = true := by simpa using h2
        by_cases h3 : q.tmod 2 = 0
        · have h3' : (q.tmod 2 == 0) = true := by simpa using h3
          have H2 := Lib.hid h2; clear h2
          have H3 := Lib.hid h3; clear h3
          go_enter Try.func53, Try.ntmps53
          go_wp2
          go_ret
          exact ⟨ret_int (by simp [rndQ, upB, H3.out] <;> omega), Ext.refl _⟩
        · have h3' : (q.tmod 2 == 0) = false := by simpa using h3
          have H2 := Lib.hid h2; clear h2
          go_enter Try.func53, Try.ntmps53
          go_wp2
          go_ret
          exact ⟨ret_int (by simp [rndQ, upB, h3, H2.out]), Ext.refl _⟩
      · have h2' : (2 * r == d) = false := by simpa using h2
        clear hq
        go_enter Try.func53, Try.ntmps53
        go_wp2
        go_ret
        exact ⟨ret_int (by simp [rndQ, upB] <;> omega), Ext.refl _⟩

set_option maxHeartbeats 400000 in
theorem least_any (b s : Int) (w : World) (h1 : 2 ≤ b) (h2 : b ≤ 32) :
    Calls Try.prog 21 #[fmt b s] w fun e w' => e = .returned (I (loW b)) ∧ Ext w w' := by
  obtain ⟨p1, p2⟩ := powW b h2
  go_enter Try.func21, Try.ntmps21
  go_wp2
  go_ret
  exact ⟨ret_int (by unfold loW; rfl), Ext.alloc _ _⟩

set_option maxHeartbeats 400000 in
theorem greatest_any (b s : Int) (w : World) (h1 : 2 ≤ b) (h2 : b ≤ 32) :
    Calls Try.prog 22 #[fmt b s] w fun e w' => e = .returned (I (hiW b)) ∧ Ext w w' := by
  obtain ⟨p1, p2⟩ := powW b h2
  go_enter Try.func22, Try.ntmps22
  go_wp2
  go_ret
  exact ⟨ret_int (by unfold hiW; rfl), Ext.alloc _ _⟩

set_option maxHeartbeats 400000 in
theorem limits_any (b s : Int) (w : World) (h1 : 2 ≤ b) (h2 : b ≤ 32) :
    Calls Try.prog 37 #[fmt b s] w fun e w' => e = .returned (.tuple #[I (loW b), I (hiW b)]) ∧ Ext w w' := by
  obtain ⟨p1, p2⟩ := powW b h2
  go_enter Try.func37, Try.ntmps37
  go_wp2_with fail
  go_quiet (fail)
  go_wp2
  go_ret2
  exact ⟨by simp [loW, hiW], (Ext.alloc _ _).trans (Ext.drewN _ _)⟩

set_option maxHeartbeats 400000 in
theorem mode_any (m : Int) (w : World) :
    Calls Try.prog 41 #[I m] w fun e w' => e = .returned (.bool (decide (0 ≤ m) && decide (m ≤ 3))) ∧ Ext w w' := by
  go_enter Try.func41, Try.ntmps41
  go_wp2
  all_goals (go_ret; exact ⟨by simp <;> omega, Ext.refl _⟩)

set_option maxHeartbeats 400000 in
theorem isMode_any (m : Int) (w : World) :
    Calls Try.prog 39 #[I m] w fun e w' => e = .returned (.bool (decide (0 ≤ m) && decide (m ≤ 3))) ∧ Ext w w' := by
  go_enter Try.func39, Try.ntmps39
  go_wp2
  all_goals (go_ret; exact ⟨by simp <;> omega, Ext.refl _⟩)

set_option maxHeartbeats 400000 in
theorem check_any (b s : Int) (w : World) :
    Calls Try.prog 19 #[fmt b s] w fun e w' => e = .returned (errv (chkF b s)) ∧ Ext w w' := by
  go_enter Try.func19, Try.ntmps19
  go_wp2
  all_goals (go_ret; exact ⟨ret_err (by unfold chkF; first | (rw [if_pos (by omega)]; rfl) | (rw [if_neg (by omega)]; rfl)), Ext.alloc _ _⟩)

set_option maxHeartbeats 400000 in
theorem rcheck_any (b s : Int) (w : World) :
    Calls Try.prog 15 #[fmt b s] w fun e w' => e = .returned (I (chkF b s)) ∧ Ext w w' := by
  go_enter Try.func15, Try.ntmps15
  go_wp2
  all_goals (go_ret; exact ⟨ret_int (by unfold chkF; first | (rw [if_pos (by omega)]) | (rw [if_neg (by omega)])), Ext.alloc _ _⟩)

set_option maxHeartbeats 400000 in
theorem num_err (k : Int) (w : World) :
    Calls Try.prog 18 #[.iface 68 (I k)] w fun e w' => e = .returned (I k) ∧ Ext w w' := by
  have ta := run_assert_int (P := Try.prog) (xT := 27) (v := I k) (w := w) Try.underlying68
  go_enter Try.func18, Try.ntmps18
  go_wp2
  go_ret
  exact ⟨rfl, Ext.refl _⟩

set_option maxHeartbeats 400000 in
theorem num_nil (w : World) :
    Calls Try.prog 18 #[.nilIface] w fun e w' => e = .returned (I 0) ∧ Ext w w' := by
  go_enter Try.func18, Try.ntmps18
  go_wp2
  go_ret
  exact ⟨rfl, Ext.refl _⟩

theorem num_any (k : Int) (w : World) :
    Calls Try.prog 18 #[errv k] w fun e w' => e = .returned (I k) ∧ Ext w w' := by
  by_cases h : k = 0
  · subst h; exact num_nil w
  · have : errv k = .iface 68 (I k) := by simp [errv, h]
    rw [this]; exact num_err k w

end Go.Proofs.Ytfllhbebackbdaa
