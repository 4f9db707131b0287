/- Contracts of package arctan: vectors that are shortened. -/
import Derived.Test.YtecpkggnjajppaaDoorArca
import Derived.Test.YtecpkggnjajppaaDoorSinb
import Derived.Deep.DeepCutAuto
namespace Go.Proofs.YtecpkggnjajppaaDoor
open Go.RowKit

def In63 (x : Int) : Prop := -9223372036854775808 ≤ x ∧ x ≤ 9223372036854775807
theorem tuple2 {a b c d : Int} (h : a = c) (h' : b = d) : (Ending.returned (.tuple #[I a, I b])) = .returned (.tuple #[I c, I d]) := by rw [h, h']

theorem big_less {x y : Int} (h : big x y) : (x.tdiv 2).natAbs + (y.tdiv 2).natAbs < x.natAbs + y.natAbs := by
  rw [tdiv2, tdiv2]; unfold big at h; split <;> split <;> omega

theorem fits_wrap {n : Nat} {x y : Int} (hn : n ≤ 22) (h : Fits (n + 1) x y) : wrap64 (x.tdiv 2) = x.tdiv 2 ∧ wrap64 (y.tdiv 2) = y.tdiv 2 := by
  have h' := fits_step h
  have p : (2 : Int) ^ n ≤ 4194304 := by have := pow_le (j := n) (k := 22) (by omega); simpa using this
  unfold Fits at h'
  unfold wrap64; omega

set_option maxRecDepth 100000 in
set_option maxHeartbeats 1000000 in
theorem short_any (x y : Int) (w : World) (hx : In63 x) (hy : In63 y) : Calls Tryd.prog 35 #[I x, I y] w fun e w' => e = .returned (.tuple #[I (vx x y), I (vy x y)]) ∧ Ext w w' := by
  by_cases h : x = 0 ∧ y = 0
  · obtain ⟨rfl, rfl⟩ := h
    have HV := Lib.hid vx_0
    go_enter Tryd.func35, Tryd.ntmps35
    go_wp2
    go_ret2
    exact ⟨tuple2 HV.out.1.symm HV.out.2.symm, Ext.refl _⟩
  · have HV := Lib.hid (v_of h)
    have HF := Lib.hid (fits_i64 hx hy)
    obtain ⟨X, hX⟩ : ∃ X, vx x y = X := ⟨_, rfl⟩
    obtain ⟨Y, hY⟩ : ∃ Y, vy x y = Y := ⟨_, rfl⟩
    rw [hX, hY] at HV
    rw [hX, hY]
    clear hX hY
    have h1 : x = 0 → ¬ y = 0 := fun a b => h ⟨a, b⟩
    clear h
    rcases Decidable.em (x = 0) with h2 | h2
    all_goals
      first | (have h3 := h1 h2; subst h2) | skip
      clear h1
      go_enter Tryd.func35, Tryd.ntmps35
      go_wp2_with fail
      go_loopw [0, 1] (fun a b wr => w = wr ∧ ∃ c d : Int, a = I c ∧ b = I d ∧ ∃ n : Nat, n ≤ 23 ∧ Hid (Fits n c d ∧ X = shx n c d ∧ Y = shy n c d)) (fun a b _ => (intOf a).natAbs + (intOf b).natAbs)
      case atStart => exact ⟨rfl, _, _, rfl, rfl, 23, by omega, HF.out, HV.out.1, HV.out.2⟩
      case round =>
        obtain ⟨rfl, c, d, rfl, rfl, n, hn, ⟨hf, e1, e2⟩⟩ := hrel
        by_cases hb : big c d
        · obtain ⟨m, rfl⟩ : ∃ m, n = m + 1 := by
            cases n with
            | zero => exact absurd hb (fits_not hf)
            | succ m => exact ⟨m, rfl⟩
          obtain ⟨s1, s2⟩ := sh_step hb m
          have HN : Hid (Fits m (c.tdiv 2) (d.tdiv 2) ∧ X = shx m (c.tdiv 2) (d.tdiv 2) ∧ Y = shy m (c.tdiv 2) (d.tdiv 2)) := ⟨fits_step hf, e1.trans s1, e2.trans s2⟩
          obtain ⟨w1, w2⟩ := fits_wrap (by omega) hf
          have hms := big_less hb
          rw [← w1, ← w2] at HN hms
          have HM := Lib.hid hms
          clear s1 s2 e1 e2 hf hms w1 w2
          have hcd : (c < d ∧ 1099511627776 < d) ∨ (c < d ∧ ¬ 1099511627776 < d ∧ c < -1099511627776) ∨ (d < c ∧ 1099511627776 < c) ∨ (d < c ∧ ¬ 1099511627776 < c ∧ d < -1099511627776) ∨ (c = d ∧ 1099511627776 < d) ∨ (c = d ∧ ¬ 1099511627776 < d ∧ d < -1099511627776) := by unfold big at hb; omega
          clear hb
          rcases hcd with ⟨h5, h6⟩ | ⟨h5, h6, h7⟩ | ⟨h5, h6⟩ | ⟨h5, h6, h7⟩ | ⟨rfl, h6⟩ | ⟨rfl, h6, h7⟩
          all_goals
            first | (have h8 : ¬ d < c := by omega) | skip
            go_wp2_with fail
            go_roundw
            case rel => exact ⟨trivial, _, _, rfl, rfl, m, by omega, HN⟩
            case measure => exact HM.out
        · obtain ⟨s1, s2⟩ := sh_small hb n
          rw [s1] at e1; rw [s2] at e2
          have E1 := Lib.hid e1; clear e1
          have E2 := Lib.hid e2; clear e2
          have hb1 : ¬ 1099511627776 < c := by unfold big at hb; omega
          have hb2 : ¬ c < -1099511627776 := by unfold big at hb; omega
          have hb3 : ¬ 1099511627776 < d := by unfold big at hb; omega
          have hb4 : ¬ d < -1099511627776 := by unfold big at hb; omega
          clear s1 s2 hb hf
          rcases Decidable.em (c < d) with h5 | h5
          all_goals
            go_wp2_with fail
            all_goals
              go_ret2
              exact ⟨tuple2 E1.out.symm E2.out.symm, Ext.refl _⟩

theorem small_next {x y : Int} (h : x = 0 ∧ y = 0) : vx x y = 1 ∧ vy x y = 0 := by obtain ⟨rfl, rfl⟩ := h; exact vx_0
/-- The reference looks for the vector 0 behind its loop. -/
theorem sh_v (x y : Int) : (shx 23 x y = 0 ∧ shy 23 x y = 0 → vx x y = 1 ∧ vy x y = 0) ∧ (¬ (shx 23 x y = 0 ∧ shy 23 x y = 0) → vx x y = shx 23 x y ∧ vy x y = shy 23 x y) := by
  by_cases h : x = 0 ∧ y = 0
  · obtain ⟨rfl, rfl⟩ := h
    obtain ⟨e1, e2⟩ := sh_small (x := 0) (y := 0) (by unfold big; omega) 23
    rw [e1, e2]; exact ⟨fun _ => vx_0, fun h => absurd ⟨rfl, rfl⟩ h⟩
  · exact ⟨fun k => absurd k (sh_ne 23 x y h), fun _ => v_of h⟩

set_option maxRecDepth 100000 in
set_option maxHeartbeats 1000000 in
theorem rsmall_any (x y : Int) (w : World) (hx : In63 x) (hy : In63 y) : Calls Tryd.prog 26 #[I x, I y] w fun e w' => e = .returned (.tuple #[I (vx x y), I (vy x y)]) ∧ Ext w w' := by
  obtain ⟨v1, v2⟩ := sh_v x y
  have HF := Lib.hid (fits_i64 hx hy)
  obtain ⟨X, hX⟩ : ∃ X, shx 23 x y = X := ⟨_, rfl⟩
  obtain ⟨Y, hY⟩ : ∃ Y, shy 23 x y = Y := ⟨_, rfl⟩
  rw [hX, hY] at v1 v2
  have HV1 := Lib.hid v1
  have HV2 := Lib.hid v2
  have HX := Lib.hid hX.symm
  have HY := Lib.hid hY.symm
  clear hX hY v1 v2
  go_enter Tryd.func26, Tryd.ntmps26
  go_wp2_with fail
  go_loopw [0, 1] (fun a b wr => w = wr ∧ ∃ c d : Int, a = I c ∧ b = I d ∧ ∃ n : Nat, n ≤ 23 ∧ Hid (Fits n c d ∧ X = shx n c d ∧ Y = shy n c d)) (fun a b _ => (intOf a).natAbs + (intOf b).natAbs)
  case atStart => exact ⟨rfl, _, _, rfl, rfl, 23, by omega, HF.out, HX.out, HY.out⟩
  case round =>
    obtain ⟨rfl, c, d, rfl, rfl, n, hn, ⟨hf, e1, e2⟩⟩ := hrel
    by_cases hb : big c d
    · obtain ⟨m, rfl⟩ : ∃ m, n = m + 1 := by
        cases n with
        | zero => exact absurd hb (fits_not hf)
        | succ m => exact ⟨m, rfl⟩
      obtain ⟨s1, s2⟩ := sh_step hb m
      have HN : Hid (Fits m (c.tdiv 2) (d.tdiv 2) ∧ X = shx m (c.tdiv 2) (d.tdiv 2) ∧ Y = shy m (c.tdiv 2) (d.tdiv 2)) := ⟨fits_step hf, e1.trans s1, e2.trans s2⟩
      obtain ⟨w1, w2⟩ := fits_wrap (by omega) hf
      have hms := big_less hb
      have HM := Lib.hid hms
      have HW1 := Lib.hid w1
      have HW2 := Lib.hid w2
      clear s1 s2 e1 e2 hf hms w1 w2
      have hcd : 1099511627776 < c ∨ (¬ 1099511627776 < c ∧ c < -1099511627776) ∨ (¬ 1099511627776 < c ∧ ¬ c < -1099511627776 ∧ 1099511627776 < d) ∨ (¬ 1099511627776 < c ∧ ¬ c < -1099511627776 ∧ ¬ 1099511627776 < d ∧ d < -1099511627776) := by unfold big at hb; omega
      clear hb
      rcases hcd with h5 | ⟨h5, h6⟩ | ⟨h5, h6, h7⟩ | ⟨h5, h6, h7, h8⟩
      all_goals
        go_wp2_with fail
        go_roundw
        case rel => exact ⟨trivial, _, _, rfl, rfl, m, by omega, by first | exact HN | (rw [HW1.out, HW2.out]; exact HN) | (rw [HW2.out]; exact HN) | (rw [HW1.out]; exact HN)⟩
        case measure => first | exact HM.out | (rw [HW1.out, HW2.out]; exact HM.out) | (rw [HW2.out]; exact HM.out) | (rw [HW1.out]; exact HM.out)
    · obtain ⟨s1, s2⟩ := sh_small hb n
      rw [s1] at e1; rw [s2] at e2
      rw [e1, e2] at HV1 HV2
      have hb1 : ¬ 1099511627776 < c := by unfold big at hb; omega
      have hb2 : ¬ c < -1099511627776 := by unfold big at hb; omega
      have hb3 : ¬ 1099511627776 < d := by unfold big at hb; omega
      have hb4 : ¬ d < -1099511627776 := by unfold big at hb; omega
      clear s1 s2 hb hf e1 e2
      by_cases h0 : c = 0 ∧ d = 0
      · have HV := Lib.hid (HV1.out h0)
        obtain ⟨rfl, rfl⟩ := h0
        go_wp2_with fail
        go_ret2
        exact ⟨tuple2 HV.out.1.symm HV.out.2.symm, Ext.refl _⟩
      · have HV := Lib.hid (HV2.out h0)
        have h9 : ¬ c = 0 ∨ (c = 0 ∧ ¬ d = 0) := by omega
        clear h0
        rcases h9 with h9 | ⟨rfl, h9⟩
        all_goals
          go_wp2_with fail
          go_ret2
          exact ⟨tuple2 HV.out.1.symm HV.out.2.symm, Ext.refl _⟩
end Go.Proofs.YtecpkggnjajppaaDoor
