/- Contracts of package root: the sizes, and the functions for vectors. -/
import Derived.Test.YtgedhbiechlkcaaRootb
namespace Go.Proofs.Ytgedhbiechlkcaa
open Go.RowKit

/-- An error by its number; 0 is none. -/
def errv (k : Int) : Value := if k = 0 then .nilIface else .iface 50 (I k)
def okS (x : Int) : Prop := -1073741824 ≤ x ∧ x ≤ 1073741824
instance (x : Int) : Decidable (okS x) := inferInstanceAs (Decidable (_ ∧ _))

set_option maxRecDepth 100000 in
set_option maxHeartbeats 1000000 in
theorem sizes_ok (f : Nat → Int) (L b : Nat) (w : World) (hL : L ≤ 3) (ha : ∀ k, k < L → w.cell? ⟨b, k, none⟩ = some (I (f k))) (hf : ∀ k, k < L → okS (f k)) :
    Calls Try.prog 28 #[.slice (some ⟨b, 0, none⟩) L L] w fun e w' => e = .returned .nilIface ∧ Ext w w' := by
  have HA := Lib.hid ha; clear ha
  have HF := Lib.hid hf; clear hf
  go_enter Try.func28, Try.ntmps28
  go_wp2_with fail
  go_loopw [7] (fun c wr => w = wr ∧ ∃ k : Nat, k ≤ L ∧ c = I k) (fun c _ => L - (intOf c).toNat)
  case atStart => exact ⟨rfl, 0, Nat.zero_le _, rfl⟩
  case round =>
    obtain ⟨rfl, k, hk, rfl⟩ := hrel
    by_cases hlt : k < L
    · have ca := HA.out k hlt
      obtain ⟨g0, g1⟩ := HF.out k hlt
      generalize f k = d at *
      have g2 : ¬ d < -1073741824 := by omega
      have g3 : ¬ d > 1073741824 := by omega
      go_wp2_with fail
      go_roundw
      case rel => exact ⟨trivial, k + 1, by omega, by go_num⟩
      case measure => simp [intOf]; omega
    · obtain rfl : k = L := by omega
      go_wp2_with fail
      go_ret
      exact ⟨rfl, Ext.refl _⟩

set_option maxRecDepth 100000 in
set_option maxHeartbeats 1000000 in
theorem sizes_bad (f : Nat → Int) (L b : Nat) (w : World) (hL : L ≤ 3) (ha : ∀ k, k < L → w.cell? ⟨b, k, none⟩ = some (I (f k))) (hf : ¬ ∀ k, k < L → okS (f k)) :
    Calls Try.prog 28 #[.slice (some ⟨b, 0, none⟩) L L] w fun e w' => e = .returned (.iface 50 (I 3)) ∧ Ext w w' := by
  have HA := Lib.hid ha; clear ha
  have HF := Lib.hid hf; clear hf
  go_enter Try.func28, Try.ntmps28
  go_wp2_with fail
  go_loopw [7] (fun c wr => w = wr ∧ ∃ k : Nat, k ≤ L ∧ c = I k ∧ ∀ i, i < k → okS (f i)) (fun c _ => L - (intOf c).toNat)
  case atStart => exact ⟨rfl, 0, Nat.zero_le _, rfl, fun i hi => by omega⟩
  case round =>
    obtain ⟨rfl, k, hk, rfl, hp⟩ := hrel
    have HP := Lib.hid hp; clear hp
    by_cases hlt : k < L
    · have ca := HA.out k hlt
      obtain ⟨d, hd⟩ : ∃ d, f k = d := ⟨_, rfl⟩
      rw [hd] at ca
      have HD := Lib.hid hd; clear hd
      by_cases g2 : d < -1073741824
      · go_wp2_with fail
        go_ret
        exact ⟨rfl, Ext.refl _⟩
      · by_cases g3 : d > 1073741824
        · go_wp2_with fail
          go_ret
          exact ⟨rfl, Ext.refl _⟩
        · go_wp2_with fail
          go_roundw
          case rel => exact ⟨trivial, k + 1, by omega, by go_num, fun i hi => by
            by_cases h : i = k
            · subst h; rw [HD.out]; unfold okS; omega
            · exact HP.out i (by omega)⟩
          case measure => simp [intOf]; omega
    · obtain rfl : k = L := by omega
      exact absurd HP.out HF.out

set_option maxRecDepth 100000 in
set_option maxHeartbeats 1000000 in
theorem small_ok (f : Nat → Int) (L b : Nat) (w : World) (hL : L ≤ 3) (ha : ∀ k, k < L → w.cell? ⟨b, k, none⟩ = some (I (f k))) (hf : ∀ k, k < L → okS (f k)) :
    Calls Try.prog 29 #[.slice (some ⟨b, 0, none⟩) L L] w fun e w' => e = .returned (.bool true) ∧ Ext w w' := by
  have HA := Lib.hid ha; clear ha
  have HF := Lib.hid hf; clear hf
  go_enter Try.func29, Try.ntmps29
  go_wp2_with fail
  go_loopw [7] (fun c wr => w = wr ∧ ∃ k : Nat, k ≤ L ∧ c = I k) (fun c _ => L - (intOf c).toNat)
  case atStart => exact ⟨rfl, 0, Nat.zero_le _, rfl⟩
  case round =>
    obtain ⟨rfl, k, hk, rfl⟩ := hrel
    by_cases hlt : k < L
    · have ca := HA.out k hlt
      obtain ⟨g0, g1⟩ := HF.out k hlt
      generalize f k = d at *
      have g2 : ¬ d < -1073741824 := by omega
      have g3 : ¬ d > 1073741824 := by omega
      go_wp2_with fail
      go_roundw
      case rel => exact ⟨trivial, k + 1, by omega, by go_num⟩
      case measure => simp [intOf]; omega
    · obtain rfl : k = L := by omega
      go_wp2_with fail
      go_ret
      exact ⟨rfl, Ext.refl _⟩

set_option maxRecDepth 100000 in
set_option maxHeartbeats 1000000 in
theorem small_bad (f : Nat → Int) (L b : Nat) (w : World) (hL : L ≤ 3) (ha : ∀ k, k < L → w.cell? ⟨b, k, none⟩ = some (I (f k))) (hf : ¬ ∀ k, k < L → okS (f k)) :
    Calls Try.prog 29 #[.slice (some ⟨b, 0, none⟩) L L] w fun e w' => e = .returned (.bool false) ∧ Ext w w' := by
  have HA := Lib.hid ha; clear ha
  have HF := Lib.hid hf; clear hf
  go_enter Try.func29, Try.ntmps29
  go_wp2_with fail
  go_loopw [7] (fun c wr => w = wr ∧ ∃ k : Nat, k ≤ L ∧ c = I k ∧ ∀ i, i < k → okS (f i)) (fun c _ => L - (intOf c).toNat)
  case atStart => exact ⟨rfl, 0, Nat.zero_le _, rfl, fun i hi => by omega⟩
  case round =>
    obtain ⟨rfl, k, hk, rfl, hp⟩ := hrel
    have HP := Lib.hid hp; clear hp
    by_cases hlt : k < L
    · have ca := HA.out k hlt
      obtain ⟨d, hd⟩ : ∃ d, f k = d := ⟨_, rfl⟩
      rw [hd] at ca
      have HD := Lib.hid hd; clear hd
      by_cases g3 : d > 1073741824
      · go_wp2_with fail
        go_ret
        exact ⟨rfl, Ext.refl _⟩
      · by_cases g2 : d < -1073741824
        · go_wp2_with fail
          go_ret
          exact ⟨rfl, Ext.refl _⟩
        · go_wp2_with fail
          go_roundw
          case rel => exact ⟨trivial, k + 1, by omega, by go_num, fun i hi => by
            by_cases h : i = k
            · subst h; rw [HD.out]; unfold okS; omega
            · exact HP.out i (by omega)⟩
          case measure => simp [intOf]; omega
    · obtain rfl : k = L := by omega
      exact absurd HP.out HF.out

def two (x y : Int) (k : Nat) : Int := if k = 0 then x else y
def three (x y z : Int) (k : Nat) : Int := if k = 0 then x else if k = 1 then y else z
theorem two_ok {x y : Int} : (∀ k, k < 2 → okS (two x y k)) ↔ okS x ∧ okS y := by
  constructor
  · intro h; exact ⟨h 0 (by omega), h 1 (by omega)⟩
  · intro ⟨a, b⟩ k hk
    obtain rfl | rfl : k = 0 ∨ k = 1 := by omega
    · exact a
    · exact b
theorem three_ok {x y z : Int} : (∀ k, k < 3 → okS (three x y z k)) ↔ okS x ∧ okS y ∧ okS z := by
  constructor
  · intro h; exact ⟨h 0 (by omega), h 1 (by omega), h 2 (by omega)⟩
  · intro ⟨a, b, c⟩ k hk
    obtain rfl | rfl | rfl : k = 0 ∨ k = 1 ∨ k = 2 := by omega
    · exact a
    · exact b
    · exact c
theorem two_at {w : World} {b : Nat} {x y : Int} (h0 : w.cell? ⟨b, 0, none⟩ = some (I x)) (h1 : w.cell? ⟨b, 1, none⟩ = some (I y)) : ∀ k, k < 2 → w.cell? ⟨b, k, none⟩ = some (I (two x y k)) := by
  intro k hk
  obtain rfl | rfl : k = 0 ∨ k = 1 := by omega
  · exact h0
  · exact h1
theorem three_at {w : World} {b : Nat} {x y z : Int} (h0 : w.cell? ⟨b, 0, none⟩ = some (I x)) (h1 : w.cell? ⟨b, 1, none⟩ = some (I y)) (h2 : w.cell? ⟨b, 2, none⟩ = some (I z)) : ∀ k, k < 3 → w.cell? ⟨b, k, none⟩ = some (I (three x y z k)) := by
  intro k hk
  obtain rfl | rfl | rfl : k = 0 ∨ k = 1 ∨ k = 2 := by omega
  · exact h0
  · exact h1
  · exact h2
theorem sizes2 (x y : Int) {w : World} {b : Nat} (h0 : w.cell? ⟨b, 0, none⟩ = some (I x)) (h1 : w.cell? ⟨b, 1, none⟩ = some (I y)) :
    Calls Try.prog 28 #[.slice (some ⟨b, 0, none⟩) 2 2] w fun e w' => e = .returned (errv (if okS x ∧ okS y then 0 else 3)) ∧ Ext w w' := by
  by_cases h : okS x ∧ okS y
  · rw [if_pos h]; exact sizes_ok (two x y) 2 b w (by omega) (two_at h0 h1) (two_ok.2 h)
  · rw [if_neg h]; exact sizes_bad (two x y) 2 b w (by omega) (two_at h0 h1) (fun k => h (two_ok.1 k))
theorem sizes3 (x y z : Int) {w : World} {b : Nat} (h0 : w.cell? ⟨b, 0, none⟩ = some (I x)) (h1 : w.cell? ⟨b, 1, none⟩ = some (I y)) (h2 : w.cell? ⟨b, 2, none⟩ = some (I z)) :
    Calls Try.prog 28 #[.slice (some ⟨b, 0, none⟩) 3 3] w fun e w' => e = .returned (errv (if okS x ∧ okS y ∧ okS z then 0 else 3)) ∧ Ext w w' := by
  by_cases h : okS x ∧ okS y ∧ okS z
  · rw [if_pos h]; exact sizes_ok (three x y z) 3 b w (by omega) (three_at h0 h1 h2) (three_ok.2 h)
  · rw [if_neg h]; exact sizes_bad (three x y z) 3 b w (by omega) (three_at h0 h1 h2) (fun k => h (three_ok.1 k))
theorem small2 (x y : Int) {w : World} {b : Nat} (h0 : w.cell? ⟨b, 0, none⟩ = some (I x)) (h1 : w.cell? ⟨b, 1, none⟩ = some (I y)) :
    Calls Try.prog 29 #[.slice (some ⟨b, 0, none⟩) 2 2] w fun e w' => e = .returned (.bool (decide (okS x ∧ okS y))) ∧ Ext w w' := by
  by_cases h : okS x ∧ okS y
  · rw [decide_eq_true h]; exact small_ok (two x y) 2 b w (by omega) (two_at h0 h1) (two_ok.2 h)
  · rw [decide_eq_false h]; exact small_bad (two x y) 2 b w (by omega) (two_at h0 h1) (fun k => h (two_ok.1 k))
theorem small3 (x y z : Int) {w : World} {b : Nat} (h0 : w.cell? ⟨b, 0, none⟩ = some (I x)) (h1 : w.cell? ⟨b, 1, none⟩ = some (I y)) (h2 : w.cell? ⟨b, 2, none⟩ = some (I z)) :
    Calls Try.prog 29 #[.slice (some ⟨b, 0, none⟩) 3 3] w fun e w' => e = .returned (.bool (decide (okS x ∧ okS y ∧ okS z))) ∧ Ext w w' := by
  by_cases h : okS x ∧ okS y ∧ okS z
  · rw [decide_eq_true h]; exact small_ok (three x y z) 3 b w (by omega) (three_at h0 h1 h2) (three_ok.2 h)
  · rw [decide_eq_false h]; exact small_bad (three x y z) 3 b w (by omega) (three_at h0 h1 h2) (fun k => h (three_ok.1 k))
end Go.Proofs.Ytgedhbiechlkcaa
