/- Numbers as structs: quotients. -/
import Derived.Test.YtcdkkohklhmpgaaGreatDoorDym
import Derived.Test.YtcdkkohklhmpgaaGreatDoorNatk
namespace Go.Proofs.YtcdkkohklhmpgaaGreatDoor
open Go.RowKit
attribute [local go_sem ↓] Go.wp_at_zero Go.wp_at_succ

theorem quo_shift (a b k u : Nat) (m n : Nat) (s1 s2 : Nat) (h1 : s1 = k + b - a) (h2 : s2 = a - (k + b)) : m * 2 ^ (k + b) / (n * 2 ^ a) = m * 2 ^ s1 / (n * 2 ^ s2) ∧ (m * 2 ^ (k + b) % (n * 2 ^ a) = 0 ↔ m * 2 ^ s1 % (n * 2 ^ s2) = 0) ∧ u = u := by
  obtain ⟨c, hc⟩ : ∃ c, min (k + b) a = c := ⟨_, rfl⟩
  have e1 : m * 2 ^ (k + b) = m * 2 ^ s1 * 2 ^ c := by rw [Nat.mul_assoc, ← Nat.pow_add]; congr 2; omega
  have e2 : n * 2 ^ a = n * 2 ^ s2 * 2 ^ c := by rw [Nat.mul_assoc, ← Nat.pow_add]; congr 2; omega
  rw [e1, e2]
  have := shl_quo (m * 2 ^ s1) (n * 2 ^ s2) c
  exact ⟨this.1, this.2, rfl⟩
def quoUp (neg : Bool) (x y : Nat) : Nat := x / y + if neg && !decide (x % y = 0) then 1 else 0
theorem quoD_eq {a b : DV} {k s1 s2 : Nat} (h1 : s1 = k + b.den - a.den) (h2 : s2 = a.den - (k + b.den)) : quoD a b k = mkD (a.neg != b.neg) (quoUp (a.neg != b.neg) (a.m * 2 ^ s1) (b.m * 2 ^ s2)) k := by
  obtain ⟨e1, e2, _⟩ := quo_shift a.den b.den k 0 a.m b.m s1 s2 h1 h2
  unfold quoD quoUp
  rw [e1]
  congr 3
  have : decide (a.m * 2 ^ (k + b.den) % (b.m * 2 ^ a.den) ≠ 0) = !decide (a.m * 2 ^ s1 % (b.m * 2 ^ s2) = 0) := by
    rw [Bool.eq_iff_iff]; simp [e2]
  rw [this]
theorem quoUp_up {neg : Bool} {x y : Nat} (h : neg = true) (h2 : decide (x % y = 0) = false) : quoUp neg x y = x / y + 1 := by unfold quoUp; rw [h, h2]; rfl
theorem quoUp_whole {neg : Bool} {x y : Nat} (h2 : decide (x % y = 0) = true) : quoUp neg x y = x / y := by unfold quoUp; rw [h2]; simp
theorem quoUp_pos {neg : Bool} {x y : Nat} (h : neg = false) : quoUp neg x y = x / y := by unfold quoUp; rw [h]; simp

end Go.Proofs.YtcdkkohklhmpgaaGreatDoor
