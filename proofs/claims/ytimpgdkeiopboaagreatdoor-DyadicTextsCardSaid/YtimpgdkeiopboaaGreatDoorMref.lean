/- The reference's functions on absolute values, part 1: trim, less. -/
import Derived.Test.YtimpgdkeiopboaaGreatDoorMmem
import Derived.Test.YtimpgdkeiopboaaGreatDoorMnatd
namespace Go.Proofs.YtimpgdkeiopboaaGreatDoor

/-! ### Ref -/
section
open Go.RowKit

/-- What a reference function hands back: the digits of x, somewhere. -/
def RdRes (x : Nat) (w : World) (e : Ending) (w' : World) : Prop := ∃ A c, e = .returned (.slice A (len x) c) ∧ Rd w' A (len x) (dg x) ∧ SlOk A (len x) c ∧ Ext w w'

set_option maxHeartbeats 400000 in
theorem rtrim_any (A : Option Addr) (n c : Nat) (f : Nat → Nat) (w : World) (hr : Rd w A n f) (hb : ∀ i, i < n → f i < 4294967296) (hc : n ≤ c) (hm : c ≤ maxLen) :
    Calls Tryz.prog 50 #[.slice A n c] w fun e w' => e = .returned (.slice A (len (valN f n)) c) ∧ w = w' := by
  unfold maxLen at hm
  have HB := Lib.hid hb; clear hb
  have HR := Lib.hid hr; clear hr
  go_enter Tryz.func50, Tryz.ntmps50
  go_wp2
  go_loop [3] (fun s => ∃ k : Nat, k ≤ n ∧ Hid (∀ i, k ≤ i → i < n → f i = 0) ∧ s = I k) (fun s => (intOf s).toNat)
  case atStart => exact ⟨n, Nat.le_refl _, (fun i h1 h2 => by omega), rfl⟩
  case round =>
    obtain ⟨k, hk, hz, rfl⟩ := hrel
    cases k with
    | zero =>
      have hl := Lib.hid (len_valN HB.out hk hz.out (.inl rfl))
      go_wp2
      go_ret
      exact ⟨by rw [hl.out]; rfl, rfl⟩
    | succ j =>
      obtain ⟨b, o, rfl, hbw, hcell⟩ := HR.out.at_ (k := j) (by omega)
      by_cases h0 : f j = 0
      · have hz' : Hid (∀ i, j ≤ i → i < n → f i = 0) := fun i h1 h2 => by
          by_cases e : i = j
          · subst e; exact h0
          · exact hz.out i (by omega) h2
        rw [h0] at hcell
        clear h0 hz
        go_wp2
        go_round
        case rel => exact ⟨j, by omega, hz', by go_num⟩
        case measure => simp [intOf]
      · have hl := Lib.hid (len_valN HB.out hk hz.out (.inr (by simpa using h0)))
        have h1 : ((f j : Int) == 0) = false := by simp; omega
        clear h0 hz
        go_wp2
        go_ret
        exact ⟨by rw [hl.out]; rfl, rfl⟩

end

/-! ### Refb -/
section
open Go.RowKit

end

/-! ### Refc -/
section
open Go.RowKit

theorem natRes_on {w w' : World} {x n c : Nat} {A : Option Addr} {f : Nat → Nat} {e : Ending} (hO : On w' w.heap.size A n c f) (hb : ∀ i, i < n → f i < 4294967296) (hv : valN f n = x) (he : e = .returned (.slice A (len (valN f n)) c)) (hx : Ext w w') : NatRes x w e w' := by
  rcases hO.cases with ⟨rfl, rfl, rfl⟩ | ⟨g, rfl, hr⟩
  · subst hv
    refine ⟨none, 0, he, ?_, hx⟩
    rw [show valN f 0 = 0 from rfl, len_zero]
    exact On.nil _ _ _
  · exact natRes_of hr hb hv he hx
theorem minus_end {S m n b P : Nat} (h : S + n = m + b * P) (hS : S < P) (hmn : n ≤ m) (hb : b ≤ 1) : S = m - n := by
  rcases Nat.le_one_iff_eq_zero_or_eq_one.1 hb with rfl | rfl <;> omega

end

/-! ### Refd -/
section
open Go.RowKit

end

/-! ### Refe -/
section
open Go.RowKit

def RightRes (m n : Nat) (w : World) (e : Ending) (w' : World) : Prop := ∃ A c, e = .returned (.tuple #[.slice A (len (m / 2 ^ n)) c, .bool (decide (m % 2 ^ n ≠ 0))]) ∧ On w' w.heap.size A (len (m / 2 ^ n)) c (dg (m / 2 ^ n)) ∧ Ext w w'

theorem cut_step (m i : Nat) : m % 2 ^ (i + 1) = m % 2 ^ i + m / 2 ^ i % 2 * 2 ^ i := by
  rw [Nat.pow_succ, Nat.mod_mul, Nat.mul_comm]
theorem cut_some {m i : Nat} (h : m % 2 ^ i ≠ 0) : decide (m % 2 ^ (i + 1) ≠ 0) = true := by
  rw [cut_step]; exact decide_eq_true (by omega)
theorem cut_none {m i : Nat} (h : m % 2 ^ i = 0) : decide (m % 2 ^ (i + 1) ≠ 0) = decide (m / 2 ^ i % 2 = 1) := by
  have hp := p2_pos i
  rw [cut_step, h, Nat.zero_add]
  rcases Nat.mod_two_eq_zero_or_one (m / 2 ^ i) with e | e
  · rw [e]; simp
  · rw [e]; simp
theorem right_end {w w' : World} {m n k c : Nat} {A : Option Addr} {f : Nat → Nat} {cb : Bool} {e : Ending} (hO : On w' w.heap.size A k c f) (hb : ∀ i, i < k → f i < 4294967296) (hv : valN f k = m / 2 ^ n) (hc : cb = decide (m % 2 ^ n ≠ 0))
    (he : e = .returned (.tuple #[.slice A (len (valN f k)) c, .bool cb])) (hx : Ext w w') : RightRes m n w e w' := by
  obtain ⟨A', c', h1, h2, h3⟩ := natRes_on (e := .returned (.slice A (len (valN f k)) c)) hO hb hv rfl hx
  rw [hv] at h1 he
  cases h1
  exact ⟨A, c, by rw [he, hc], h2, h3⟩

end

end Go.Proofs.YtimpgdkeiopboaaGreatDoor
