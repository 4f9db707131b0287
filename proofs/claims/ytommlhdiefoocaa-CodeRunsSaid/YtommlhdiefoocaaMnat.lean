/- Functions on natural numbers, part 4: copies, sums. -/
import Derived.Test.YtommlhdiefoocaaMmem
import Derived.Lib.SliceRun
import Derived.Shelf.Spec.TrailingZeros
import Derived.Deep.DeepCutAuto
namespace Go.Proofs.Ytommlhdiefoocaa

/-! ### Mnatd -/
section
/-! ### Natd -/
section
open Go.RowKit

def CloneRes (n : Nat) (f : Nat → Nat) (w : World) (e : Ending) (w' : World) : Prop := ∃ A c, e = .returned (.slice A n c) ∧ On w' w.heap.size A n c f ∧ Ext w w'
/-- What a sum's second loop holds. -/
theorem sum_end {m n k L cy : Nat} {F : Nat → Nat} (hL : len m ≤ L) (hn : len n ≤ L) (hk : k ≤ L + 1) (hv : valN F k + cy * pB k = valN (dg m) k + n) (hF : ∀ i, k ≤ i → F i = dg m i) (hk2 : len n ≤ k) : (cy = 0 → valN F (L + 1) = m + n) ∧ (0 < cy → k < L + 1) := by
  constructor
  · intro h0
    have key : ∀ j, k + j ≤ L + 1 → valN F (k + j) = valN (dg m) (k + j) + n := by
      intro j
      induction j with
      | zero => intro _; rw [h0] at hv; simpa using hv
      | succ j ih =>
        intro hj
        rw [← Nat.add_assoc, valN, valN, ih (by omega), hF _ (by omega)]; omega
    have := key (L + 1 - k) (by omega)
    rw [show k + (L + 1 - k) = L + 1 by omega, valN_dg_all (by omega)] at this
    exact this
  · intro h0
    rcases Nat.lt_or_ge k (L + 1) with h | h
    · exact h
    · exfalso
      have : k = L + 1 := by omega
      subst this
      rw [valN_dg_all (by omega)] at hv
      have a := lt_pB hL
      have b := lt_pB hn
      rw [pB_succ] at hv
      have : 1 * (4294967296 * pB L) ≤ cy * (4294967296 * pB L) := Nat.mul_le_mul_right _ h0
      omega

theorem wf_dg (m : Nat) {n : Nat} : ∀ i, i < n → dg m i < 4294967296 := fun i _ => dg_lt m i

end

/-! ### Nate -/
section
open Go.RowKit

theorem dif_end {m n k L bw : Nat} {F : Nat → Nat} (hL : len m = L) (hnm : n ≤ m) (hk : k ≤ L) (hb : ∀ i, i < L → F i < 4294967296) (hv : valN F k + n = valN (dg m) k + bw * pB k) (hF : ∀ i, k ≤ i → i < L → F i = dg m i) : (bw = 0 → valN F L = m - n) ∧ (0 < bw → k < L) := by
  constructor
  · intro h0
    have key : ∀ j, k + j ≤ L → valN F (k + j) + n = valN (dg m) (k + j) := by
      intro j
      induction j with
      | zero => intro _; rw [h0] at hv; simpa using hv
      | succ j ih =>
        intro hj
        have := ih (by omega)
        rw [← Nat.add_assoc, valN, valN, hF _ (by omega) (by omega)]; omega
    have := key (L - k) (by omega)
    rw [show k + (L - k) = L by omega, valN_dg_all (by omega)] at this
    omega
  · intro h0
    rcases Nat.lt_or_ge k L with h | h
    · exact h
    · exfalso
      have : k = L := by omega
      subst this
      rw [valN_dg_all (by omega)] at hv
      have a := valN_lt hb
      have : 1 * pB k ≤ bw * pB k := Nat.mul_le_mul_right _ h0
      omega

end

/-! ### Natf -/
section
open Go.RowKit

end
end

/-! ### Mnatg -/
section
/-! ### Natg -/
section
open Go.RowKit

end

/-! ### Nath -/
section
open Go.RowKit

/-- One step of the inner loop of a product. -/
theorem mul_step {V W x y z c i j t N : Nat} (h : V + c * pB (i + j) = W + x * (N % pB j) * pB i) (hy : dg N j = y) (ht : c + (x * y + z) = t) :
    V + t % 4294967296 * pB (i + j) + t / 4294967296 * pB (i + (j + 1)) = W + z * pB (i + j) + x * (N % pB (j + 1)) * pB i := by
  have h1 := Nat.div_add_mod t 4294967296
  have h2 := congrArg (· * pB (i + j)) h1
  have h3 := congrArg (· * pB (i + j)) ht
  simp only [Nat.add_mul] at h2 h3
  rw [show i + (j + 1) = i + j + 1 by omega, pB_succ, mod_pB_succ, hy, ← Nat.mul_assoc, Nat.mul_comm (t / _), Nat.mul_add, Nat.add_mul]
  have e : x * (y * pB j) * pB i = x * y * pB (i + j) := by
    rw [pB_add]; generalize pB i = a; generalize pB j = b
    simp only [Nat.mul_comm, Nat.mul_left_comm]
  rw [e]
  omega
theorem mul_carry {x y z c t : Nat} (hx : x < 4294967296) (hy : y < 4294967296) (hz : z < 4294967296) (hc : c < 4294967296) (ht : c + (x * y + z) = t) : t < 18446744073709551616 ∧ t / 4294967296 < 4294967296 ∧ x * y < 18446744073709551616 ∧ x * y + z < 18446744073709551616 := by
  have h1 : x * y ≤ 4294967295 * 4294967295 := Nat.mul_le_mul (by omega) (by omega)
  omega
/-- One step of the outer loop. -/
theorem mul_outer {V W M N i c l : Nat} (hN : len N = l) (hW : W = M % pB i * N) (hv : V + c * pB (i + l) = W + dg M i * (N % pB l) * pB i) : V + c * pB (i + l) = M % pB (i + 1) * N := by
  rw [hv, hW, Nat.mod_eq_of_lt (a := N) (lt_pB (by omega)), mod_pB_succ, Nat.add_mul]
  congr 1
  generalize dg M i = a; generalize pB i = b
  simp only [Nat.mul_comm, Nat.mul_left_comm]
theorem wrap_u64_nat {n : Nat} (h : n < 18446744073709551616) : IntKind.u64.wrap (n : Int) = (n : Int) := by
  show (n : Int) % 18446744073709551616 = n; omega

end
end

/-! ### Mnati -/
section
/-! ### Nati -/
section
open Go.RowKit

/-- No table is wanted. -/
def Tabs (_ : World) : Prop := True
theorem Tabs.ext {w w' : World} (_ : Tabs w) (_ : Ext w w') : Tabs w' := trivial
def IsTz (m T : Nat) : Prop := (∀ i, i < T → m / 2 ^ i % 2 = 0) ∧ m / 2 ^ T % 2 = 1
theorem isTz_hv {m T k : Nat} (h : IsTz m T) : hv m k = min T k := by
  refine hv_of_bits (Nat.min_le_right _ _) (fun i hi => h.1 i (by omega)) (fun hk => ?_)
  rw [show min T k = T by omega]; exact h.2
theorem ctz_bits {x : Nat} (hx : x < 4294967296) (h0 : x ≠ 0) : (∀ i, i < Lib.ctz 32 x → x / 2 ^ i % 2 = 0) ∧ x / 2 ^ Lib.ctz 32 x % 2 = 1 ∧ Lib.ctz 32 x < 32 := by
  obtain ⟨m, hm, hk⟩ := Lib.ctzFrom_spec 32 x (by omega) hx
  have e : Lib.ctz 32 x = Lib.ctzFrom 32 x := by simp [Lib.ctz, h0]
  rw [e]
  generalize Lib.ctzFrom 32 x = k at *
  refine ⟨fun i hi => ?_, ?_, hk⟩
  · obtain ⟨j, rfl⟩ : ∃ j, k = i + (j + 1) := ⟨k - i - 1, by omega⟩
    rw [hm, Nat.pow_add, Nat.mul_assoc, Nat.mul_div_cancel_left _ (p2_pos i), Nat.pow_succ, Nat.mul_comm (2 ^ j), Nat.mul_assoc]
    omega
  · rw [hm, Nat.mul_div_cancel_left _ (p2_pos k)]; omega
theorem isTz_of {m i x : Nat} (h0 : ∀ j, j < i → dg m j = 0) (hx : dg m i = x) (hne : x ≠ 0) : IsTz m (i * 32 + Lib.ctz 32 x) := by
  obtain ⟨h1, h2, h3⟩ := ctz_bits (x := x) (by rw [← hx]; exact dg_lt _ _) hne
  generalize Lib.ctz 32 x = k at *
  constructor
  · intro j hj
    rw [← bit_dg]
    rcases Nat.lt_or_ge (j / 32) i with h | h
    · rw [h0 _ h]; simp
    · have : j / 32 = i := by omega
      rw [this, hx]; exact h1 _ (by omega)
  · rw [← bit_dg, show (i * 32 + k) / 32 = i by omega, hx, show (i * 32 + k) % 32 = k by omega]; exact h2

def TzRes (m : Nat) (w : World) (e : Ending) (w' : World) : Prop := ∃ T : Nat, e = .returned (I T) ∧ IsTz m T ∧ T < len m * 32 ∧ w = w'
end

/-! ### Natj -/
section
open Go.RowKit

theorem tk_step {c t x y lo lf hi : Nat} (hc : c ≤ 4294967296) (ht : t ≤ 4294967295) (hx : x < 4294967296) (hy : y < 4294967296) (hlo : (c + t * x) % 4294967296 = lo) (hhi : (c + t * x) / 4294967296 = hi)
    (hlf : ((y : Int) - lo) % 18446744073709551616 = (lf : Int)) :
    lf % 4294967296 + (c + t * x) = y + (hi + lf / 9223372036854775808) * 4294967296 ∧ hi + lf / 9223372036854775808 ≤ 4294967296 ∧ c + t * x < 18446744073709551616 ∧ t * x < 18446744073709551616 := by
  have h1 : t * x ≤ 4294967295 * 4294967295 := Nat.mul_le_mul ht (by omega)
  generalize t * x = p at *
  omega
theorem tk_est {F f : Nat → Nat} {L q0 fst : Nat} (hF : ∀ i, i < L + 2 → F i < 4294967296) (hM : F (L + 1) * 4294967296 + F L = fst) (ht : 0 < f L) (hQ : q0 * valN f (L + 1) ≤ valN F (L + 2)) : q0 ≤ fst / f L := by
  refine quo_le L (M := valN F (L + 2)) (N := valN f (L + 1)) ?_ ?_ ht q0 hQ
  · have hb := valN_lt (f := F) (k := L) (fun i hi => hF i (by omega))
    rw [valN, valN, ← hM, pB_succ, Nat.add_mul, Nat.add_mul, ← Nat.mul_assoc]
    omega
  · rw [valN]; omega
theorem tk_neg {V M N t P : Nat} {top : Int} (hV : V < P) (h : (V : Int) + top * P = (M : Int) - (t : Int) * N) (ht : top < 0) : M < t * N := by
  have h1 : top * P ≤ -1 * P := Int.mul_le_mul_of_nonneg_right (by omega) (by omega)
  have h2 : ((t * N : Nat) : Int) = (t : Int) * N := by simp
  omega
theorem tk_pos {V M N t P : Nat} {top : Int} (hN : N < P) (hNP : 0 < N) (h : (V : Int) + top * P = (M : Int) - (t : Int) * N) (ht : 0 ≤ top) (hQ : M / N ≤ t) : t = M / N ∧ top = 0 ∧ V = M % N := by
  have h0 : 0 ≤ top * P := Int.mul_nonneg ht (by omega)
  have h2 : ((t * N : Nat) : Int) = (t : Int) * N := by simp
  have h3 : t * N ≤ M := by omega
  have h4 : t ≤ M / N := (Nat.le_div_iff_mul_le hNP).2 h3
  have h5 : t = M / N := by omega
  have h6 := Nat.div_add_mod M N
  have h7 := Nat.mod_lt M hNP
  rw [← h5, Nat.mul_comm] at h6
  have h8 : top = 0 := by
    rcases Int.lt_or_le 0 top with h | h
    · have : 1 * (P : Int) ≤ top * P := Int.mul_le_mul_of_nonneg_right (by omega) (by omega)
      omega
    · omega
  subst h8
  exact ⟨h5, rfl, by omega⟩

def TakePost (w : World) (base g N C o L : Nat) (F f : Nat → Nat) (e : Ending) (w' : World) : Prop :=
  ∃ F' : Nat → Nat, e = .returned (U4 (valN (fun i => F (o + i)) (L + 1) / valN f L)) ∧ Row w' base g N C F' ∧ w.grownBy w' (some g) ∧ (∀ i, i < N → F' i < 4294967296) ∧ (∀ i, i < o ∨ o + (L + 1) ≤ i → F' i = F i) ∧ F' (o + L) = 0 ∧
    valN (fun i => F' (o + i)) L = valN (fun i => F (o + i)) (L + 1) % valN f L

end
end

end Go.Proofs.Ytommlhdiefoocaa
