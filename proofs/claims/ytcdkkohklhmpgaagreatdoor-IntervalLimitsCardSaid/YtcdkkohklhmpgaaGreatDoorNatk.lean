/- Functions on natural numbers, part 11: quotients. -/
import Derived.Test.YtcdkkohklhmpgaaGreatDoorMnati
import Derived.Test.YtcdkkohklhmpgaaGreatDoorShelf
namespace Go.Proofs.YtcdkkohklhmpgaaGreatDoor
open Go.RowKit

theorem valN_split (F : Nat → Nat) (i n : Nat) : valN F (i + n) = valN F i + pB i * valN (fun k => F (i + k)) n := by
  induction n with
  | zero => simp [valN]
  | succ n ih =>
    rw [← Nat.add_assoc, valN, ih, valN, pB_add, Nat.mul_add, Nat.add_assoc]
    congr 2
    rw [Nat.mul_left_comm]
theorem valN_upd_mid {G : Nat → Nat} {i K v : Nat} (hi : i < K) (h0 : G i = 0) : valN (upd G i v) K = valN G K + v * pB i := by
  induction K with
  | zero => omega
  | succ K ih =>
    by_cases e : i = K
    · subst e; rw [valN_upd, valN, h0]; simp
    · rw [valN, ih (by omega), valN, upd_ne _ (by omega)]; omega
/-- One word of a quotient. -/
theorem quo_step {F F' G : Nat → Nat} {D R K ld i : Nat} (hi : i < K) (hG : G i = 0) (h1 : valN F (i + 1 + ld) + valN G K * D = R) (hF : ∀ k, k < i → F' k = F k)
    (hM : valN (fun k => F' (i + k)) ld = valN (fun k => F (i + k)) (ld + 1) % D) : valN F' (i + ld) + valN (upd G i (valN (fun k => F (i + k)) (ld + 1) / D)) K * D = R := by
  have h2 := valN_split F i (ld + 1)
  have h3 := valN_split F' i ld
  have h4 : valN F' i = valN F i := valN_congr hF
  rw [show i + (ld + 1) = i + 1 + ld by omega] at h2
  rw [h3, h4, hM, valN_upd_mid hi hG, ← h1, h2]
  generalize valN (fun k => F (i + k)) (ld + 1) = M
  have h5 := Nat.div_add_mod M D
  generalize M / D = q at *
  generalize M % D = r at *
  subst h5
  rw [Nat.mul_add, Nat.add_mul]
  have : pB i * (D * q) = q * pB i * D := by rw [Nat.mul_left_comm, Nat.mul_comm D, Nat.mul_comm (pB i)]
  omega
theorem quo_inv {F : Nat → Nat} {D ld i : Nat} (h : valN (fun k => F (i + 1 + k)) ld < D) (hb : F i < 4294967296) : valN (fun k => F (i + k)) (ld + 1) < D * 4294967296 := by
  have h1 := valN_split (fun k => F (i + k)) 1 ld
  rw [show valN (fun k => F (i + k)) 1 = F i by simp [valN, pB_zero], show pB 1 = 4294967296 by decide] at h1
  have h2 : valN (fun k => F (i + (1 + k))) ld = valN (fun k => F (i + 1 + k)) ld := valN_congr fun k _ => by rw [Nat.add_assoc]
  rw [Nat.add_comm ld 1, h1, h2]
  omega
theorem quo_start {R D lr : Nat} (hR : len R = lr) (hD : 0 < D) (hld : len D ≤ lr) : valN (fun k => dg R (lr + 1 - len D + k)) (len D) < D := by
  have e : valN (fun k => dg R (lr + 1 - len D + k)) (len D) = R / pB (lr + 1 - len D) := by
    rw [valN_congr (g := dg (R / pB (lr + 1 - len D))) (fun i _ => (dg_div _ _ _).symm)]
    refine valN_dg_all ?_
    rw [len_div]; omega
  rw [e, Nat.div_lt_iff_lt_mul (pB_pos _)]
  have h1 := pB_le_of_lt_len (m := D) (n := len D - 1) (by have := len_pos (m := D) (by omega); omega)
  have h2 := lt_pB (m := R) (n := lr) (by omega)
  have h3 : pB lr = pB (len D - 1) * pB (lr + 1 - len D) := by
    have := len_pos (m := D) (by omega)
    rw [← pB_add]; congr 1; omega
  rw [h3] at h2
  exact Nat.lt_of_lt_of_le h2 (Nat.mul_le_mul_right _ h1)
theorem quo_end {F G : Nat → Nat} {D R K ld : Nat} (hD : valN F ld < D) (h : valN F ld + valN G K * D = R) : valN G K = R / D ∧ valN F ld = R % D := by
  subst h
  constructor
  · rw [Nat.add_mul_div_right _ _ (by omega), Nat.div_eq_of_lt hD]; simp
  · rw [Nat.add_mul_mod_self_right, Nat.mod_eq_of_lt hD]
theorem shl_quo (m n s : Nat) : m * 2 ^ s / (n * 2 ^ s) = m / n ∧ (m * 2 ^ s % (n * 2 ^ s) = 0 ↔ m % n = 0) := by
  refine ⟨Nat.mul_div_mul_right _ _ (p2_pos s), ?_⟩
  rw [Nat.mul_mod_mul_right]
  constructor
  · intro h
    rcases Nat.mul_eq_zero.1 h with h | h
    · exact h
    · have := p2_pos s; omega
  · intro h; rw [h]; simp

def QuoRes (m n : Nat) (w : World) (e : Ending) (w' : World) : Prop :=
  ∃ A c, e = .returned (.tuple #[.slice A (len (m / n)) c, .bool (decide (m % n = 0))]) ∧ On w' w.heap.size A (len (m / n)) c (dg (m / n)) ∧ Ext w w'
theorem cmpF_neg {m n : Nat} (h : m < n) : cmpF m n = -1 := cmp_lt h

theorem len_shl2 (m n : Nat) : len (m * 2 ^ n) ≤ len m + (n / 32 + 1) := by
  refine len_le ?_
  rw [pB_add]
  have h : 2 ^ n < pB (n / 32 + 1) := by
    rw [pB_two]; exact Nat.pow_lt_pow_right (by decide) (by omega)
  rcases Nat.eq_zero_or_pos m with h0 | h0
  · subst h0; rw [Nat.zero_mul]; exact Nat.mul_pos (pB_pos _) (pB_pos _)
  · exact Nat.lt_of_lt_of_le (Nat.mul_lt_mul_of_pos_left h h0) (Nat.mul_le_mul_right _ (Nat.le_of_lt (lt_pB_len m)))

/-- The division itself. -/
def DivRel (w : World) (g1 g2 N K cap ld D R j : Nat) (F G : Nat → Nat) (wr : World) : Prop :=
  Row wr w.heap.size g1 N cap F ∧ Row wr g2 g2 K K G ∧ Ext w wr ∧ (∀ i, i < N → F i < 4294967296) ∧ (∀ i, i < K → G i < 4294967296) ∧ (∀ k, j + ld ≤ k → k < N → F k = 0) ∧ (∀ k, k < j → G k = 0) ∧
    valN F (j + ld) + valN G K * D = R ∧ valN (fun k => F (j + k)) ld < D

end Go.Proofs.YtcdkkohklhmpgaaGreatDoor
