/- Dot: one element; the order of the elements. -/
import Derived.Test.YtfllhbebackbdaaWordq
import Derived.Laws.Bits64b
namespace Go.Proofs.Ytfllhbebackbdaa
open Go.RowKit

theorem u64_nat (x : Int) : IntKind.u64.wrap x = ((x % M64).toNat : Int) := by
  rw [u64_wrap]; have : 0 ≤ x % M64 := by unfold M64; omega
  omega
theorem join_small {p n : Int} (h1 : -4611686018427387904 ≤ p) (h2 : p ≤ 4611686018427387904) (n1 : 0 ≤ n) (n2 : n ≤ 62) :
    joinF (p % M64) (p / M64) n = p / 2 ^ n.toNat := by
  obtain ⟨k, rfl⟩ : ∃ k : Nat, n = (k : Int) := ⟨n.toNat, by omega⟩
  have hk : k ≤ 62 := by omega
  have p1 := pow_pos k
  have p2 := pow62 hk
  have e0 : (k : Int).toNat = k := by simp
  have e1 : (64 - (k : Int)).toNat = 64 - k := by omega
  unfold joinF
  rw [e0, e1]
  have lo_nn : 0 ≤ p % M64 := by unfold M64; omega
  have lo_lt : p % M64 < M64 := by unfold M64; omega
  have q_nn : 0 ≤ (p % M64) / 2 ^ k := Int.ediv_nonneg lo_nn (by omega)
  by_cases hp : 0 ≤ p
  · have eh : p / M64 = 0 := by unfold M64; omega
    have el : p % M64 = p := by unfold M64; omega
    rw [el] at q_nn lo_nn lo_lt
    rw [eh, el]
    have ew : IntKind.u64.wrap (IntKind.u64.wrap 0 * 2 ^ (64 - k)) = 0 := by
      rw [u64_wrap 0]; simp [M64, u64_wrap]
    rw [ew]
    have hle : p / 2 ^ k ≤ p := Int.ediv_le_self _ hp
    obtain ⟨a, ha⟩ := Int.eq_ofNat_of_zero_le q_nn
    rw [ha]
    have := bits_or_u64_nat a 0 (by omega) (by decide)
    rw [show ((0 : Nat) : Int) = 0 by rfl] at this
    rw [this, Nat.or_zero]
    exact wrap_id (by omega) (by omega)
  · have eh : p / M64 = -1 := by unfold M64; omega
    have el : p % M64 = p + M64 := by unfold M64; omega
    rw [el] at q_nn lo_nn lo_lt
    rw [eh, el]
    have split : M64 = 2 ^ k * 2 ^ (64 - k) := by rw [← Int.pow_add, show k + (64 - k) = 64 by omega]; rfl
    have p3 := pow_pos (64 - k)
    have ed : (p + M64) / 2 ^ k = p / 2 ^ k + 2 ^ (64 - k) := by
      rw [split, Int.add_mul_ediv_left _ _ (by omega)]
    have hneg : p / 2 ^ k < 0 := Int.ediv_neg_of_neg_of_pos (by omega) (by omega)
    have hge : p ≤ p / 2 ^ k := by
      have h1 : p * 2 ^ k ≤ p * 1 := Int.mul_le_mul_of_nonpos_left (by omega) (by omega)
      exact Int.le_ediv_of_mul_le (by omega) (by omega)
    have ew : IntKind.u64.wrap (IntKind.u64.wrap (-1) * 2 ^ (64 - k)) = ((2 ^ k - 1) * 2 ^ (64 - k) : Int) := by
      rw [u64_wrap (-1), u64_wrap]
      have : (-1 : Int) % M64 = M64 - 1 := by decide
      rw [this]
      have e3 : (M64 - 1) * 2 ^ (64 - k) = (2 ^ k - 1) * 2 ^ (64 - k) + M64 * (2 ^ (64 - k) - 1) := by
        have : M64 * (2 ^ (64 - k) - 1) = M64 * 2 ^ (64 - k) - M64 := by rw [Int.mul_sub]; omega
        rw [this, Int.sub_mul, Int.sub_mul, ← split]; omega
      rw [e3, Int.add_mul_emod_self_left]
      have e4 : (2 ^ k - 1) * 2 ^ (64 - k) = M64 - 2 ^ (64 - k) := by rw [Int.sub_mul, ← split]; omega
      rw [e4]
      have p4 := pow_le (j := 64 - k) (k := 64) (by omega)
      have e5 : (2 : Int) ^ 64 = M64 := rfl
      exact Int.emod_eq_of_lt (by omega) (by omega)
    rw [ew, ed]
    have q_nn' : 0 ≤ p / 2 ^ k + 2 ^ (64 - k) := by rw [← ed]; exact q_nn
    obtain ⟨a, ha⟩ := Int.eq_ofNat_of_zero_le q_nn'
    have hc : ((2 ^ k - 1) * 2 ^ (64 - k) : Int) = (((2 ^ k - 1) * 2 ^ (64 - k) : Nat) : Int) := by
      have : 1 ≤ 2 ^ k := Nat.one_le_two_pow
      rw [Int.natCast_mul, Int.ofNat_sub this]; simp
    rw [ha, hc]
    have ha2 : a < 2 ^ (64 - k) := by
      have : (a : Int) < 2 ^ (64 - k) := by omega
      exact_mod_cast this
    have hs2 : (2 : Nat) ^ k * 2 ^ (64 - k) = 18446744073709551616 := by rw [← Nat.pow_add, show k + (64 - k) = 64 by omega]
    have hb2 : (2 ^ k - 1) * 2 ^ (64 - k) < 18446744073709551616 := by
      rw [Nat.sub_mul, hs2]; have : 1 ≤ 2 ^ (64 - k) := Nat.one_le_two_pow; omega
    have ha3 : 2 ^ (64 - k) ≤ 18446744073709551616 := by have := Nat.pow_le_pow_right (n := 2) (by decide) (show 64 - k ≤ 64 by omega); simpa using this
    rw [bits_or_u64_nat a _ (by omega) hb2, Nat.or_comm, Nat.mul_comm, ← Nat.two_pow_add_eq_or_of_lt ha2, Nat.mul_comm, Nat.sub_mul, hs2]
    have h1k : 1 ≤ 2 ^ (64 - k) := Nat.one_le_two_pow
    have e6 : ((18446744073709551616 - 1 * 2 ^ (64 - k) + a : Nat) : Int) = p / 2 ^ k + M64 := by
      rw [Int.natCast_add, Int.ofNat_sub (by omega), ← ha]; simp [M64]; omega
    rw [e6]
    unfold wrap64 M64; omega

theorem tsr_small {p n m : Int} (h1 : -4611686018427387904 ≤ p) (h2 : p ≤ 4611686018427387904) (n1 : 0 ≤ n) (n2 : n ≤ 62) : tsr p n m = rnd p n m := by
  have p1 := pow_pos n.toNat
  have hj := join_small h1 h2 n1 n2
  obtain ⟨b1, b2, _, _, sg⟩ := ediv_bd (X := p) (d := 2 ^ n.toNat) p1 h1 h2
  have e : tsrQ p n = p / 2 ^ n.toNat := by
    unfold tsrQ
    rw [hj]
    have hh : p / M64 / 2 ^ n.toNat = p / 2 ^ n.toNat / 9223372036854775808 := by
      by_cases hp : 0 ≤ p
      · have eh : p / M64 = 0 := by unfold M64; omega
        have := Int.ediv_nonneg hp (show (0 : Int) ≤ 2 ^ n.toNat by omega)
        rw [eh, Int.zero_ediv]; omega
      · have eh : p / M64 = -1 := by unfold M64; omega
        have hn := sg.1 (by omega)
        rw [eh]
        have : (-1 : Int) / 2 ^ n.toNat = -1 := by
          have a := Int.ediv_neg_of_neg_of_pos (show (-1 : Int) < 0 by decide) (show (0 : Int) < 2 ^ n.toNat by omega)
          have c : (-1 : Int) ≤ -1 / 2 ^ n.toNat := Int.le_ediv_of_mul_le (by omega) (by omega)
          omega
        rw [this]; omega
    rw [if_pos hh, if_pos b2]
  unfold tsr
  rw [e]; rfl

theorem dot_one (b s n m : Int) (f g : Nat → Int) : dotF b s n m f g 1 = mulF b s (f 0) (g 0) n m := by
  have hl : lstF b s f g 1 = pairF b s (f 0) (g 0) := by
    unfold lstF pairF; simp [allB]
  by_cases hp : pairF b s (f 0) (g 0) = 0
  · by_cases hn : 0 ≤ n ∧ n ≤ 62 ∧ 0 ≤ m ∧ m ≤ 3
    · obtain ⟨n1, n2, m1, m2⟩ := hn
      obtain ⟨hv, hx, hy⟩ := pair_of hp
      obtain ⟨h1, h2, _, _⟩ := chk_of hv
      obtain ⟨q1, q2⟩ := mul_bd (inB_bd h2 hx) (inB_bd h2 hy)
      have es : sumS f g 1 = f 0 * g 0 := by simp [sumS]
      rw [dot_ok ⟨hl.trans hp, n1, n2, m1, m2⟩, mulF_ok hp rfl n1 n2 m1 m2, es, tsr_small q1 q2 n1 n2]
    · rw [dot_bad (fun h => hn h.2), mulF_bad hn]
  · rw [dot_bad (fun h => hp (hl.symm.trans h.1)), mulF_pair hp]

/-! ### The other way round -/
theorem allB_iff {b : Int} {f g : Nat → Int} {L : Nat} : allB b f g L = true ↔ ∀ k, k < L → inB b (f k) = true ∧ inB b (g k) = true := by
  constructor
  · exact fun h k hk => allB_lt h hk
  · intro h
    induction L with
    | zero => rfl
    | succ L ih =>
      simp only [allB, Bool.and_eq_true]
      exact ⟨ih (fun k hk => h k (by omega)), h L (by omega)⟩
theorem sumS_shift (f g : Nat → Int) (L : Nat) : sumS f g (L + 1) = f 0 * g 0 + sumS (fun i => f (i + 1)) (fun i => g (i + 1)) L := by
  induction L with
  | zero => simp [sumS]
  | succ L ih =>
    show sumS f g (L + 1) + f (L + 1) * g (L + 1) = f 0 * g 0 + (sumS (fun i => f (i + 1)) (fun i => g (i + 1)) L + f (L + 1) * g (L + 1))
    rw [ih]; omega
theorem sumS_congr {f g f' g' : Nat → Int} {L : Nat} (h : ∀ k, k < L → f k = f' k ∧ g k = g' k) : sumS f g L = sumS f' g' L := by
  induction L with
  | zero => rfl
  | succ L ih =>
    show sumS f g L + f L * g L = sumS f' g' L + f' L * g' L
    rw [ih (fun k hk => h k (by omega)), (h L (by omega)).1, (h L (by omega)).2]
theorem sumS_rev (L : Nat) : ∀ f g : Nat → Int, sumS (fun i => f (L - 1 - i)) (fun i => g (L - 1 - i)) L = sumS f g L := by
  induction L with
  | zero => intro f g; rfl
  | succ L ih =>
    intro f g
    rw [sumS_shift]
    show f (L + 1 - 1 - 0) * g (L + 1 - 1 - 0) + sumS (fun i => f (L + 1 - 1 - (i + 1))) (fun i => g (L + 1 - 1 - (i + 1))) L = sumS f g L + f L * g L
    rw [show L + 1 - 1 - 0 = L by omega]
    have := ih f g
    rw [sumS_congr (f := fun i => f (L + 1 - 1 - (i + 1))) (g := fun i => g (L + 1 - 1 - (i + 1))) (f' := fun i => f (L - 1 - i)) (g' := fun i => g (L - 1 - i)) (L := L) (fun k hk => by
      show f (L + 1 - 1 - (k + 1)) = f (L - 1 - k) ∧ g (L + 1 - 1 - (k + 1)) = g (L - 1 - k)
      rw [show L + 1 - 1 - (k + 1) = L - 1 - k by omega]; exact ⟨rfl, rfl⟩), this]
    omega
theorem dot_rev (b s n m : Int) (f g : Nat → Int) (L : Nat) : dotF b s n m (fun i => f (L - 1 - i)) (fun i => g (L - 1 - i)) L = dotF b s n m f g L := by
  have ha : allB b (fun i => f (L - 1 - i)) (fun i => g (L - 1 - i)) L = allB b f g L := by
    rw [Bool.eq_iff_iff, allB_iff, allB_iff]
    constructor
    · intro h k hk
      have := h (L - 1 - k) (by omega)
      rwa [show L - 1 - (L - 1 - k) = k by omega] at this
    · intro h k hk
      exact h (L - 1 - k) (by omega)
  have hl : lstF b s (fun i => f (L - 1 - i)) (fun i => g (L - 1 - i)) L = lstF b s f g L := by unfold lstF; rw [ha]
  have hP : dotP b s n m (fun i => f (L - 1 - i)) (fun i => g (L - 1 - i)) L ↔ dotP b s n m f g L := by unfold dotP; rw [hl]
  by_cases hp : dotP b s n m f g L
  · rw [dot_ok hp, dot_ok (hP.2 hp), sumS_rev]
  · rw [dot_bad hp, dot_bad (fun h => hp (hP.1 h))]

end Go.Proofs.Ytfllhbebackbdaa
