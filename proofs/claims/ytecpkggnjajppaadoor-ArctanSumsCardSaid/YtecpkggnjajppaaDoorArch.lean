/- The laws of package arctan: the plain mathematics. -/
import Derived.Test.YtecpkggnjajppaaDoorArca
namespace Go.Proofs.YtecpkggnjajppaaDoor
open Go.RowKit

theorem not_big {x y : Int} (hx : -1099511627776 ≤ x ∧ x ≤ 1099511627776) (hy : -1099511627776 ≤ y ∧ y ≤ 1099511627776) : ¬ big x y := by unfold big; omega
theorem i64_w {x : Int} (h : -9223372036854775808 ≤ x ∧ x ≤ 9223372036854775807) : IntKind.i64.wrap x = x := IntWalk.i64_in _ h

/-! P7.2 -/
theorem crs_self (a k : Int) : crs a (k * cs a) (k * sn a) = 0 := by unfold crs; grind
theorem crs_next (a k : Int) (hk : 0 < k) : crs (a + 1) (k * cs a) (k * sn a) < 0 := by
  have := cross_fact (a := a) (d := 1) (by omega) (by omega)
  have p := Int.mul_pos hk this
  have e : crs (a + 1) (k * cs a) (k * sn a) = -(k * (cs a * sn (a + 1) - sn a * cs (a + 1))) := by unfold crs; grind
  rw [e]; omega
theorem k_bd {k c : Int} (h0 : 1 ≤ k) (h1 : k ≤ 16777216) (hc : -32768 ≤ c ∧ c ≤ 32768) : -549755813888 ≤ k * c ∧ k * c ≤ 549755813888 := by
  have a := Int.mul_le_mul_of_nonneg_left hc.1 (show 0 ≤ k by omega)
  have b := Int.mul_le_mul_of_nonneg_left hc.2 (show 0 ≤ k by omega)
  omega
theorem back_law {a k : Int} (h0 : 1 ≤ k) (h1 : k ≤ 16777216) : ang (k * cs a) (k * sn a) = nrm a := by
  have b1 := k_bd h0 h1 (cs_bd a)
  have b2 := k_bd h0 h1 (sn_bd a)
  exact ang_is (not_big (by omega) (by omega)) (by rw [crs_self]; exact Int.le_refl _) (crs_next a k (by omega))

theorem bounds_law {x y : Int} (h : ¬ (x = 0 ∧ y = 0)) (hb : ¬ big x y) : 0 ≤ crs (ang x y) x y ∧ crs (ang x y + 1) x y < 0 ∧ 0 < dot (ang x y) x y := by
  rw [ang_small h hb]; exact ang_at h

/-! P7.3: quarters. -/
theorem crs_quarter (a x y : Int) : crs (a + 16384) (-y) x = crs a x y := by unfold crs; rw [cs_quarter, sn_quarter]; grind
theorem quarter_law {x y : Int} (h : ¬ (x = 0 ∧ y = 0)) (hb : ¬ big x y) : ang (-y) x = nrm (ang x y + 16384) := by
  obtain ⟨A, B, -⟩ := bounds_law h hb
  refine ang_is (by unfold big at *; omega) (by rw [crs_quarter]; exact A) ?_
  rw [show ang x y + 16384 + 1 = (ang x y + 1) + 16384 by omega, crs_quarter]; exact B
theorem half_law {x y : Int} (h : ¬ (x = 0 ∧ y = 0)) (hb : ¬ big x y) : ang (-x) (-y) = nrm (ang x y + 32768) := by
  have q1 := quarter_law h hb
  have q2 := quarter_law (x := -y) (y := x) (by omega) (by unfold big at *; omega)
  rw [q2, q1]; unfold nrm; omega
theorem times_law {x y k : Int} (h : ¬ (x = 0 ∧ y = 0)) (hb : ¬ big x y) (hk : 0 < k) (hb' : ¬ big (k * x) (k * y)) : ang (k * x) (k * y) = ang x y := by
  obtain ⟨A, B, -⟩ := bounds_law h hb
  have e : ∀ a, crs a (k * x) (k * y) = k * crs a x y := fun a => by unfold crs; grind
  have := ang_is (x := k * x) (y := k * y) (k := ang x y) hb' (by rw [e]; exact Int.mul_nonneg (Int.le_of_lt hk) A) (by rw [e]; have := Int.mul_pos hk (show 0 < -crs (ang x y + 1) x y by omega); rw [Int.mul_neg] at this; omega)
  rw [this]; have := ang_bd x y; unfold nrm; omega
theorem crs_mirror (a x y : Int) : crs (-a) x (-y) = -crs a x y := by unfold crs; rw [cs_neg, sn_neg]; grind
theorem mirror_law {x y : Int} (h : ¬ (x = 0 ∧ y = 0)) (hb : ¬ big x y) : nrm (ang x y + ang x (-y)) = 0 ∨ nrm (ang x y + ang x (-y)) = 65535 := by
  obtain ⟨A, B, C⟩ := bounds_law h hb
  have hb' : ¬ big x (-y) := by unfold big at *; omega
  by_cases hz : crs (ang x y) x y = 0
  · left
    have e1 : crs (-ang x y + 1) x (-y) = -crs (ang x y - 1) x y := by rw [show -ang x y + 1 = -(ang x y - 1) by omega, crs_mirror]
    have := ang_is (x := x) (y := -y) (k := -ang x y) hb' (by rw [crs_mirror, hz]; decide) (by
      rw [e1]
      have c := cross_fact (a := ang x y - 1) (d := 1) (by omega) (by omega)
      rw [show ang x y - 1 + 1 = ang x y by omega] at c
      have l := len_fact (ang x y)
      have p := Int.mul_pos c C
      have id : crs (ang x y - 1) x y * (cs (ang x y) * cs (ang x y) + sn (ang x y) * sn (ang x y)) = (cs (ang x y - 1) * sn (ang x y) - sn (ang x y - 1) * cs (ang x y)) * dot (ang x y) x y + (cs (ang x y - 1) * cs (ang x y) + sn (ang x y - 1) * sn (ang x y)) * crs (ang x y) x y := by unfold crs dot; grind
      rw [hz, Int.mul_zero, Int.add_zero] at id
      rw [← id] at p
      rcases (show 0 < crs (ang x y - 1) x y ∨ crs (ang x y - 1) x y ≤ 0 by omega) with k | k
      · omega
      · have := Int.mul_nonneg (show 0 ≤ -crs (ang x y - 1) x y by omega) (show 0 ≤ cs (ang x y) * cs (ang x y) + sn (ang x y) * sn (ang x y) by omega)
        rw [Int.neg_mul] at this; omega)
    rw [this]; unfold nrm; omega
  · right
    have := ang_is (x := x) (y := -y) (k := -(ang x y + 1)) hb' (by rw [crs_mirror]; omega) (by rw [show -(ang x y + 1) + 1 = -ang x y by omega, crs_mirror]; omega)
    rw [this]; unfold nrm; omega

/-! P7.3: the order. -/
theorem sgn_neg (d : Int) : sgn (-d) = -sgn d := by unfold sgn; (repeat' split) <;> omega
theorem cmpq_anti (p X Y q U V : Int) : cmpq p X Y q U V = -cmpq q U V p X Y := by
  unfold cmpq
  rw [show V * X - Y * U = -(Y * U - V * X) by omega, sgn_neg]
  (repeat' split) <;> omega
theorem cmpq_refl (p X Y : Int) : cmpq p X Y p X Y = 0 := by unfold cmpq sgn; rw [if_neg (by omega), if_neg (by omega), if_neg (by omega), if_pos (by omega)]
theorem cmpq_bd (p X Y q U V : Int) : -1 ≤ cmpq p X Y q U V ∧ cmpq p X Y q U V ≤ 1 := by unfold cmpq sgn; (repeat' split) <;> omega
theorem fa_mono {X Y U V : Int} (hX : 0 < X) (hY : 0 ≤ Y) (hU : 0 < U) (hV : 0 ≤ V) (h : Y * U ≤ V * X) : fa X Y ≤ fa U V := by
  have a := fa_at (x := X) hY
  obtain ⟨b0, b1⟩ := fa_bd X Y
  have b' := fa_next (y := V) hU
  have f := fa_bd U V
  rcases (show fa X Y ≤ fa U V ∨ fa U V + 1 ≤ fa X Y by omega) with k | k
  · exact k
  · exfalso
    have P : qs (fa X Y) * U ≤ qs (16384 - fa X Y) * V := by
      have c0 := (qs_bd (r := 16384 - fa X Y) (by omega) (by omega)).1
      have m1 := Int.mul_le_mul_of_nonneg_right a (Int.le_of_lt hU)
      have m2 := Int.mul_le_mul_of_nonneg_left h c0
      generalize qs (fa X Y) = s at *
      generalize qs (16384 - fa X Y) = c at *
      have e : (c * V - s * U) * X = (c * (V * X) - c * (Y * U)) + (c * Y * U - s * X * U) := by grind
      rcases (show s * U ≤ c * V ∨ 0 < -(c * V - s * U) by omega) with k | k
      · exact k
      · have := Int.mul_pos k hX; rw [Int.neg_mul, e] at this; omega
    have := at_down hU hV (r := fa U V + 1) (t := fa X Y) (by omega) k (by omega) P
    omega
theorem order_q {p X Y q U V : Int} (hX : 0 < X) (hY : 0 ≤ Y) (hU : 0 < U) (hV : 0 ≤ V) (h : cmpq p X Y q U V ≤ 0) : 16384 * p + fa X Y ≤ 16384 * q + fa U V := by
  have b1 := fa_bd X Y
  have b2 := fa_bd U V
  unfold cmpq at h
  split at h
  · omega
  · split at h
    · omega
    · have : Y * U ≤ V * X := by unfold sgn at h; (repeat' split at h) <;> omega
      have := fa_mono hX hY hU hV this
      omega
theorem order_le {x y u v : Int} (h : cmpd x y u v ≤ 0) : ang x y ≤ ang u v := by
  obtain ⟨a1, a2⟩ := qd_pos (v_ne (x := x) (y := y))
  obtain ⟨b1, b2⟩ := qd_pos (v_ne (x := u) (y := v))
  exact order_q a1 a2 b1 b2 h
theorem cmpd_anti (x y u v : Int) : cmpd u v x y = -cmpd x y u v := cmpq_anti _ _ _ _ _ _
theorem cmpd_refl (x y : Int) : cmpd x y x y = 0 := cmpq_refl _ _ _
theorem cmpd_bd (x y u v : Int) : -1 ≤ cmpd x y u v ∧ cmpd x y u v ≤ 1 := cmpq_bd _ _ _ _ _ _
theorem order_law (x y u v : Int) : (cmpd x y u v = 0 → ang x y = ang u v) ∧ (cmpd x y u v < 0 → ang x y ≤ ang u v) ∧ (0 < cmpd x y u v → ang u v ≤ ang x y) := by
  refine ⟨fun h => ?_, fun h => order_le (by omega), fun h => order_le (by rw [cmpd_anti]; omega)⟩
  have a := order_le (x := x) (y := y) (u := u) (v := v) (by omega)
  have b := order_le (x := u) (y := v) (u := x) (v := y) (by rw [cmpd_anti]; omega)
  omega

/-! P7.3: the chain. -/
theorem chain_s {X Y U V A B : Int} (hX : 0 < X) (hU : 0 < U) (hA : 0 < A) (h1 : Y * U ≤ V * X) (h2 : V * A ≤ B * U) : Y * A ≤ B * X ∧ (Y * A = B * X → Y * U = V * X ∧ V * A = B * U) := by
  have m1 := Int.mul_le_mul_of_nonneg_right h1 (Int.le_of_lt hA)
  have m2 := Int.mul_le_mul_of_nonneg_right h2 (Int.le_of_lt hX)
  have e : (B * X - Y * A) * U = (B * U * X - V * A * X) + (V * X * A - Y * U * A) := by grind
  constructor
  · rcases (show Y * A ≤ B * X ∨ 0 < -(B * X - Y * A) by omega) with k | k
    · exact k
    · have := Int.mul_pos k hU; rw [Int.neg_mul, e] at this; omega
  · intro h
    rw [h, Int.sub_self, Int.zero_mul] at e
    constructor
    · rcases (show Y * U = V * X ∨ 0 < V * X - Y * U by omega) with k | k
      · exact k
      · have := Int.mul_pos k hA; rw [Int.sub_mul] at this; omega
    · rcases (show V * A = B * U ∨ 0 < B * U - V * A by omega) with k | k
      · exact k
      · have := Int.mul_pos k hX; rw [Int.sub_mul] at this; omega
theorem sgn_le {d : Int} : sgn d ≤ 0 ↔ d ≤ 0 := by unfold sgn; (repeat' split) <;> omega
theorem sgn_0 {d : Int} : sgn d = 0 ↔ d = 0 := by unfold sgn; (repeat' split) <;> omega
theorem cmpq_le {p X Y q U V : Int} : cmpq p X Y q U V ≤ 0 ↔ p < q ∨ (p = q ∧ Y * U ≤ V * X) := by
  unfold cmpq
  split
  · omega
  · split
    · omega
    · rw [sgn_le]; omega
theorem cmpq_0 {p X Y q U V : Int} : cmpq p X Y q U V = 0 ↔ p = q ∧ Y * U = V * X := by
  unfold cmpq
  split
  · omega
  · split
    · omega
    · rw [sgn_0]; omega
theorem chain_q {p X Y q U V r A B : Int} (hX : 0 < X) (hU : 0 < U) (hA : 0 < A) (h1 : cmpq p X Y q U V ≤ 0) (h2 : cmpq q U V r A B ≤ 0) :
    cmpq p X Y r A B ≤ 0 ∧ (cmpq p X Y r A B = 0 → cmpq p X Y q U V = 0 ∧ cmpq q U V r A B = 0) := by
  rw [cmpq_le] at h1 h2
  rw [cmpq_le, cmpq_0, cmpq_0, cmpq_0]
  rcases h1 with h1 | ⟨rfl, h1⟩
  · rcases h2 with h2 | ⟨rfl, h2⟩
    · exact ⟨.inl (by omega), fun k => absurd k.1 (by omega)⟩
    · exact ⟨.inl h1, fun k => absurd k.1 (by omega)⟩
  · rcases h2 with h2 | ⟨rfl, h2⟩
    · exact ⟨.inl h2, fun k => absurd k.1 (by omega)⟩
    · obtain ⟨a, b⟩ := chain_s hX hU hA h1 h2
      exact ⟨.inr ⟨rfl, a⟩, fun k => ⟨⟨rfl, (b k.2).1⟩, rfl, (b k.2).2⟩⟩
theorem chain_d {x y u v a b : Int} (h1 : cmpd x y u v ≤ 0) (h2 : cmpd u v a b ≤ 0) : cmpd x y a b ≤ 0 ∧ (cmpd x y a b = 0 → cmpd x y u v = 0 ∧ cmpd u v a b = 0) :=
  chain_q (qd_pos (v_ne (x := x) (y := y))).1 (qd_pos (v_ne (x := u) (y := v))).1 (qd_pos (v_ne (x := a) (y := b))).1 h1 h2
theorem chain_law (x y u v a b : Int) : (0 < cmpd x y u v ∨ 0 < cmpd u v a b ∨ cmpd x y a b ≤ 0) ∧ (cmpd x y u v < 0 ∨ cmpd u v a b < 0 ∨ 0 ≤ cmpd x y a b) ∧ (cmpd x y u v ≠ 0 ∨ cmpd u v a b = cmpd x y a b) := by
  have n1 := cmpd_anti x y u v
  have n2 := cmpd_anti u v a b
  have n3 := cmpd_anti x y a b
  refine ⟨?_, ?_, ?_⟩
  · rcases (show 0 < cmpd x y u v ∨ 0 < cmpd u v a b ∨ (cmpd x y u v ≤ 0 ∧ cmpd u v a b ≤ 0) by omega) with k | k | ⟨k, k'⟩
    · exact .inl k
    · exact .inr (.inl k)
    · exact .inr (.inr (chain_d k k').1)
  · rcases (show cmpd x y u v < 0 ∨ cmpd u v a b < 0 ∨ (cmpd a b u v ≤ 0 ∧ cmpd u v x y ≤ 0) by omega) with k | k | ⟨k, k'⟩
    · exact .inl k
    · exact .inr (.inl k)
    · have := (chain_d k k').1; omega
  · by_cases h : cmpd x y u v = 0
    · right
      have b1 := cmpd_bd u v a b
      have b2 := cmpd_bd x y a b
      rcases (show cmpd u v a b < 0 ∨ cmpd u v a b = 0 ∨ 0 < cmpd u v a b by omega) with k | k | k
      · obtain ⟨s, t⟩ := chain_d (x := x) (y := y) (u := u) (v := v) (a := a) (b := b) (by omega) (by omega)
        have : cmpd x y a b ≠ 0 := fun e => by have := (t e).2; omega
        omega
      · obtain ⟨s, t⟩ := chain_d (x := x) (y := y) (u := u) (v := v) (a := a) (b := b) (by omega) (by omega)
        obtain ⟨s', t'⟩ := chain_d (x := a) (y := b) (u := u) (v := v) (a := x) (b := y) (by omega) (by omega)
        omega
      · obtain ⟨s, t⟩ := chain_d (x := a) (y := b) (u := u) (v := v) (a := x) (b := y) (by omega) (by omega)
        have : cmpd a b x y ≠ 0 := fun e => by have := (t e).1; omega
        omega
    · exact .inl h
end Go.Proofs.YtecpkggnjajppaaDoor
