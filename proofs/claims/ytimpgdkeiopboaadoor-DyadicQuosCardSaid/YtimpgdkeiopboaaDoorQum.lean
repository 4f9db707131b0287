/- Quotients as numbers. -/
import Derived.Test.YtimpgdkeiopboaaDoorMbig
namespace Go.Proofs.YtimpgdkeiopboaaDoor

theorem quo_parts {ma mb da db k : Nat} (hb : mb ≠ 0) :
    qOf false (ma * 2 ^ (k + db) / (mb * 2 ^ da)) k * qOf false mb db ≤ qOf false ma da ∧
    qOf false ma da < (qOf false (ma * 2 ^ (k + db) / (mb * 2 ^ da)) k + qOf false 1 k) * qOf false mb db ∧
    (ma * 2 ^ (k + db) % (mb * 2 ^ da) = 0 → qOf false (ma * 2 ^ (k + db) / (mb * 2 ^ da)) k * qOf false mb db = qOf false ma da) ∧
    (ma * 2 ^ (k + db) % (mb * 2 ^ da) ≠ 0 → qOf false (ma * 2 ^ (k + db) / (mb * 2 ^ da)) k * qOf false mb db < qOf false ma da) := by
  have hy : 0 < mb * 2 ^ da := Nat.mul_pos (Nat.pos_of_ne_zero hb) (Nat.pow_pos (by decide))
  have h1 := Nat.div_add_mod (ma * 2 ^ (k + db)) (mb * 2 ^ da)
  have h2 := Nat.mod_lt (ma * 2 ^ (k + db)) hy
  generalize ma * 2 ^ (k + db) / (mb * 2 ^ da) = Q at *
  generalize ma * 2 ^ (k + db) % (mb * 2 ^ da) = r at *
  have pa := qp_pos da
  have pb := qp_pos db
  have pk := qp_pos k
  have e1 : ((mb * 2 ^ da * Q + r : Nat) : Rat) = ((ma * 2 ^ (k + db) : Nat) : Rat) := by rw [h1]
  have e2 : (mb : Rat) * qp da * (Q : Rat) + (r : Rat) = (ma : Rat) * (qp k * qp db) := by
    rw [← qp_add]; unfold qp; exact_mod_cast e1
  have h3 : (r : Rat) < (mb : Rat) * qp da := by unfold qp; exact_mod_cast h2
  have h4 : (0 : Rat) ≤ (r : Rat) := by exact_mod_cast Nat.zero_le r
  have a1 : qOf false ma da * qp da = (ma : Rat) := by unfold qOf; simp only [Bool.false_eq_true, if_false]; grind
  have b1 : qOf false mb db * qp db = (mb : Rat) := by unfold qOf; simp only [Bool.false_eq_true, if_false]; grind
  have q1 : qOf false Q k * qp k = (Q : Rat) := by unfold qOf; simp only [Bool.false_eq_true, if_false]; grind
  have g1 : qOf false 1 k * qp k = 1 := by
    have := qp_ne k
    unfold qOf; simp only [Bool.false_eq_true, if_false]; grind
  generalize qOf false ma da = A at *
  generalize qOf false mb db = B at *
  generalize qOf false Q k = q at *
  generalize qOf false 1 k = g at *
  generalize qp da = x at *
  generalize qp db = y at *
  generalize qp k = z at *
  have p := Rat.mul_pos pa (Rat.mul_pos pb pk)
  have i1 : (A - q * B) * (x * (y * z)) = (r : Rat) := by grind
  have i2 : ((q + g) * B - A) * (x * (y * z)) = (mb : Rat) * x - (r : Rat) := by grind
  have canc : ∀ {c : Rat}, 0 < c * (x * (y * z)) → 0 < c := fun {c} h => by
    rcases (show 0 < c ∨ c ≤ 0 by grind) with k | k
    · exact k
    · have := Rat.mul_nonneg (show (0 : Rat) ≤ -c by grind) (show (0 : Rat) ≤ x * (y * z) by grind)
      grind
  have canc0 : ∀ {c : Rat}, c * (x * (y * z)) = 0 → c = 0 := fun {c} h => by grind
  have c2 := canc (c := (q + g) * B - A) (by grind)
  refine ⟨?_, by grind, fun h => ?_, fun h => ?_⟩
  · rcases (show r = 0 ∨ 0 < r by omega) with k | k
    · have := canc0 (c := A - q * B) (by rw [i1, k]; rfl); grind
    · have hr : (0 : Rat) < (r : Rat) := by exact_mod_cast k
      have := canc (c := A - q * B) (by rw [i1]; exact hr); grind
  · have := canc0 (c := A - q * B) (by rw [i1, h]; rfl); grind
  · have hr : (0 : Rat) < (r : Rat) := by exact_mod_cast Nat.pos_of_ne_zero h
    have := canc (c := A - q * B) (by rw [i1]; exact hr); grind

theorem qOf_true (m k : Nat) : qOf true m k = -qOf false m k := by unfold qOf; simp
theorem quo_q {a b : DV} {k : Nat} (hk : k ≤ 65536) (hb0 : b.m ≠ 0) :
    (b.neg = false → (quoD a b k).q * b.q ≤ a.q ∧ a.q < ((quoD a b k).q + qOf false 1 k) * b.q) ∧ (b.neg = true → a.q ≤ (quoD a b k).q * b.q ∧ ((quoD a b k).q + qOf false 1 k) * b.q < a.q) := by
  obtain ⟨h1, h2, h3, h4⟩ := quo_parts (ma := a.m) (da := a.den) (db := b.den) (k := k) hb0
  have hB : 0 < qOf false b.m b.den := by
    have := q_pos_of (neg := false) (m := b.m) (k := b.den) hb0
    simpa using this
  have hg : 0 < qOf false 1 k := by
    have := q_pos_of (neg := false) (m := 1) (k := k) (by decide)
    simpa using this
  have e0 : (quoD a b k).q = qOf (a.neg != b.neg) (a.m * 2 ^ (k + b.den) / (b.m * 2 ^ a.den) + if (a.neg != b.neg) && decide (a.m * 2 ^ (k + b.den) % (b.m * 2 ^ a.den) ≠ 0) then 1 else 0) k := by unfold quoD; rw [q_mkD _ _ hk]
  rw [e0]
  unfold DV.q
  generalize a.m * 2 ^ (k + b.den) / (b.m * 2 ^ a.den) = Q at *
  generalize a.m * 2 ^ (k + b.den) % (b.m * 2 ^ a.den) = r at *
  have ea : qOf a.neg a.m a.den = if a.neg then -qOf false a.m a.den else qOf false a.m a.den := by cases a.neg <;> simp [qOf_true]
  have eb : qOf b.neg b.m b.den = if b.neg then -qOf false b.m b.den else qOf false b.m b.den := by cases b.neg <;> simp [qOf_true]
  rw [ea, eb]
  generalize hA : qOf false a.m a.den = A at *
  generalize qOf false b.m b.den = B at *
  have pg := Rat.mul_pos hg hB
  by_cases hr : r = 0
  · have h5 := h3 hr
    have e1 : qOf (a.neg != b.neg) (Q + if (a.neg != b.neg) && decide (r ≠ 0) then 1 else 0) k = if (a.neg != b.neg) then -qOf false Q k else qOf false Q k := by
      rw [hr]; cases (a.neg != b.neg) <;> simp [qOf_true]
    rw [e1]
    generalize qOf false Q k = q at *
    generalize qOf false 1 k = g at *
    cases a.neg <;> cases b.neg <;> simp <;> constructor <;> grind
  · have h5 := h4 hr
    have e1 : qOf (a.neg != b.neg) (Q + if (a.neg != b.neg) && decide (r ≠ 0) then 1 else 0) k = if (a.neg != b.neg) then -(qOf false Q k + qOf false 1 k) else qOf false Q k := by
      cases (a.neg != b.neg)
      · simp
      · simp [hr, qOf_true, qOf_add]; grind
    rw [e1]
    generalize qOf false Q k = q at *
    generalize qOf false 1 k = g at *
    cases a.neg <;> cases b.neg <;> simp <;> constructor <;> grind
end Go.Proofs.YtimpgdkeiopboaaDoor
