/- Diagrams: the reference's small checks and its comparison of scalars. -/
import Derived.Test.YtcdkkohklhmpgaaDoorDgq
namespace Go.Proofs.YtcdkkohklhmpgaaDoor
open Go Go.RowKit

def rar (k : Int) : Int := if k < 0 ∨ 11 < k then -1 else arity k
/-! ### The comparison -/
def tS (n e : Int) : Int := n * 2 ^ (e + 62).toNat
def cmS (n e m f : Int) : Int := if tS n e < tS m f then -1 else if tS m f < tS n e then 1 else 0
theorem tS_step {n e : Int} (h : -62 < e) : tS (2 * n) (e - 1) = tS n e := by
  unfold tS
  obtain ⟨k, hk⟩ : ∃ k : Nat, (e + 62).toNat = k + 1 := ⟨(e + 62).toNat - 1, by omega⟩
  rw [hk, show (e - 1 + 62).toNat = k by omega, Int.pow_succ]
  rw [Int.mul_comm 2 n, Int.mul_assoc, Int.mul_comm 2]
theorem pw_le {e f : Int} (h : f ≤ e) : (2 : Int) ^ (f + 62).toNat ≤ 2 ^ (e + 62).toNat := pow_le (by omega)
theorem pw_pos (e : Int) : (0 : Int) < 2 ^ (e + 62).toNat := Int.pow_pos (by decide)
/-- Where one of the two stopped early its number tells the order. -/
theorem ord_gt {n e m f : Int} (h : f < e) (hn : n = 0 ∨ 2147483648 ≤ n ∨ n ≤ -2147483648) (h1 : -2147483648 < m) (h2 : m < 2147483648) : (tS n e < tS m f ↔ n < m) ∧ (tS m f < tS n e ↔ m < n) := by
  unfold tS
  have p1 := pw_le (Int.le_of_lt h)
  have p2 := pw_pos f
  generalize (2 : Int) ^ (f + 62).toNat = P at *
  generalize (2 : Int) ^ (e + 62).toNat = Q at *
  rcases hn with rfl | hn | hn
  · rw [Int.zero_mul]
    have h3 : 0 < m * P ↔ 0 < m := by have := Int.mul_lt_mul_right (b := 0) (c := m) p2; rw [Int.zero_mul] at this; exact this
    have h4 : m * P < 0 ↔ m < 0 := by have := Int.mul_lt_mul_right (b := m) (c := 0) p2; rw [Int.zero_mul] at this; exact this
    exact ⟨h3, h4⟩
  · have a1 : m * P < n * Q := by
      have b1 : m * P ≤ 2147483647 * P := Int.mul_le_mul_of_nonneg_right (by omega) (by omega)
      have b2 : 2147483648 * P ≤ 2147483648 * Q := Int.mul_le_mul_of_nonneg_left p1 (by omega)
      have b3 : 2147483648 * Q ≤ n * Q := Int.mul_le_mul_of_nonneg_right hn (by omega)
      omega
    exact ⟨by omega, by omega⟩
  · have a1 : n * Q < m * P := by
      have b1 : -2147483647 * P ≤ m * P := Int.mul_le_mul_of_nonneg_right (by omega) (by omega)
      have b2 : -2147483648 * Q ≤ -2147483648 * P := by omega
      have b3 : n * Q ≤ -2147483648 * Q := Int.mul_le_mul_of_nonneg_right hn (by omega)
      omega
    exact ⟨by omega, by omega⟩
theorem ord_eq {n m e : Int} : (tS n e < tS m e ↔ n < m) ∧ (tS m e < tS n e ↔ m < n) := by
  unfold tS
  have p := pw_pos e
  exact ⟨Int.mul_lt_mul_right p, Int.mul_lt_mul_right p⟩

def cI (w : World) (g i : Nat) : Int := match w.cell? ⟨g, i, none⟩ with
  | some v => intOf v
  | none => 0
theorem cI_of {w : World} {g i : Nat} {n : Int} (h : w.cell? ⟨g, i, none⟩ = some (I n)) : cI w g i = n := by unfold cI; rw [h]; rfl
theorem sS2 {w : World} {g : Nat} {v0 v1 : Value} (h : S2 w g v0 v1) (u0 u1 : Value) : S2 ((w.setCell ⟨g, 0, none⟩ u0).setCell ⟨g, 1, none⟩ u1) g u0 u1 := by
  obtain ⟨⟨h0, h1⟩, hf⟩ := h
  have c0 := World.cell?_setCell_same w _ u0 h0
  have n1 : (w.setCell ⟨g, 0, none⟩ u0).cell? ⟨g, 1, none⟩ = some v1 := (World.cell?_setCell_other _ _ _ _ (by intro e; injection e with _ e; cases e)).trans h1
  exact ⟨⟨(World.cell?_setCell_other _ _ _ _ (by intro e; injection e with _ e; cases e)).trans c0, World.cell?_setCell_same _ _ u1 n1⟩, fun i => by simp [hf i]⟩
theorem sFar {w : World} {g g' : Nat} {v0 v1 : Value} (h : S2 w g v0 v1) (hne : g' ≠ g) (u0 u1 : Value) : S2 ((w.setCell ⟨g', 0, none⟩ u0).setCell ⟨g', 1, none⟩ u1) g v0 v1 := by
  obtain ⟨⟨h0, h1⟩, hf⟩ := h
  have ne : ∀ (w : World) (i j : Nat) (u : Value), (w.setCell ⟨g', i, none⟩ u).cell? ⟨g, j, none⟩ = w.cell? ⟨g, j, none⟩ := fun w i j u => World.cell?_setCell_other _ _ _ _ (by intro e; injection e with e; exact hne e)
  exact ⟨⟨by rw [ne, ne]; exact h0, by rw [ne, ne]; exact h1⟩, fun i => by simp [hf i]⟩
/-- The two boxes of the comparison: a has been doubled to (n, e), b to (m, f). -/
structure CmM (w wr : World) (Ta Tb n e m f : Int) : Prop where
  ext : Ext w wr
  a : S2 wr w.heap.size (I n) (I e)
  b : S2 wr (w.heap.size + 1) (I m) (I f)
  ta : tS n e = Ta
  tb : tS m f = Tb
  ba : -4294967296 < n ∧ n < 4294967296 ∧ -62 ≤ e ∧ e ≤ 30
  bb : -4294967296 < m ∧ m < 4294967296 ∧ -62 ≤ f ∧ f ≤ 30
theorem CmM.stepA {w wr : World} {Ta Tb n e m f : Int} (h : CmM w wr Ta Tb n e m f) (he : f < e) (h1 : -2147483648 < n) (h2 : n < 2147483648) :
    CmM w ((wr.setCell ⟨w.heap.size, 0, none⟩ (I (2 * n))).setCell ⟨w.heap.size, 1, none⟩ (I (e - 1))) Ta Tb (2 * n) (e - 1) m f := by
  have := h.ba; have := h.bb
  exact ⟨(h.ext.set (Nat.le_refl _) _).set (Nat.le_refl _) _, sS2 h.a _ _, sFar h.b (by omega) _ _, by rw [tS_step (by omega)]; exact h.ta, h.tb, by omega, h.bb⟩
theorem CmM.stepB {w wr : World} {Ta Tb n e m f : Int} (h : CmM w wr Ta Tb n e m f) (he : e < f) (h1 : -2147483648 < m) (h2 : m < 2147483648) :
    CmM w ((wr.setCell ⟨w.heap.size + 1, 0, none⟩ (I (2 * m))).setCell ⟨w.heap.size + 1, 1, none⟩ (I (f - 1))) Ta Tb n e (2 * m) (f - 1) := by
  have := h.ba; have := h.bb
  exact ⟨(h.ext.set (by show _ ≤ w.heap.size + 1; omega) _).set (by show _ ≤ w.heap.size + 1; omega) _, sFar h.a (by omega) _ _, sS2 h.b _ _, h.ta, by rw [tS_step (by omega)]; exact h.tb, h.ba, by omega⟩
theorem fin_ord {w wr : World} {Ta Tb n e m f n0 m0 f0 cc : Int} (h : CmM w wr Ta Tb n e m f) (hcc : (if Ta < Tb then -1 else if Tb < Ta then 1 else 0) = cc)
    (b0 : (-2147483648 < n0 ∧ n0 < 2147483648) ∧ (-2147483648 < m0 ∧ m0 < 2147483648)) (hx : ¬ (f0 < e ∧ ¬ (n = 0 ∨ 2147483648 ≤ n ∨ n ≤ -2147483648))) (hk : (f0 ≤ e → m = m0 ∧ f = f0) ∧ (e < f0 → e ≤ f)) (hn0 : e < f0 → n = n0)
    (hc2 : ¬ (e < f ∧ ¬ (m = 0 ∨ 2147483648 ≤ m ∨ m ≤ -2147483648))) : (if n < m then -1 else if m < n then 1 else 0) = cc := by
  have key : (Ta < Tb ↔ n < m) ∧ (Tb < Ta ↔ m < n) := by
    rw [← h.ta, ← h.tb]
    by_cases q : f0 ≤ e
    · obtain ⟨rfl, rfl⟩ := hk.1 q
      by_cases q2 : e = f
      · subst q2; exact ord_eq
      · have hn : n = 0 ∨ 2147483648 ≤ n ∨ n ≤ -2147483648 := Classical.byContradiction fun hh => hx ⟨by omega, hh⟩
        exact ord_gt (by omega) hn b0.2.1 b0.2.2
    · have hn := hn0 (by omega)
      subst hn
      by_cases q2 : e = f
      · subst q2; exact ord_eq
      · by_cases q3 : e < f
        · have hm : m = 0 ∨ 2147483648 ≤ m ∨ m ≤ -2147483648 := Classical.byContradiction fun hh => hc2 ⟨q3, hh⟩
          exact (ord_gt q3 hm b0.1.1 b0.1.2).symm
        · have := hk.2 (by omega); omega
  rw [← hcc]
  by_cases q1 : n < m
  · rw [if_pos q1, if_pos (key.1.2 q1)]
  · rw [if_neg q1, if_neg (fun hh => q1 (key.1.1 hh))]
    by_cases q2 : m < n
    · rw [if_pos q2, if_pos (key.2.2 q2)]
    · rw [if_neg q2, if_neg (fun hh => q2 (key.2.1 hh))]
end Go.Proofs.YtcdkkohklhmpgaaDoor
