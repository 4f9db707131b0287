/- Diagrams: the reference's small checks and its comparison of scalars. -/
import Derived.Test.YtcdkkohklhmpgaaGreatDoorDgq
namespace Go.Proofs.YtcdkkohklhmpgaaGreatDoor
open Go Go.RowKit

set_option maxHeartbeats 400000 in
theorem within_any (n lo hi : Int) (w : World) : Calls Tryz.prog 127 #[I n, I lo, I hi] w fun e w' => e = .returned (.bool (decide (lo ≤ n ∧ n ≤ hi))) ∧ Ext w w' := by
  by_cases h1 : lo ≤ n
  · by_cases h2 : n ≤ hi
    all_goals
      go_enter Tryz.func127, Tryz.ntmps127
      go_wp2
      go_ret
      exact ⟨by simp [h1, h2], Ext.refl _⟩
  · go_enter Tryz.func127, Tryz.ntmps127
    go_wp2
    go_ret
    exact ⟨by simp; omega, Ext.refl _⟩
def rar (k : Int) : Int := if k < 0 ∨ 11 < k then -1 else arity k
set_option maxRecDepth 100000 in
set_option maxHeartbeats 1000000 in
theorem Arity_any (k : Int) (w : World) : Calls Tryz.prog 191 #[I k] w fun e w' => e = .returned (I (rar k)) ∧ Ext w w' := by
  by_cases h : k = 0 ∨ k = 1 ∨ k = 2 ∨ k = 3 ∨ k = 4 ∨ k = 5 ∨ k = 6 ∨ k = 7 ∨ k = 8 ∨ k = 9 ∨ k = 10 ∨ k = 11
  · rcases h with rfl | rfl | rfl | rfl | rfl | rfl | rfl | rfl | rfl | rfl | rfl | rfl
    all_goals
      go_enter Tryz.func191, Tryz.ntmps191
      go_wp2
      go_ret
      exact ⟨rfl, Ext.refl _⟩
  · have H := Lib.hid (show rar k = -1 by unfold rar; rw [if_pos (by omega)])
    rw [H.out]
    have g0 : (k == 0) = false := by simp; omega
    have g1 : (k == 1) = false := by simp; omega
    have g2 : (k == 2) = false := by simp; omega
    have g3 : (k == 3) = false := by simp; omega
    have g4 : (k == 4) = false := by simp; omega
    have g5 : (k == 5) = false := by simp; omega
    have g6 : (k == 6) = false := by simp; omega
    have g7 : (k == 7) = false := by simp; omega
    have g8 : (k == 8) = false := by simp; omega
    have g9 : (k == 9) = false := by simp; omega
    have g10 : (k == 10) = false := by simp; omega
    have g11 : (k == 11) = false := by simp; omega
    clear h
    go_enter Tryz.func191, Tryz.ntmps191
    go_wp2
    go_ret
    exact ⟨rfl, Ext.refl _⟩
set_option maxRecDepth 100000 in
set_option maxHeartbeats 1000000 in
theorem rscalar_t (n e : Int) (w : World) : Calls Tryz.prog 192 #[.agg #[I n, I e], .bool true] w fun x w' => x = .returned (I (scE true n e)) ∧ Ext w w' := by
  have H1 := Lib.hid (within_any n (-2147483647) 2147483647)
  have H2 := Lib.hid (within_any e (-62) 30)
  have HB : Hid (∀ w', Ext (w.alloc (.cells #[I n, I e] 98)) w' → w'.cell? ⟨w.heap.size, 0, none⟩ = some (I n) ∧ w'.cell? ⟨w.heap.size, 1, none⟩ = some (I e)) := fun w' x => by
    have h : w.heap.size < (w.alloc (.cells #[I n, I e] 98)).heap.size := by simp
    exact ⟨(x.old.1 _ _ h).trans (by go_simp), (x.old.1 _ _ h).trans (by go_simp)⟩
  by_cases h1 : -2147483647 ≤ n ∧ n ≤ 2147483647
  · rw [decide_eq_true h1] at H1
    by_cases h2 : -62 ≤ e ∧ e ≤ 30
    · rw [decide_eq_true h2] at H2
      have HS := Lib.hid (scE_t0 (n := n) (e := e) (by omega) (by omega) (by omega) (by omega))
      rw [HS.out]
      clear h1 h2
      go_enter Tryz.func192, Tryz.ntmps192
      go_wp2_with (go_at_call 127; first | ((with_reducible refine (H1.out _).mono ?_); rintro e1 w1 ⟨rfl, x1⟩; obtain ⟨c0, c1⟩ := HB.out _ x1) | ((with_reducible refine (H2.out _).mono ?_); rintro e2 w2 ⟨rfl, x2⟩))
      go_ret
      exact ⟨rfl, ((Ext.alloc _ _).trans x1).trans x2⟩
    · rw [decide_eq_false h2] at H2
      have HS := Lib.hid (scE_t1 (n := n) (e := e) (.inr (.inr (by omega))))
      rw [HS.out]
      clear h1 h2
      go_enter Tryz.func192, Tryz.ntmps192
      go_wp2_with (go_at_call 127; first | ((with_reducible refine (H1.out _).mono ?_); rintro e1 w1 ⟨rfl, x1⟩; obtain ⟨c0, c1⟩ := HB.out _ x1) | ((with_reducible refine (H2.out _).mono ?_); rintro e2 w2 ⟨rfl, x2⟩))
      go_ret
      exact ⟨rfl, ((Ext.alloc _ _).trans x1).trans x2⟩
  · rw [decide_eq_false h1] at H1
    have HS := Lib.hid (scE_t1 (n := n) (e := e) (by omega))
    rw [HS.out]
    clear h1
    go_enter Tryz.func192, Tryz.ntmps192
    go_wp2_with (go_at_call 127; first | ((with_reducible refine (H1.out _).mono ?_); rintro e1 w1 ⟨rfl, x1⟩; obtain ⟨c0, c1⟩ := HB.out _ x1) | ((with_reducible refine (H2.out _).mono ?_); rintro e2 w2 ⟨rfl, x2⟩))
    go_ret
    exact ⟨rfl, (Ext.alloc _ _).trans x1⟩
set_option maxRecDepth 100000 in
set_option maxHeartbeats 1000000 in
theorem rscalar_f (n e : Int) (w : World) : Calls Tryz.prog 192 #[.agg #[I n, I e], .bool false] w fun x w' => x = .returned (I (scE false n e)) ∧ Ext w w' := by
  by_cases h1 : n = 0
  · subst h1
    by_cases h2 : e = 0
    · subst h2
      go_enter Tryz.func192, Tryz.ntmps192
      go_wp2
      go_ret
      exact ⟨rfl, (by repeat (first | exact Ext.refl _ | assumption | exact Ext.alloc _ _ | refine Ext.trans ?_ (by assumption) | refine Ext.trans ?_ (Ext.alloc _ _) | refine Ext.trans ?_ (Ext.drewN _ _) | refine Ext.trans ?_ (Ext.drew _)))⟩
    · have H := Lib.hid (show scE false 0 e = 2 by simp [scE, h2])
      rw [H.out]
      go_enter Tryz.func192, Tryz.ntmps192
      go_wp2
      go_ret
      exact ⟨rfl, (by repeat (first | exact Ext.refl _ | assumption | exact Ext.alloc _ _ | refine Ext.trans ?_ (by assumption) | refine Ext.trans ?_ (Ext.alloc _ _) | refine Ext.trans ?_ (Ext.drewN _ _) | refine Ext.trans ?_ (Ext.drew _)))⟩
  · have H := Lib.hid (show scE false n e = 2 by simp [scE, h1])
    rw [H.out]
    go_enter Tryz.func192, Tryz.ntmps192
    go_wp2
    go_ret
    exact ⟨rfl, (by repeat (first | exact Ext.refl _ | assumption | exact Ext.alloc _ _ | refine Ext.trans ?_ (by assumption) | refine Ext.trans ?_ (Ext.alloc _ _) | refine Ext.trans ?_ (Ext.drewN _ _) | refine Ext.trans ?_ (Ext.drew _)))⟩
theorem rscalar_any (u : Bool) (n e : Int) (w : World) : Calls Tryz.prog 192 #[.agg #[I n, I e], .bool u] w fun x w' => x = .returned (I (scE u n e)) ∧ Ext w w' := by
  cases u
  · exact rscalar_f n e w
  · exact rscalar_t n e w

/-! ### The comparison -/
def tS (n e : Int) : Int := n * 2 ^ (e + 62).toNat
def cmS (n e m f : Int) : Int := if tS n e < tS m f then -1 else if tS m f < tS n e then 1 else 0
theorem tS_step {n e : Int} (h : -62 < e) : tS (2 * n) (e - 1) = tS n e := by
  unfold tS
  obtain ⟨k, hk⟩ : ∃ k : Nat, (e + 62).toNat = k + 1 := ⟨(e + 62).toNat - 1, by omega⟩
  rw [hk, show (e - 1 + 62).toNat = k by omega, Int.pow_succ]
  rw [Int.mul_comm 2 n, Int.mul_assoc, Int.mul_comm 2]
theorem pw_le {e f : Int} (h : f ≤ e) : (2 : Int) ^ (f + 62).toNat ≤ 2 ^ (e + 62).toNat := pow_le (by omega)
theorem pw_pos (e : Int) : (0 : Int) < 2 ^ (e + 62).toNat := Int.pow_pos (by decide)
/-- Where one of the two stopped early its number tells the order. -/
theorem ord_gt {n e m f : Int} (h : f < e) (hn : n = 0 ∨ 2147483648 ≤ n ∨ n ≤ -2147483648) (h1 : -2147483648 < m) (h2 : m < 2147483648) : (tS n e < tS m f ↔ n < m) ∧ (tS m f < tS n e ↔ m < n) := by
  unfold tS
  have p1 := pw_le (Int.le_of_lt h)
  have p2 := pw_pos f
  generalize (2 : Int) ^ (f + 62).toNat = P at *
  generalize (2 : Int) ^ (e + 62).toNat = Q at *
  rcases hn with rfl | hn | hn
  · rw [Int.zero_mul]
    have h3 : 0 < m * P ↔ 0 < m := by have := Int.mul_lt_mul_right (b := 0) (c := m) p2; rw [Int.zero_mul] at this; exact this
    have h4 : m * P < 0 ↔ m < 0 := by have := Int.mul_lt_mul_right (b := m) (c := 0) p2; rw [Int.zero_mul] at this; exact this
    exact ⟨h3, h4⟩
  · have a1 : m * P < n * Q := by
      have b1 : m * P ≤ 2147483647 * P := Int.mul_le_mul_of_nonneg_right (by omega) (by omega)
      have b2 : 2147483648 * P ≤ 2147483648 * Q := Int.mul_le_mul_of_nonneg_left p1 (by omega)
      have b3 : 2147483648 * Q ≤ n * Q := Int.mul_le_mul_of_nonneg_right hn (by omega)
      omega
    exact ⟨by omega, by omega⟩
  · have a1 : n * Q < m * P := by
      have b1 : -2147483647 * P ≤ m * P := Int.mul_le_mul_of_nonneg_right (by omega) (by omega)
      have b2 : -2147483648 * Q ≤ -2147483648 * P := by omega
      have b3 : n * Q ≤ -2147483648 * Q := Int.mul_le_mul_of_nonneg_right hn (by omega)
      omega
    exact ⟨by omega, by omega⟩
theorem ord_eq {n m e : Int} : (tS n e < tS m e ↔ n < m) ∧ (tS m e < tS n e ↔ m < n) := by
  unfold tS
  have p := pw_pos e
  exact ⟨Int.mul_lt_mul_right p, Int.mul_lt_mul_right p⟩

def cI (w : World) (g i : Nat) : Int := match w.cell? ⟨g, i, none⟩ with
  | some v => intOf v
  | none => 0
theorem cI_of {w : World} {g i : Nat} {n : Int} (h : w.cell? ⟨g, i, none⟩ = some (I n)) : cI w g i = n := by unfold cI; rw [h]; rfl
theorem sS2 {w : World} {g : Nat} {v0 v1 : Value} (h : S2 w g v0 v1) (u0 u1 : Value) : S2 ((w.setCell ⟨g, 0, none⟩ u0).setCell ⟨g, 1, none⟩ u1) g u0 u1 := by
  obtain ⟨⟨h0, h1⟩, hf⟩ := h
  have c0 := World.cell?_setCell_same w _ u0 h0
  have n1 : (w.setCell ⟨g, 0, none⟩ u0).cell? ⟨g, 1, none⟩ = some v1 := (World.cell?_setCell_other _ _ _ _ (by intro e; injection e with _ e; cases e)).trans h1
  exact ⟨⟨(World.cell?_setCell_other _ _ _ _ (by intro e; injection e with _ e; cases e)).trans c0, World.cell?_setCell_same _ _ u1 n1⟩, fun i => by simp [hf i]⟩
theorem sFar {w : World} {g g' : Nat} {v0 v1 : Value} (h : S2 w g v0 v1) (hne : g' ≠ g) (u0 u1 : Value) : S2 ((w.setCell ⟨g', 0, none⟩ u0).setCell ⟨g', 1, none⟩ u1) g v0 v1 := by
  obtain ⟨⟨h0, h1⟩, hf⟩ := h
  have ne : ∀ (w : World) (i j : Nat) (u : Value), (w.setCell ⟨g', i, none⟩ u).cell? ⟨g, j, none⟩ = w.cell? ⟨g, j, none⟩ := fun w i j u => World.cell?_setCell_other _ _ _ _ (by intro e; injection e with e; exact hne e)
  exact ⟨⟨by rw [ne, ne]; exact h0, by rw [ne, ne]; exact h1⟩, fun i => by simp [hf i]⟩
/-- The two boxes of the comparison: a has been doubled to (n, e), b to (m, f). -/
structure CmM (w wr : World) (Ta Tb n e m f : Int) : Prop where
  ext : Ext w wr
  a : S2 wr w.heap.size (I n) (I e)
  b : S2 wr (w.heap.size + 1) (I m) (I f)
  ta : tS n e = Ta
  tb : tS m f = Tb
  ba : -4294967296 < n ∧ n < 4294967296 ∧ -62 ≤ e ∧ e ≤ 30
  bb : -4294967296 < m ∧ m < 4294967296 ∧ -62 ≤ f ∧ f ≤ 30
theorem CmM.stepA {w wr : World} {Ta Tb n e m f : Int} (h : CmM w wr Ta Tb n e m f) (he : f < e) (h1 : -2147483648 < n) (h2 : n < 2147483648) :
    CmM w ((wr.setCell ⟨w.heap.size, 0, none⟩ (I (2 * n))).setCell ⟨w.heap.size, 1, none⟩ (I (e - 1))) Ta Tb (2 * n) (e - 1) m f := by
  have := h.ba; have := h.bb
  exact ⟨(h.ext.set (Nat.le_refl _) _).set (Nat.le_refl _) _, sS2 h.a _ _, sFar h.b (by omega) _ _, by rw [tS_step (by omega)]; exact h.ta, h.tb, by omega, h.bb⟩
theorem CmM.stepB {w wr : World} {Ta Tb n e m f : Int} (h : CmM w wr Ta Tb n e m f) (he : e < f) (h1 : -2147483648 < m) (h2 : m < 2147483648) :
    CmM w ((wr.setCell ⟨w.heap.size + 1, 0, none⟩ (I (2 * m))).setCell ⟨w.heap.size + 1, 1, none⟩ (I (f - 1))) Ta Tb n e (2 * m) (f - 1) := by
  have := h.ba; have := h.bb
  exact ⟨(h.ext.set (by show _ ≤ w.heap.size + 1; omega) _).set (by show _ ≤ w.heap.size + 1; omega) _, sFar h.a (by omega) _ _, sS2 h.b _ _, h.ta, by rw [tS_step (by omega)]; exact h.tb, h.ba, by omega⟩
theorem fin_ord {w wr : World} {Ta Tb n e m f n0 m0 f0 cc : Int} (h : CmM w wr Ta Tb n e m f) (hcc : (if Ta < Tb then -1 else if Tb < Ta then 1 else 0) = cc)
    (b0 : (-2147483648 < n0 ∧ n0 < 2147483648) ∧ (-2147483648 < m0 ∧ m0 < 2147483648)) (hx : ¬ (f0 < e ∧ ¬ (n = 0 ∨ 2147483648 ≤ n ∨ n ≤ -2147483648))) (hk : (f0 ≤ e → m = m0 ∧ f = f0) ∧ (e < f0 → e ≤ f)) (hn0 : e < f0 → n = n0)
    (hc2 : ¬ (e < f ∧ ¬ (m = 0 ∨ 2147483648 ≤ m ∨ m ≤ -2147483648))) : (if n < m then -1 else if m < n then 1 else 0) = cc := by
  have key : (Ta < Tb ↔ n < m) ∧ (Tb < Ta ↔ m < n) := by
    rw [← h.ta, ← h.tb]
    by_cases q : f0 ≤ e
    · obtain ⟨rfl, rfl⟩ := hk.1 q
      by_cases q2 : e = f
      · subst q2; exact ord_eq
      · have hn : n = 0 ∨ 2147483648 ≤ n ∨ n ≤ -2147483648 := Classical.byContradiction fun hh => hx ⟨by omega, hh⟩
        exact ord_gt (by omega) hn b0.2.1 b0.2.2
    · have hn := hn0 (by omega)
      subst hn
      by_cases q2 : e = f
      · subst q2; exact ord_eq
      · by_cases q3 : e < f
        · have hm : m = 0 ∨ 2147483648 ≤ m ∨ m ≤ -2147483648 := Classical.byContradiction fun hh => hc2 ⟨q3, hh⟩
          exact (ord_gt q3 hm b0.1.1 b0.1.2).symm
        · have := hk.2 (by omega); omega
  rw [← hcc]
  by_cases q1 : n < m
  · rw [if_pos q1, if_pos (key.1.2 q1)]
  · rw [if_neg q1, if_neg (fun hh => q1 (key.1.1 hh))]
    by_cases q2 : m < n
    · rw [if_pos q2, if_pos (key.2.2 q2)]
    · rw [if_neg q2, if_neg (fun hh => q2 (key.2.1 hh))]
set_option maxRecDepth 100000 in
set_option maxHeartbeats 4000000 in
theorem rcmp_any (n0 e0 m0 f0 : Int) (w : World) (h1 : -2147483648 < n0) (h2 : n0 < 2147483648) (h3 : -62 ≤ e0) (h4 : e0 ≤ 30) (h5 : -2147483648 < m0) (h6 : m0 < 2147483648) (h7 : -62 ≤ f0) (h8 : f0 ≤ 30) :
    Calls Tryz.prog 193 #[.agg #[I n0, I e0], .agg #[I m0, I f0]] w fun x w' => x = .returned (I (cmS n0 e0 m0 f0)) ∧ Ext w w' := by
  have HM : Hid (CmM w ((w.alloc (.cells #[I n0, I e0] 98)).alloc (.cells #[I m0, I f0] 98)) (tS n0 e0) (tS m0 f0) n0 e0 m0 f0) :=
    ⟨(Ext.alloc _ _).trans (Ext.alloc _ _), ⟨⟨by go_simp, by go_simp⟩, fun i => by go_simp⟩, ⟨⟨by go_simp, by go_simp⟩, fun i => by go_simp⟩, rfl, rfl, by omega, by omega⟩
  obtain ⟨Ta, hTa⟩ : ∃ Ta, tS n0 e0 = Ta := ⟨_, rfl⟩
  obtain ⟨Tb, hTb⟩ : ∃ Tb, tS m0 f0 = Tb := ⟨_, rfl⟩
  rw [hTa, hTb] at HM
  obtain ⟨cc, hcc⟩ : ∃ cc, cmS n0 e0 m0 f0 = cc := ⟨_, rfl⟩
  have HCC : Hid ((if Ta < Tb then -1 else if Tb < Ta then 1 else 0) = cc) := by show _ = _; rw [← hcc, ← hTa, ← hTb]; rfl
  rw [hcc]
  have HTB := Lib.hid hTb
  clear hTa hTb hcc
  go_enter Tryz.func193, Tryz.ntmps193
  go_wp2_with fail
  have HB0 : Hid ((-2147483648 < n0 ∧ n0 < 2147483648) ∧ (-2147483648 < m0 ∧ m0 < 2147483648)) := ⟨⟨h1, h2⟩, ⟨h5, h6⟩⟩
  clear h1 h2 h3 h4 h5 h6 h7 h8
  go_loopw [] (fun wr => ∃ n e, Hid (CmM w wr Ta Tb n e m0 f0) ∧ Hid (e < f0 → n = n0)) (fun wr => (cI wr w.heap.size 1 + 62).toNat)
  case atStart => exact ⟨n0, e0, HM, fun _ => rfl⟩
  case round =>
    obtain ⟨n, e, H, HN0⟩ := hrel
    obtain ⟨⟨c0, c1⟩, cf⟩ := H.out.a
    obtain ⟨⟨d0, d1⟩, df⟩ := H.out.b
    obtain ⟨b1, b2, b3, b4⟩ := H.out.ba
    by_cases hc : f0 < e ∧ ¬ (n = 0 ∨ 2147483648 ≤ n ∨ n ≤ -2147483648)
    · obtain ⟨he, hn⟩ := hc
      have g1 : (n == 0) = false := by simp; omega
      have g2 : ¬ 2147483648 ≤ n := by omega
      have g3 : ¬ n ≤ -2147483648 := by omega
      have HS := Lib.hid (H.out.stepA he (by omega) (by omega))
      have HN2 : Hid (e - 1 < f0 → 2 * n = n0) := fun h => by omega
      have hcf := cI_of c1
      have hcf2 := cI_of HS.out.a.1.2
      have HCF := Lib.hid hcf; have HCF2 := Lib.hid hcf2
      clear hn hcf hcf2
      go_wp2_with fail
      go_roundw
      case rel => exact ⟨2 * n, e - 1, HS, HN2⟩
      case measure =>
        have e1 := HCF.out; have e2 := HCF2.out; have := H.out.bb
        rw [e1, e2]; omega
    · have HX := Lib.hid hc
      by_cases he : f0 < e
      · have hn : n = 0 ∨ 2147483648 ≤ n ∨ n ≤ -2147483648 := Classical.byContradiction fun h => hc ⟨he, h⟩
        clear hc
        by_cases g1 : n = 0
        · have g1' : (n == 0) = true := by simpa using g1
          clear g1 hn
          go_wp2_with fail
          go_loopw [] (fun wr => ∃ m f, Hid (CmM w wr Ta Tb n e m f) ∧ Hid ((f0 ≤ e → m = m0 ∧ f = f0) ∧ (e < f0 → e ≤ f))) (fun wr => (cI wr (w.heap.size + 1) 1 + 62).toNat)
          case atStart => exact ⟨m0, f0, H, fun _ => ⟨rfl, rfl⟩, fun h => Int.le_of_lt h⟩
          case round =>
            clear c0 c1 cf d0 d1 df b1 b2 b3 b4
            obtain ⟨m, f, H2, HK⟩ := hrel
            obtain ⟨⟨c0, c1⟩, cf⟩ := H2.out.a
            obtain ⟨⟨d0, d1⟩, df⟩ := H2.out.b
            obtain ⟨b1, b2, b3, b4⟩ := H2.out.bb
            by_cases hc2 : e < f ∧ ¬ (m = 0 ∨ 2147483648 ≤ m ∨ m ≤ -2147483648)
            · obtain ⟨he2, hm2⟩ := hc2
              have g1 : (m == 0) = false := by simp; omega
              have g2 : ¬ 2147483648 ≤ m := by omega
              have g3 : ¬ m ≤ -2147483648 := by omega
              have HS := Lib.hid (H2.out.stepB he2 (by omega) (by omega))
              have HK2 : Hid ((f0 ≤ e → 2 * m = m0 ∧ f - 1 = f0) ∧ (e < f0 → e ≤ f - 1)) := ⟨fun h => by have := HK.out.1 h; omega, fun h => by omega⟩
              have hcf := cI_of d1
              have hcf2 := cI_of HS.out.b.1.2
              have HCF := Lib.hid hcf; have HCF2 := Lib.hid hcf2
              clear hm2 hcf hcf2
              go_wp2_with fail
              go_roundw
              case rel => exact ⟨2 * m, f - 1, HS, HK2⟩
              case measure =>
                have e1 := HCF.out; have e2 := HCF2.out; have := H2.out.ba
                rw [e1, e2]; omega
            · have HFIN : Hid ((if n < m then -1 else if m < n then 1 else 0) = cc) := fin_ord H2.out HCC.out HB0.out HX.out HK.out HN0.out hc2
              by_cases he2 : e < f
              · have hm2 : m = 0 ∨ 2147483648 ≤ m ∨ m ≤ -2147483648 := Classical.byContradiction fun h => hc2 ⟨he2, h⟩
                clear hc2
                by_cases g1 : m = 0
                · have g1' : (m == 0) = true := by simpa using g1
                  clear g1 hm2
                  go_wp2_with fail
                  all_goals
                    go_ret
                    exact ⟨by rw [← HFIN.out]; (first | rw [if_pos (by omega)] | (rw [if_neg (by omega)]; (first | rw [if_pos (by omega)] | rw [if_neg (by omega)]))); rfl, H2.out.ext⟩
                · have g1' : (m == 0) = false := by simpa using g1
                  by_cases g2 : 2147483648 ≤ m
                  · clear hm2 g1
                    go_wp2_with fail
                    all_goals
                      go_ret
                      exact ⟨by rw [← HFIN.out]; (first | rw [if_pos (by omega)] | (rw [if_neg (by omega)]; (first | rw [if_pos (by omega)] | rw [if_neg (by omega)]))); rfl, H2.out.ext⟩
                  · have g3 : m ≤ -2147483648 := by omega
                    clear hm2 g1
                    go_wp2_with fail
                    all_goals
                      go_ret
                      exact ⟨by rw [← HFIN.out]; (first | rw [if_pos (by omega)] | (rw [if_neg (by omega)]; (first | rw [if_pos (by omega)] | rw [if_neg (by omega)]))); rfl, H2.out.ext⟩
              · clear hc2
                go_wp2_with fail
                all_goals
                  go_ret
                  exact ⟨by rw [← HFIN.out]; (first | rw [if_pos (by omega)] | (rw [if_neg (by omega)]; (first | rw [if_pos (by omega)] | rw [if_neg (by omega)]))); rfl, H2.out.ext⟩
        · have g1' : (n == 0) = false := by simpa using g1
          by_cases g2 : 2147483648 ≤ n
          · clear hn g1
            go_wp2_with fail
            go_loopw [] (fun wr => ∃ m f, Hid (CmM w wr Ta Tb n e m f) ∧ Hid ((f0 ≤ e → m = m0 ∧ f = f0) ∧ (e < f0 → e ≤ f))) (fun wr => (cI wr (w.heap.size + 1) 1 + 62).toNat)
            case atStart => exact ⟨m0, f0, H, fun _ => ⟨rfl, rfl⟩, fun h => Int.le_of_lt h⟩
            case round =>
              clear c0 c1 cf d0 d1 df b1 b2 b3 b4
              obtain ⟨m, f, H2, HK⟩ := hrel
              obtain ⟨⟨c0, c1⟩, cf⟩ := H2.out.a
              obtain ⟨⟨d0, d1⟩, df⟩ := H2.out.b
              obtain ⟨b1, b2, b3, b4⟩ := H2.out.bb
              by_cases hc2 : e < f ∧ ¬ (m = 0 ∨ 2147483648 ≤ m ∨ m ≤ -2147483648)
              · obtain ⟨he2, hm2⟩ := hc2
                have g1 : (m == 0) = false := by simp; omega
                have g2 : ¬ 2147483648 ≤ m := by omega
                have g3 : ¬ m ≤ -2147483648 := by omega
                have HS := Lib.hid (H2.out.stepB he2 (by omega) (by omega))
                have HK2 : Hid ((f0 ≤ e → 2 * m = m0 ∧ f - 1 = f0) ∧ (e < f0 → e ≤ f - 1)) := ⟨fun h => by have := HK.out.1 h; omega, fun h => by omega⟩
                have hcf := cI_of d1
                have hcf2 := cI_of HS.out.b.1.2
                have HCF := Lib.hid hcf; have HCF2 := Lib.hid hcf2
                clear hm2 hcf hcf2
                go_wp2_with fail
                go_roundw
                case rel => exact ⟨2 * m, f - 1, HS, HK2⟩
                case measure =>
                  have e1 := HCF.out; have e2 := HCF2.out; have := H2.out.ba
                  rw [e1, e2]; omega
              · have HFIN : Hid ((if n < m then -1 else if m < n then 1 else 0) = cc) := fin_ord H2.out HCC.out HB0.out HX.out HK.out HN0.out hc2
                by_cases he2 : e < f
                · have hm2 : m = 0 ∨ 2147483648 ≤ m ∨ m ≤ -2147483648 := Classical.byContradiction fun h => hc2 ⟨he2, h⟩
                  clear hc2
                  by_cases g1 : m = 0
                  · have g1' : (m == 0) = true := by simpa using g1
                    clear g1 hm2
                    go_wp2_with fail
                    all_goals
                      go_ret
                      exact ⟨by rw [← HFIN.out]; (first | rw [if_pos (by omega)] | (rw [if_neg (by omega)]; (first | rw [if_pos (by omega)] | rw [if_neg (by omega)]))); rfl, H2.out.ext⟩
                  · have g1' : (m == 0) = false := by simpa using g1
                    by_cases g2 : 2147483648 ≤ m
                    · clear hm2 g1
                      go_wp2_with fail
                      all_goals
                        go_ret
                        exact ⟨by rw [← HFIN.out]; (first | rw [if_pos (by omega)] | (rw [if_neg (by omega)]; (first | rw [if_pos (by omega)] | rw [if_neg (by omega)]))); rfl, H2.out.ext⟩
                    · have g3 : m ≤ -2147483648 := by omega
                      clear hm2 g1
                      go_wp2_with fail
                      all_goals
                        go_ret
                        exact ⟨by rw [← HFIN.out]; (first | rw [if_pos (by omega)] | (rw [if_neg (by omega)]; (first | rw [if_pos (by omega)] | rw [if_neg (by omega)]))); rfl, H2.out.ext⟩
                · clear hc2
                  go_wp2_with fail
                  all_goals
                    go_ret
                    exact ⟨by rw [← HFIN.out]; (first | rw [if_pos (by omega)] | (rw [if_neg (by omega)]; (first | rw [if_pos (by omega)] | rw [if_neg (by omega)]))); rfl, H2.out.ext⟩
          · have g3 : n ≤ -2147483648 := by omega
            clear hn g1
            go_wp2_with fail
            go_loopw [] (fun wr => ∃ m f, Hid (CmM w wr Ta Tb n e m f) ∧ Hid ((f0 ≤ e → m = m0 ∧ f = f0) ∧ (e < f0 → e ≤ f))) (fun wr => (cI wr (w.heap.size + 1) 1 + 62).toNat)
            case atStart => exact ⟨m0, f0, H, fun _ => ⟨rfl, rfl⟩, fun h => Int.le_of_lt h⟩
            case round =>
              clear c0 c1 cf d0 d1 df b1 b2 b3 b4
              obtain ⟨m, f, H2, HK⟩ := hrel
              obtain ⟨⟨c0, c1⟩, cf⟩ := H2.out.a
              obtain ⟨⟨d0, d1⟩, df⟩ := H2.out.b
              obtain ⟨b1, b2, b3, b4⟩ := H2.out.bb
              by_cases hc2 : e < f ∧ ¬ (m = 0 ∨ 2147483648 ≤ m ∨ m ≤ -2147483648)
              · obtain ⟨he2, hm2⟩ := hc2
                have g1 : (m == 0) = false := by simp; omega
                have g2 : ¬ 2147483648 ≤ m := by omega
                have g3 : ¬ m ≤ -2147483648 := by omega
                have HS := Lib.hid (H2.out.stepB he2 (by omega) (by omega))
                have HK2 : Hid ((f0 ≤ e → 2 * m = m0 ∧ f - 1 = f0) ∧ (e < f0 → e ≤ f - 1)) := ⟨fun h => by have := HK.out.1 h; omega, fun h => by omega⟩
                have hcf := cI_of d1
                have hcf2 := cI_of HS.out.b.1.2
                have HCF := Lib.hid hcf; have HCF2 := Lib.hid hcf2
                clear hm2 hcf hcf2
                go_wp2_with fail
                go_roundw
                case rel => exact ⟨2 * m, f - 1, HS, HK2⟩
                case measure =>
                  have e1 := HCF.out; have e2 := HCF2.out; have := H2.out.ba
                  rw [e1, e2]; omega
              · have HFIN : Hid ((if n < m then -1 else if m < n then 1 else 0) = cc) := fin_ord H2.out HCC.out HB0.out HX.out HK.out HN0.out hc2
                by_cases he2 : e < f
                · have hm2 : m = 0 ∨ 2147483648 ≤ m ∨ m ≤ -2147483648 := Classical.byContradiction fun h => hc2 ⟨he2, h⟩
                  clear hc2
                  by_cases g1 : m = 0
                  · have g1' : (m == 0) = true := by simpa using g1
                    clear g1 hm2
                    go_wp2_with fail
                    all_goals
                      go_ret
                      exact ⟨by rw [← HFIN.out]; (first | rw [if_pos (by omega)] | (rw [if_neg (by omega)]; (first | rw [if_pos (by omega)] | rw [if_neg (by omega)]))); rfl, H2.out.ext⟩
                  · have g1' : (m == 0) = false := by simpa using g1
                    by_cases g2 : 2147483648 ≤ m
                    · clear hm2 g1
                      go_wp2_with fail
                      all_goals
                        go_ret
                        exact ⟨by rw [← HFIN.out]; (first | rw [if_pos (by omega)] | (rw [if_neg (by omega)]; (first | rw [if_pos (by omega)] | rw [if_neg (by omega)]))); rfl, H2.out.ext⟩
                    · have g3 : m ≤ -2147483648 := by omega
                      clear hm2 g1
                      go_wp2_with fail
                      all_goals
                        go_ret
                        exact ⟨by rw [← HFIN.out]; (first | rw [if_pos (by omega)] | (rw [if_neg (by omega)]; (first | rw [if_pos (by omega)] | rw [if_neg (by omega)]))); rfl, H2.out.ext⟩
                · clear hc2
                  go_wp2_with fail
                  all_goals
                    go_ret
                    exact ⟨by rw [← HFIN.out]; (first | rw [if_pos (by omega)] | (rw [if_neg (by omega)]; (first | rw [if_pos (by omega)] | rw [if_neg (by omega)]))); rfl, H2.out.ext⟩
      · clear hc
        go_wp2_with fail
        go_loopw [] (fun wr => ∃ m f, Hid (CmM w wr Ta Tb n e m f) ∧ Hid ((f0 ≤ e → m = m0 ∧ f = f0) ∧ (e < f0 → e ≤ f))) (fun wr => (cI wr (w.heap.size + 1) 1 + 62).toNat)
        case atStart => exact ⟨m0, f0, H, fun _ => ⟨rfl, rfl⟩, fun h => Int.le_of_lt h⟩
        case round =>
          clear c0 c1 cf d0 d1 df b1 b2 b3 b4
          obtain ⟨m, f, H2, HK⟩ := hrel
          obtain ⟨⟨c0, c1⟩, cf⟩ := H2.out.a
          obtain ⟨⟨d0, d1⟩, df⟩ := H2.out.b
          obtain ⟨b1, b2, b3, b4⟩ := H2.out.bb
          by_cases hc2 : e < f ∧ ¬ (m = 0 ∨ 2147483648 ≤ m ∨ m ≤ -2147483648)
          · obtain ⟨he2, hm2⟩ := hc2
            have g1 : (m == 0) = false := by simp; omega
            have g2 : ¬ 2147483648 ≤ m := by omega
            have g3 : ¬ m ≤ -2147483648 := by omega
            have HS := Lib.hid (H2.out.stepB he2 (by omega) (by omega))
            have HK2 : Hid ((f0 ≤ e → 2 * m = m0 ∧ f - 1 = f0) ∧ (e < f0 → e ≤ f - 1)) := ⟨fun h => by have := HK.out.1 h; omega, fun h => by omega⟩
            have hcf := cI_of d1
            have hcf2 := cI_of HS.out.b.1.2
            have HCF := Lib.hid hcf; have HCF2 := Lib.hid hcf2
            clear hm2 hcf hcf2
            go_wp2_with fail
            go_roundw
            case rel => exact ⟨2 * m, f - 1, HS, HK2⟩
            case measure =>
              have e1 := HCF.out; have e2 := HCF2.out; have := H2.out.ba
              rw [e1, e2]; omega
          · have HFIN : Hid ((if n < m then -1 else if m < n then 1 else 0) = cc) := fin_ord H2.out HCC.out HB0.out HX.out HK.out HN0.out hc2
            by_cases he2 : e < f
            · have hm2 : m = 0 ∨ 2147483648 ≤ m ∨ m ≤ -2147483648 := Classical.byContradiction fun h => hc2 ⟨he2, h⟩
              clear hc2
              by_cases g1 : m = 0
              · have g1' : (m == 0) = true := by simpa using g1
                clear g1 hm2
                go_wp2_with fail
                all_goals
                  go_ret
                  exact ⟨by rw [← HFIN.out]; (first | rw [if_pos (by omega)] | (rw [if_neg (by omega)]; (first | rw [if_pos (by omega)] | rw [if_neg (by omega)]))); rfl, H2.out.ext⟩
              · have g1' : (m == 0) = false := by simpa using g1
                by_cases g2 : 2147483648 ≤ m
                · clear hm2 g1
                  go_wp2_with fail
                  all_goals
                    go_ret
                    exact ⟨by rw [← HFIN.out]; (first | rw [if_pos (by omega)] | (rw [if_neg (by omega)]; (first | rw [if_pos (by omega)] | rw [if_neg (by omega)]))); rfl, H2.out.ext⟩
                · have g3 : m ≤ -2147483648 := by omega
                  clear hm2 g1
                  go_wp2_with fail
                  all_goals
                    go_ret
                    exact ⟨by rw [← HFIN.out]; (first | rw [if_pos (by omega)] | (rw [if_neg (by omega)]; (first | rw [if_pos (by omega)] | rw [if_neg (by omega)]))); rfl, H2.out.ext⟩
            · clear hc2
              go_wp2_with fail
              all_goals
                go_ret
                exact ⟨by rw [← HFIN.out]; (first | rw [if_pos (by omega)] | (rw [if_neg (by omega)]; (first | rw [if_pos (by omega)] | rw [if_neg (by omega)]))); rfl, H2.out.ext⟩
end Go.Proofs.YtcdkkohklhmpgaaGreatDoor
