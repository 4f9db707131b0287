/- Diagrams: the reference's small checks and its comparison of scalars. -/
import Derived.Test.YtkocmdpfknoiaaaGreatDoorDgsq
namespace Go.Proofs.YtkocmdpfknoiaaaGreatDoor

/-! ### Dgr -/
section
open Go Go.RowKit

set_option maxHeartbeats 400000 in
theorem within_any (n lo hi : Int) (w : World) : Calls Tryz.prog 42 #[I n, I lo, I hi] w fun e w' => e = .returned (.bool (decide (lo ≤ n ∧ n ≤ hi))) ∧ Ext w w' := by
  by_cases h1 : lo ≤ n
  · by_cases h2 : n ≤ hi
    all_goals
      go_enter Tryz.func42, Tryz.ntmps42
      go_wp2
      go_ret
      exact ⟨by simp [h1, h2], Ext.refl _⟩
  · go_enter Tryz.func42, Tryz.ntmps42
    go_wp2
    go_ret
    exact ⟨by simp; omega, Ext.refl _⟩
def rar (k : Int) : Int := if k < 0 ∨ 11 < k then -1 else arity k
set_option maxRecDepth 100000 in
set_option maxHeartbeats 1000000 in
theorem Arity_any (k : Int) (w : World) : Calls Tryz.prog 93 #[I k] w fun e w' => e = .returned (I (rar k)) ∧ Ext w w' := by
  by_cases h : k = 0 ∨ k = 1 ∨ k = 2 ∨ k = 3 ∨ k = 4 ∨ k = 5 ∨ k = 6 ∨ k = 7 ∨ k = 8 ∨ k = 9 ∨ k = 10 ∨ k = 11
  · rcases h with rfl | rfl | rfl | rfl | rfl | rfl | rfl | rfl | rfl | rfl | rfl | rfl
    all_goals
      go_enter Tryz.func93, Tryz.ntmps93
      go_wp2
      go_ret
      exact ⟨rfl, Ext.refl _⟩
  · have H := Lib.hid (show rar k = -1 by unfold rar; rw [if_pos (by omega)])
    rw [H.out]
    have g0 : (k == 0) = false := by simp; omega
    have g1 : (k == 1) = false := by simp; omega
    have g2 : (k == 2) = false := by simp; omega
    have g3 : (k == 3) = false := by simp; omega
    have g4 : (k == 4) = false := by simp; omega
    have g5 : (k == 5) = false := by simp; omega
    have g6 : (k == 6) = false := by simp; omega
    have g7 : (k == 7) = false := by simp; omega
    have g8 : (k == 8) = false := by simp; omega
    have g9 : (k == 9) = false := by simp; omega
    have g10 : (k == 10) = false := by simp; omega
    have g11 : (k == 11) = false := by simp; omega
    clear h
    go_enter Tryz.func93, Tryz.ntmps93
    go_wp2
    go_ret
    exact ⟨rfl, Ext.refl _⟩
set_option maxRecDepth 100000 in
set_option maxHeartbeats 1000000 in
theorem rscalar_t (n e : Int) (w : World) : Calls Tryz.prog 94 #[.agg #[I n, I e], .bool true] w fun x w' => x = .returned (I (scE true n e)) ∧ Ext w w' := by
  have H1 := Lib.hid (within_any n (-2147483647) 2147483647)
  have H2 := Lib.hid (within_any e (-62) 30)
  have HB : Hid (∀ w', Ext (w.alloc (.cells #[I n, I e] 49)) w' → w'.cell? ⟨w.heap.size, 0, none⟩ = some (I n) ∧ w'.cell? ⟨w.heap.size, 1, none⟩ = some (I e)) := fun w' x => by
    have h : w.heap.size < (w.alloc (.cells #[I n, I e] 49)).heap.size := by simp
    exact ⟨(x.old.1 _ _ h).trans (by go_simp), (x.old.1 _ _ h).trans (by go_simp)⟩
  by_cases h1 : -2147483647 ≤ n ∧ n ≤ 2147483647
  · rw [decide_eq_true h1] at H1
    by_cases h2 : -62 ≤ e ∧ e ≤ 30
    · rw [decide_eq_true h2] at H2
      have HS := Lib.hid (scE_t0 (n := n) (e := e) (by omega) (by omega) (by omega) (by omega))
      rw [HS.out]
      clear h1 h2
      go_enter Tryz.func94, Tryz.ntmps94
      go_wp2_with (go_at_call 42; first | ((with_reducible refine (H1.out _).mono ?_); rintro e1 w1 ⟨rfl, x1⟩; obtain ⟨c0, c1⟩ := HB.out _ x1) | ((with_reducible refine (H2.out _).mono ?_); rintro e2 w2 ⟨rfl, x2⟩))
      go_ret
      exact ⟨rfl, ((Ext.alloc _ _).trans x1).trans x2⟩
    · rw [decide_eq_false h2] at H2
      have HS := Lib.hid (scE_t1 (n := n) (e := e) (.inr (.inr (by omega))))
      rw [HS.out]
      clear h1 h2
      go_enter Tryz.func94, Tryz.ntmps94
      go_wp2_with (go_at_call 42; first | ((with_reducible refine (H1.out _).mono ?_); rintro e1 w1 ⟨rfl, x1⟩; obtain ⟨c0, c1⟩ := HB.out _ x1) | ((with_reducible refine (H2.out _).mono ?_); rintro e2 w2 ⟨rfl, x2⟩))
      go_ret
      exact ⟨rfl, ((Ext.alloc _ _).trans x1).trans x2⟩
  · rw [decide_eq_false h1] at H1
    have HS := Lib.hid (scE_t1 (n := n) (e := e) (by omega))
    rw [HS.out]
    clear h1
    go_enter Tryz.func94, Tryz.ntmps94
    go_wp2_with (go_at_call 42; first | ((with_reducible refine (H1.out _).mono ?_); rintro e1 w1 ⟨rfl, x1⟩; obtain ⟨c0, c1⟩ := HB.out _ x1) | ((with_reducible refine (H2.out _).mono ?_); rintro e2 w2 ⟨rfl, x2⟩))
    go_ret
    exact ⟨rfl, (Ext.alloc _ _).trans x1⟩
set_option maxRecDepth 100000 in
set_option maxHeartbeats 1000000 in
theorem rscalar_f (n e : Int) (w : World) : Calls Tryz.prog 94 #[.agg #[I n, I e], .bool false] w fun x w' => x = .returned (I (scE false n e)) ∧ Ext w w' := by
  by_cases h1 : n = 0
  · subst h1
    by_cases h2 : e = 0
    · subst h2
      go_enter Tryz.func94, Tryz.ntmps94
      go_wp2
      go_ret
      exact ⟨rfl, (by repeat (first | exact Ext.refl _ | assumption | exact Ext.alloc _ _ | refine Ext.trans ?_ (by assumption) | refine Ext.trans ?_ (Ext.alloc _ _) | refine Ext.trans ?_ (Ext.drewN _ _) | refine Ext.trans ?_ (Ext.drew _)))⟩
    · have H := Lib.hid (show scE false 0 e = 2 by simp [scE, h2])
      rw [H.out]
      go_enter Tryz.func94, Tryz.ntmps94
      go_wp2
      go_ret
      exact ⟨rfl, (by repeat (first | exact Ext.refl _ | assumption | exact Ext.alloc _ _ | refine Ext.trans ?_ (by assumption) | refine Ext.trans ?_ (Ext.alloc _ _) | refine Ext.trans ?_ (Ext.drewN _ _) | refine Ext.trans ?_ (Ext.drew _)))⟩
  · have H := Lib.hid (show scE false n e = 2 by simp [scE, h1])
    rw [H.out]
    go_enter Tryz.func94, Tryz.ntmps94
    go_wp2
    go_ret
    exact ⟨rfl, (by repeat (first | exact Ext.refl _ | assumption | exact Ext.alloc _ _ | refine Ext.trans ?_ (by assumption) | refine Ext.trans ?_ (Ext.alloc _ _) | refine Ext.trans ?_ (Ext.drewN _ _) | refine Ext.trans ?_ (Ext.drew _)))⟩
theorem rscalar_any (u : Bool) (n e : Int) (w : World) : Calls Tryz.prog 94 #[.agg #[I n, I e], .bool u] w fun x w' => x = .returned (I (scE u n e)) ∧ Ext w w' := by
  cases u
  · exact rscalar_f n e w
  · exact rscalar_t n e w

/-! ### The comparison -/
def tS (n e : Int) : Int := n * 2 ^ (e + 62).toNat
def cmS (n e m f : Int) : Int := if tS n e < tS m f then -1 else if tS m f < tS n e then 1 else 0
theorem tS_step {n e : Int} (h : -62 < e) : tS (2 * n) (e - 1) = tS n e := by
  unfold tS
  obtain ⟨k, hk⟩ : ∃ k : Nat, (e + 62).toNat = k + 1 := ⟨(e + 62).toNat - 1, by omega⟩
  rw [hk, show (e - 1 + 62).toNat = k by omega, Int.pow_succ]
  rw [Int.mul_comm 2 n, Int.mul_assoc, Int.mul_comm 2]
theorem pw_le {e f : Int} (h : f ≤ e) : (2 : Int) ^ (f + 62).toNat ≤ 2 ^ (e + 62).toNat := pow_le (by omega)
theorem pw_pos (e : Int) : (0 : Int) < 2 ^ (e + 62).toNat := Int.pow_pos (by decide)
/-- Where one of the two stopped early its number tells the order. -/
theorem ord_gt {n e m f : Int} (h : f < e) (hn : n = 0 ∨ 2147483648 ≤ n ∨ n ≤ -2147483648) (h1 : -2147483648 < m) (h2 : m < 2147483648) : (tS n e < tS m f ↔ n < m) ∧ (tS m f < tS n e ↔ m < n) := by
  unfold tS
  have p1 := pw_le (Int.le_of_lt h)
  have p2 := pw_pos f
  generalize (2 : Int) ^ (f + 62).toNat = P at *
  generalize (2 : Int) ^ (e + 62).toNat = Q at *
  rcases hn with rfl | hn | hn
  · rw [Int.zero_mul]
    have h3 : 0 < m * P ↔ 0 < m := by have := Int.mul_lt_mul_right (b := 0) (c := m) p2; rw [Int.zero_mul] at this; exact this
    have h4 : m * P < 0 ↔ m < 0 := by have := Int.mul_lt_mul_right (b := m) (c := 0) p2; rw [Int.zero_mul] at this; exact this
    exact ⟨h3, h4⟩
  · have a1 : m * P < n * Q := by
      have b1 : m * P ≤ 2147483647 * P := Int.mul_le_mul_of_nonneg_right (by omega) (by omega)
      have b2 : 2147483648 * P ≤ 2147483648 * Q := Int.mul_le_mul_of_nonneg_left p1 (by omega)
      have b3 : 2147483648 * Q ≤ n * Q := Int.mul_le_mul_of_nonneg_right hn (by omega)
      omega
    exact ⟨by omega, by omega⟩
  · have a1 : n * Q < m * P := by
      have b1 : -2147483647 * P ≤ m * P := Int.mul_le_mul_of_nonneg_right (by omega) (by omega)
      have b2 : -2147483648 * Q ≤ -2147483648 * P := by omega
      have b3 : n * Q ≤ -2147483648 * Q := Int.mul_le_mul_of_nonneg_right hn (by omega)
      omega
    exact ⟨by omega, by omega⟩
theorem ord_eq {n m e : Int} : (tS n e < tS m e ↔ n < m) ∧ (tS m e < tS n e ↔ m < n) := by
  unfold tS
  have p := pw_pos e
  exact ⟨Int.mul_lt_mul_right p, Int.mul_lt_mul_right p⟩

def cI (w : World) (g i : Nat) : Int := match w.cell? ⟨g, i, none⟩ with
  | some v => intOf v
  | none => 0
theorem cI_of {w : World} {g i : Nat} {n : Int} (h : w.cell? ⟨g, i, none⟩ = some (I n)) : cI w g i = n := by unfold cI; rw [h]; rfl
theorem sS2 {w : World} {g : Nat} {v0 v1 : Value} (h : S2 w g v0 v1) (u0 u1 : Value) : S2 ((w.setCell ⟨g, 0, none⟩ u0).setCell ⟨g, 1, none⟩ u1) g u0 u1 := by
  obtain ⟨⟨h0, h1⟩, hf⟩ := h
  have c0 := World.cell?_setCell_same w _ u0 h0
  have n1 : (w.setCell ⟨g, 0, none⟩ u0).cell? ⟨g, 1, none⟩ = some v1 := (World.cell?_setCell_other _ _ _ _ (by intro e; injection e with _ e; cases e)).trans h1
  exact ⟨⟨(World.cell?_setCell_other _ _ _ _ (by intro e; injection e with _ e; cases e)).trans c0, World.cell?_setCell_same _ _ u1 n1⟩, fun i => by simp [hf i]⟩
theorem sFar {w : World} {g g' : Nat} {v0 v1 : Value} (h : S2 w g v0 v1) (hne : g' ≠ g) (u0 u1 : Value) : S2 ((w.setCell ⟨g', 0, none⟩ u0).setCell ⟨g', 1, none⟩ u1) g v0 v1 := by
  obtain ⟨⟨h0, h1⟩, hf⟩ := h
  have ne : ∀ (w : World) (i j : Nat) (u : Value), (w.setCell ⟨g', i, none⟩ u).cell? ⟨g, j, none⟩ = w.cell? ⟨g, j, none⟩ := fun w i j u => World.cell?_setCell_other _ _ _ _ (by intro e; injection e with e; exact hne e)
  exact ⟨⟨by rw [ne, ne]; exact h0, by rw [ne, ne]; exact h1⟩, fun i => by simp [hf i]⟩
/-- The two boxes of the comparison: a has been doubled to (n, e), b to (m, f). -/
structure CmM (w wr : World) (Ta Tb n e m f : Int) : Prop where
  ext : Ext w wr
  a : S2 wr w.heap.size (I n) (I e)
  b : S2 wr (w.heap.size + 1) (I m) (I f)
  ta : tS n e = Ta
  tb : tS m f = Tb
  ba : -4294967296 < n ∧ n < 4294967296 ∧ -62 ≤ e ∧ e ≤ 30
  bb : -4294967296 < m ∧ m < 4294967296 ∧ -62 ≤ f ∧ f ≤ 30
theorem CmM.stepA {w wr : World} {Ta Tb n e m f : Int} (h : CmM w wr Ta Tb n e m f) (he : f < e) (h1 : -2147483648 < n) (h2 : n < 2147483648) :
    CmM w ((wr.setCell ⟨w.heap.size, 0, none⟩ (I (2 * n))).setCell ⟨w.heap.size, 1, none⟩ (I (e - 1))) Ta Tb (2 * n) (e - 1) m f := by
  have := h.ba; have := h.bb
  exact ⟨(h.ext.set (Nat.le_refl _) _).set (Nat.le_refl _) _, sS2 h.a _ _, sFar h.b (by omega) _ _, by rw [tS_step (by omega)]; exact h.ta, h.tb, by omega, h.bb⟩
theorem CmM.stepB {w wr : World} {Ta Tb n e m f : Int} (h : CmM w wr Ta Tb n e m f) (he : e < f) (h1 : -2147483648 < m) (h2 : m < 2147483648) :
    CmM w ((wr.setCell ⟨w.heap.size + 1, 0, none⟩ (I (2 * m))).setCell ⟨w.heap.size + 1, 1, none⟩ (I (f - 1))) Ta Tb n e (2 * m) (f - 1) := by
  have := h.ba; have := h.bb
  exact ⟨(h.ext.set (by show _ ≤ w.heap.size + 1; omega) _).set (by show _ ≤ w.heap.size + 1; omega) _, sFar h.a (by omega) _ _, sS2 h.b _ _, h.ta, by rw [tS_step (by omega)]; exact h.tb, h.ba, by omega⟩
theorem fin_ord {w wr : World} {Ta Tb n e m f n0 m0 f0 cc : Int} (h : CmM w wr Ta Tb n e m f) (hcc : (if Ta < Tb then -1 else if Tb < Ta then 1 else 0) = cc)
    (b0 : (-2147483648 < n0 ∧ n0 < 2147483648) ∧ (-2147483648 < m0 ∧ m0 < 2147483648)) (hx : ¬ (f0 < e ∧ ¬ (n = 0 ∨ 2147483648 ≤ n ∨ n ≤ -2147483648))) (hk : (f0 ≤ e → m = m0 ∧ f = f0) ∧ (e < f0 → e ≤ f)) (hn0 : e < f0 → n = n0)
    (hc2 : ¬ (e < f ∧ ¬ (m = 0 ∨ 2147483648 ≤ m ∨ m ≤ -2147483648))) : (if n < m then -1 else if m < n then 1 else 0) = cc := by
  have key : (Ta < Tb ↔ n < m) ∧ (Tb < Ta ↔ m < n) := by
    rw [← h.ta, ← h.tb]
    by_cases q : f0 ≤ e
    · obtain ⟨rfl, rfl⟩ := hk.1 q
      by_cases q2 : e = f
      · subst q2; exact ord_eq
      · have hn : n = 0 ∨ 2147483648 ≤ n ∨ n ≤ -2147483648 := Classical.byContradiction fun hh => hx ⟨by omega, hh⟩
        exact ord_gt (by omega) hn b0.2.1 b0.2.2
    · have hn := hn0 (by omega)
      subst hn
      by_cases q2 : e = f
      · subst q2; exact ord_eq
      · by_cases q3 : e < f
        · have hm : m = 0 ∨ 2147483648 ≤ m ∨ m ≤ -2147483648 := Classical.byContradiction fun hh => hc2 ⟨q3, hh⟩
          exact (ord_gt q3 hm b0.1.1 b0.1.2).symm
        · have := hk.2 (by omega); omega
  rw [← hcc]
  by_cases q1 : n < m
  · rw [if_pos q1, if_pos (key.1.2 q1)]
  · rw [if_neg q1, if_neg (fun hh => q1 (key.1.1 hh))]
    by_cases q2 : m < n
    · rw [if_pos q2, if_pos (key.2.2 q2)]
    · rw [if_neg q2, if_neg (fun hh => q2 (key.2.1 hh))]
set_option maxRecDepth 100000 in
set_option maxHeartbeats 4000000 in
theorem rcmp_any (n0 e0 m0 f0 : Int) (w : World) (h1 : -2147483648 < n0) (h2 : n0 < 2147483648) (h3 : -62 ≤ e0) (h4 : e0 ≤ 30) (h5 : -2147483648 < m0) (h6 : m0 < 2147483648) (h7 : -62 ≤ f0) (h8 : f0 ≤ 30) :
    Calls Tryz.prog 95 #[.agg #[I n0, I e0], .agg #[I m0, I f0]] w fun x w' => x = .returned (I (cmS n0 e0 m0 f0)) ∧ Ext w w' := by
  have HM : Hid (CmM w ((w.alloc (.cells #[I n0, I e0] 49)).alloc (.cells #[I m0, I f0] 49)) (tS n0 e0) (tS m0 f0) n0 e0 m0 f0) :=
    ⟨(Ext.alloc _ _).trans (Ext.alloc _ _), ⟨⟨by go_simp, by go_simp⟩, fun i => by go_simp⟩, ⟨⟨by go_simp, by go_simp⟩, fun i => by go_simp⟩, rfl, rfl, by omega, by omega⟩
  obtain ⟨Ta, hTa⟩ : ∃ Ta, tS n0 e0 = Ta := ⟨_, rfl⟩
  obtain ⟨Tb, hTb⟩ : ∃ Tb, tS m0 f0 = Tb := ⟨_, rfl⟩
  rw [hTa, hTb] at HM
  obtain ⟨cc, hcc⟩ : ∃ cc, cmS n0 e0 m0 f0 = cc := ⟨_, rfl⟩
  have HCC : Hid ((if Ta < Tb then -1 else if Tb < Ta then 1 else 0) = cc) := by show _ = _; rw [← hcc, ← hTa, ← hTb]; rfl
  rw [hcc]
  have HTB := Lib.hid hTb
  clear hTa hTb hcc
  go_enter Tryz.func95, Tryz.ntmps95
  go_wp2_with fail
  have HB0 : Hid ((-2147483648 < n0 ∧ n0 < 2147483648) ∧ (-2147483648 < m0 ∧ m0 < 2147483648)) := ⟨⟨h1, h2⟩, ⟨h5, h6⟩⟩
  clear h1 h2 h3 h4 h5 h6 h7 h8
  go_loopw [] (fun wr => ∃ n e, Hid (CmM w wr Ta Tb n e m0 f0) ∧ Hid (e < f0 → n = n0)) (fun wr => (cI wr w.heap.size 1 + 62).toNat)
  case atStart => exact ⟨n0, e0, HM, fun _ => rfl⟩
  case round =>
    obtain ⟨n, e, H, HN0⟩ := hrel
    obtain ⟨⟨c0, c1⟩, cf⟩ := H.out.a
    obtain ⟨⟨d0, d1⟩, df⟩ := H.out.b
    obtain ⟨b1, b2, b3, b4⟩ := H.out.ba
    by_cases hc : f0 < e ∧ ¬ (n = 0 ∨ 2147483648 ≤ n ∨ n ≤ -2147483648)
    · obtain ⟨he, hn⟩ := hc
      have g1 : (n == 0) = false := by simp; omega
      have g2 : ¬ 2147483648 ≤ n := by omega
      have g3 : ¬ n ≤ -2147483648 := by omega
      have HS := Lib.hid (H.out.stepA he (by omega) (by omega))
      have HN2 : Hid (e - 1 < f0 → 2 * n = n0) := fun h => by omega
      have hcf := cI_of c1
      have hcf2 := cI_of HS.out.a.1.2
      have HCF := Lib.hid hcf; have HCF2 := Lib.hid hcf2
      clear hn hcf hcf2
      go_wp2_with fail
      go_roundw
      case rel => exact ⟨2 * n, e - 1, HS, HN2⟩
      case measure =>
        have e1 := HCF.out; have e2 := HCF2.out; have := H.out.bb
        rw [e1, e2]; omega
    · have HX := Lib.hid hc
      by_cases he : f0 < e
      · have hn : n = 0 ∨ 2147483648 ≤ n ∨ n ≤ -2147483648 := Classical.byContradiction fun h => hc ⟨he, h⟩
        clear hc
        by_cases g1 : n = 0
        · have g1' : (n == 0) = true := by simpa using g1
          clear g1 hn
          go_wp2_with fail
          go_loopw [] (fun wr => ∃ m f, Hid (CmM w wr Ta Tb n e m f) ∧ Hid ((f0 ≤ e → m = m0 ∧ f = f0) ∧ (e < f0 → e ≤ f))) (fun wr => (cI wr (w.heap.size + 1) 1 + 62).toNat)
          case atStart => exact ⟨m0, f0, H, fun _ => ⟨rfl, rfl⟩, fun h => Int.le_of_lt h⟩
          case round =>
            clear c0 c1 cf d0 d1 df b1 b2 b3 b4
            obtain ⟨m, f, H2, HK⟩ := hrel
            obtain ⟨⟨c0, c1⟩, cf⟩ := H2.out.a
            obtain ⟨⟨d0, d1⟩, df⟩ := H2.out.b
            obtain ⟨b1, b2, b3, b4⟩ := H2.out.bb
            by_cases hc2 : e < f ∧ ¬ (m = 0 ∨ 2147483648 ≤ m ∨ m ≤ -2147483648)
            · obtain ⟨he2, hm2⟩ := hc2
              have g1 : (m == 0) = false := by simp; omega
              have g2 : ¬ 2147483648 ≤ m := by omega
              have g3 : ¬ m ≤ -2147483648 := by omega
              have HS := Lib.hid (H2.out.stepB he2 (by omega) (by omega))
              have HK2 : Hid ((f0 ≤ e → 2 * m = m0 ∧ f - 1 = f0) ∧ (e < f0 → e ≤ f - 1)) := ⟨fun h => by have := HK.out.1 h; omega, fun h => by omega⟩
              have hcf := cI_of d1
              have hcf2 := cI_of HS.out.b.1.2
              have HCF := Lib.hid hcf; have HCF2 := Lib.hid hcf2
              clear hm2 hcf hcf2
              go_wp2_with fail
              go_roundw
              case rel => exact ⟨2 * m, f - 1, HS, HK2⟩
              case measure =>
                have e1 := HCF.out; have e2 := HCF2.out; have := H2.out.ba
                rw [e1, e2]; omega
            · have HFIN : Hid ((if n < m then -1 else if m < n then 1 else 0) = cc) := fin_ord H2.out HCC.out HB0.out HX.out HK.out HN0.out hc2
              by_cases he2 : e < f
              · have hm2 : m = 0 ∨ 2147483648 ≤ m ∨ m ≤ -2147483648 := Classical.byContradiction fun h => hc2 ⟨he2, h⟩
                clear hc2
                by_cases g1 : m = 0
                · have g1' : (m == 0) = true := by simpa using g1
                  clear g1 hm2
                  go_wp2_with fail
                  all_goals
                    go_ret
                    exact ⟨by rw [← HFIN.out]; (first | rw [if_pos (by omega)] | (rw [if_neg (by omega)]; (first | rw [if_pos (by omega)] | rw [if_neg (by omega)]))); rfl, H2.out.ext⟩
                · have g1' : (m == 0) = false := by simpa using g1
                  by_cases g2 : 2147483648 ≤ m
                  · clear hm2 g1
                    go_wp2_with fail
                    all_goals
                      go_ret
                      exact ⟨by rw [← HFIN.out]; (first | rw [if_pos (by omega)] | (rw [if_neg (by omega)]; (first | rw [if_pos (by omega)] | rw [if_neg (by omega)]))); rfl, H2.out.ext⟩
                  · have g3 : m ≤ -2147483648 := by omega
                    clear hm2 g1
                    go_wp2_with fail
                    all_goals
                      go_ret
                      exact ⟨by rw [← HFIN.out]; (first | rw [if_pos (by omega)] | (rw [if_neg (by omega)]; (first | rw [if_pos (by omega)] | rw [if_neg (by omega)]))); rfl, H2.out.ext⟩
              · clear hc2
                go_wp2_with fail
                all_goals
                  go_ret
                  exact ⟨by rw [← HFIN.out]; (first | rw [if_pos (by omega)] | (rw [if_neg (by omega)]; (first | rw [if_pos (by omega)] | rw [if_neg (by omega)]))); rfl, H2.out.ext⟩
        · have g1' : (n == 0) = false := by simpa using g1
          by_cases g2 : 2147483648 ≤ n
          · clear hn g1
            go_wp2_with fail
            go_loopw [] (fun wr => ∃ m f, Hid (CmM w wr Ta Tb n e m f) ∧ Hid ((f0 ≤ e → m = m0 ∧ f = f0) ∧ (e < f0 → e ≤ f))) (fun wr => (cI wr (w.heap.size + 1) 1 + 62).toNat)
            case atStart => exact ⟨m0, f0, H, fun _ => ⟨rfl, rfl⟩, fun h => Int.le_of_lt h⟩
            case round =>
              clear c0 c1 cf d0 d1 df b1 b2 b3 b4
              obtain ⟨m, f, H2, HK⟩ := hrel
              obtain ⟨⟨c0, c1⟩, cf⟩ := H2.out.a
              obtain ⟨⟨d0, d1⟩, df⟩ := H2.out.b
              obtain ⟨b1, b2, b3, b4⟩ := H2.out.bb
              by_cases hc2 : e < f ∧ ¬ (m = 0 ∨ 2147483648 ≤ m ∨ m ≤ -2147483648)
              · obtain ⟨he2, hm2⟩ := hc2
                have g1 : (m == 0) = false := by simp; omega
                have g2 : ¬ 2147483648 ≤ m := by omega
                have g3 : ¬ m ≤ -2147483648 := by omega
                have HS := Lib.hid (H2.out.stepB he2 (by omega) (by omega))
                have HK2 : Hid ((f0 ≤ e → 2 * m = m0 ∧ f - 1 = f0) ∧ (e < f0 → e ≤ f - 1)) := ⟨fun h => by have := HK.out.1 h; omega, fun h => by omega⟩
                have hcf := cI_of d1
                have hcf2 := cI_of HS.out.b.1.2
                have HCF := Lib.hid hcf; have HCF2 := Lib.hid hcf2
                clear hm2 hcf hcf2
                go_wp2_with fail
                go_roundw
                case rel => exact ⟨2 * m, f - 1, HS, HK2⟩
                case measure =>
                  have e1 := HCF.out; have e2 := HCF2.out; have := H2.out.ba
                  rw [e1, e2]; omega
              · have HFIN : Hid ((if n < m then -1 else if m < n then 1 else 0) = cc) := fin_ord H2.out HCC.out HB0.out HX.out HK.out HN0.out hc2
                by_cases he2 : e < f
                · have hm2 : m = 0 ∨ 2147483648 ≤ m ∨ m ≤ -2147483648 := Classical.byContradiction fun h => hc2 ⟨he2, h⟩
                  clear hc2
                  by_cases g1 : m = 0
                  · have g1' : (m == 0) = true := by simpa using g1
                    clear g1 hm2
                    go_wp2_with fail
                    all_goals
                      go_ret
                      exact ⟨by rw [← HFIN.out]; (first | rw [if_pos (by omega)] | (rw [if_neg (by omega)]; (first | rw [if_pos (by omega)] | rw [if_neg (by omega)]))); rfl, H2.out.ext⟩
                  · have g1' : (m == 0) = false := by simpa using g1
                    by_cases g2 : 2147483648 ≤ m
                    · clear hm2 g1
                      go_wp2_with fail
                      all_goals
                        go_ret
                        exact ⟨by rw [← HFIN.out]; (first | rw [if_pos (by omega)] | (rw [if_neg (by omega)]; (first | rw [if_pos (by omega)] | rw [if_neg (by omega)]))); rfl, H2.out.ext⟩
                    · have g3 : m ≤ -2147483648 := by omega
                      clear hm2 g1
                      go_wp2_with fail
                      all_goals
                        go_ret
                        exact ⟨by rw [← HFIN.out]; (first | rw [if_pos (by omega)] | (rw [if_neg (by omega)]; (first | rw [if_pos (by omega)] | rw [if_neg (by omega)]))); rfl, H2.out.ext⟩
                · clear hc2
                  go_wp2_with fail
                  all_goals
                    go_ret
                    exact ⟨by rw [← HFIN.out]; (first | rw [if_pos (by omega)] | (rw [if_neg (by omega)]; (first | rw [if_pos (by omega)] | rw [if_neg (by omega)]))); rfl, H2.out.ext⟩
          · have g3 : n ≤ -2147483648 := by omega
            clear hn g1
            go_wp2_with fail
            go_loopw [] (fun wr => ∃ m f, Hid (CmM w wr Ta Tb n e m f) ∧ Hid ((f0 ≤ e → m = m0 ∧ f = f0) ∧ (e < f0 → e ≤ f))) (fun wr => (cI wr (w.heap.size + 1) 1 + 62).toNat)
            case atStart => exact ⟨m0, f0, H, fun _ => ⟨rfl, rfl⟩, fun h => Int.le_of_lt h⟩
            case round =>
              clear c0 c1 cf d0 d1 df b1 b2 b3 b4
              obtain ⟨m, f, H2, HK⟩ := hrel
              obtain ⟨⟨c0, c1⟩, cf⟩ := H2.out.a
              obtain ⟨⟨d0, d1⟩, df⟩ := H2.out.b
              obtain ⟨b1, b2, b3, b4⟩ := H2.out.bb
              by_cases hc2 : e < f ∧ ¬ (m = 0 ∨ 2147483648 ≤ m ∨ m ≤ -2147483648)
              · obtain ⟨he2, hm2⟩ := hc2
                have g1 : (m == 0) = false := by simp; omega
                have g2 : ¬ 2147483648 ≤ m := by omega
                have g3 : ¬ m ≤ -2147483648 := by omega
                have HS := Lib.hid (H2.out.stepB he2 (by omega) (by omega))
                have HK2 : Hid ((f0 ≤ e → 2 * m = m0 ∧ f - 1 = f0) ∧ (e < f0 → e ≤ f - 1)) := ⟨fun h => by have := HK.out.1 h; omega, fun h => by omega⟩
                have hcf := cI_of d1
                have hcf2 := cI_of HS.out.b.1.2
                have HCF := Lib.hid hcf; have HCF2 := Lib.hid hcf2
                clear hm2 hcf hcf2
                go_wp2_with fail
                go_roundw
                case rel => exact ⟨2 * m, f - 1, HS, HK2⟩
                case measure =>
                  have e1 := HCF.out; have e2 := HCF2.out; have := H2.out.ba
                  rw [e1, e2]; omega
              · have HFIN : Hid ((if n < m then -1 else if m < n then 1 else 0) = cc) := fin_ord H2.out HCC.out HB0.out HX.out HK.out HN0.out hc2
                by_cases he2 : e < f
                · have hm2 : m = 0 ∨ 2147483648 ≤ m ∨ m ≤ -2147483648 := Classical.byContradiction fun h => hc2 ⟨he2, h⟩
                  clear hc2
                  by_cases g1 : m = 0
                  · have g1' : (m == 0) = true := by simpa using g1
                    clear g1 hm2
                    go_wp2_with fail
                    all_goals
                      go_ret
                      exact ⟨by rw [← HFIN.out]; (first | rw [if_pos (by omega)] | (rw [if_neg (by omega)]; (first | rw [if_pos (by omega)] | rw [if_neg (by omega)]))); rfl, H2.out.ext⟩
                  · have g1' : (m == 0) = false := by simpa using g1
                    by_cases g2 : 2147483648 ≤ m
                    · clear hm2 g1
                      go_wp2_with fail
                      all_goals
                        go_ret
                        exact ⟨by rw [← HFIN.out]; (first | rw [if_pos (by omega)] | (rw [if_neg (by omega)]; (first | rw [if_pos (by omega)] | rw [if_neg (by omega)]))); rfl, H2.out.ext⟩
                    · have g3 : m ≤ -2147483648 := by omega
                      clear hm2 g1
                      go_wp2_with fail
                      all_goals
                        go_ret
                        exact ⟨by rw [← HFIN.out]; (first | rw [if_pos (by omega)] | (rw [if_neg (by omega)]; (first | rw [if_pos (by omega)] | rw [if_neg (by omega)]))); rfl, H2.out.ext⟩
                · clear hc2
                  go_wp2_with fail
                  all_goals
                    go_ret
                    exact ⟨by rw [← HFIN.out]; (first | rw [if_pos (by omega)] | (rw [if_neg (by omega)]; (first | rw [if_pos (by omega)] | rw [if_neg (by omega)]))); rfl, H2.out.ext⟩
      · clear hc
        go_wp2_with fail
        go_loopw [] (fun wr => ∃ m f, Hid (CmM w wr Ta Tb n e m f) ∧ Hid ((f0 ≤ e → m = m0 ∧ f = f0) ∧ (e < f0 → e ≤ f))) (fun wr => (cI wr (w.heap.size + 1) 1 + 62).toNat)
        case atStart => exact ⟨m0, f0, H, fun _ => ⟨rfl, rfl⟩, fun h => Int.le_of_lt h⟩
        case round =>
          clear c0 c1 cf d0 d1 df b1 b2 b3 b4
          obtain ⟨m, f, H2, HK⟩ := hrel
          obtain ⟨⟨c0, c1⟩, cf⟩ := H2.out.a
          obtain ⟨⟨d0, d1⟩, df⟩ := H2.out.b
          obtain ⟨b1, b2, b3, b4⟩ := H2.out.bb
          by_cases hc2 : e < f ∧ ¬ (m = 0 ∨ 2147483648 ≤ m ∨ m ≤ -2147483648)
          · obtain ⟨he2, hm2⟩ := hc2
            have g1 : (m == 0) = false := by simp; omega
            have g2 : ¬ 2147483648 ≤ m := by omega
            have g3 : ¬ m ≤ -2147483648 := by omega
            have HS := Lib.hid (H2.out.stepB he2 (by omega) (by omega))
            have HK2 : Hid ((f0 ≤ e → 2 * m = m0 ∧ f - 1 = f0) ∧ (e < f0 → e ≤ f - 1)) := ⟨fun h => by have := HK.out.1 h; omega, fun h => by omega⟩
            have hcf := cI_of d1
            have hcf2 := cI_of HS.out.b.1.2
            have HCF := Lib.hid hcf; have HCF2 := Lib.hid hcf2
            clear hm2 hcf hcf2
            go_wp2_with fail
            go_roundw
            case rel => exact ⟨2 * m, f - 1, HS, HK2⟩
            case measure =>
              have e1 := HCF.out; have e2 := HCF2.out; have := H2.out.ba
              rw [e1, e2]; omega
          · have HFIN : Hid ((if n < m then -1 else if m < n then 1 else 0) = cc) := fin_ord H2.out HCC.out HB0.out HX.out HK.out HN0.out hc2
            by_cases he2 : e < f
            · have hm2 : m = 0 ∨ 2147483648 ≤ m ∨ m ≤ -2147483648 := Classical.byContradiction fun h => hc2 ⟨he2, h⟩
              clear hc2
              by_cases g1 : m = 0
              · have g1' : (m == 0) = true := by simpa using g1
                clear g1 hm2
                go_wp2_with fail
                all_goals
                  go_ret
                  exact ⟨by rw [← HFIN.out]; (first | rw [if_pos (by omega)] | (rw [if_neg (by omega)]; (first | rw [if_pos (by omega)] | rw [if_neg (by omega)]))); rfl, H2.out.ext⟩
              · have g1' : (m == 0) = false := by simpa using g1
                by_cases g2 : 2147483648 ≤ m
                · clear hm2 g1
                  go_wp2_with fail
                  all_goals
                    go_ret
                    exact ⟨by rw [← HFIN.out]; (first | rw [if_pos (by omega)] | (rw [if_neg (by omega)]; (first | rw [if_pos (by omega)] | rw [if_neg (by omega)]))); rfl, H2.out.ext⟩
                · have g3 : m ≤ -2147483648 := by omega
                  clear hm2 g1
                  go_wp2_with fail
                  all_goals
                    go_ret
                    exact ⟨by rw [← HFIN.out]; (first | rw [if_pos (by omega)] | (rw [if_neg (by omega)]; (first | rw [if_pos (by omega)] | rw [if_neg (by omega)]))); rfl, H2.out.ext⟩
            · clear hc2
              go_wp2_with fail
              all_goals
                go_ret
                exact ⟨by rw [← HFIN.out]; (first | rw [if_pos (by omega)] | (rw [if_neg (by omega)]; (first | rw [if_pos (by omega)] | rw [if_neg (by omega)]))); rfl, H2.out.ext⟩
end

/-! ### Dgt -/
section
open Go Go.RowKit

theorem cls {k : Int} (h0 : 0 ≤ k) (h1 : k ≤ 11) :
    ((k == 0) = true ∧ (k == 11) = false ∧ (k == 1) = false ∧ (k == 2) = false ∧ (k == 6) = false ∧ usesV k = false) ∨ ((k == 0) = false ∧ (k == 11) = true ∧ (k == 1) = false ∧ (k == 2) = false ∧ (k == 6) = false ∧ usesV k = true) ∨
    ((k == 0) = false ∧ (k == 11) = false ∧ (k == 1) = true ∧ (k == 2) = false ∧ (k == 6) = false ∧ usesV k = true) ∨ ((k == 0) = false ∧ (k == 11) = false ∧ (k == 1) = false ∧ (k == 2) = true ∧ (k == 6) = false ∧ usesV k = true) ∨
    ((k == 0) = false ∧ (k == 11) = false ∧ (k == 1) = false ∧ (k == 2) = false ∧ (k == 6) = true ∧ usesV k = true) ∨ ((k == 0) = false ∧ (k == 11) = false ∧ (k == 1) = false ∧ (k == 2) = false ∧ (k == 6) = false ∧ usesV k = false) := by
  have : k = 0 ∨ k = 1 ∨ k = 2 ∨ k = 3 ∨ k = 4 ∨ k = 5 ∨ k = 6 ∨ k = 7 ∨ k = 8 ∨ k = 9 ∨ k = 10 ∨ k = 11 := by omega
  rcases this with rfl | rfl | rfl | rfl | rfl | rfl | rfl | rfl | rfl | rfl | rfl | rfl <;> decide
theorem rar_in {k : Int} (h0 : 0 ≤ k) (h1 : k ≤ 11) : rar k = arity k := by unfold rar; rw [if_neg (by omega)]
theorem gtS_cm {n e m f : Int} : decide (0 < cmS n e m f) = gtS n e m f := by
  unfold cmS gtS tS
  by_cases h1 : n * 2 ^ (e + 62).toNat < m * 2 ^ (f + 62).toNat
  · rw [if_pos h1, decide_eq_false (by omega), decide_eq_false (by omega)]
  · rw [if_neg h1]
    by_cases h2 : m * 2 ^ (f + 62).toNat < n * 2 ^ (e + 62).toNat
    · rw [if_pos h2, decide_eq_true (by omega), decide_eq_true h2]
    · rw [if_neg h2, decide_eq_false (by omega), decide_eq_false h2]
section
variable {w : World} {D : Dia} {p : Pl} {b : Blk} {A : Option Addr} {c : Nat}
set_option maxRecDepth 100000 in
set_option maxHeartbeats 1000000 in
theorem rblock_type (h : b.k < 0 ∨ 11 < b.k) : Calls Tryz.prog 43 #[dgv D p, bkv b.k A b.n c b.vn b.ve b.un b.ue] w fun e w' => e = .returned (I 7) ∧ Ext w w' := by
  have HA := Lib.hid (Arity_any b.k)
  rw [show rar b.k = -1 by unfold rar; rw [if_pos h]] at HA
  clear h
  go_enter Tryz.func43, Tryz.ntmps43
  go_wp2_with (go_at_call 93; (with_reducible refine (HA.out _).mono ?_); rintro e w1 ⟨rfl, x1⟩)
  go_ret
  exact ⟨rfl, ((Ext.alloc _ _).trans (Ext.alloc _ _)).trans x1⟩
set_option maxRecDepth 100000 in
set_option maxHeartbeats 1000000 in
theorem rblock_shape (h0 : 0 ≤ b.k) (h1 : b.k ≤ 11) (h2 : (b.n : Int) ≠ arity b.k) :
    Calls Tryz.prog 43 #[dgv D p, bkv b.k A b.n c b.vn b.ve b.un b.ue] w fun e w' => e = .returned (I 11) ∧ Ext w w' := by
  have HA := Lib.hid (Arity_any b.k)
  rw [rar_in h0 h1] at HA
  have hb2 := arity_b b.k
  generalize arity b.k = r at *
  have h2' : ((b.n : Int) == r) = false := by simpa using h2
  have h0' : ¬ r < 0 := by omega
  have HB := Lib.hid (bxB w D p b A c 26 51)
  clear h0 h1
  go_enter Tryz.func43, Tryz.ntmps43
  go_wp2_with (go_at_call 93; (with_reducible refine (HA.out _).mono ?_); rintro e w1 ⟨rfl, x1⟩; obtain ⟨m0, m1, m2, m3, m4, m5⟩ := HB.out.b0 _ x1)
  go_ret
  exact ⟨rfl, HB.out.ext.trans x1⟩
set_option maxRecDepth 100000 in
set_option maxHeartbeats 8000000 in
theorem rblock_in (d : Dm w D p) (ra : Ri w A b.n b.a) (hm : b.n ≤ maxLen) (h0 : 0 ≤ b.k) (h1 : b.k ≤ 11) (h2 : (b.n : Int) = arity b.k) :
    Calls Tryz.prog 43 #[dgv D p, bkv b.k A b.n c b.vn b.ve b.un b.ue] w fun e w' => e = .returned (I (blkE D b)) ∧ Ext w w' := by
  unfold maxLen at hm
  have l1 := d.li; have l2 := d.lb
  unfold maxLen at l1 l2
  obtain ⟨res, hres⟩ : ∃ res, blkE D b = res := ⟨_, rfl⟩
  have hres' := hres
  unfold blkE at hres'
  rw [if_neg (by omega), if_neg (by omega)] at hres'
  have HRES := Lib.hid hres'
  rw [hres]
  have HA := Lib.hid (Arity_any b.k)
  rw [rar_in h0 h1, ← h2] at HA
  have HB := Lib.hid (bxB w D p b A c 26 51)
  obtain ⟨cnt0, hcnt⟩ : ∃ cnt0 : Nat, cntB D b = cnt0 := by unfold cntB; split <;> exact ⟨_, rfl⟩
  have hcl1 : b.k = 0 → cnt0 = D.ni := fun h => by have := hcnt; unfold cntB at this; rw [if_pos h] at this; omega
  have hcl2 : b.k ≠ 0 → cnt0 = D.nb := fun h => by have := hcnt; unfold cntB at this; rw [if_neg h] at this; omega
  have hcb : cnt0 ≤ 9223372036854775807 := by
    by_cases q : b.k = 0
    · rw [hcl1 q]; exact l1
    · rw [hcl2 q]; exact l2
  rw [hcnt] at HRES
  have HW : Hid (∀ i w, Calls Tryz.prog 42 #[I (b.a i), I 0, I ((cnt0 : Int) - 1)] w fun e w' => e = .returned (.bool (inE cnt0 (b.a i) == 0)) ∧ Ext w w') := fun i w => by
    have := within_any (b.a i) 0 ((cnt0 : Int) - 1) w
    rw [show decide (0 ≤ b.a i ∧ b.a i ≤ (cnt0 : Int) - 1) = (inE cnt0 (b.a i) == 0) by
      unfold inE
      by_cases q : 0 ≤ b.a i ∧ b.a i < cnt0
      · rw [if_pos q, decide_eq_true (by omega)]; rfl
      · rw [if_neg q, decide_eq_false (by omega)]; rfl] at this
    exact this
  obtain ⟨E, hE⟩ : ∃ E : Nat → Int, (fun i => inE (cnt0 : Int) (b.a i)) = E := ⟨_, rfl⟩
  have HE10 : Hid (∀ i, E i ≠ 0 → E i = 10) := fun i hi => by
    rw [← hE] at hi ⊢
    simp only [] at hi ⊢
    unfold inE at hi ⊢
    split
    · rename_i q; rw [if_pos q] at hi; exact absurd rfl hi
    · rfl
  have HWE : Hid (∀ i w, Calls Tryz.prog 42 #[I (b.a i), I 0, I ((cnt0 : Int) - 1)] w fun e w' => e = .returned (.bool (E i == 0)) ∧ Ext w w') := fun i w => by rw [← hE]; exact HW.out i w
  rw [hE] at HRES
  clear hE HW
  have HV := Lib.hid (rscalar_any (usesV b.k) b.vn b.ve)
  have HU := Lib.hid (rscalar_any (b.k == 11) b.un b.ue)
  have HT : Hid (b.k = 11 → scE (usesV b.k) b.vn b.ve = 0 → scE (b.k == 11) b.un b.ue = 0 → ∀ w, Calls Tryz.prog 95 #[.agg #[I b.vn, I b.ve], .agg #[I b.un, I b.ue]] w fun x w' => x = .returned (I (cmS b.vn b.ve b.un b.ue)) ∧ Ext w w') := fun hk hv hu w => by
    rw [hk] at hv hu
    obtain ⟨v1, v2, v3, v4⟩ := scE_t (show scE true b.vn b.ve = 0 from hv)
    obtain ⟨u1, u2, u3, u4⟩ := scE_t (show scE true b.un b.ue = 0 from hu)
    exact rcmp_any _ _ _ _ w v1 v2 v3 v4 u1 u2 u3 u4
  have HG := Lib.hid (gtS_cm (n := b.vn) (e := b.ve) (m := b.un) (f := b.ue))
  generalize hev : scE (usesV b.k) b.vn b.ve = ev at *
  generalize heu : scE (b.k == 11) b.un b.ue = eu at *
  generalize cmS b.vn b.ve b.un b.ue = cm at *
  generalize gtS b.vn b.ve b.un b.ue = gt at *
  have R := Lib.hid ra
  have HCL1 := Lib.hid hcl1; have HCL2 := Lib.hid hcl2
  clear d ra h2 hres hres' hcnt hev heu hcl1 hcl2
  rcases cls h0 h1 with ⟨q0, q11, q1, q2, q6, hu⟩ | ⟨q0, q11, q1, q2, q6, hu⟩ | ⟨q0, q11, q1, q2, q6, hu⟩ | ⟨q0, q11, q1, q2, q6, hu⟩ | ⟨q0, q11, q1, q2, q6, hu⟩ | ⟨q0, q11, q1, q2, q6, hu⟩
  all_goals
    rw [hu] at HV
    rw [q11] at HU
    (first | (have hcl' : cnt0 = D.ni := HCL1.out (by simpa using q0)) | (have hcl' : cnt0 = D.nb := HCL2.out (by simpa using q0)))
    subst hcl'
    clear hu h0 h1 HCL1 HCL2
    go_enter Tryz.func43, Tryz.ntmps43
    go_wp2_with (go_at_call 93; (with_reducible refine (HA.out _).mono ?_); rintro e w1 ⟨rfl, x1⟩; obtain ⟨m0, m1, m2, m3, m4, m5⟩ := HB.out.b0 _ x1; obtain ⟨d0, d1, d2⟩ := HB.out.d0 _ x1)
    clear m0 m1 m2 m3 m4 m5 d0 d1 d2
    have X1 := Lib.hid x1
    clear x1
    go_loopw [34] (fun s wr => ∃ j : Nat, j ≤ b.n ∧ s = I j ∧ Hid (Ext w1 wr) ∧ Hid (∀ i, i < j → E i = 0)) (fun s _ => b.n - (intOf s).toNat)
    case atStart => exact ⟨0, Nat.zero_le _, rfl, Ext.refl _, fun i hi => absurd hi (by omega)⟩
    case round =>
      obtain ⟨j, hj, rfl, HX, HI⟩ := hrel
      by_cases hlt : j < b.n
      · obtain ⟨ba, oa, rfl, hba, ca⟩ := R.out (by omega)
        have xa := ((HB.out.ext.trans (X1.out.trans HX.out)).old.1 _ _ hba).trans (ca j hlt)
        clear ca
        have HWJ := Lib.hid (HWE.out j)
        have hltj : (j : Int) < (b.n : Int) := by omega
        by_cases hq : E j = 0
        · have HI2 : Hid (∀ i, i < j + 1 → E i = 0) := fun i hi => by
            by_cases h : i = j
            · subst h; exact hq
            · exact HI.out i (by omega)
          rw [show (E j == 0) = true by simpa using hq] at HWJ
          clear hq
          go_wp2_with (go_at_call 42; (with_reducible refine (HWJ.out _).mono ?_); rintro e2 w2 ⟨rfl, x2⟩)
          go_roundw
          case rel => exact ⟨j + 1, by omega, by go_num, HX.out.trans x2, HI2⟩
          case measure => simp [intOf]; omega
        · have HF := Lib.hid (fstE_hit HI.out hlt hq)
          have h10 := HE10.out j hq
          have HR2 := HRES.out
          rw [HF.out, if_pos hq, h10] at HR2
          have HR3 := Lib.hid HR2
          rw [show (E j == 0) = false by simpa using hq] at HWJ
          clear hq h10 HR2
          go_wp2_with (go_at_call 42; (with_reducible refine (HWJ.out _).mono ?_); rintro e2 w2 ⟨rfl, x2⟩)
          go_ret
          exact ⟨by rw [← HR3.out]; rfl, HB.out.ext.trans (X1.out.trans (HX.out.trans x2))⟩
      · obtain rfl : j = b.n := by omega
        have HR2 := HRES.out
        rw [fstE_none HI.out, if_neg (by decide)] at HR2
        have HR3 := Lib.hid HR2
        clear HR2 HRES
        obtain ⟨m0, m1, m2, m3, m4, m5⟩ := HB.out.b0 _ (X1.out.trans HX.out)
        by_cases hv : ev = 0
        · subst hv
          by_cases hw : eu = 0
          · subst hw
            have HR4 := HR3.out
            rw [if_neg (by decide), if_neg (by decide)] at HR4
            by_cases hk : b.k = 11
            · have HC := Lib.hid (HT.out hk rfl rfl)
              have hgt := HG.out
              have HR5 : Hid ((if 0 < cm then 26 else 0) = res) := by
                show _ = _
                rw [← HR4]
                by_cases q : 0 < cm
                · rw [if_pos q, if_pos ⟨hk, by rw [← hgt]; exact decide_eq_true q⟩]
                · rw [if_neg q, if_neg (fun h => q (by have h2 := h.2; rw [← hgt] at h2; exact of_decide_eq_true h2))]
              clear hgt HR4 HR3
              first
                | (exfalso; rw [hk] at q11; cases q11; done)
                | (clear hk
                   by_cases q : 0 < cm
                   all_goals
                     have HR6 := HR5.out
                     (first | rw [if_pos q] at HR6 | rw [if_neg q] at HR6)
                     subst HR6
                     go_wp2_with (first
                       | (go_at_call 94; first | (have hg := x3; clear hg; (refine (HU.out _).mono ?_); rintro e4 w4 ⟨rfl, x4⟩; obtain ⟨t0, t1, t2, t3, t4, t5⟩ := HB.out.b0 _ (((X1.out.trans HX.out).trans x3).trans x4)) | ((refine (HV.out _).mono ?_); rintro e3 w3 ⟨rfl, x3⟩; obtain ⟨k0, k1, k2, k3, k4, k5⟩ := HB.out.b0 _ ((X1.out.trans HX.out).trans x3)))
                       | (go_at_call 95; (with_reducible refine (HC.out _).mono ?_); rintro e5 w5 ⟨rfl, x5⟩))
                     go_ret
                     exact ⟨rfl, HB.out.ext.trans ((((X1.out.trans HX.out).trans x3).trans x4).trans x5)⟩)
            · rw [if_neg (fun h => hk h.1)] at HR4
              subst HR4
              clear HR3
              first
                | (exfalso; exact hk (by simpa using q11); done)
                | (clear hk
                   go_wp2_with (go_at_call 94; first | (have hg := x3; clear hg; (refine (HU.out _).mono ?_); rintro e4 w4 ⟨rfl, x4⟩; obtain ⟨t0, t1, t2, t3, t4, t5⟩ := HB.out.b0 _ (((X1.out.trans HX.out).trans x3).trans x4)) | ((refine (HV.out _).mono ?_); rintro e3 w3 ⟨rfl, x3⟩; obtain ⟨k0, k1, k2, k3, k4, k5⟩ := HB.out.b0 _ ((X1.out.trans HX.out).trans x3)))
                   go_ret
                   exact ⟨rfl, HB.out.ext.trans (((X1.out.trans HX.out).trans x3).trans x4)⟩)
          · have hw' : (eu == 0) = false := by simpa using hw
            have HR4 := HR3.out
            rw [if_neg (by decide), if_pos hw] at HR4
            subst HR4
            clear HR3 hw
            go_wp2_with (go_at_call 94; first | (have hg := x3; clear hg; (refine (HU.out _).mono ?_); rintro e4 w4 ⟨rfl, x4⟩) | ((refine (HV.out _).mono ?_); rintro e3 w3 ⟨rfl, x3⟩; obtain ⟨k0, k1, k2, k3, k4, k5⟩ := HB.out.b0 _ ((X1.out.trans HX.out).trans x3)))
            go_ret
            exact ⟨rfl, HB.out.ext.trans (((X1.out.trans HX.out).trans x3).trans x4)⟩
        · have hv' : (ev == 0) = false := by simpa using hv
          have HR4 := HR3.out
          rw [if_pos hv] at HR4
          subst HR4
          clear HR3 hv
          go_wp2_with (go_at_call 94; (refine (HV.out _).mono ?_); rintro e3 w3 ⟨rfl, x3⟩)
          go_ret
          exact ⟨rfl, HB.out.ext.trans ((X1.out.trans HX.out).trans x3)⟩
theorem rblock_any (d : Dm w D p) (ra : Ri w A b.n b.a) (hm : b.n ≤ maxLen) : Calls Tryz.prog 43 #[dgv D p, bkv b.k A b.n c b.vn b.ve b.un b.ue] w fun e w' => e = .returned (I (blkE D b)) ∧ Ext w w' := by
  by_cases h1 : b.k < 0 ∨ 11 < b.k
  · rw [show blkE D b = 7 by unfold blkE; rw [if_pos h1]]; exact rblock_type h1
  by_cases h2 : (b.n : Int) = arity b.k
  · exact rblock_in d ra hm (by omega) (by omega) h2
  · rw [show blkE D b = 11 by unfold blkE; rw [if_neg h1, if_pos h2]]; exact rblock_shape (by omega) (by omega) h2
end
end

/-! ### Dguv -/
section
/-! ### Dgu -/
section
open Go Go.RowKit

theorem inL_iff {L : List Nat} {n : Nat} : inL L n = true ↔ n ∈ L := by simp [inL]
set_option maxRecDepth 100000 in
set_option maxHeartbeats 1000000 in
theorem has_any {w : World} {A : Option Addr} {c : Nat} {L : List Nat} (r : Rl w A c L) (hL : L.length ≤ 1000) (n : Nat) : Calls Tryz.prog 96 #[.slice A L.length c, I n] w fun e w' => e = .returned (.bool (inL L n)) ∧ Ext w w' := by
  have R := Lib.hid r; clear r
  obtain ⟨res, hres⟩ : ∃ res, inL L n = res := ⟨_, rfl⟩
  have HR := Lib.hid hres
  rw [hres]; clear hres
  go_enter Tryz.func96, Tryz.ntmps96
  go_wp2_with fail
  go_loopw [9] (fun s wr => ∃ j : Nat, j ≤ L.length ∧ s = I j ∧ Hid (Ext w wr) ∧ Hid (∀ i, i < j → L.getD i 0 ≠ n)) (fun s _ => L.length - (intOf s).toNat)
  case atStart => exact ⟨0, Nat.zero_le _, rfl, Ext.refl _, fun i hi => absurd hi (by omega)⟩
  case round =>
    obtain ⟨j, hj, rfl, HX, HG⟩ := hrel
    by_cases hlt : j < L.length
    · obtain ⟨b, o, rfl, hba, ca⟩ := R.out.1 (by omega)
      obtain ⟨y, hy⟩ : ∃ y, L.getD j 0 = y := ⟨_, rfl⟩
      have xa : wr.cell? ⟨b, o + j, none⟩ = some (I (y : Nat)) := by rw [← hy]; exact (HX.out.old.1 _ _ hba).trans (ca j hlt)
      have HY := Lib.hid hy
      clear ca hy
      by_cases hq : y = n
      · have hr : res = true := by
          rw [← HR.out, inL_iff, ← hq, ← HY.out, List.getD_eq_getElem?_getD, List.getElem?_eq_getElem hlt]; exact List.getElem_mem hlt
        subst hr
        have hq' : ((y : Int) == (n : Int)) = true := by simp [hq]
        clear hq
        go_wp2_with fail
        go_ret
        exact ⟨rfl, HX.out⟩
      · have HG2 : Hid (∀ i, i < j + 1 → L.getD i 0 ≠ n) := fun i hi => by
          by_cases h : i = j
          · subst h; rw [HY.out]; exact hq
          · exact HG.out i (by omega)
        have hq' : ((y : Int) == (n : Int)) = false := by simp; omega
        clear hq
        go_wp2_with fail
        go_roundw
        case rel => exact ⟨j + 1, by omega, by go_num, HX, HG2⟩
        case measure => simp [intOf]; omega
    · obtain rfl : j = L.length := by omega
      have hr : res = false := by
        rw [← HR.out]
        cases h : inL L n with
        | false => rfl
        | true =>
          obtain ⟨i, hi, e⟩ := List.getElem_of_mem (inL_iff.1 h)
          exact absurd (by rw [List.getD_eq_getElem?_getD, List.getElem?_eq_getElem hi]; exact e) (HG.out i hi)
      subst hr
      go_wp2_with fail
      go_ret
      exact ⟨rfl, HX.out⟩
set_option maxRecDepth 100000 in
set_option maxHeartbeats 1000000 in
theorem blocks_any (k : Int) (A : Option Addr) (n c : Nat) (f : Nat → Int) (vn ve un ue : Int) (w : World) (r : Ri w A n f) (hA : A = none → c = 0) :
    Calls Tryz.prog 97 #[bkv k A n c vn ve un ue] w (SrP (if k = 0 then 0 else n) f w) := by
  have HA0 := Lib.hid hA; clear hA
  by_cases h : k = 0
  · subst h
    have R := Lib.hid r; clear r
    go_enter Tryz.func97, Tryz.ntmps97
    go_wp2
    go_ret
    exact ⟨none, 0, rfl, Ri.none_, fun _ => rfl, (by repeat (first | exact Ext.refl _ | assumption | exact Ext.alloc _ _ | refine Ext.trans ?_ (by assumption) | refine Ext.trans ?_ (Ext.alloc _ _) | refine Ext.trans ?_ (Ext.drewN _ _) | refine Ext.trans ?_ (Ext.drew _)))⟩
  · have R := Lib.hid r; clear r
    have h' : (k == 0) = false := by simpa using h
    rw [if_neg h]
    clear h
    go_enter Tryz.func97, Tryz.ntmps97
    go_wp2
    go_ret
    exact ⟨A, c, rfl, R.out.ext (by repeat (first | exact Ext.refl _ | assumption | exact Ext.alloc _ _ | refine Ext.trans ?_ (by assumption) | refine Ext.trans ?_ (Ext.alloc _ _) | refine Ext.trans ?_ (Ext.drewN _ _) | refine Ext.trans ?_ (Ext.drew _))), HA0.out, (by repeat (first | exact Ext.refl _ | assumption | exact Ext.alloc _ _ | refine Ext.trans ?_ (by assumption) | refine Ext.trans ?_ (Ext.alloc _ _) | refine Ext.trans ?_ (Ext.drewN _ _) | refine Ext.trans ?_ (Ext.drew _)))⟩
set_option maxRecDepth 100000 in
set_option maxHeartbeats 1000000 in
theorem rdelays_any {w : World} {D : Dia} {p : Pl} (d : Dm w D p) (hnb : D.nb ≤ 1000000) : Calls Tryz.prog 30 #[dgv D p] w (LsR (delL D) w) := by
  have HBD := Lib.hid (Bd.new w D p 26)
  obtain ⟨W1, hW1⟩ : ∃ W1, W1 = w.alloc (.cells #[.slice p.AI D.ni p.cI, .slice p.AB D.nb p.cB, .slice p.AO D.no p.cO] 26) := ⟨_, rfl⟩
  have hE : Ext w W1 := by rw [hW1]; exact Ext.alloc _ _
  have hz1 : W1.heap.size = w.heap.size + 1 := by rw [hW1]; simp
  rw [← hW1] at HBD
  have HD := Lib.hid d
  have HE := Lib.hid hE
  have HW1 := Lib.hid hW1
  have c012 := HBD.out
  rw [hW1] at c012
  obtain ⟨c0, c1, c2⟩ := c012
  clear d hE hW1
  go_enter Tryz.func30, Tryz.ntmps30
  go_wp2_with fail
  clear c0 c1 c2
  go_loopw [3, 9] (fun s t wr => ∃ A c j, j ≤ D.nb ∧ s = .slice A (mkL j (isD D)).length c ∧ t = I j ∧ Hid (OwL wr (w.heap.size + 1) A c (mkL j (isD D))) ∧ Hid (Ext W1 wr)) (fun _ t _ => D.nb - (intOf t).toNat)
  case atStart => exact ⟨none, 0, 0, Nat.zero_le _, rfl, rfl, OwL.nil _ _, by rw [HW1.out]; exact Ext.refl _⟩
  case round =>
    obtain ⟨A, c, j, hj, rfl, rfl, HO, HX⟩ := hrel
    by_cases hlt : j < D.nb
    · have hlen : (mkL j (isD D)).length ≤ j := by rw [mkL_len]; exact cnt_le _ _
      obtain ⟨b, o, ha, hba, hc⟩ := (HD.out.ext (HE.out.trans HX.out)).blocks (by omega)
      obtain ⟨x0, x1, x2, x3, x4, x5⟩ := hc j hlt
      clear hc
      have hszr := HX.out.size
      have hltj : (j : Int) < (D.nb : Int) := by omega
      cases hq : isD D j with
      | false =>
        have hk : ((D.B j).k == 2) = false := hq
        have HM := Lib.hid (mkL_f hq)
        clear hq
        generalize (D.B j).k = kj at *
        go_wp2_with fail
        (try rw [← ha])
        go_roundw
        case rel => exact ⟨A, c, j + 1, by omega, by rw [HM.out], by go_num, by rw [HM.out]; exact HO.out.ext (Ext.alloc _ _), HX.out.trans (Ext.alloc _ _)⟩
        case measure => simp [intOf]; omega
      | true =>
        have hk : ((D.B j).k == 2) = true := hq
        have HM := Lib.hid (mkL_t hq)
        clear hq
        generalize (D.B j).k = kj at *
        generalize mkL j (isD D) = L at *
        go_wp2_with (at_builtin; refine appL rfl _ _ rfl (w.heap.size + 1) A c L rfl (HO.out.ext ((Ext.alloc _ _).trans (Ext.alloc _ _))) _ _ j rfl (by go_simp) (by omega) (by simp; omega) ?_; intro g cap w2 hown hgrow hat hlt; have G := Lib.hid (grow_ext (HX.out.trans ((Ext.alloc _ _).trans (Ext.alloc _ _))) (HO.out.ext ((Ext.alloc _ _).trans (Ext.alloc _ _))) (by omega) hgrow); have O2 := Lib.hid hown; clear hown hgrow hat)
        (try rw [← ha])
        go_roundw
        case rel => exact ⟨some ⟨g, 0, none⟩, cap, j + 1, by omega, by rw [HM.out]; simp, by go_num, by rw [HM.out]; exact O2.out, G.out⟩
        case measure => simp [intOf]; omega
    · obtain rfl : j = D.nb := by omega
      go_wp2_with fail
      go_ret
      exact ⟨A, c, rfl, HO.out.mono (by omega), HE.out.trans HX.out⟩

/-! ### Order -/
def okS (D : Dia) (L : List Nat) (i : Nat) : Nat → Bool := fun j => inL L (sr D i j) || isD D (sr D i j)
theorem allN_0 (q : Nat → Bool) : allN 0 q = true := rfl
theorem allN_s (n : Nat) (q : Nat → Bool) : allN (n + 1) q = (allN n q && q n) := by
  rw [Bool.eq_iff_iff, Bool.and_eq_true, allN_iff, allN_iff]
  exact ⟨fun h => ⟨fun i hi => h i (by omega), h n (by omega)⟩, fun h i hi => by
    by_cases e : i = n
    · subst e; exact h.2
    · exact h.1 i (by omega)⟩
theorem rdy_of {D : Dia} {L : List Nat} {i : Nat} (h1 : inL L i = false) (h2 : isD D i = false) : rdy D (inL L) i = allN (ns D i) (okS D L i) := by unfold rdy; rw [h1, h2]; rfl
theorem rdy_no1 {D : Dia} {L : List Nat} {i : Nat} (h : isD D i = true) : rdy D (inL L) i = false := by unfold rdy; rw [h]; simp
theorem rdy_no2 {D : Dia} {L : List Nat} {i : Nat} (h : inL L i = true) : rdy D (inL L) i = false := by unfold rdy; rw [h]; rfl
/-- What the reference's loop keeps. -/
structure ROrd (W w : World) (gl : Nat) (D : Dia) (A : Option Addr) (c : Nat) (L : List Nat) : Prop where
  ext : Ext W w
  glz : W.heap.size = gl
  own : OwL w gl A c L
  inv : OrdI D L
set_option maxRecDepth 100000 in
set_option maxHeartbeats 4000000 in
theorem rorder_any {w : World} {D : Dia} {p : Pl} (d : Dm w D p) (wf : WF D) : Calls Tryz.prog 44 #[dgv D p] w (LsR (ordL D) w) := by
  have hnb := wf.nb
  have HBD := Lib.hid (Bd.new w D p 26)
  obtain ⟨W1, hW1⟩ : ∃ W1, W1 = w.alloc (.cells #[.slice p.AI D.ni p.cI, .slice p.AB D.nb p.cB, .slice p.AO D.no p.cO] 26) := ⟨_, rfl⟩
  have hE : Ext w W1 := by rw [hW1]; exact Ext.alloc _ _
  have hz1 : W1.heap.size = w.heap.size + 1 := by rw [hW1]; simp
  rw [← hW1] at HBD
  have HD := Lib.hid d
  have HWF := Lib.hid wf
  have HE := Lib.hid hE
  have HST : Hid (ROrd W1 W1 (w.heap.size + 1) D none 0 []) := ⟨Ext.refl _, hz1, OwL.nil _ _, OrdI.nil D⟩
  have HW1 := Lib.hid hW1
  clear d wf hE
  rw [hW1] at HST
  clear hW1
  go_enter Tryz.func44, Tryz.ntmps44
  go_wp2_with fail
  go_loopw [3] (fun s wr => ∃ A c L, s = .slice A (List.length L) c ∧ Hid (ROrd W1 wr (w.heap.size + 1) D A c L)) (fun s _ => D.nb - lenV s)
  case atStart => exact ⟨none, 0, [], rfl, by rw [HW1.out]; exact HST⟩
  case round =>
    clear HST
    obtain ⟨A, c, L, rfl, H⟩ := hrel
    have hl := H.out.inv.le
    obtain ⟨c0, c1, c2⟩ := HBD.out.ext H.out.ext
    have hszr := H.out.ext.size
    have hlit : (0 : Int) ≤ (D.nb : Int) := by omega
    go_wp2_with fail
    clear c0 c1 c2
    go_loopw [4, 13] (fun f s wx => f = I (-1) ∧ ∃ j : Nat, j ≤ D.nb ∧ s = I j ∧ Hid (Ext wr wx) ∧ Hid (∀ i, i < j → rdy D (inL L) i = false)) (fun _ s _ => D.nb - (intOf s).toNat)
    case atStart => exact ⟨rfl, 0, Nat.zero_le _, rfl, Ext.refl _, fun i hi => absurd hi (by omega)⟩
    case round =>
      obtain ⟨rfl, j, hj, rfl, HX, HG⟩ := hrel
      by_cases hlt : j < D.nb
      · have dd := HD.out.ext (HE.out.trans (H.out.ext.trans HX.out))
        obtain ⟨b, o, ha, hba, hc⟩ := dd.blocks (by omega)
        obtain ⟨x0, x1, x2, x3, x4, x5⟩ := hc j hlt
        have HBK : Hid (∀ w' i, Ext wr w' → i < D.nb → w'.cell? ⟨b, o + i * 6, none⟩ = some (I (D.B i).k)) := fun w' i e hi => (e.old.1 _ _ hba).trans (hc i hi).1
        have hltj : (j : Int) < (D.nb : Int) := by omega
        have hsx := HX.out.size
        have HH : Hid (∀ w' n, Ext wr w' → Calls Tryz.prog 96 #[.slice A L.length c, I (n : Nat)] w' fun e w'' => e = .returned (.bool (inL L n)) ∧ Ext w' w'') := fun w' n e => has_any ((H.out.own.ext (HX.out.trans e)).rl) (by omega) n
        have HHJ := Lib.hid (fun w' => HH.out w' j)
        have HSR : Hid (∀ w', Ext wr w' → Calls Tryz.prog 97 #[bkv (D.B j).k (p.AA j) (D.B j).n (p.cA j) (D.B j).vn (D.B j).ve (D.B j).un (D.B j).ue] w' (SrP (ns D j) (D.B j).a w')) := fun w' e =>
          blocks_any _ _ _ _ _ _ _ _ _ w' ((dd.ext e).args j hlt).1 (dd.nA j hlt)
        clear hc dd
        cases hq : isD D j with
        | true =>
          have hk : ((D.B j).k == 2) = true := hq
          have HG2 : Hid (∀ i, i < j + 1 → rdy D (inL L) i = false) := fun i hi => by
            by_cases h : i = j
            · subst h; exact rdy_no1 hq
            · exact HG.out i (by omega)
          clear hq
          generalize (D.B j).k = kj at *
          go_wp2_with fail
          (try rw [← ha])
          go_roundw
          case rel => exact ⟨rfl, j + 1, by omega, by go_num, HX.out.trans (Ext.alloc _ _), HG2⟩
          case measure => simp [intOf]; omega
        | false =>
          have hk : ((D.B j).k == 2) = false := hq
          cases hp : inL L j with
          | true =>
            rw [hp] at HHJ
            have HG2 : Hid (∀ i, i < j + 1 → rdy D (inL L) i = false) := fun i hi => by
              by_cases h : i = j
              · subst h; exact rdy_no2 hp
              · exact HG.out i (by omega)
            clear hq hp
            generalize (D.B j).k = kj at *
            go_wp2_with (go_at_call 96; (with_reducible refine (HHJ.out _ (Ext.alloc _ _)).mono ?_); rintro e2 w2 ⟨rfl, y2⟩)
            (try rw [← ha])
            go_roundw
            case rel => exact ⟨rfl, j + 1, by omega, by go_num, HX.out.trans ((Ext.alloc _ _).trans y2), HG2⟩
            case measure => simp [intOf]; omega
          | false =>
            rw [hp] at HHJ
            have HRJ := Lib.hid (rdy_of hp hq)
            have hns := (HWF.out.ns2 hlt).1
            have HSX := Lib.hid (fun k (hk : k < ns D j) => HWF.out.src hlt hk)
            clear hq hp
            generalize (D.B j).k = kj at *
            generalize hnn : ns D j = nn at *
            clear hnn
            go_wp2_with (first
              | (go_at_call 96; (with_reducible refine (HHJ.out _ (Ext.alloc _ _)).mono ?_); rintro e2 w2 ⟨rfl, y2⟩; obtain ⟨yc, yf⟩ := y2.old)
              | (go_at_call 97; (with_reducible refine (HSR.out _ ((Ext.alloc _ _).trans y2)).mono ?_); rintro e3 w3 ⟨A3, c3, rfl, r3, _, y3⟩; have R3 := Lib.hid r3; clear r3))
            clear yc yf x0 x1 x2 x3 x4 x5
            have Y3 : Hid (Ext wr w3) := ((Ext.alloc _ _).trans y2).trans y3
            clear y2 y3
            go_loopw [7, 29] (fun rd s wy => ∃ k : Nat, k ≤ nn ∧ s = I k ∧ rd = .bool (allN k (okS D L j)) ∧ Hid (Ext w3 wy)) (fun _ s _ => nn - (intOf s).toNat)
            case atStart => exact ⟨0, Nat.zero_le _, rfl, by rw [allN_0], Ext.refl _⟩
            case round =>
              obtain ⟨k, hk2, rfl, rfl, HZ⟩ := hrel
              by_cases hltk : k < nn
              · obtain ⟨s1, s2, _⟩ := HSX.out k hltk
                have HAS := Lib.hid (allN_s k (okS D L j))
                obtain ⟨b3, o3, rfl, hb3, hc3⟩ := R3.out (by omega)
                have xa3 := (HZ.out.old.1 _ _ hb3).trans (hc3 k hltk)
                rw [s1] at xa3
                have xk := HBK.out _ (sr D j k) (Y3.out.trans HZ.out) s2
                obtain ⟨g0, g1, g2⟩ := HBD.out.ext (H.out.ext.trans (HX.out.trans (Y3.out.trans HZ.out)))
                have HH2 := Lib.hid (fun w' (e : Ext _ w') => HH.out w' (sr D j k) ((Y3.out.trans HZ.out).trans e))
                have hok : okS D L j k = (inL L (sr D j k) || isD D (sr D j k)) := rfl
                have HOK := Lib.hid hok
                have hisd : ((D.B (sr D j k)).k == 2) = isD D (sr D j k) := rfl
                have hltk' : (k : Int) < (nn : Int) := by omega
                have hs2 : ((sr D j k : Nat) : Int) < (D.nb : Int) := by omega
                generalize (D.B (sr D j k)).k = kk at *
                clear hok hc3 s1
                cases hq1 : allN k (okS D L j) with
                | false =>
                  rw [hq1] at HAS
                  clear hq1 hisd
                  go_wp2_with fail
                  go_roundw
                  case rel => exact ⟨k + 1, by omega, by go_num, by rw [HAS.out]; rfl, HZ⟩
                  case measure => simp [intOf]; omega
                | true =>
                  rw [hq1] at HAS
                  clear hq1
                  cases hq2 : isD D (sr D j k) with
                  | true =>
                    rw [hq2] at hisd HOK
                    rw [HOK.out] at HAS
                    clear hq2
                    go_wp2_with fail
                    (try rw [← ha])
                    go_roundw
                    case rel => exact ⟨k + 1, by omega, by go_num, by rw [HAS.out]; simp, HZ⟩
                    case measure => simp [intOf]; omega
                  | false =>
                    rw [hq2] at hisd HOK
                    rw [HOK.out] at HAS
                    clear hq2
                    generalize inL L (sr D j k) = q3 at *
                    go_wp2_with (go_at_call 96; (with_reducible refine (HH2.out _ (Ext.refl _)).mono ?_); rintro e2 w2 ⟨rfl, y2⟩)
                    (try rw [← ha])
                    go_roundw
                    case rel => exact ⟨k + 1, by omega, by go_num, by rw [HAS.out]; simp, HZ.out.trans y2⟩
                    case measure => simp [intOf]; omega
              · obtain rfl : k = nn := by omega
                have HALL := Lib.hid ((HX.out.trans Y3.out).trans HZ.out)
                cases hq : allN k (okS D L j) with
                | false =>
                  rw [hq] at HRJ
                  have HG2 : Hid (∀ i, i < j + 1 → rdy D (inL L) i = false) := fun i hi => by
                    by_cases h : i = j
                    · subst h; exact HRJ.out
                    · exact HG.out i (by omega)
                  clear hq
                  go_wp2_with fail
                  (try rw [← ha])
                  go_roundw
                  case rel => exact ⟨rfl, j + 1, by omega, by go_num, HALL, HG2⟩
                  case measure => simp [intOf]; omega
                | true =>
                  rw [hq] at HRJ
                  have HF := Lib.hid (fstI_hit HG.out hlt HRJ.out)
                  have hroom := H.out.inv.room hlt HRJ.out
                  have hszy := HALL.out.size
                  clear hq
                  go_wp2_with (at_builtin; refine appL rfl _ _ rfl (w.heap.size + 1) A c L rfl (H.out.own.ext (HALL.out.trans (Ext.alloc _ _))) _ _ j rfl (by go_simp) (by omega) (by simp; omega) ?_; intro g cap w2 hown hgrow hat hltg; have O2 := Lib.hid hown; have G2 := Lib.hid hgrow; clear hown hgrow hat)
                  (try rw [← ha])
                  go_roundw
                  case rel => exact ⟨some ⟨g, 0, none⟩, cap, L ++ [j], by simp, ⟨grow_ext (H.out.ext.trans (HALL.out.trans (Ext.alloc _ _))) (H.out.own.ext (HALL.out.trans (Ext.alloc _ _))) (by omega) G2.out, H.out.glz, O2.out, H.out.inv.app hlt HF.out HRJ.out⟩⟩
                  case measure => simp [lenV]; omega
      · obtain rfl : j = D.nb := by omega
        have HF := Lib.hid (H.out.inv.fin (fstI_none HG.out))
        go_wp2_with fail
        go_ret
        exact ⟨A, c, by rw [HF.out]; rfl, by rw [HF.out]; exact (H.out.own.ext HX.out).mono (by omega), HE.out.trans (H.out.ext.trans HX.out)⟩
end

/-! ### Dgv -/
section
open Go Go.RowKit

theorem ord_del_le (D : Dia) : (ordL D).length + (delL D).length ≤ D.nb := by
  have h := (ord_end D).1
  have h2 := h.len
  have h3 : cnt D.nb (isD D) ≤ cnt D.nb (fun i => !inL (ordL D) i) := cnt_mono fun i _ hd => by
    cases q : inL (ordL D) i with
    | false => rfl
    | true => have := (h.lt i q).2; rw [hd] at this; cases this
  unfold delL
  rw [mkL_len]; omega
set_option maxRecDepth 100000 in
set_option maxHeartbeats 1000000 in
theorem rcheck_large {w : World} {D : Dia} {p : Pl} (h : 16 < D.ni ∨ 64 < D.nb ∨ 16 < D.no) (l1 : D.ni ≤ maxLen) (l2 : D.nb ≤ maxLen) (l3 : D.no ≤ maxLen) : Calls Tryz.prog 10 #[dgv D p] w fun e w' => e = .returned (I 4) ∧ Ext w w' := by
  unfold maxLen at l1 l2 l3
  by_cases h1 : 16 < D.ni
  · have h1' : (16 : Int) < (D.ni : Int) := by omega
    clear h
    go_enter Tryz.func10, Tryz.ntmps10
    go_wp2_with fail
    go_ret
    exact ⟨rfl, (by repeat (first | exact Ext.refl _ | assumption | exact Ext.alloc _ _ | refine Ext.trans ?_ (by assumption) | refine Ext.trans ?_ (Ext.alloc _ _) | refine Ext.trans ?_ (Ext.drewN _ _) | refine Ext.trans ?_ (Ext.drew _)))⟩
  · have h1' : ¬ (16 : Int) < (D.ni : Int) := by omega
    by_cases h2 : 64 < D.nb
    · have h2' : (64 : Int) < (D.nb : Int) := by omega
      clear h
      go_enter Tryz.func10, Tryz.ntmps10
      go_wp2_with fail
      go_ret
      exact ⟨rfl, (by repeat (first | exact Ext.refl _ | assumption | exact Ext.alloc _ _ | refine Ext.trans ?_ (by assumption) | refine Ext.trans ?_ (Ext.alloc _ _) | refine Ext.trans ?_ (Ext.drewN _ _) | refine Ext.trans ?_ (Ext.drew _)))⟩
    · have h2' : ¬ (64 : Int) < (D.nb : Int) := by omega
      have h3' : (16 : Int) < (D.no : Int) := by omega
      clear h
      go_enter Tryz.func10, Tryz.ntmps10
      go_wp2_with fail
      go_ret
      exact ⟨rfl, (by repeat (first | exact Ext.refl _ | assumption | exact Ext.alloc _ _ | refine Ext.trans ?_ (by assumption) | refine Ext.trans ?_ (Ext.alloc _ _) | refine Ext.trans ?_ (Ext.drewN _ _) | refine Ext.trans ?_ (Ext.drew _)))⟩

set_option maxRecDepth 100000 in
set_option maxHeartbeats 1000000 in
theorem rcheck_in {w : World} {D : Dia} {p : Pl} (d : Dm w D p) (hT : Tabs w) (h0 : ¬ (16 < D.ni ∨ 64 < D.nb ∨ 16 < D.no)) : Calls Tryz.prog 10 #[dgv D p] w fun e w' => e = .returned (I (chk D)) ∧ Ext w w' := by
  have n1 : D.ni ≤ 16 := by omega
  have n2 : D.nb ≤ 64 := by omega
  have n3 : D.no ≤ 16 := by omega
  have H0 := Lib.hid h0
  have m1 : ¬ (16 : Int) < (D.ni : Int) := by omega
  have m2 : ¬ (64 : Int) < (D.nb : Int) := by omega
  have m3 : ¬ (16 : Int) < (D.no : Int) := by omega
  clear h0
  have HBD := Lib.hid (Bd.new w D p 26)
  obtain ⟨W1, hW1⟩ : ∃ W1, W1 = w.alloc (.cells #[.slice p.AI D.ni p.cI, .slice p.AB D.nb p.cB, .slice p.AO D.no p.cO] 26) := ⟨_, rfl⟩
  have hE : Ext w W1 := by rw [hW1]; exact Ext.alloc _ _
  have hz1 : W1.heap.size = w.heap.size + 1 := by rw [hW1]; simp
  rw [← hW1] at HBD
  have HD := Lib.hid d
  have HT := Lib.hid hT
  have HE := Lib.hid hE
  have HW1 := Lib.hid hW1
  have c012 := HBD.out
  rw [hW1] at c012
  obtain ⟨c0, c1, c2⟩ := c012
  clear d hE hW1 hT
  go_enter Tryz.func10, Tryz.ntmps10
  go_wp2_with fail
  clear c0 c1 c2
  go_loopw [29] (fun s wr => ∃ j : Nat, j ≤ D.ni ∧ s = I j ∧ Hid (Ext W1 wr) ∧ Hid (∀ i, i < j → prtE (D.P i) = 0)) (fun s _ => D.ni - (intOf s).toNat)
  case atStart => exact ⟨0, Nat.zero_le _, rfl, by rw [HW1.out]; exact Ext.refl _, fun i hi => absurd hi (by omega)⟩
  case round =>
    obtain ⟨j, hj, rfl, HX, HG⟩ := hrel
    by_cases hlt : j < D.ni
    · obtain ⟨b, o, ha, hba, hc⟩ := (HD.out.ext (HE.out.trans HX.out)).ports (by omega)
      obtain ⟨x0, x1, x2⟩ := hc j hlt
      clear hc
      have hlt' : (j : Int) < (D.ni : Int) := by omega
      obtain ⟨lo, hlo⟩ : ∃ lo, (D.P j).lo = lo := ⟨_, rfl⟩
      obtain ⟨hi, hhi⟩ : ∃ hi, (D.P j).hi = hi := ⟨_, rfl⟩
      obtain ⟨fr, hfr⟩ : ∃ fr, (D.P j).fr = fr := ⟨_, rfl⟩
      rw [hlo] at x0; rw [hhi] at x1; rw [hfr] at x2
      have HPE : Hid (prtE (D.P j) = if -2147483648 ≤ lo ∧ lo ≤ hi ∧ hi < 2147483648 ∧ 0 ≤ fr ∧ fr ≤ 30 then 0 else 3) := by show _ = _; rw [← hlo, ← hhi, ← hfr]; rfl
      have HW := Lib.hid (within_any fr 0 30)
      clear hlo hhi hfr
      by_cases hq : prtE (D.P j) = 0
      · have HG2 : Hid (∀ i, i < j + 1 → prtE (D.P i) = 0) := fun i hi => by
          by_cases h : i = j
          · subst h; exact hq
          · exact HG.out i (by omega)
        have hall : -2147483648 ≤ lo ∧ lo ≤ hi ∧ hi < 2147483648 ∧ 0 ≤ fr ∧ fr ≤ 30 := Classical.byContradiction fun h => by rw [HPE.out, if_neg h] at hq; omega
        obtain ⟨g1, g2, g3, g4, g5⟩ := hall
        rw [decide_eq_true (And.intro g4 g5)] at HW
        have g1' : ¬ lo < -2147483648 := by omega
        have g2' : ¬ hi < lo := by omega
        have g3' : ¬ 2147483648 ≤ hi := by omega
        clear hq HPE
        go_wp2_with (go_at_call 42; (with_reducible refine (HW.out _).mono ?_); rintro e w1 ⟨rfl, hb1⟩)
        (try rw [← ha])
        go_roundw
        case rel => exact ⟨j + 1, by omega, by go_num, HX.out.trans ((Ext.alloc _ _).trans hb1), HG2⟩
        case measure => simp [intOf]; omega
      · have HC := Lib.hid (chk_port H0.out HG.out hlt hq)
        have hall : ¬ (-2147483648 ≤ lo ∧ lo ≤ hi ∧ hi < 2147483648 ∧ 0 ≤ fr ∧ fr ≤ 30) := fun h => by rw [HPE.out, if_pos h] at hq; exact hq rfl
        clear hq HPE
        by_cases g1 : lo < -2147483648
        · clear hall
          go_wp2_with fail
          go_ret
          exact ⟨by rw [HC.out]; rfl, HE.out.trans (HX.out.trans (Ext.alloc _ _))⟩
        by_cases g2 : hi < lo
        · clear hall
          go_wp2_with fail
          go_ret
          exact ⟨by rw [HC.out]; rfl, HE.out.trans (HX.out.trans (Ext.alloc _ _))⟩
        by_cases g3 : 2147483648 ≤ hi
        · clear hall
          go_wp2_with fail
          go_ret
          exact ⟨by rw [HC.out]; rfl, HE.out.trans (HX.out.trans (Ext.alloc _ _))⟩
        have g4 : ¬ (0 ≤ fr ∧ fr ≤ 30) := fun h => hall ⟨by omega, by omega, by omega, h.1, h.2⟩
        rw [decide_eq_false g4] at HW
        clear hall g4
        go_wp2_with (go_at_call 42; (with_reducible refine (HW.out _).mono ?_); rintro e w1 ⟨rfl, hb1⟩)
        go_ret
        exact ⟨by rw [HC.out]; rfl, HE.out.trans (HX.out.trans ((Ext.alloc _ _).trans hb1))⟩
    · obtain rfl : j = D.ni := by omega
      have HXa := HX
      have HPo := HG
      clear HX HG
      obtain ⟨c0, c1, c2⟩ := HBD.out.ext HXa.out
      go_wp2_with fail
      clear c0 c1 c2
      go_loopw [58] (fun s wr => ∃ j : Nat, j ≤ D.nb ∧ s = I j ∧ Hid (Ext W1 wr) ∧ Hid (∀ i, i < j → blkE D (D.B i) = 0)) (fun s _ => D.nb - (intOf s).toNat)
      case atStart => exact ⟨0, Nat.zero_le _, rfl, HXa, fun i hi => absurd hi (by omega)⟩
      case round =>
        obtain ⟨j, hj, rfl, HX, HG⟩ := hrel
        by_cases hlt : j < D.nb
        · have dd := HD.out.ext (HE.out.trans HX.out)
          obtain ⟨b, o, ha, hba, hc⟩ := dd.blocks (by omega)
          obtain ⟨x0, x1, x2, x3, x4, x5⟩ := hc j hlt
          have HB : Hid (∀ w', Ext wr w' → Calls Tryz.prog 43 #[.agg #[.slice p.AI D.ni p.cI, .slice (some ⟨b, o, none⟩) D.nb p.cB, .slice p.AO D.no p.cO], bkv (D.B j).k (p.AA j) (D.B j).n (p.cA j) (D.B j).vn (D.B j).ve (D.B j).un (D.B j).ue] w' fun e w'' => e = .returned (I (blkE D (D.B j))) ∧ Ext w' w'') :=
            fun w' e => by rw [← ha]; exact rblock_any (p := p) (dd.ext e) ((dd.ext e).args j hlt).1 ((dd.ext e).args j hlt).2
          have hsz := HX.out.size
          obtain ⟨c0, c1, c2⟩ := HBD.out.ext HX.out
          have hz2 : w.heap.size < wr.heap.size := by omega
          clear hc dd
          have hlt' : (j : Int) < (D.nb : Int) := by omega
          by_cases hq : blkE D (D.B j) = 0
          · have HG2 : Hid (∀ i, i < j + 1 → blkE D (D.B i) = 0) := fun i hi => by
              by_cases h : i = j
              · subst h; exact hq
              · exact HG.out i (by omega)
            rw [hq] at HB
            clear hq
            go_wp2_with (go_at_call 43; (with_reducible refine (HB.out _ (Ext.alloc _ _)).mono ?_); rintro e w1 ⟨rfl, hb1⟩)
            (try rw [← ha])
            go_roundw
            case rel => exact ⟨j + 1, by omega, by go_num, HX.out.trans ((Ext.alloc _ _).trans hb1), HG2⟩
            case measure => simp [intOf]; omega
          · have HC := Lib.hid (chk_blk H0.out HPo.out HG.out hlt hq)
            have hq' : (blkE D (D.B j) == 0) = false := by simpa using hq
            clear hq
            generalize blkE D (D.B j) = eb at *
            go_wp2_with (go_at_call 43; (with_reducible refine (HB.out _ (Ext.alloc _ _)).mono ?_); rintro e w1 ⟨rfl, hb1⟩)
            go_ret
            exact ⟨by rw [HC.out]; rfl, HE.out.trans (HX.out.trans ((Ext.alloc _ _).trans hb1))⟩
        · obtain rfl : j = D.nb := by omega
          have HXb := HX
          have HBl := HG
          clear HX HG HXa
          obtain ⟨c0, c1, c2⟩ := HBD.out.ext HXb.out
          have HWF := Lib.hid (wf_of H0.out HBl.out)
          have hlo := HD.out.lo
          unfold maxLen at hlo
          obtain ⟨E, hEE⟩ : ∃ E : Nat → Int, (fun i => inE (D.nb : Int) (D.O i)) = E := ⟨_, rfl⟩
          have HW : Hid (∀ i w, Calls Tryz.prog 42 #[I (D.O i), I 0, I ((D.nb : Int) - 1)] w fun e w' => e = .returned (.bool (E i == 0)) ∧ Ext w w') := fun i w => by
            have := within_any (D.O i) 0 ((D.nb : Int) - 1) w
            rw [show decide (0 ≤ D.O i ∧ D.O i ≤ (D.nb : Int) - 1) = (E i == 0) by
              rw [← hEE]
              show _ = (inE (D.nb : Int) (D.O i) == 0)
              unfold inE
              by_cases q : 0 ≤ D.O i ∧ D.O i < D.nb
              · rw [if_pos q, decide_eq_true (by omega)]; rfl
              · rw [if_neg q, decide_eq_false (by omega)]; rfl] at this
            exact this
          have HCO : Hid (fstE D.no E ≠ 0 → chk D = 10) := fun h => chk_out H0.out HPo.out HBl.out (by rw [hEE]; exact h)
          have HCY : Hid (fstE D.no E = 0 → chk D = if (ordL D).length + (delL D).length < D.nb then 24 else 0) := fun h => chk_cyc H0.out HPo.out HBl.out (by rw [hEE]; exact h)
          clear hEE
          go_wp2_with fail
          clear c0 c1 c2
          go_loopw [72] (fun s wr => ∃ j : Nat, j ≤ D.no ∧ s = I j ∧ Hid (Ext W1 wr) ∧ Hid (∀ i, i < j → E i = 0)) (fun s _ => D.no - (intOf s).toNat)
          case atStart => exact ⟨0, Nat.zero_le _, rfl, HXb, fun i hi => absurd hi (by omega)⟩
          case round =>
            obtain ⟨j, hj, rfl, HX, HG⟩ := hrel
            obtain ⟨c0, c1, c2⟩ := HBD.out.ext HX.out
            by_cases hlt : j < D.no
            · obtain ⟨b, o, ha, hba, hc⟩ := (HD.out.ext (HE.out.trans HX.out)).outs (by omega)
              have xo := hc j hlt
              clear hc
              have HWJ := Lib.hid (HW.out j)
              have hlt' : (j : Int) < (D.no : Int) := by omega
              by_cases hq : E j = 0
              · have HG2 : Hid (∀ i, i < j + 1 → E i = 0) := fun i hi => by
                  by_cases h : i = j
                  · subst h; exact hq
                  · exact HG.out i (by omega)
                rw [show (E j == 0) = true by simpa using hq] at HWJ
                clear hq
                go_wp2_with (go_at_call 42; (with_reducible refine (HWJ.out _).mono ?_); rintro e2 w2 ⟨rfl, x2⟩)
                (try rw [← ha])
                go_roundw
                case rel => exact ⟨j + 1, by omega, by go_num, HX.out.trans x2, HG2⟩
                case measure => simp [intOf]; omega
              · have HC := Lib.hid (HCO.out (by rw [fstE_hit HG.out hlt hq]; exact hq))
                rw [show (E j == 0) = false by simpa using hq] at HWJ
                clear hq
                go_wp2_with (go_at_call 42; (with_reducible refine (HWJ.out _).mono ?_); rintro e2 w2 ⟨rfl, x2⟩)
                go_ret
                exact ⟨by rw [HC.out]; rfl, HE.out.trans (HX.out.trans x2)⟩
            · obtain rfl : j = D.no := by omega
              have HC := Lib.hid (HCY.out (fstE_none HG.out))
              have ho := ord_le D
              have hd := del_le D
              have hod := ord_del_le D
              have HO : Hid (∀ w', Ext W1 w' → Calls Tryz.prog 44 #[dgv D p] w' (LsR (ordL D) w')) := fun w' e => rorder_any (HD.out.ext (HE.out.trans e)) HWF.out
              have HL : Hid (∀ w', Ext W1 w' → Calls Tryz.prog 30 #[dgv D p] w' (LsR (delL D) w')) := fun w' e => rdelays_any (HD.out.ext (HE.out.trans e)) (by omega)
              generalize ordL D = L1 at *
              generalize delL D = L2 at *
              go_upto_region 22 with fail
              have HX1 := HX
              have HS : Hid (∀ w', Ext wr w' → w'.cell? ⟨w.heap.size, 0, none⟩ = some (.slice p.AI D.ni p.cI) ∧ w'.cell? ⟨w.heap.size, 1, none⟩ = some (.slice p.AB D.nb p.cB) ∧ w'.cell? ⟨w.heap.size, 2, none⟩ = some (.slice p.AO D.no p.cO)) := fun w' e => by
                obtain ⟨c0, c1, c2⟩ := HBD.out.ext (HX1.out.trans e)
                exact ⟨c0, c1, c2⟩
              have hwr : IntKind.i64.wrap ((L1.length : Int) + (L2.length : Int)) = (L1.length : Int) + (L2.length : Int) := IntWalk.i64_in _ (by omega)
              by_cases hcy : L1.length + L2.length < D.nb
              all_goals
                (first | rw [if_pos hcy] at HC | rw [if_neg hcy] at HC)
                (first | (have hcz : ((L1.length : Int) + (L2.length : Int) == (D.nb : Int)) = false := by simp; omega) | (have hcz : ((L1.length : Int) + (L2.length : Int) == (D.nb : Int)) = true := by simp; omega))
                go_region_held3 (fun w' => w'.cell? ⟨w.heap.size, 0, none⟩ = some (.slice p.AI D.ni p.cI) ∧ w'.cell? ⟨w.heap.size, 1, none⟩ = some (.slice p.AB D.nb p.cB) ∧ w'.cell? ⟨w.heap.size, 2, none⟩ = some (.slice p.AO D.no p.cO)) (first | with_reducible assumption | exact HS.out _ (by (with_reducible (repeat (first | exact Ext.refl _ | assumption | (refine Ext.toSet ?_ (by omega)) | refine Ext.toAlloc ?_ | refine Ext.toDrew ?_ | refine Ext.toDrewN ?_ | refine Ext.trans ?_ (by assumption)))); (first | done | fail "no")))
                  (first
                    | (go_at_call 44; (with_reducible refine (HO.out _ (HX1.out.trans (by (with_reducible (repeat (first | exact Ext.refl _ | assumption | (refine Ext.toSet ?_ (by omega)) | refine Ext.toAlloc ?_ | refine Ext.toDrew ?_ | refine Ext.toDrewN ?_ | refine Ext.trans ?_ (by assumption)))); (first | done | fail "no")))).mono ?_); rintro e5 w5 ⟨A5, k5, rfl, _, hx5⟩; obtain ⟨q0, q1, q2⟩ := HS.out w5 (by (with_reducible (repeat (first | exact Ext.refl _ | assumption | (refine Ext.toSet ?_ (by omega)) | refine Ext.toAlloc ?_ | refine Ext.toDrew ?_ | refine Ext.toDrewN ?_ | refine Ext.trans ?_ (by assumption)))); (first | done | fail "no")))
                    | (go_at_call 30; (with_reducible refine (HL.out _ (HX1.out.trans (by (with_reducible (repeat (first | exact Ext.refl _ | assumption | (refine Ext.toSet ?_ (by omega)) | refine Ext.toAlloc ?_ | refine Ext.toDrew ?_ | refine Ext.toDrewN ?_ | refine Ext.trans ?_ (by assumption)))); (first | done | fail "no")))).mono ?_); rintro e6 w6 ⟨A6, k6, rfl, _, hx6⟩; obtain ⟨p0, p1, p2⟩ := HS.out w6 (by (with_reducible (repeat (first | exact Ext.refl _ | assumption | (refine Ext.toSet ?_ (by omega)) | refine Ext.toAlloc ?_ | refine Ext.toDrew ?_ | refine Ext.toDrewN ?_ | refine Ext.trans ?_ (by assumption)))); (first | done | fail "no"))))
                all_goals
                  go_wp2_with fail
                  go_ret
                  exact ⟨by rw [HC.out]; rfl, HE.out.trans (HX1.out.trans (by (with_reducible (repeat (first | exact Ext.refl _ | assumption | (refine Ext.toSet ?_ (by omega)) | refine Ext.toAlloc ?_ | refine Ext.toDrew ?_ | refine Ext.toDrewN ?_ | refine Ext.trans ?_ (by assumption)))); (first | done | fail "no")))⟩
theorem rcheck_any {w : World} {D : Dia} {p : Pl} (d : Dm w D p) (hT : Tabs w) : Calls Tryz.prog 10 #[dgv D p] w fun e w' => e = .returned (I (chk D)) ∧ Ext w w' := by
  by_cases h : 16 < D.ni ∨ 64 < D.nb ∨ 16 < D.no
  · rw [chk_large h]; exact rcheck_large h d.li d.lb d.lo
  · exact rcheck_in d hT h
end
end

end Go.Proofs.YtkocmdpfknoiaaaGreatDoor
