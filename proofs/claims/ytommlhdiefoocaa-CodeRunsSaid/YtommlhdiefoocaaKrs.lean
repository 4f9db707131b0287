/- The fixed-point machine: the reference's Result and Fit, and the code's result. -/
import Derived.Test.YtommlhdiefoocaaKrq
set_option linter.unusedVariables false
namespace Go.Proofs.Ytommlhdiefoocaa
open Go Go.RowKit
theorem rres_any {w : World} {x : Ins} {Ac Ai : Option Addr} {nc cc np ci : Nat} {c IN : Nat → Int} (ok : InsOk np nc x) (rc : Ri w Ac nc c) (ri : Ri w Ai np IN) (hc : ∀ i, i < nc → wdB (c i) = true) (hi : ∀ i, i < np → wdB (IN i) = true) :
    Calls Try.prog 38 #[insV x, .slice Ac nc cc, .slice Ai np ci] w (DyRd (ofI (reI x c IN) 0) w) := by
  obtain ⟨op, dst, a, b, sa, sb, im⟩ := x
  obtain ⟨⟨o1, o2⟩, _, ha, hb, ⟨s1, s2⟩, ⟨t1, t2⟩, ⟨i1, i2⟩⟩ := ok
  simp only at o1 o2 ha hb s1 s2 t1 t2 i1 i2
  have hm : wdB im = true := wdB_iff.2 ⟨i1, i2⟩
  by_cases k1 : op = 1
  · subst k1; exact rres_1 hm
  · have hA := ha k1
    obtain ⟨m, rfl⟩ : ∃ m : Nat, a = m := ⟨a.toNat, by omega⟩
    by_cases k0 : op = 0
    · subst k0
      have hq : m < np := by unfold srcN at hA; rw [if_pos rfl] at hA; omega
      exact rres_0 ri hq hi s1 s2
    · have hq : m < nc := by unfold srcN at hA; rw [if_neg k0] at hA; omega
      by_cases kb : usB op = true
      · have hB := hb kb
        obtain ⟨n, rfl⟩ : ∃ n : Nat, b = n := ⟨b.toNat, by omega⟩
        have hn : n < nc := by omega
        have : op = 3 ∨ op = 4 ∨ op = 7 ∨ op = 8 ∨ op = 9 := by simpa [usB] using kb
        rcases this with h | h | h | h | h <;> subst h
        · exact rres_3 rc hq hn hc s1 s2 t1 t2
        · exact rres_4 rc hq hn hc s1 s2 t1 t2
        · exact rres_7 rc hq hn hc s1 s2
        · exact rres_8 rc hq hn hc s1 s2 t1 t2
        · exact rres_9 rc hq hn hc s1 s2 t1 t2
      · have hk : op = 2 ∨ op = 5 ∨ op = 6 ∨ op = 10 := by
          simp only [usB, decide_eq_true_eq] at kb; omega
        rcases hk with h | h | h | h <;> subst h
        · exact rres_2 rc hq hc s1 s2
        · exact rres_5 rc hq hc s1 s2
        · exact rres_6 rc hq hc hm s1 s2
        · exact rres_10 rc hq hc s1 s2

/-- Two numbers that saturate alike. -/
def SaS (a b : Int) : Prop := a = b ∨ (4294967296 ≤ a ∧ 4294967296 ≤ b) ∨ (a ≤ -4294967296 ∧ b ≤ -4294967296)
theorem SaS.sat {a b : Int} (h : SaS a b) : sat a = sat b ∧ (sat a == a) = (sat b == b) := by
  rcases h with rfl | ⟨h1, h2⟩ | ⟨h1, h2⟩
  · exact ⟨rfl, rfl⟩
  · have ea : Go.Proofs.Ytommlhdiefoocaa.sat a = 2147483647 := by unfold Go.Proofs.Ytommlhdiefoocaa.sat kcl; rw [if_neg (by omega), if_pos (by omega)]
    have eb : Go.Proofs.Ytommlhdiefoocaa.sat b = 2147483647 := by unfold Go.Proofs.Ytommlhdiefoocaa.sat kcl; rw [if_neg (by omega), if_pos (by omega)]
    rw [ea, eb]
    refine ⟨rfl, ?_⟩
    rw [beq_eq_false_iff_ne.2 (by omega), beq_eq_false_iff_ne.2 (by omega)]
  · have ea : Go.Proofs.Ytommlhdiefoocaa.sat a = -2147483648 := by unfold Go.Proofs.Ytommlhdiefoocaa.sat kcl; rw [if_pos (by omega)]
    have eb : Go.Proofs.Ytommlhdiefoocaa.sat b = -2147483648 := by unfold Go.Proofs.Ytommlhdiefoocaa.sat kcl; rw [if_pos (by omega)]
    rw [ea, eb]
    refine ⟨rfl, ?_⟩
    rw [beq_eq_false_iff_ne.2 (by omega), beq_eq_false_iff_ne.2 (by omega)]
theorem shC_eq {x k : Int} (h : wdB x = true) : shC x k = shI x k := by
  have b := wdB_iff.1 h
  unfold shC shI
  split
  · rfl
  · rw [kcl_id (by omega) (by omega)]
theorem shC_ss (x k : Int) : SaS (shI x k) (shC x k) := by
  unfold shC shI
  split
  · exact .inl rfl
  · have hp := pow_pos k.toNat
    generalize (2 : Int) ^ k.toNat = p at *
    by_cases h1 : x < -4294967296
    · have e : kcl x (-4294967296) 4294967296 = -4294967296 := by unfold kcl; rw [if_pos h1]
      rw [e]
      have a1 := Int.mul_le_mul_of_nonneg_right (show x ≤ -4294967296 by omega) (show 0 ≤ p by omega)
      exact .inr (.inr ⟨by omega, by omega⟩)
    · by_cases h2 : 4294967296 < x
      · have e : kcl x (-4294967296) 4294967296 = 4294967296 := by unfold kcl; rw [if_neg h1, if_pos h2]
        rw [e]
        have a1 := Int.mul_le_mul_of_nonneg_right (show 4294967296 ≤ x by omega) (show 0 ≤ p by omega)
        exact .inr (.inl ⟨by omega, by omega⟩)
      · rw [kcl_id (by omega) (by omega)]
        exact .inl rfl
theorem shI_bd {x k : Int} (h1 : -4611686018427387904 ≤ x) (h2 : x ≤ 4611686018427387904) (h4 : k ≤ 30) : -4951760157141521099596496896 ≤ shI x k ∧ shI x k ≤ 4951760157141521099596496896 := by
  unfold shI
  split
  · have := div_bd (x := x) (B := 4611686018427387904) (pow_pos (-k).toNat) h1 h2 (by omega)
    omega
  · have := mul_bd (x := x) (B := 4611686018427387904) h1 h2 (show (0 : Int) ≤ 2 ^ k.toNat by have := pow_pos k.toNat; omega) (p30 h4) (by omega)
    omega
theorem re_same {x : Ins} {nc np : Nat} {c IN : Nat → Int} (ok : InsOk np nc x) (hc : ∀ i, i < nc → wdB (c i) = true) (hi : ∀ i, i < np → wdB (IN i) = true) :
    SaS (reI x c IN) (reC x c IN) ∧ -633825300114114700748351602688 ≤ reI x c IN ∧ reI x c IN ≤ 633825300114114700748351602688 := by
  obtain ⟨op, dst, a, b, sa, sb, im⟩ := x
  obtain ⟨⟨o1, o2⟩, _, ha, hb, ⟨s1, s2⟩, ⟨t1, t2⟩, ⟨i1, i2⟩⟩ := ok
  simp only at o1 o2 ha hb s1 s2 t1 t2 i1 i2
  have hm : wdB im = true := wdB_iff.2 ⟨i1, i2⟩
  by_cases k1 : op = 1
  · subst k1
    refine ⟨.inl rfl, ?_, ?_⟩ <;> (show _ ≤ _; first | (show _ ≤ im; omega) | (show im ≤ _; omega))
  · have hA := ha k1
    obtain ⟨m, rfl⟩ : ∃ m : Nat, a = m := ⟨a.toNat, by omega⟩
    by_cases k0 : op = 0
    · subst k0
      have hq : m < np := by unfold srcN at hA; rw [if_pos rfl] at hA; omega
      have w1 := hi m hq
      have e : shC (IN m) sa = shI (IN m) sa := shC_eq w1
      have bd := shI_wd w1 s2
      show SaS (shI (IN m) sa) (shC (IN m) sa) ∧ _ ≤ shI (IN m) sa ∧ shI (IN m) sa ≤ _
      rw [e]
      exact ⟨.inl rfl, by omega, by omega⟩
    · have hq : m < nc := by unfold srcN at hA; rw [if_neg k0] at hA; omega
      have w1 := hc m hq
      have e := shC_eq (k := sa) w1
      have bd := shI_wd w1 s2
      by_cases kb : usB op = true
      · have hB := hb kb
        obtain ⟨n, rfl⟩ : ∃ n : Nat, b = n := ⟨b.toNat, by omega⟩
        have hn : n < nc := by omega
        have w2 := hc n hn
        have e2 := shC_eq (k := sb) w2
        have this : op = 3 ∨ op = 4 ∨ op = 7 ∨ op = 8 ∨ op = 9 := by simpa [usB] using kb
        rcases this with h | h | h | h | h <;> subst h
        · have bd2 := shI_wd w2 t2
          show SaS (shI (c m) sa + shI (c n) sb) (shC (c m) sa + shC (c n) sb) ∧ _ ≤ shI (c m) sa + shI (c n) sb ∧ shI (c m) sa + shI (c n) sb ≤ _
          rw [e, e2]; exact ⟨.inl rfl, by omega, by omega⟩
        · have bd2 := shI_wd w2 t2
          show SaS (shI (c m) sa - shI (c n) sb) (shC (c m) sa - shC (c n) sb) ∧ _ ≤ shI (c m) sa - shI (c n) sb ∧ shI (c m) sa - shI (c n) sb ≤ _
          rw [e, e2]; exact ⟨.inl rfl, by omega, by omega⟩
        · have hp := wd_mul w1 w2
          have bd3 := shI_bd hp.1 hp.2 s2
          show SaS (shI (c m * c n) sa) (shC (c m * c n) sa) ∧ _ ≤ shI (c m * c n) sa ∧ shI (c m * c n) sa ≤ _
          exact ⟨shC_ss _ _, by omega, by omega⟩
        · have bd2 := shI_wd w2 t2
          show SaS (min (shI (c m) sa) (shI (c n) sb)) (min (shC (c m) sa) (shC (c n) sb)) ∧ _ ≤ min (shI (c m) sa) (shI (c n) sb) ∧ min (shI (c m) sa) (shI (c n) sb) ≤ _
          rw [e, e2]; exact ⟨.inl rfl, by omega, by omega⟩
        · have bd2 := shI_wd w2 t2
          show SaS (max (shI (c m) sa) (shI (c n) sb)) (max (shC (c m) sa) (shC (c n) sb)) ∧ _ ≤ max (shI (c m) sa) (shI (c n) sb) ∧ max (shI (c m) sa) (shI (c n) sb) ≤ _
          rw [e, e2]; exact ⟨.inl rfl, by omega, by omega⟩
      · have hk : op = 2 ∨ op = 5 ∨ op = 6 ∨ op = 10 := by
          simp only [usB, decide_eq_true_eq] at kb; omega
        rcases hk with h | h | h | h <;> subst h
        · show SaS (shI (c m) sa) (shC (c m) sa) ∧ _ ≤ shI (c m) sa ∧ shI (c m) sa ≤ _
          rw [e]; exact ⟨.inl rfl, by omega, by omega⟩
        · show SaS (-shI (c m) sa) (-shC (c m) sa) ∧ _ ≤ -shI (c m) sa ∧ -shI (c m) sa ≤ _
          rw [e]; exact ⟨.inl rfl, by omega, by omega⟩
        · have hp := wd_mul w1 hm
          have bd3 := shI_bd hp.1 hp.2 s2
          show SaS (shI (c m * im) sa) (shC (c m * im) sa) ∧ _ ≤ shI (c m * im) sa ∧ shI (c m * im) sa ≤ _
          exact ⟨shC_ss _ _, by omega, by omega⟩
        · show SaS (max (shI (c m) sa) (-shI (c m) sa)) (max (shC (c m) sa) (-shC (c m) sa)) ∧ _ ≤ max (shI (c m) sa) (-shI (c m) sa) ∧ max (shI (c m) sa) (-shI (c m) sa) ≤ _
          rw [e]; exact ⟨.inl rfl, by omega, by omega⟩
/-- Fit, at the result of an instruction: what the code leaves. -/
theorem rfit_at {w : World} {x : Ins} {nc np y : Nat} {A : Option Addr} {c IN : Nat → Int} (ok : InsOk np nc x) (hc : ∀ i, i < nc → wdB (c i) = true) (hi : ∀ i, i < np → wdB (IN i) = true)
    (hr : Rd w A (len (ofI (reI x c IN) 0).m) (dg (ofI (reI x c IN) 0).m)) (hs : SlOk A (len (ofI (reI x c IN) 0).m) y) :
    Calls Try.prog 37 #[dv (ofI (reI x c IN) 0).neg A (len (ofI (reI x c IN) 0).m) y (ofI (reI x c IN) 0).den] w fun e w' => e = .returned (.tuple #[I (sat (reC x c IN)), .bool (!(sat (reC x c IN) == reC x c IN))]) ∧ Ext w w' := by
  obtain ⟨h1, h2, h3⟩ := re_same ok hc hi
  rw [← h1.sat.2, ← h1.sat.1]
  exact rfit_any (Dy.valid hr hs (ofZ_ok _) (len_big (by omega) (by omega))) h2 h3
end Go.Proofs.Ytommlhdiefoocaa
