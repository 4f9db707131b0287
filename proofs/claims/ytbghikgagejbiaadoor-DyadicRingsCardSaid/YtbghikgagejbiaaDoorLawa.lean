/- What the laws of layer 2 call: Same, few. -/
import Derived.Test.YtbghikgagejbiaaDoorAwk
namespace Go.Proofs.YtbghikgagejbiaaDoor
open Go.RowKit

set_option maxRecDepth 100000 in
set_option maxHeartbeats 1000000 in
theorem same_true {w : World} {d : DV} {A B : Option Addr} {ca cb : Nat} (ha : Rd w A (len d.m) (dg d.m)) (hb' : Rd w B (len d.m) (dg d.m)) (hl : len d.m ≤ 1073741824) :
    Calls Tryd.prog 20 #[dv d.neg A (len d.m) ca d.den, dv d.neg B (len d.m) cb d.den] w fun e w' => e = .returned (.bool true) ∧ Ext w w' := by
  obtain ⟨X0, X1, XE⟩ : Bx ((w.alloc (.cells #[.bool d.neg, .slice A (len d.m) ca, I d.den] 24)).alloc (.cells #[.bool d.neg, .slice B (len d.m) cb, I d.den] 24)) w.heap.size (.bool d.neg) (.slice A (len d.m) ca) (I d.den) ∧
      Bx ((w.alloc (.cells #[.bool d.neg, .slice A (len d.m) ca, I d.den] 24)).alloc (.cells #[.bool d.neg, .slice B (len d.m) cb, I d.den] 24)) (w.heap.size + 1) (.bool d.neg) (.slice B (len d.m) cb) (I d.den) ∧
      Ext w ((w.alloc (.cells #[.bool d.neg, .slice A (len d.m) ca, I d.den] 24)).alloc (.cells #[.bool d.neg, .slice B (len d.m) cb, I d.den] 24)) := two_bx (Ext.refl _)
  have HX0 := Lib.hid X0; have HX1 := Lib.hid X1; have HXE := Lib.hid XE
  clear X0 X1 XE
  have HA := Lib.hid ha; have HB := Lib.hid hb'; clear ha hb'
  generalize d.neg = neg at *
  generalize (d.den : Int) = den at *
  generalize len d.m = L at *
  go_enter Tryd.func20, Tryd.ntmps20
  go_wp2
  go_loopw [30] (fun s wr => Hid (Ext ((w.alloc (.cells #[.bool neg, .slice A L ca, I den] 24)).alloc (.cells #[.bool neg, .slice B L cb, I den] 24)) wr) ∧ ∃ k : Nat, k ≤ L ∧ s = I k) (fun s _ => L - (intOf s).toNat)
  case atStart => exact ⟨Ext.refl _, 0, Nat.zero_le _, rfl⟩
  case round =>
    obtain ⟨hX, k, hk, rfl⟩ := hrel
    obtain ⟨k0, k1, k2, k3, k4, k5⟩ := keepB HX0.out HX1.out hX.out
    by_cases hlt : k < L
    · obtain ⟨b1, o1, e1, hb1, c1⟩ := (HA.out.ext (HXE.out.trans hX.out)).at_ hlt
      obtain ⟨b2, o2, e2, hb2, c2⟩ := (HB.out.ext (HXE.out.trans hX.out)).at_ hlt
      rw [e1] at k1
      rw [e2] at k4
      have i1 : (0 : Int) ≤ (k : Int) := by omega
      have i2 : (k : Int) < (L : Int) := by omega
      clear e1 e2
      go_wp2
      go_quiet (fail)
      go_wp2
      go_roundw
      case rel => exact ⟨hX.out.trans (Ext.drewN _ _), k + 1, by omega, by go_num⟩
      case measure => simp [intOf]; omega
    · obtain rfl : k = L := by omega
      go_wp2
      go_ret
      exact ⟨rfl, HXE.out.trans hX.out⟩

def fewOk (n : Nat) (den : Int) : Prop := ¬ (16 < n) ∧ ¬ (300 < den ∧ den ≤ 65536)
instance (n : Nat) (den : Int) : Decidable (fewOk n den) := inferInstanceAs (Decidable (_ ∧ _))
/-- The block g holds N numbers, one behind the other. -/
def Nums (w : World) (g N : Nat) (ng : Nat → Bool) (A : Nat → Option Addr) (n c : Nat → Nat) (den : Nat → Int) : Prop :=
  ∀ i, i < N → w.cell? ⟨g, i * 3, none⟩ = some (.bool (ng i)) ∧ w.cell? ⟨g, i * 3 + 1, none⟩ = some (.slice (A i) (n i) (c i)) ∧ w.cell? ⟨g, i * 3 + 2, none⟩ = some (I (den i))

set_option maxRecDepth 100000 in
set_option maxHeartbeats 1000000 in
theorem few_true {w : World} {g N cap : Nat} {ng : Nat → Bool} {A : Nat → Option Addr} {n c : Nat → Nat} {den : Nat → Int} (hN : Nums w g N ng A n c den) (hg : g < w.heap.size) (hl : N ≤ 4) (h : ∀ i, i < N → fewOk (n i) (den i)) :
    Calls Tryd.prog 12 #[.slice (some ⟨g, 0, none⟩) N cap] w fun e w' => e = .returned (.bool true) ∧ Ext w w' := by
  have HN := Lib.hid hN; have HF := Lib.hid h; clear hN h
  go_enter Tryd.func12, Tryd.ntmps12
  go_wp2
  go_loopw [7] (fun s wr => Hid (Ext w wr) ∧ ∃ k : Nat, k ≤ N ∧ s = I k) (fun s _ => N - (intOf s).toNat)
  case atStart => exact ⟨Ext.refl _, 0, Nat.zero_le _, rfl⟩
  case round =>
    obtain ⟨hX, k, hk, rfl⟩ := hrel
    by_cases hlt : k < N
    · obtain ⟨c0, c1, c2⟩ := HN.out k hlt
      have d0 := (hX.out.old.1 _ _ hg).trans c0
      have d1 := (hX.out.old.1 _ _ hg).trans c1
      have d2 := (hX.out.old.1 _ _ hg).trans c2
      obtain ⟨f1, f2⟩ := HF.out k hlt
      clear c0 c1 c2
      go_wp2
      all_goals
        go_roundw
        case rel => exact ⟨hX.out.trans (Ext.alloc _ _), k + 1, by omega, by go_num⟩
        case measure => simp [intOf]; omega
    · obtain rfl : k = N := by omega
      go_wp2
      go_ret
      exact ⟨rfl, hX.out⟩

set_option maxRecDepth 100000 in
set_option maxHeartbeats 1000000 in
theorem few_false {w : World} {g N cap : Nat} {ng : Nat → Bool} {A : Nat → Option Addr} {n c : Nat → Nat} {den : Nat → Int} (hN : Nums w g N ng A n c den) (hg : g < w.heap.size) (hl : N ≤ 4) (h : ¬ ∀ i, i < N → fewOk (n i) (den i)) :
    Calls Tryd.prog 12 #[.slice (some ⟨g, 0, none⟩) N cap] w fun e w' => e = .returned (.bool false) ∧ Ext w w' := by
  have HN := Lib.hid hN; have HF := Lib.hid h; clear hN h
  go_enter Tryd.func12, Tryd.ntmps12
  go_wp2
  go_loopw [7] (fun s wr => Hid (Ext w wr) ∧ ∃ k : Nat, k ≤ N ∧ s = I k ∧ Hid (∀ i, i < k → fewOk (n i) (den i))) (fun s _ => N - (intOf s).toNat)
  case atStart => exact ⟨Ext.refl _, 0, Nat.zero_le _, rfl, fun i hi => by omega⟩
  case round =>
    obtain ⟨hX, k, hk, rfl, hall⟩ := hrel
    by_cases hlt : k < N
    · obtain ⟨c0, c1, c2⟩ := HN.out k hlt
      have d0 := (hX.out.old.1 _ _ hg).trans c0
      have d1 := (hX.out.old.1 _ _ hg).trans c1
      have d2 := (hX.out.old.1 _ _ hg).trans c2
      clear c0 c1 c2
      by_cases hk2 : fewOk (n k) (den k)
      · have hall' : Hid (∀ i, i < k + 1 → fewOk (n i) (den i)) := fun i hi => by
          by_cases e : i = k
          · subst e; exact hk2
          · exact hall.out i (by omega)
        obtain ⟨f1, f2⟩ := hk2
        clear hall
        go_wp2
        all_goals
          go_roundw
          case rel => exact ⟨hX.out.trans (Ext.alloc _ _), k + 1, by omega, by go_num, hall'⟩
          case measure => simp [intOf]; omega
      · have hk3 : 16 < n k ∨ (n k ≤ 16 ∧ 300 < den k ∧ den k ≤ 65536) := by
          rcases Nat.lt_or_ge 16 (n k) with h | h
          · exact .inl h
          · refine .inr ⟨h, ?_⟩
            rcases Decidable.em (300 < den k ∧ den k ≤ 65536) with h2 | h2
            · exact h2
            · exact absurd ⟨by omega, h2⟩ hk2
        clear hk2
        rcases hk3 with hk3 | ⟨f1, f2, f3⟩
        · have hk4 : (16 : Int) < (n k : Int) := by omega
          go_wp2
          go_ret
          exact ⟨rfl, hX.out.trans (Ext.alloc _ _)⟩
        · have f4 : ¬ (16 : Int) < (n k : Int) := by omega
          go_wp2
          go_ret
          exact ⟨rfl, hX.out.trans (Ext.alloc _ _)⟩
    · exfalso
      obtain rfl : k = N := by omega
      exact HF.out hall.out

end Go.Proofs.YtbghikgagejbiaaDoor
