/- Which intervals the laws of layer 3 look at: short, few. -/
import Derived.Test.YtcdkkohklhmpgaaGreatDoorIvb
namespace Go.Proofs.YtcdkkohklhmpgaaGreatDoor
open Go.RowKit

def shOk (n : Nat) (den : Int) : Prop := ¬ (8 < n) ∧ ¬ (200 < den ∧ den ≤ 65536)
instance (n : Nat) (den : Int) : Decidable (shOk n den) := inferInstanceAs (Decidable (_ ∧ _))

set_option maxRecDepth 100000 in
set_option maxHeartbeats 1000000 in
theorem short_true {w : World} {g N cap : Nat} {ng : Nat → Bool} {A : Nat → Option Addr} {n c : Nat → Nat} {den : Nat → Int} (hN : Nums w g N ng A n c den) (hg : g < w.heap.size) (hl : N ≤ 4) (h : ∀ i, i < N → shOk (n i) (den i)) :
    Calls Tryz.prog 60 #[.slice (some ⟨g, 0, none⟩) N cap] w fun e w' => e = .returned (.bool true) ∧ Ext w w' := by
  have HN := Lib.hid hN; have HF := Lib.hid h; clear hN h
  go_enter Tryz.func60, Tryz.ntmps60
  go_wp2
  go_loopw [7] (fun s wr => Hid (Ext w wr) ∧ ∃ k : Nat, k ≤ N ∧ s = I k) (fun s _ => N - (intOf s).toNat)
  case atStart => exact ⟨Ext.refl _, 0, Nat.zero_le _, rfl⟩
  case round =>
    obtain ⟨hX, k, hk, rfl⟩ := hrel
    by_cases hlt : k < N
    · obtain ⟨c0, c1, c2⟩ := HN.out k hlt
      have d0 := (hX.out.old.1 _ _ hg).trans c0
      have d1 := (hX.out.old.1 _ _ hg).trans c1
      have d2 := (hX.out.old.1 _ _ hg).trans c2
      obtain ⟨f1, f2⟩ := HF.out k hlt
      clear c0 c1 c2
      go_wp2
      all_goals
        go_roundw
        case rel => exact ⟨hX.out.trans (Ext.alloc _ _), k + 1, by omega, by go_num⟩
        case measure => simp [intOf]; omega
    · obtain rfl : k = N := by omega
      go_wp2
      go_ret
      exact ⟨rfl, hX.out⟩

set_option maxRecDepth 100000 in
set_option maxHeartbeats 1000000 in
theorem short_false {w : World} {g N cap : Nat} {ng : Nat → Bool} {A : Nat → Option Addr} {n c : Nat → Nat} {den : Nat → Int} (hN : Nums w g N ng A n c den) (hg : g < w.heap.size) (hl : N ≤ 4) (h : ¬ ∀ i, i < N → shOk (n i) (den i)) :
    Calls Tryz.prog 60 #[.slice (some ⟨g, 0, none⟩) N cap] w fun e w' => e = .returned (.bool false) ∧ Ext w w' := by
  have HN := Lib.hid hN; have HF := Lib.hid h; clear hN h
  go_enter Tryz.func60, Tryz.ntmps60
  go_wp2
  go_loopw [7] (fun s wr => Hid (Ext w wr) ∧ ∃ k : Nat, k ≤ N ∧ s = I k ∧ Hid (∀ i, i < k → shOk (n i) (den i))) (fun s _ => N - (intOf s).toNat)
  case atStart => exact ⟨Ext.refl _, 0, Nat.zero_le _, rfl, fun i hi => by omega⟩
  case round =>
    obtain ⟨hX, k, hk, rfl, hall⟩ := hrel
    by_cases hlt : k < N
    · obtain ⟨c0, c1, c2⟩ := HN.out k hlt
      have d0 := (hX.out.old.1 _ _ hg).trans c0
      have d1 := (hX.out.old.1 _ _ hg).trans c1
      have d2 := (hX.out.old.1 _ _ hg).trans c2
      clear c0 c1 c2
      by_cases hk2 : shOk (n k) (den k)
      · have hall' : Hid (∀ i, i < k + 1 → shOk (n i) (den i)) := fun i hi => by
          by_cases e : i = k
          · subst e; exact hk2
          · exact hall.out i (by omega)
        obtain ⟨f1, f2⟩ := hk2
        clear hall
        go_wp2
        all_goals
          go_roundw
          case rel => exact ⟨hX.out.trans (Ext.alloc _ _), k + 1, by omega, by go_num, hall'⟩
          case measure => simp [intOf]; omega
      · have hk3 : 8 < n k ∨ (n k ≤ 8 ∧ 200 < den k ∧ den k ≤ 65536) := by
          rcases Nat.lt_or_ge 8 (n k) with h | h
          · exact .inl h
          · refine .inr ⟨h, ?_⟩
            rcases Decidable.em (200 < den k ∧ den k ≤ 65536) with h2 | h2
            · exact h2
            · exact absurd ⟨by omega, h2⟩ hk2
        clear hk2
        rcases hk3 with hk3 | ⟨f1, f2, f3⟩
        · have hk4 : (8 : Int) < (n k : Int) := by omega
          go_wp2
          go_ret
          exact ⟨rfl, hX.out.trans (Ext.alloc _ _)⟩
        · have f4 : ¬ (8 : Int) < (n k : Int) := by omega
          go_wp2
          go_ret
          exact ⟨rfl, hX.out.trans (Ext.alloc _ _)⟩
    · exfalso
      obtain rfl : k = N := by omega
      exact HF.out hall.out
theorem St.mk3 {w : World} {g : Nat} {v0 v1 v2 : Value} (h0 : w.cell? ⟨g, 0, none⟩ = some v0) (h1 : w.cell? ⟨g, 1, none⟩ = some v1) (h2 : w.cell? ⟨g, 2, none⟩ = some v2) : St w g v0 v1 v2 := ⟨h0, h1, h2⟩
theorem short2 {w : World} {g cap : Nat} {n0 n1 : Bool} {A0 A1 : Option Addr} {k0 k1 c0 c1 : Nat} {d0 d1 : Int} (hs : St w g (.bool n0) (.slice A0 k0 c0) (I d0)) (h3 : w.cell? ⟨g, 3, none⟩ = some (.bool n1)) (h4 : w.cell? ⟨g, 4, none⟩ = some (.slice A1 k1 c1)) (h5 : w.cell? ⟨g, 5, none⟩ = some (I d1)) {b : Bool} (hb : b = decide (shOk k0 d0 ∧ shOk k1 d1)) :
    Calls Tryz.prog 60 #[.slice (some ⟨g, 0, none⟩) 2 cap] w fun e w' => e = .returned (.bool b) ∧ Ext w w' := by
  have hN : Nums w g 2 (fun i => if i = 0 then n0 else n1) (fun i => if i = 0 then A0 else A1) (fun i => if i = 0 then k0 else k1) (fun i => if i = 0 then c0 else c1) (fun i => if i = 0 then d0 else d1) := by
    intro i hi
    have : i = 0 ∨ i = 1 := by omega
    rcases this with rfl | rfl
    · exact hs
    · exact ⟨h3, h4, h5⟩
  by_cases h : shOk k0 d0 ∧ shOk k1 d1
  · rw [decide_eq_true h] at hb; subst hb
    refine short_true hN hs.lt (by omega) (fun i hi => ?_)
    have : i = 0 ∨ i = 1 := by omega
    rcases this with rfl | rfl
    · exact h.1
    · exact h.2
  · rw [decide_eq_false h] at hb; subst hb
    exact short_false hN hs.lt (by omega) (fun hh => h ⟨hh 0 (by omega), hh 1 (by omega)⟩)

/-- The block g holds N intervals, one behind the other. -/
def Ivs (w : World) (g N : Nat) (n1 : Nat → Bool) (A : Nat → Option Addr) (k c : Nat → Nat) (d1 : Nat → Int) (n2 : Nat → Bool) (B : Nat → Option Addr) (m e : Nat → Nat) (d2 : Nat → Int) : Prop :=
  ∀ i, i < N → w.cell? ⟨g, i * 6, none⟩ = some (.bool (n1 i)) ∧ w.cell? ⟨g, i * 6 + 1, none⟩ = some (.slice (A i) (k i) (c i)) ∧ w.cell? ⟨g, i * 6 + 2, none⟩ = some (I (d1 i)) ∧
    w.cell? ⟨g, i * 6 + 3, none⟩ = some (.bool (n2 i)) ∧ w.cell? ⟨g, i * 6 + 4, none⟩ = some (.slice (B i) (m i) (e i)) ∧ w.cell? ⟨g, i * 6 + 5, none⟩ = some (I (d2 i))

set_option maxRecDepth 100000 in
set_option maxHeartbeats 1000000 in
theorem ifew_any {w : World} {g N cap : Nat} {n1 n2 : Nat → Bool} {A B : Nat → Option Addr} {k c m e : Nat → Nat} {d1 d2 : Nat → Int} (hN : Ivs w g N n1 A k c d1 n2 B m e d2) (hg : g < w.heap.size) (hl : N ≤ 4) {b : Bool} (hb : b = true ↔ ∀ i, i < N → shOk (k i) (d1 i) ∧ shOk (m i) (d2 i)) :
    Calls Tryz.prog 12 #[.slice (some ⟨g, 0, none⟩) N cap] w fun e w' => e = .returned (.bool b) ∧ Ext w w' := by
  have HN := Lib.hid hN; have HF := Lib.hid hb; clear hN hb
  go_enter Tryz.func12, Tryz.ntmps12
  go_wp2
  go_loopw [7] (fun s wr => Hid (Ext w wr) ∧ ∃ j : Nat, j ≤ N ∧ s = I j ∧ Hid (∀ i, i < j → shOk (k i) (d1 i) ∧ shOk (m i) (d2 i))) (fun s _ => N - (intOf s).toNat)
  case atStart => exact ⟨Ext.refl _, 0, Nat.zero_le _, rfl, fun i hi => by omega⟩
  case round =>
    obtain ⟨hX, j, hj, rfl, hall⟩ := hrel
    by_cases hlt : j < N
    · obtain ⟨c0, c1, c2, c3, c4, c5⟩ := HN.out j hlt
      have e0 := (hX.out.old.1 _ _ hg).trans c0
      have e1 := (hX.out.old.1 _ _ hg).trans c1
      have e2 := (hX.out.old.1 _ _ hg).trans c2
      have e3 := (hX.out.old.1 _ _ hg).trans c3
      have e4 := (hX.out.old.1 _ _ hg).trans c4
      have e5 := (hX.out.old.1 _ _ hg).trans c5
      have i1 : (0 : Int) ≤ (j : Int) := by omega
      have i2 : (j : Int) < (N : Int) := by omega
      clear c0 c1 c2 c3 c4 c5
      by_cases hs : shOk (k j) (d1 j) ∧ shOk (m j) (d2 j)
      · have HD := Lib.hid (decide_eq_true hs).symm
        have hall' : Hid (∀ i, i < j + 1 → shOk (k i) (d1 i) ∧ shOk (m i) (d2 i)) := fun i hi => by
          by_cases e : i = j
          · subst e; exact hs
          · exact hall.out i (by omega)
        clear hall hs HN
        go_wp2_with fail
        with_reducible refine (short2 (St.mk3 (World.cell?_alloc_at _ _ _ 0 (by simp)) (World.cell?_alloc_at _ _ _ 1 (by simp)) (World.cell?_alloc_at _ _ _ 2 (by simp))) (World.cell?_alloc_at _ _ _ 3 (by simp)) (World.cell?_alloc_at _ _ _ 4 (by simp)) (World.cell?_alloc_at _ _ _ 5 (by simp)) HD.out).mono ?_
        rintro e w1 ⟨rfl, hx⟩
        have HY : Hid (Ext w w1) := hX.out.trans (((Ext.alloc _ _).trans (Ext.alloc _ _)).trans hx)
        clear hx e0 e1 e2 e3 e4 e5
        go_wp2_with fail
        go_roundw
        case rel => exact ⟨HY, j + 1, by omega, by go_num, hall'⟩
        case measure => simp [intOf]; omega
      · have HD := Lib.hid (decide_eq_false hs).symm
        have HB : Hid (false = b) := by
          cases b with
          | false => exact rfl
          | true => exact absurd (HF.out.1 rfl j hlt) hs
        clear hall hs HN HF
        go_wp2_with fail
        with_reducible refine (short2 (St.mk3 (World.cell?_alloc_at _ _ _ 0 (by simp)) (World.cell?_alloc_at _ _ _ 1 (by simp)) (World.cell?_alloc_at _ _ _ 2 (by simp))) (World.cell?_alloc_at _ _ _ 3 (by simp)) (World.cell?_alloc_at _ _ _ 4 (by simp)) (World.cell?_alloc_at _ _ _ 5 (by simp)) HD.out).mono ?_
        rintro e w1 ⟨rfl, hx⟩
        have HY : Hid (Ext w w1) := hX.out.trans (((Ext.alloc _ _).trans (Ext.alloc _ _)).trans hx)
        clear hx e0 e1 e2 e3 e4 e5
        go_wp2_with fail
        go_ret
        rw [← HB.out]
        exact ⟨rfl, HY.out⟩
    · obtain rfl : j = N := by omega
      have HB : Hid (true = b) := (HF.out.2 hall.out).symm
      clear HN HF hall
      go_wp2
      go_ret
      rw [← HB.out]
      exact ⟨rfl, hX.out⟩

end Go.Proofs.YtcdkkohklhmpgaaGreatDoor
