/- The law CompileCells: where it has nothing to look at. -/
import Derived.Test.YtkocmdpfknoiaaaGreatDoorKxm
import Derived.Test.YtkocmdpfknoiaaaGreatDoorKxq
import Derived.Test.YtkocmdpfknoiaaaGreatDoorDhac
import Derived.Test.YtkocmdpfknoiaaaGreatDoorRcb
import Derived.Test.YtkocmdpfknoiaaaGreatDoorKdo
import Derived.Test.YtkocmdpfknoiaaaGreatDoorKhc
namespace Go.Proofs.YtkocmdpfknoiaaaGreatDoor
open Go Go.RowKit
attribute [local go_sem ↓] Go.wp_at_zero Go.wp_at_succ

set_option maxRecDepth 100000 in
set_option maxHeartbeats 2000000 in
theorem kxc_bad {w : World} {D : Dia} {p : Pl} {Af Ai : Option Addr} {m cf k ci : Nat} (d : Dm w D p) (hT : Tabs w) (hO : TabO w) (h : litB D = false ∨ 100 < m ∨ 40 < k ∨ chk D ≠ 0) :
    Calls Tryz.prog 6 #[dgv D p, .slice Af m cf, .slice Ai k ci] w fun e w' => e = .returned (.bool true) ∧ Ext w w' := by
  have HA : Hid (∀ w', Ext w w' → Calls Tryz.prog 7 #[] w' fun e w'' => e = .returned (.bool true) ∧ Ext w' w'') := fun w' x => kxAwake_any w' (hT.ext x) (hO.ext x)
  have HL : Hid (∀ w', Ext w w' → Calls Tryz.prog 8 #[dgv D p] w' fun e w'' => e = .returned (.bool (litB D)) ∧ Ext w' w'') := fun w' x => light_any (d.ext x)
  have HC : Hid (∀ w', Ext w w' → Calls Tryz.prog 10 #[dgv D p] w' fun e w'' => e = .returned (I (chk D)) ∧ Ext w' w'') := fun w' x => rcheck_any (d.ext x) (hT.ext x)
  obtain ⟨W1, hW1⟩ : ∃ W1, W1 = w.alloc (.cells #[.slice p.AI D.ni p.cI, .slice p.AB D.nb p.cB, .slice p.AO D.no p.cO] 26) := ⟨_, rfl⟩
  have HBD : Hid (Bd W1 w.heap.size D p) := by rw [hW1]; exact Bd.new _ _ _ _
  have HE : Hid (Ext w W1) := by rw [hW1]; exact Ext.alloc _ _
  clear d hT hO
  obtain ⟨c0, c1, c2⟩ := HBD.out
  cases hl : litB D
  · rw [hl] at HL
    clear hl h
    go_enter Tryz.func6, Tryz.ntmps6
    go_upto_region 1 with fail
    rw [← hW1]; clear hW1
    go_wp2_with (first
      | (have hg := X2; clear hg; go_at_call 7; (with_reducible refine (HA.out _ (HE.out.trans X2.out)).mono ?_); rintro e3 w3 ⟨rfl, h3⟩)
      | (go_at_call 7; (with_reducible refine (HA.out _ HE.out).mono ?_); rintro e1 w1 ⟨rfl, h1⟩; have X1 := Lib.hid h1; clear h1 c0 c1 c2; obtain ⟨c0, c1, c2⟩ := HBD.out.ext X1.out)
      | (go_at_call 8; (with_reducible refine (HL.out _ (HE.out.trans X1.out)).mono ?_); rintro e2 w2 ⟨rfl, h2⟩; have X2 := Lib.hid (X1.out.trans h2); clear h2))
    go_ret
    exact ⟨rfl, HE.out.trans (X2.out.trans h3)⟩
  · rw [hl] at HL
    by_cases h100 : 100 < m
    · have h100' : (100 : Int) < (m : Int) := by omega
      clear hl h
      go_enter Tryz.func6, Tryz.ntmps6
      go_upto_region 1 with fail
      rw [← hW1]; clear hW1
      go_wp2_with (first
        | (have hg := X2; clear hg; go_at_call 7; (with_reducible refine (HA.out _ (HE.out.trans X2.out)).mono ?_); rintro e3 w3 ⟨rfl, h3⟩)
        | (go_at_call 7; (with_reducible refine (HA.out _ HE.out).mono ?_); rintro e1 w1 ⟨rfl, h1⟩; have X1 := Lib.hid h1; clear h1 c0 c1 c2; obtain ⟨c0, c1, c2⟩ := HBD.out.ext X1.out)
        | (go_at_call 8; (with_reducible refine (HL.out _ (HE.out.trans X1.out)).mono ?_); rintro e2 w2 ⟨rfl, h2⟩; have X2 := Lib.hid (X1.out.trans h2); clear h2))
      go_ret
      exact ⟨rfl, HE.out.trans (X2.out.trans h3)⟩
    · have h100' : ¬ (100 : Int) < (m : Int) := by omega
      by_cases h40 : 40 < k
      · have h40' : (40 : Int) < (k : Int) := by omega
        clear hl h
        go_enter Tryz.func6, Tryz.ntmps6
        go_upto_region 1 with fail
        rw [← hW1]; clear hW1
        go_wp2_with (first
          | (have hg := X2; clear hg; go_at_call 7; (with_reducible refine (HA.out _ (HE.out.trans X2.out)).mono ?_); rintro e3 w3 ⟨rfl, h3⟩)
          | (go_at_call 7; (with_reducible refine (HA.out _ HE.out).mono ?_); rintro e1 w1 ⟨rfl, h1⟩; have X1 := Lib.hid h1; clear h1 c0 c1 c2; obtain ⟨c0, c1, c2⟩ := HBD.out.ext X1.out)
          | (go_at_call 8; (with_reducible refine (HL.out _ (HE.out.trans X1.out)).mono ?_); rintro e2 w2 ⟨rfl, h2⟩; have X2 := Lib.hid (X1.out.trans h2); clear h2))
        go_ret
        exact ⟨rfl, HE.out.trans (X2.out.trans h3)⟩
      · have h40' : ¬ (40 : Int) < (k : Int) := by omega
        have hck : ¬ chk D = 0 := by
          rcases h with h | h | h | h
          · rw [hl] at h; cases h
          · omega
          · omega
          · exact h
        generalize chk D = ck at *
        have hb1 : decide ((100 : Int) < (m : Int)) = false := decide_eq_false (by omega)
        have hb2 : decide ((40 : Int) < (k : Int)) = false := decide_eq_false (by omega)
        have hb3 : (ck != 0) = true := by simpa using hck
        clear hl h
        go_enter Tryz.func6, Tryz.ntmps6
        go_upto_region 1 with fail
        rw [← hW1]; clear hW1
        go_wp2_with (first
          | (have hg := X3; clear hg; go_at_call 7; (with_reducible refine (HA.out _ (HE.out.trans X3.out)).mono ?_); rintro e3 w4 ⟨rfl, h4⟩)
          | (go_at_call 7; (with_reducible refine (HA.out _ HE.out).mono ?_); rintro e1 w1 ⟨rfl, h1⟩; have X1 := Lib.hid h1; clear h1 c0 c1 c2; obtain ⟨c0, c1, c2⟩ := HBD.out.ext X1.out)
          | (go_at_call 8; (with_reducible refine (HL.out _ (HE.out.trans X1.out)).mono ?_); rintro e2 w2 ⟨rfl, h2⟩; have X2 := Lib.hid (X1.out.trans h2); clear h2 c0 c1 c2; obtain ⟨c0, c1, c2⟩ := HBD.out.ext X2.out)
          | (go_at_call 10; (with_reducible refine (HC.out _ (HE.out.trans X2.out)).mono ?_); rintro e3 w3 ⟨rfl, h3⟩; have X3 := Lib.hid (X2.out.trans h3); clear h3 c0 c1 c2))
        go_ret
        exact ⟨rfl, HE.out.trans (X3.out.trans h4)⟩
theorem inp_wd {D : Dia} (ok : OkD D) (m : Nat) (IN : Nat → Int) : ∀ i, i < D.ni → (D.P i).lo ≤ inpV D m IN i ∧ inpV D m IN i ≤ (D.P i).hi := inp_rng ok m IN
set_option maxRecDepth 100000 in
set_option maxHeartbeats 2000000 in
theorem kxc_err {w : World} {D : Dia} {p : Pl} {Af Ai : Option Addr} {m cf k ci : Nat} {F : Nat → Int} (d : Dm w D p) (hT : Tabs w) (hO : TabO w) (hl : litB D = true) (h100 : ¬ 100 < m) (h40 : ¬ 40 < k) (hc : chk D = 0) (r : Ri w Af m F) (he : cmE D m F ≠ 0) :
    Calls Tryz.prog 6 #[dgv D p, .slice Af m cf, .slice Ai k ci] w fun e w' => e = .returned (.bool true) ∧ Ext w w' := by
  have HA : Hid (∀ w', Ext w w' → Calls Tryz.prog 7 #[] w' fun e w'' => e = .returned (.bool true) ∧ Ext w' w'') := fun w' x => kxAwake_any w' (hT.ext x) (hO.ext x)
  have HL : Hid (∀ w', Ext w w' → Calls Tryz.prog 8 #[dgv D p] w' fun e w'' => e = .returned (.bool true) ∧ Ext w' w'') := fun w' x => by have := light_any (d.ext x); rwa [hl] at this
  have HC : Hid (∀ w', Ext w w' → Calls Tryz.prog 10 #[dgv D p] w' fun e w'' => e = .returned (I 0) ∧ Ext w' w'') := fun w' x => by have := rcheck_any (d.ext x) (hT.ext x); rwa [hc] at this
  have HCM : Hid (∀ w', Ext w w' → Calls Tryz.prog 9 #[dgv D p, .slice Af m cf] w' (CmE (cmE D m F) w')) := fun w' x => (Compile_any (d.ext x) (hT.ext x) (hO.ext x) (r.ext x) (by unfold maxLen; omega)).2 he
  obtain ⟨W1, hW1⟩ : ∃ W1, W1 = w.alloc (.cells #[.slice p.AI D.ni p.cI, .slice p.AB D.nb p.cB, .slice p.AO D.no p.cO] 26) := ⟨_, rfl⟩
  have HBD : Hid (Bd W1 w.heap.size D p) := by rw [hW1]; exact Bd.new _ _ _ _
  have HE : Hid (Ext w W1) := by rw [hW1]; exact Ext.alloc _ _
  have hb1 : decide ((100 : Int) < (m : Int)) = false := decide_eq_false (by omega)
  have hb2 : decide ((40 : Int) < (k : Int)) = false := decide_eq_false (by omega)
  clear d hT hO hl hc r he h100 h40
  generalize cmE D m F = er at *
  obtain ⟨c0, c1, c2⟩ := HBD.out
  unfold CmE at HCM
  go_enter Tryz.func6, Tryz.ntmps6
  go_upto_region 1 with fail
  rw [← hW1]; clear hW1
  go_wp2_with (first
    | (go_at_call 7; (with_reducible refine (HA.out _ HE.out).mono ?_); rintro e1 w1 ⟨rfl, h1⟩; have X1 := Lib.hid h1; clear h1 c0 c1 c2; obtain ⟨c0, c1, c2⟩ := HBD.out.ext X1.out)
    | (go_at_call 8; (with_reducible refine (HL.out _ (HE.out.trans X1.out)).mono ?_); rintro e2 w2 ⟨rfl, h2⟩; have X2 := Lib.hid (X1.out.trans h2); clear h2 c0 c1 c2; obtain ⟨c0, c1, c2⟩ := HBD.out.ext X2.out)
    | (go_at_call 10; (with_reducible refine (HC.out _ (HE.out.trans X2.out)).mono ?_); rintro e3 w3 ⟨rfl, h3⟩; have X3 := Lib.hid (X2.out.trans h3); clear h3 c0 c1 c2; obtain ⟨c0, c1, c2⟩ := HBD.out.ext X3.out)
    | (go_at_call 9; (with_reducible refine (HCM.out _ (HE.out.trans X3.out)).mono ?_); rintro e4 w4 ⟨rfl, h4⟩; have X4 := Lib.hid (X3.out.trans h4); clear h4 c0 c1 c2))
  go_ret
  exact ⟨rfl, HE.out.trans (X4.out.trans (Ext.alloc _ _))⟩
end Go.Proofs.YtkocmdpfknoiaaaGreatDoor
