/- The law DiagramUses: it returns true. -/
import Derived.Test.YtgajibdmihdkcaaDoorDhc
namespace Go.Proofs.YtgajibdmihdkcaaDoor
open Go Go.RowKit

set_option maxRecDepth 100000 in
set_option maxHeartbeats 8000000 in
theorem uses_off {w : World} {D : Dia} {p : Pl} (d : Dm w D p) (hT : Tabs w) (i : Int) (h : litB D = false ∨ chk D ≠ 0) : Calls Tryd.prog 5 #[dgv D p, I i] w fun e w' => e = .returned (.bool true) ∧ Ext w w' := by
  obtain ⟨W1, hW1⟩ : ∃ W1, W1 = w.alloc (.cells #[.slice p.AI D.ni p.cI, .slice p.AB D.nb p.cB, .slice p.AO D.no p.cO] 26) := ⟨_, rfl⟩
  have hE : Ext w W1 := by rw [hW1]; exact Ext.alloc _ _
  have hz1 : W1.heap.size = w.heap.size + 1 := by rw [hW1]; simp
  have HZ1 := Lib.hid hz1; clear hz1
  have HBD : Hid (Bd W1 w.heap.size D p) := by show Bd _ _ _ _; rw [hW1]; exact Bd.new _ _ _ _
  have HBX : Hid (∀ w', Ext W1 w' → w'.cell? ⟨w.heap.size, 0, none⟩ = some (.slice p.AI D.ni p.cI) ∧ w'.cell? ⟨w.heap.size, 1, none⟩ = some (.slice p.AB D.nb p.cB) ∧ w'.cell? ⟨w.heap.size, 2, none⟩ = some (.slice p.AO D.no p.cO)) := fun w' e => by
    have a := HBD.out.ext e; exact ⟨a.c0, a.c1, a.c2⟩
  have HA : Hid (∀ w', Ext W1 w' → Calls Tryd.prog 11 #[] w' fun e w'' => e = .returned (.bool true) ∧ Ext w' w'') := fun w' e => awake_any w' (hT.ext (hE.trans e))
  have HL : Hid (∀ w', Ext W1 w' → Calls Tryd.prog 12 #[dgv D p] w' fun e w'' => e = .returned (.bool (litB D)) ∧ Ext w' w'') := fun w' e => light_any (d.ext (hE.trans e))
  have HRC : Hid (∀ w', Ext W1 w' → Calls Tryd.prog 13 #[dgv D p] w' fun e w'' => e = .returned (I (chk D)) ∧ Ext w' w'') := fun w' e => rcheck_any (d.ext (hE.trans e)) (hT.ext (hE.trans e))
  have HC : Hid (∀ w', Ext W1 w' → Calls Tryd.prog 15 #[dgv D p] w' fun e w'' => e = .returned (errv (chk D)) ∧ Ext w' w'') := fun w' e => check_any (d.ext (hE.trans e)) (hT.ext (hE.trans e))
  have HE := Lib.hid hE
  have HDT : Hid (Dm w D p ∧ Tabs w) := ⟨d, hT⟩
  have hx : Ext W1 W1 := Ext.refl _
  obtain ⟨c0, c1, c2⟩ := HBX.out _ hx
  clear d hT hE HBD
  cases hl : litB D with
  | false =>
    rw [hl] at HL
    clear h hl
    rw [hW1] at c0 c1 c2
    go_enter Tryd.func5, Tryd.ntmps5
    go_upto_region 1 with fail
    rw [← hW1] at c0 c1 c2
    rw [← hW1]
    clear hW1
    go_wp2_with (first
      | (go_at_call 11; (with_reducible refine (HA.out _ hx).mono ?_); rintro e1 w1 ⟨rfl, h1⟩; replace hx := hx.trans h1; clear h1 c0 c1 c2; obtain ⟨c0, c1, c2⟩ := HBX.out _ hx)
      | (go_at_call 12; (with_reducible refine (HL.out _ hx).mono ?_); rintro e1 w1 ⟨rfl, h1⟩; replace hx := hx.trans h1; clear h1 c0 c1 c2; obtain ⟨c0, c1, c2⟩ := HBX.out _ hx)
      | (go_at_call 13; (with_reducible refine (HRC.out _ hx).mono ?_); rintro e1 w1 ⟨rfl, h1⟩; replace hx := hx.trans h1; clear h1 c0 c1 c2; obtain ⟨c0, c1, c2⟩ := HBX.out _ hx)
      | (go_at_call 15; (with_reducible refine (HC.out _ hx).mono ?_); rintro e1 w1 ⟨rfl, h1⟩; replace hx := hx.trans h1; clear h1 c0 c1 c2; obtain ⟨c0, c1, c2⟩ := HBX.out _ hx))
    go_ret
    exact ⟨rfl, HE.out.trans hx⟩
  | true =>
    rw [hl] at HL
    have hk : chk D ≠ 0 := by rcases h with h | h; rw [hl] at h; cases h; exact h
    clear h hl
    have hk' : (chk D == 0) = false := by simpa using hk
    rw [errv_n hk] at HC
    clear hk
    generalize chk D = k at *
    rw [hW1] at c0 c1 c2
    go_enter Tryd.func5, Tryd.ntmps5
    go_upto_region 1 with fail
    rw [← hW1] at c0 c1 c2
    rw [← hW1]
    clear hW1
    go_wp2_with (first
      | (go_at_call 11; (with_reducible refine (HA.out _ hx).mono ?_); rintro e1 w1 ⟨rfl, h1⟩; replace hx := hx.trans h1; clear h1 c0 c1 c2; obtain ⟨c0, c1, c2⟩ := HBX.out _ hx)
      | (go_at_call 12; (with_reducible refine (HL.out _ hx).mono ?_); rintro e1 w1 ⟨rfl, h1⟩; replace hx := hx.trans h1; clear h1 c0 c1 c2; obtain ⟨c0, c1, c2⟩ := HBX.out _ hx)
      | (go_at_call 13; (with_reducible refine (HRC.out _ hx).mono ?_); rintro e1 w1 ⟨rfl, h1⟩; replace hx := hx.trans h1; clear h1 c0 c1 c2; obtain ⟨c0, c1, c2⟩ := HBX.out _ hx)
      | (go_at_call 15; (with_reducible refine (HC.out _ hx).mono ?_); rintro e1 w1 ⟨rfl, h1⟩; replace hx := hx.trans h1; clear h1 c0 c1 c2; obtain ⟨c0, c1, c2⟩ := HBX.out _ hx))
    go_ret
    exact ⟨rfl, HE.out.trans hx⟩

set_option maxRecDepth 100000 in
set_option maxHeartbeats 8000000 in
theorem uses_on {w : World} {D : Dia} {p : Pl} (d : Dm w D p) (hT : Tabs w) (i : Int) (hl : litB D = true) (hk : chk D = 0) : Calls Tryd.prog 5 #[dgv D p, I i] w fun e w' => e = .returned (.bool true) ∧ Ext w w' := by
  obtain ⟨W1, hW1⟩ : ∃ W1, W1 = w.alloc (.cells #[.slice p.AI D.ni p.cI, .slice p.AB D.nb p.cB, .slice p.AO D.no p.cO] 26) := ⟨_, rfl⟩
  have hE : Ext w W1 := by rw [hW1]; exact Ext.alloc _ _
  have hz1 : W1.heap.size = w.heap.size + 1 := by rw [hW1]; simp
  have HZ1 := Lib.hid hz1; clear hz1
  have HBD : Hid (Bd W1 w.heap.size D p) := by show Bd _ _ _ _; rw [hW1]; exact Bd.new _ _ _ _
  have HBX : Hid (∀ w', Ext W1 w' → w'.cell? ⟨w.heap.size, 0, none⟩ = some (.slice p.AI D.ni p.cI) ∧ w'.cell? ⟨w.heap.size, 1, none⟩ = some (.slice p.AB D.nb p.cB) ∧ w'.cell? ⟨w.heap.size, 2, none⟩ = some (.slice p.AO D.no p.cO)) := fun w' e => by
    have a := HBD.out.ext e; exact ⟨a.c0, a.c1, a.c2⟩
  have HA : Hid (∀ w', Ext W1 w' → Calls Tryd.prog 11 #[] w' fun e w'' => e = .returned (.bool true) ∧ Ext w' w'') := fun w' e => awake_any w' (hT.ext (hE.trans e))
  have HL : Hid (∀ w', Ext W1 w' → Calls Tryd.prog 12 #[dgv D p] w' fun e w'' => e = .returned (.bool (litB D)) ∧ Ext w' w'') := fun w' e => light_any (d.ext (hE.trans e))
  have HRC : Hid (∀ w', Ext W1 w' → Calls Tryd.prog 13 #[dgv D p] w' fun e w'' => e = .returned (I (chk D)) ∧ Ext w' w'') := fun w' e => rcheck_any (d.ext (hE.trans e)) (hT.ext (hE.trans e))
  have HC : Hid (∀ w', Ext W1 w' → Calls Tryd.prog 15 #[dgv D p] w' fun e w'' => e = .returned (errv (chk D)) ∧ Ext w' w'') := fun w' e => check_any (d.ext (hE.trans e)) (hT.ext (hE.trans e))
  have HE := Lib.hid hE
  have HDT : Hid (Dm w D p ∧ Tabs w) := ⟨d, hT⟩
  have hx : Ext W1 W1 := Ext.refl _
  obtain ⟨c0, c1, c2⟩ := HBX.out _ hx
  clear d hT hE HBD
  have hnb := (chk_ok hk).nb
  rw [hl] at HL
  rw [hk] at HRC
  by_cases hi : 0 ≤ i ∧ i < D.nb
  · obtain ⟨j, rfl⟩ : ∃ j : Nat, i = j := ⟨i.toNat, by omega⟩
    have hj : j < D.nb := by omega
    have HU : Hid (∀ w', Ext W1 w' → Calls Tryd.prog 18 #[dgv D p, I j] w' (LsE (mkL D.nb (useR D j)) w')) := fun w' e => Uses_ok j (HDT.out.1.ext (HE.out.trans e)) (HDT.out.2.ext (HE.out.trans e)) hk hj
    have HR : Hid (∀ w', Ext W1 w' → Calls Tryd.prog 27 #[dgv D p, I j] w' (LsR (mkL D.nb (useR D j)) w')) := fun w' e => ruses_any (HDT.out.1.ext (HE.out.trans e)) (chk_ok hk).toWF j hj
    have hlen : (mkL D.nb (useR D j)).length ≤ 1000 := by rw [mkL_len]; have := cnt_le D.nb (useR D j); omega
    have HI : Hid (∀ A B c d w', Rl w' A c (mkL D.nb (useR D j)) → Rl w' B d (mkL D.nb (useR D j)) → Calls Tryd.prog 22 #[.slice A (mkL D.nb (useR D j)).length c, .slice B (mkL D.nb (useR D j)).length d] w' fun e w'' => e = .returned (.bool true) ∧ Ext w' w'') := fun A B c d w' a b => intsL_true hlen a b
    clear hk hl hi hlen
    generalize mkL D.nb (useR D j) = L at *
    have hjl : ¬ (D.nb : Int) ≤ (j : Int) := by omega
    rw [hW1] at c0 c1 c2
    go_enter Tryd.func5, Tryd.ntmps5
    go_upto_region 1 with fail
    rw [← hW1] at c0 c1 c2
    rw [← hW1]
    clear hW1
    go_wp2_with (first
      | (go_at_call 11; (with_reducible refine (HA.out _ hx).mono ?_); rintro e1 w1 ⟨rfl, h1⟩; replace hx := hx.trans h1; clear h1 c0 c1 c2; obtain ⟨c0, c1, c2⟩ := HBX.out _ hx)
      | (go_at_call 12; (with_reducible refine (HL.out _ hx).mono ?_); rintro e1 w1 ⟨rfl, h1⟩; replace hx := hx.trans h1; clear h1 c0 c1 c2; obtain ⟨c0, c1, c2⟩ := HBX.out _ hx)
      | (go_at_call 13; (with_reducible refine (HRC.out _ hx).mono ?_); rintro e1 w1 ⟨rfl, h1⟩; replace hx := hx.trans h1; clear h1 c0 c1 c2; obtain ⟨c0, c1, c2⟩ := HBX.out _ hx)
      | (go_at_call 15; (with_reducible refine (HC.out _ hx).mono ?_); rintro e1 w1 ⟨rfl, h1⟩; replace hx := hx.trans h1; clear h1 c0 c1 c2; obtain ⟨c0, c1, c2⟩ := HBX.out _ hx)
      | (go_at_call 18; (with_reducible refine (HU.out _ hx).mono ?_); rintro e1 w1 ⟨A5, k5, rfl, o5, h1⟩; replace hx := hx.trans h1; have O5 := Lib.hid o5; clear o5 h1 c0 c1 c2; obtain ⟨c0, c1, c2⟩ := HBX.out _ hx)
      | (go_at_call 27; (with_reducible refine (HR.out _ hx).mono ?_); rintro e1 w6 ⟨A6, k6, rfl, o6, h6⟩; replace hx := hx.trans h6; have O6 := Lib.hid o6; have X6 := Lib.hid h6; clear o6 h6 c0 c1 c2; obtain ⟨c0, c1, c2⟩ := HBX.out _ hx)
      | (go_at_call 22; (with_reducible refine (HI.out _ _ _ _ _ (O5.out.ext X6.out).rl O6.out.rl).mono ?_); rintro e1 w7 ⟨rfl, h7⟩; replace hx := hx.trans h7))
    go_ret
    exact ⟨rfl, HE.out.trans hx⟩
  · have HU : Hid (∀ w', Ext W1 w' → Calls Tryd.prog 18 #[dgv D p, I i] w' fun e w'' => e = .returned (.tuple #[.slice none 0 0, .iface 46 (I 10)]) ∧ Ext w' w'') := fun w' e => Uses_idx i (HDT.out.1.ext (HE.out.trans e)) (HDT.out.2.ext (HE.out.trans e)) hk hi
    have HI := Lib.hid (is_err 10 10)
    rw [show decide ((10 : Int) = 10) = true from rfl] at HI
    clear hk hl
    rw [hW1] at c0 c1 c2
    by_cases hneg : i < 0
    · clear hi
      go_enter Tryd.func5, Tryd.ntmps5
      go_upto_region 1 with fail
      rw [← hW1] at c0 c1 c2
      rw [← hW1]
      clear hW1
      go_wp2_with (first
        | (go_at_call 11; (with_reducible refine (HA.out _ hx).mono ?_); rintro e1 w1 ⟨rfl, h1⟩; replace hx := hx.trans h1; clear h1 c0 c1 c2; obtain ⟨c0, c1, c2⟩ := HBX.out _ hx)
        | (go_at_call 12; (with_reducible refine (HL.out _ hx).mono ?_); rintro e1 w1 ⟨rfl, h1⟩; replace hx := hx.trans h1; clear h1 c0 c1 c2; obtain ⟨c0, c1, c2⟩ := HBX.out _ hx)
        | (go_at_call 13; (with_reducible refine (HRC.out _ hx).mono ?_); rintro e1 w1 ⟨rfl, h1⟩; replace hx := hx.trans h1; clear h1 c0 c1 c2; obtain ⟨c0, c1, c2⟩ := HBX.out _ hx)
        | (go_at_call 15; (with_reducible refine (HC.out _ hx).mono ?_); rintro e1 w1 ⟨rfl, h1⟩; replace hx := hx.trans h1; clear h1 c0 c1 c2; obtain ⟨c0, c1, c2⟩ := HBX.out _ hx)
        | (go_at_call 18; (with_reducible refine (HU.out _ hx).mono ?_); rintro e1 w1 ⟨rfl, h1⟩; replace hx := hx.trans h1; clear h1 c0 c1 c2; obtain ⟨c0, c1, c2⟩ := HBX.out _ hx)
        | (go_at_call 26; (with_reducible refine (HI.out _).mono ?_); rintro e1 w1 ⟨rfl, h1⟩; replace hx := hx.trans h1; clear h1 c0 c1 c2; obtain ⟨c0, c1, c2⟩ := HBX.out _ hx))
      go_ret
      exact ⟨rfl, HE.out.trans hx⟩
    · have hge : (D.nb : Int) ≤ i := by omega
      clear hi
      go_enter Tryd.func5, Tryd.ntmps5
      go_upto_region 1 with fail
      rw [← hW1] at c0 c1 c2
      rw [← hW1]
      clear hW1
      go_wp2_with (first
        | (go_at_call 11; (with_reducible refine (HA.out _ hx).mono ?_); rintro e1 w1 ⟨rfl, h1⟩; replace hx := hx.trans h1; clear h1 c0 c1 c2; obtain ⟨c0, c1, c2⟩ := HBX.out _ hx)
        | (go_at_call 12; (with_reducible refine (HL.out _ hx).mono ?_); rintro e1 w1 ⟨rfl, h1⟩; replace hx := hx.trans h1; clear h1 c0 c1 c2; obtain ⟨c0, c1, c2⟩ := HBX.out _ hx)
        | (go_at_call 13; (with_reducible refine (HRC.out _ hx).mono ?_); rintro e1 w1 ⟨rfl, h1⟩; replace hx := hx.trans h1; clear h1 c0 c1 c2; obtain ⟨c0, c1, c2⟩ := HBX.out _ hx)
        | (go_at_call 15; (with_reducible refine (HC.out _ hx).mono ?_); rintro e1 w1 ⟨rfl, h1⟩; replace hx := hx.trans h1; clear h1 c0 c1 c2; obtain ⟨c0, c1, c2⟩ := HBX.out _ hx)
        | (go_at_call 18; (with_reducible refine (HU.out _ hx).mono ?_); rintro e1 w1 ⟨rfl, h1⟩; replace hx := hx.trans h1; clear h1 c0 c1 c2; obtain ⟨c0, c1, c2⟩ := HBX.out _ hx)
        | (go_at_call 26; (with_reducible refine (HI.out _).mono ?_); rintro e1 w1 ⟨rfl, h1⟩; replace hx := hx.trans h1; clear h1 c0 c1 c2; obtain ⟨c0, c1, c2⟩ := HBX.out _ hx))
      go_ret
      exact ⟨rfl, HE.out.trans hx⟩
theorem uses_any {w : World} {D : Dia} {p : Pl} (d : Dm w D p) (hT : Tabs w) (i : Int) : Calls Tryd.prog 5 #[dgv D p, I i] w fun e w' => e = .returned (.bool true) ∧ Ext w w' := by
  by_cases h : litB D = false ∨ chk D ≠ 0
  · exact uses_off d hT i h
  · refine uses_on d hT i ?_ (Classical.byContradiction fun q => h (.inr q))
    cases q : litB D
    · exact absurd (.inl q) h
    · rfl
end Go.Proofs.YtgajibdmihdkcaaDoor
