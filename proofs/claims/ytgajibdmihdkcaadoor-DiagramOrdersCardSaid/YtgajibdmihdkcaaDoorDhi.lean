/- The law DiagramOrders: it returns true. -/
import Derived.Test.YtgajibdmihdkcaaDoorDhg
namespace Go.Proofs.YtgajibdmihdkcaaDoor
open Go Go.RowKit

set_option maxRecDepth 100000 in
set_option maxHeartbeats 8000000 in
theorem orders_off {w : World} {D : Dia} {p : Pl} (d : Dm w D p) (hT : Tabs w) (h : litB D = false ∨ chk D ≠ 0) : Calls Tryd.prog 4 #[dgv D p] w fun e w' => e = .returned (.bool true) ∧ Ext w w' := by
  obtain ⟨W1, hW1⟩ : ∃ W1, W1 = w.alloc (.cells #[.slice p.AI D.ni p.cI, .slice p.AB D.nb p.cB, .slice p.AO D.no p.cO] 26) := ⟨_, rfl⟩
  have hE : Ext w W1 := by rw [hW1]; exact Ext.alloc _ _
  have hz1 : W1.heap.size = w.heap.size + 1 := by rw [hW1]; simp
  have HZ1 := Lib.hid hz1; clear hz1
  have HBD : Hid (Bd W1 w.heap.size D p) := by show Bd _ _ _ _; rw [hW1]; exact Bd.new _ _ _ _
  have HBX : Hid (∀ w', Ext W1 w' → w'.cell? ⟨w.heap.size, 0, none⟩ = some (.slice p.AI D.ni p.cI) ∧ w'.cell? ⟨w.heap.size, 1, none⟩ = some (.slice p.AB D.nb p.cB) ∧ w'.cell? ⟨w.heap.size, 2, none⟩ = some (.slice p.AO D.no p.cO)) := fun w' e => by
    have a := HBD.out.ext e; exact ⟨a.c0, a.c1, a.c2⟩
  have HA : Hid (∀ w', Ext W1 w' → Calls Tryd.prog 11 #[] w' fun e w'' => e = .returned (.bool true) ∧ Ext w' w'') := fun w' e => awake_any w' (hT.ext (hE.trans e))
  have HL : Hid (∀ w', Ext W1 w' → Calls Tryd.prog 12 #[dgv D p] w' fun e w'' => e = .returned (.bool (litB D)) ∧ Ext w' w'') := fun w' e => light_any (d.ext (hE.trans e))
  have HRC : Hid (∀ w', Ext W1 w' → Calls Tryd.prog 13 #[dgv D p] w' fun e w'' => e = .returned (I (chk D)) ∧ Ext w' w'') := fun w' e => rcheck_any (d.ext (hE.trans e)) (hT.ext (hE.trans e))
  have HC : Hid (∀ w', Ext W1 w' → Calls Tryd.prog 15 #[dgv D p] w' fun e w'' => e = .returned (errv (chk D)) ∧ Ext w' w'') := fun w' e => check_any (d.ext (hE.trans e)) (hT.ext (hE.trans e))
  have HE := Lib.hid hE
  have HDT : Hid (Dm w D p ∧ Tabs w) := ⟨d, hT⟩
  have hx : Ext W1 W1 := Ext.refl _
  obtain ⟨c0, c1, c2⟩ := HBX.out _ hx
  clear d hT hE HBD
  cases hl : litB D with
  | false =>
    rw [hl] at HL
    clear h hl
    rw [hW1] at c0 c1 c2
    go_enter Tryd.func4, Tryd.ntmps4
    go_upto_region 1 with fail
    rw [← hW1] at c0 c1 c2
    rw [← hW1]
    clear hW1
    go_wp2_with (first
      | (go_at_call 11; (with_reducible refine (HA.out _ hx).mono ?_); rintro e1 w1 ⟨rfl, h1⟩; replace hx := hx.trans h1; clear h1 c0 c1 c2; obtain ⟨c0, c1, c2⟩ := HBX.out _ hx)
      | (go_at_call 12; (with_reducible refine (HL.out _ hx).mono ?_); rintro e1 w1 ⟨rfl, h1⟩; replace hx := hx.trans h1; clear h1 c0 c1 c2; obtain ⟨c0, c1, c2⟩ := HBX.out _ hx)
      | (go_at_call 13; (with_reducible refine (HRC.out _ hx).mono ?_); rintro e1 w1 ⟨rfl, h1⟩; replace hx := hx.trans h1; clear h1 c0 c1 c2; obtain ⟨c0, c1, c2⟩ := HBX.out _ hx)
      | (go_at_call 15; (with_reducible refine (HC.out _ hx).mono ?_); rintro e1 w1 ⟨rfl, h1⟩; replace hx := hx.trans h1; clear h1 c0 c1 c2; obtain ⟨c0, c1, c2⟩ := HBX.out _ hx))
    go_ret
    exact ⟨rfl, HE.out.trans hx⟩
  | true =>
    rw [hl] at HL
    have hk : chk D ≠ 0 := by rcases h with h | h; rw [hl] at h; cases h; exact h
    clear h hl
    have hk' : (chk D == 0) = false := by simpa using hk
    rw [errv_n hk] at HC
    clear hk
    generalize chk D = k at *
    rw [hW1] at c0 c1 c2
    go_enter Tryd.func4, Tryd.ntmps4
    go_upto_region 1 with fail
    rw [← hW1] at c0 c1 c2
    rw [← hW1]
    clear hW1
    go_wp2_with (first
      | (go_at_call 11; (with_reducible refine (HA.out _ hx).mono ?_); rintro e1 w1 ⟨rfl, h1⟩; replace hx := hx.trans h1; clear h1 c0 c1 c2; obtain ⟨c0, c1, c2⟩ := HBX.out _ hx)
      | (go_at_call 12; (with_reducible refine (HL.out _ hx).mono ?_); rintro e1 w1 ⟨rfl, h1⟩; replace hx := hx.trans h1; clear h1 c0 c1 c2; obtain ⟨c0, c1, c2⟩ := HBX.out _ hx)
      | (go_at_call 13; (with_reducible refine (HRC.out _ hx).mono ?_); rintro e1 w1 ⟨rfl, h1⟩; replace hx := hx.trans h1; clear h1 c0 c1 c2; obtain ⟨c0, c1, c2⟩ := HBX.out _ hx)
      | (go_at_call 15; (with_reducible refine (HC.out _ hx).mono ?_); rintro e1 w1 ⟨rfl, h1⟩; replace hx := hx.trans h1; clear h1 c0 c1 c2; obtain ⟨c0, c1, c2⟩ := HBX.out _ hx))
    go_ret
    exact ⟨rfl, HE.out.trans hx⟩

set_option maxRecDepth 100000 in
set_option maxHeartbeats 8000000 in
theorem orders_on {w : World} {D : Dia} {p : Pl} (d : Dm w D p) (hT : Tabs w) (hl : litB D = true) (hk : chk D = 0) : Calls Tryd.prog 4 #[dgv D p] w fun e w' => e = .returned (.bool true) ∧ Ext w w' := by
  obtain ⟨W1, hW1⟩ : ∃ W1, W1 = w.alloc (.cells #[.slice p.AI D.ni p.cI, .slice p.AB D.nb p.cB, .slice p.AO D.no p.cO] 26) := ⟨_, rfl⟩
  have hE : Ext w W1 := by rw [hW1]; exact Ext.alloc _ _
  have hz1 : W1.heap.size = w.heap.size + 1 := by rw [hW1]; simp
  have HZ1 := Lib.hid hz1; clear hz1
  have HBD : Hid (Bd W1 w.heap.size D p) := by show Bd _ _ _ _; rw [hW1]; exact Bd.new _ _ _ _
  have HBX : Hid (∀ w', Ext W1 w' → w'.cell? ⟨w.heap.size, 0, none⟩ = some (.slice p.AI D.ni p.cI) ∧ w'.cell? ⟨w.heap.size, 1, none⟩ = some (.slice p.AB D.nb p.cB) ∧ w'.cell? ⟨w.heap.size, 2, none⟩ = some (.slice p.AO D.no p.cO)) := fun w' e => by
    have a := HBD.out.ext e; exact ⟨a.c0, a.c1, a.c2⟩
  have HA : Hid (∀ w', Ext W1 w' → Calls Tryd.prog 11 #[] w' fun e w'' => e = .returned (.bool true) ∧ Ext w' w'') := fun w' e => awake_any w' (hT.ext (hE.trans e))
  have HL : Hid (∀ w', Ext W1 w' → Calls Tryd.prog 12 #[dgv D p] w' fun e w'' => e = .returned (.bool (litB D)) ∧ Ext w' w'') := fun w' e => light_any (d.ext (hE.trans e))
  have HRC : Hid (∀ w', Ext W1 w' → Calls Tryd.prog 13 #[dgv D p] w' fun e w'' => e = .returned (I (chk D)) ∧ Ext w' w'') := fun w' e => rcheck_any (d.ext (hE.trans e)) (hT.ext (hE.trans e))
  have HC : Hid (∀ w', Ext W1 w' → Calls Tryd.prog 15 #[dgv D p] w' fun e w'' => e = .returned (errv (chk D)) ∧ Ext w' w'') := fun w' e => check_any (d.ext (hE.trans e)) (hT.ext (hE.trans e))
  have HE := Lib.hid hE
  have HDT : Hid (Dm w D p ∧ Tabs w) := ⟨d, hT⟩
  have hx : Ext W1 W1 := Ext.refl _
  obtain ⟨c0, c1, c2⟩ := HBX.out _ hx
  clear d hT hE HBD
  have hnb := (chk_ok hk).nb
  rw [hl] at HL
  rw [hk] at HRC
  have wf := (chk_ok hk).toWF
  have HOC : Hid (∀ w', Ext W1 w' → Calls Tryd.prog 16 #[dgv D p] w' (LsE (ordL D) w')) := fun w' e => Order_ok (HDT.out.1.ext (HE.out.trans e)) (HDT.out.2.ext (HE.out.trans e)) hk
  have HDC : Hid (∀ w', Ext W1 w' → Calls Tryd.prog 17 #[dgv D p] w' (LsE (delL D) w')) := fun w' e => Delays_ok (HDT.out.1.ext (HE.out.trans e)) (HDT.out.2.ext (HE.out.trans e)) hk
  have HAC : Hid (∀ w', Ext W1 w' → Calls Tryd.prog 19 #[dgv D p] w' fun e w'' => e = .returned (.tuple #[.bool (affC D), .nilIface]) ∧ Ext w' w'') := fun w' e => Affine_ok (HDT.out.1.ext (HE.out.trans e)) (HDT.out.2.ext (HE.out.trans e)) hk
  have HOR : Hid (∀ w', Ext W1 w' → Calls Tryd.prog 23 #[dgv D p] w' (LsR (ordL D) w')) := fun w' e => rorder_any (HDT.out.1.ext (HE.out.trans e)) wf
  have HDR : Hid (∀ w', Ext W1 w' → Calls Tryd.prog 24 #[dgv D p] w' (LsR (delL D) w')) := fun w' e => rdelays_any (HDT.out.1.ext (HE.out.trans e)) (by omega)
  have HAR : Hid (∀ w', Ext W1 w' → Calls Tryd.prog 25 #[dgv D p] w' fun e w'' => e = .returned (.bool (affC D)) ∧ Ext w' w'') := fun w' e => raffine_any (HDT.out.1.ext (HE.out.trans e)) wf
  have hlo : (ordL D).length ≤ 1000 := by have := (ord_end D).1.le; omega
  have hld : (delL D).length ≤ 1000 := by unfold delL; rw [mkL_len]; have := cnt_le D.nb (isD D); omega
  have HI : Hid (∀ (L : List Nat), L.length ≤ 1000 → ∀ A B c d w', Rl w' A c L → Rl w' B d L → Calls Tryd.prog 22 #[.slice A L.length c, .slice B L.length d] w' fun e w'' => e = .returned (.bool true) ∧ Ext w' w'') := fun L hlen A B c d w' a b => intsL_true hlen a b
  clear hk hl wf
  generalize ordL D = L at *
  generalize delL D = K at *
  generalize affC D = v at *
  rw [hW1] at c0 c1 c2
  cases v
  all_goals
    go_enter Tryd.func4, Tryd.ntmps4
    go_upto_region 1 with fail
    rw [← hW1] at c0 c1 c2
    rw [← hW1]
    clear hW1
    go_wp2_with (first
      | (go_at_call 11; (with_reducible refine (HA.out _ hx).mono ?_); rintro e1 w1 ⟨rfl, h1⟩; replace hx := hx.trans h1; clear h1 c0 c1 c2; obtain ⟨c0, c1, c2⟩ := HBX.out _ hx)
      | (go_at_call 12; (with_reducible refine (HL.out _ hx).mono ?_); rintro e1 w1 ⟨rfl, h1⟩; replace hx := hx.trans h1; clear h1 c0 c1 c2; obtain ⟨c0, c1, c2⟩ := HBX.out _ hx)
      | (go_at_call 13; (with_reducible refine (HRC.out _ hx).mono ?_); rintro e1 w1 ⟨rfl, h1⟩; replace hx := hx.trans h1; clear h1 c0 c1 c2; obtain ⟨c0, c1, c2⟩ := HBX.out _ hx)
      | (go_at_call 15; (with_reducible refine (HC.out _ hx).mono ?_); rintro e1 w1 ⟨rfl, h1⟩; replace hx := hx.trans h1; clear h1 c0 c1 c2; obtain ⟨c0, c1, c2⟩ := HBX.out _ hx)
      | (go_at_call 16; (with_reducible refine (HOC.out _ hx).mono ?_); rintro e1 w1 ⟨A5, k5, rfl, o1, h1⟩; replace hx := hx.trans h1; (try replace O5 := Lib.hid (O5.out.ext h1)); (try replace O6 := Lib.hid (O6.out.ext h1)); (try replace O7 := Lib.hid (O7.out.ext h1)); have O5 := Lib.hid o1; clear o1 h1 c0 c1 c2; obtain ⟨c0, c1, c2⟩ := HBX.out _ hx)
      | (go_at_call 17; (with_reducible refine (HDC.out _ hx).mono ?_); rintro e1 w1 ⟨A6, k6, rfl, o1, h1⟩; replace hx := hx.trans h1; (try replace O5 := Lib.hid (O5.out.ext h1)); (try replace O6 := Lib.hid (O6.out.ext h1)); (try replace O7 := Lib.hid (O7.out.ext h1)); have O6 := Lib.hid o1; clear o1 h1 c0 c1 c2; obtain ⟨c0, c1, c2⟩ := HBX.out _ hx)
      | (go_at_call 19; (with_reducible refine (HAC.out _ hx).mono ?_); rintro e1 w1 ⟨rfl, h1⟩; replace hx := hx.trans h1; (try replace O5 := Lib.hid (O5.out.ext h1)); (try replace O6 := Lib.hid (O6.out.ext h1)); (try replace O7 := Lib.hid (O7.out.ext h1)); clear h1 c0 c1 c2; obtain ⟨c0, c1, c2⟩ := HBX.out _ hx)
      | (go_at_call 23; (with_reducible refine (HOR.out _ hx).mono ?_); rintro e1 w1 ⟨A7, k7, rfl, o1, h1⟩; replace hx := hx.trans h1; (try replace O5 := Lib.hid (O5.out.ext h1)); (try replace O6 := Lib.hid (O6.out.ext h1)); (try replace O7 := Lib.hid (O7.out.ext h1)); have O7 := Lib.hid o1; clear o1 h1 c0 c1 c2; obtain ⟨c0, c1, c2⟩ := HBX.out _ hx)
      | (go_at_call 24; (with_reducible refine (HDR.out _ hx).mono ?_); rintro e1 w1 ⟨A8, k8, rfl, o1, h1⟩; replace hx := hx.trans h1; (try replace O5 := Lib.hid (O5.out.ext h1)); (try replace O6 := Lib.hid (O6.out.ext h1)); (try replace O7 := Lib.hid (O7.out.ext h1)); have O8 := Lib.hid o1; clear o1 h1 c0 c1 c2; obtain ⟨c0, c1, c2⟩ := HBX.out _ hx)
      | (go_at_call 25; (with_reducible refine (HAR.out _ hx).mono ?_); rintro e1 w1 ⟨rfl, h1⟩; replace hx := hx.trans h1; (try replace O5 := Lib.hid (O5.out.ext h1)); (try replace O6 := Lib.hid (O6.out.ext h1)); (try replace O7 := Lib.hid (O7.out.ext h1)); clear h1 c0 c1 c2; obtain ⟨c0, c1, c2⟩ := HBX.out _ hx)
      | (go_at_call 22; (with_reducible refine (HI.out L hlo _ _ _ _ _ O5.out.rl O7.out.rl).mono ?_); rintro e1 w1 ⟨rfl, h1⟩; replace hx := hx.trans h1; (try replace O5 := Lib.hid (O5.out.ext h1)); (try replace O6 := Lib.hid (O6.out.ext h1)); (try replace O7 := Lib.hid (O7.out.ext h1)); clear h1 c0 c1 c2; obtain ⟨c0, c1, c2⟩ := HBX.out _ hx)
      | (go_at_call 22; (with_reducible refine (HI.out K hld _ _ _ _ _ O6.out.rl O8.out.rl).mono ?_); rintro e1 w1 ⟨rfl, h1⟩; replace hx := hx.trans h1; (try replace O5 := Lib.hid (O5.out.ext h1)); (try replace O6 := Lib.hid (O6.out.ext h1)); (try replace O7 := Lib.hid (O7.out.ext h1)); clear h1 c0 c1 c2; obtain ⟨c0, c1, c2⟩ := HBX.out _ hx))
    go_ret
    exact ⟨rfl, HE.out.trans hx⟩
theorem orders_any {w : World} {D : Dia} {p : Pl} (d : Dm w D p) (hT : Tabs w) : Calls Tryd.prog 4 #[dgv D p] w fun e w' => e = .returned (.bool true) ∧ Ext w w' := by
  by_cases h : litB D = false ∨ chk D ≠ 0
  · exact orders_off d hT h
  · refine orders_on d hT ?_ (Classical.byContradiction fun q => h (.inr q))
    cases q : litB D
    · exact absurd (.inl q) h
    · rfl
end Go.Proofs.YtgajibdmihdkcaaDoor
