import Derived.Test.YtgnngldlgcdnfaaGreatDoorQbm
import Derived.Test.YtgnngldlgcdnfaaGreatDoorQan
import Derived.Test.YtgnngldlgcdnfaaGreatDoorQaq
namespace Go.Proofs.YtgnngldlgcdnfaaGreatDoor
open Go Go.RowKit
attribute [local go_sem ↓] Go.wp_at_zero Go.wp_at_succ
set_option maxRecDepth 100000 in
set_option maxHeartbeats 4000000 in
theorem evaluateLaw_any {w : World} {D : Dia} {p : Pl} {A : Option Addr} {n c : Nat} {R : Nat → RI} {F G : Nat → Nat → Nat} (d : Dm w D p) (hT : Tabs w) (st : StsI w A n R F G) :
  Calls Tryz.prog 3 #[dgv D p, .slice A n c] w fun e w' => e = .returned (.bool true) ∧ Ext w w' := by
 have hn := st.hn
 unfold maxLen at hn
 obtain ⟨W1, hW1⟩ : ∃ W1, W1 = w.alloc (.cells #[.slice p.AI D.ni p.cI, .slice p.AB D.nb p.cB, .slice p.AO D.no p.cO] 26) := ⟨_, rfl⟩
 have hE : Ext w W1 := by rw [hW1]; exact Ext.alloc _ _
 have hbd : Bd W1 w.heap.size D p := by rw [hW1]; exact Bd.new _ _ _ _
 have HBX : Hid (∀ w', Ext W1 w' → w'.cell? ⟨w.heap.size, 0, none⟩ = some (.slice p.AI D.ni p.cI) ∧ w'.cell? ⟨w.heap.size, 1, none⟩ = some (.slice p.AB D.nb p.cB) ∧ w'.cell? ⟨w.heap.size, 2, none⟩ = some (.slice p.AO D.no p.cO)) := fun w' e => by
  have a := hbd.ext e; exact ⟨a.c0, a.c1, a.c2⟩
 have HA : Hid (∀ w', Ext W1 w' → Calls Tryz.prog 11 #[] w' fun e w'' => e = .returned (.bool true) ∧ Ext w' w'') := fun w' x => rgAwake_any w' (hT.ext (hE.trans x))
 have HLI : Hid (∀ w', Ext W1 w' → Calls Tryz.prog 12 #[dgv D p] w' fun e w'' => e = .returned (.bool (litB D)) ∧ Ext w' w'') := fun w' e => light_any (d.ext (hE.trans e))
 have HLN : Hid (∀ w', Ext W1 w' → Calls Tryz.prog 13 #[.slice A n c] w' fun e w'' => e = .returned (.bool (leI n R)) ∧ Ext w' w'') := fun w' e => Lean_any (st.rn.ext (hE.trans e)) (by unfold maxLen; omega)
 have HRC : Hid (∀ w', Ext W1 w' → Calls Tryz.prog 16 #[dgv D p] w' fun e w'' => e = .returned (I (chk D)) ∧ Ext w' w'') := fun w' e => rcheck_any (d.ext (hE.trans e)) (hT.ext (hE.trans e))
 have HE := Lib.hid hE
 obtain ⟨c0, c1, c2⟩ := HBX.out _ (Ext.refl _)
 cases hlt : litB D with
 | false =>
  rw [hlt] at HLI
  clear d hT st hE hlt HRC HLN
  go_enter Tryz.func3, Tryz.ntmps3
  go_upto_region 1 with fail
  rw [← hW1]; clear hW1
  go_wp2_with (first
   | (go_at_call 11; (with_reducible refine (HA.out _ ex2).mono ?_); rintro e1 w1 ⟨rfl, h1⟩; (try clear c0 c1 c2); obtain ⟨c0, c1, c2⟩ := HBX.out w1 ex2)
   | (go_at_call 12; (with_reducible refine (HLI.out _ ex2).mono ?_); rintro e1 w2 ⟨rfl, h2⟩; (try clear c0 c1 c2); obtain ⟨c0, c1, c2⟩ := HBX.out w2 ex2))
  go_ret
  exact ⟨rfl, HE.out.trans ex2⟩
 | true =>
 rw [hlt] at HLI
 cases hle : leI n R with
 | false =>
  rw [hle] at HLN
  clear d hT st hE hlt hle HRC
  go_enter Tryz.func3, Tryz.ntmps3
  go_upto_region 1 with fail
  rw [← hW1]; clear hW1
  go_wp2_with (first
   | (go_at_call 11; (with_reducible refine (HA.out _ ex2).mono ?_); rintro e1 w1 ⟨rfl, h1⟩; (try clear c0 c1 c2); obtain ⟨c0, c1, c2⟩ := HBX.out w1 ex2)
   | (go_at_call 12; (with_reducible refine (HLI.out _ ex2).mono ?_); rintro e1 w2 ⟨rfl, h2⟩; (try clear c0 c1 c2); obtain ⟨c0, c1, c2⟩ := HBX.out w2 ex2)
   | (go_at_call 13; (with_reducible refine (HLN.out _ ex2).mono ?_); rintro e1 w3 ⟨rfl, h3⟩; (try clear c0 c1 c2); obtain ⟨c0, c1, c2⟩ := HBX.out w3 ex2))
  go_ret
  exact ⟨rfl, HE.out.trans ex2⟩
 | true =>
  rw [hle] at HLN
  obtain ⟨hn100, el⟩ := st.el hle
  obtain ⟨S, hS⟩ : ∃ S, ivS R F G = S := ⟨_, rfl⟩
  obtain ⟨b, hb⟩ : ∃ b, ivO R F G = b := ⟨_, rfl⟩
  rw [hS, hb] at el
  by_cases hk : chk D = 0
  ·have ok := chk_ok hk
   rw [hk] at HRC
   have HREV : Hid (∀ w', Ext W1 w' → Calls Tryz.prog 18 #[dgv D p, .slice A n c] w' (RvE D n b S w')) := fun w' x => rEval_any (d.ext (hE.trans x)) ok (by omega) (st.rn.ext (hE.trans x)) fun k hk => (el k hk).ext (hE.trans x)
   by_cases hz : evE D n b S = 0
   ·have HEV : Hid (∀ w', Ext W1 w' → Calls Tryz.prog 14 #[dgv D p, .slice A n c] w' fun e w'' => ∃ g R', e = .returned (.tuple #[.slice (some ⟨g, 0, none⟩) D.nb D.nb, .nilIface]) ∧ LnI w'' (some ⟨g, 0, none⟩) D.nb R' (tkI D S) ∧ Ext w' w'') := fun w' x => (Eval_ok (d.ext (hE.trans x)) (hT.ext (hE.trans x)) hk (st.rn.ext (hE.trans x)) fun k hk => ((el k hk).ext (hE.trans x)).toElI).mono fun e w'' hh => by
     rcases hh with ⟨q, _⟩ | ⟨_, g, R', h1, h2⟩
     ·exact absurd hz q
     ·exact ⟨g, R', h1, h2.lv.ln, h2.ext⟩
    have HCL : Hid (∀ w', Ext W1 w' → Calls Tryz.prog 15 #[dgv D p, .slice A n c] w' fun e w'' => e = .returned (.tuple #[.bool (clB D n S), .nilIface]) ∧ Ext w' w'') := fun w' x => Closed_ok (d.ext (hE.trans x)) (hT.ext (hE.trans x)) hk (st.rn.ext (hE.trans x)) (fun k hk => ((el k hk).ext (hE.trans x)).toElI) hz
    have HRE : Hid (∀ w', Ext W1 w' → Calls Tryz.prog 18 #[dgv D p, .slice A n c] w' (REv D (tkI D S) w')) := fun w' x => (HREV.out w' x).mono fun e w'' hh => by
     rcases hh with ⟨q, _⟩ | ⟨_, h⟩
     ·exact absurd hz q
     ·exact h
    have hgood := evE_good hz
    have HRCL : Hid (∀ w', Ext W1 w' → Calls Tryz.prog 19 #[dgv D p, .slice A n c] w' fun e w'' => e = .returned (.tuple #[.bool (clB D n S), I 0]) ∧ Ext w' w'') := fun w' x => rClosed_ok (d.ext (hE.trans x)) ok ⟨st.rn.ext (hE.trans x), fun k hk => ((el k hk).ext (hE.trans x)).cn (hgood.2.1 k hk)⟩ hgood.1 fun w'' y => HRE.out w'' (x.trans y)
    have hnb := ok.nb
    clear d hT st hE hlt hle el hk ok hz hgood HREV
    generalize clB D n S = z at *
    generalize tkI D S = V at *
    have gz : (z == z) = true := by simp
    go_enter Tryz.func3, Tryz.ntmps3
    go_upto_region 1 with fail
    rw [← hW1]; clear hW1
    go_wp2_with (first
     | (go_at_call 11; (with_reducible refine (HA.out _ ex2).mono ?_); rintro e1 w1 ⟨rfl, h1⟩; (try clear c0 c1 c2); obtain ⟨c0, c1, c2⟩ := HBX.out w1 ex2)
     | (go_at_call 12; (with_reducible refine (HLI.out _ ex2).mono ?_); rintro e1 w2 ⟨rfl, h2⟩; (try clear c0 c1 c2); obtain ⟨c0, c1, c2⟩ := HBX.out w2 ex2)
     | (go_at_call 13; (with_reducible refine (HLN.out _ ex2).mono ?_); rintro e1 w3 ⟨rfl, h3⟩; (try clear c0 c1 c2); obtain ⟨c0, c1, c2⟩ := HBX.out w3 ex2)
     | (go_at_call 14; (with_reducible refine (HEV.out _ ex2).mono ?_); rintro e1 w4 ⟨g4, R4, rfl, l4, h4⟩; have L4 := Lib.hid l4; clear l4; (try clear c0 c1 c2); obtain ⟨c0, c1, c2⟩ := HBX.out w4 ex2)
     | (go_at_call 15; (with_reducible refine (HCL.out _ ex2).mono ?_); rintro e1 w5 ⟨rfl, h5⟩; (try clear c0 c1 c2); obtain ⟨c0, c1, c2⟩ := HBX.out w5 ex2)
     | (go_at_call 16; (with_reducible refine (HRC.out _ ex2).mono ?_); rintro e1 w6 ⟨rfl, h6⟩; (try clear c0 c1 c2); obtain ⟨c0, c1, c2⟩ := HBX.out w6 ex2)
     | (go_at_call 18; (with_reducible refine (HRE.out _ ex2).mono ?_); rintro e1 w7 ⟨B7, c7, R7, rfl, l7, h7⟩; have L7 := Lib.hid l7; clear l7; (try clear c0 c1 c2); obtain ⟨c0, c1, c2⟩ := HBX.out w7 ex2)
     | (go_at_call 19; (with_reducible refine (HRCL.out _ ex2).mono ?_); rintro e1 w8 ⟨rfl, h8⟩; (try clear c0 c1 c2); obtain ⟨c0, c1, c2⟩ := HBX.out w8 ex2)
     | (go_at_call 17; (with_reducible refine (num_nil _).mono ?_); rintro e1 w9 ⟨rfl, h9⟩)
     | (go_at_call 20; (with_reducible refine (rSameI_any (L4.out.ext ex2) (L7.out.ext ex2) (by omega)).mono ?_); rintro e1 w10 ⟨rfl, h10⟩))
    go_ret
    exact ⟨by simp, HE.out.trans ex2⟩
   ·have HEV : Hid (∀ w', Ext W1 w' → Calls Tryz.prog 14 #[dgv D p, .slice A n c] w' fun e w'' => e = .returned (.tuple #[.slice none 0 0, .iface 48 (I (evE D n b S))]) ∧ Ext w' w'') := fun w' x => (Eval_ok (d.ext (hE.trans x)) (hT.ext (hE.trans x)) hk (st.rn.ext (hE.trans x)) fun k hk => ((el k hk).ext (hE.trans x)).toElI).mono fun e w'' hh => by
     rcases hh with ⟨_, q⟩ | ⟨q, _⟩
     ·exact q
     ·exact absurd q hz
    have HCL : Hid (∀ w', Ext W1 w' → Calls Tryz.prog 15 #[dgv D p, .slice A n c] w' fun e w'' => e = .returned (.tuple #[.bool false, .iface 48 (I (evE D n b S))]) ∧ Ext w' w'') := fun w' x => Closed_err (d.ext (hE.trans x)) (hT.ext (hE.trans x)) hk (st.rn.ext (hE.trans x)) (fun k hk => ((el k hk).ext (hE.trans x)).toElI) hz
    have HRE : Hid (∀ w', Ext W1 w' → Calls Tryz.prog 18 #[dgv D p, .slice A n c] w' fun e w'' => e = .returned (.tuple #[.slice none 0 0, I (evE D n b S)]) ∧ Ext w' w'') := fun w' x => (HREV.out w' x).mono fun e w'' hh => by
     rcases hh with ⟨_, q⟩ | ⟨q, _⟩
     ·exact q
     ·exact absurd q hz
    have HRCL : Hid (∀ w', Ext W1 w' → Calls Tryz.prog 19 #[dgv D p, .slice A n c] w' fun e w'' => e = .returned (.tuple #[.bool false, I (evE D n b S)]) ∧ Ext w' w'') := fun w' x => rClosed_err (evE D n b S) hz fun w'' y => (HRE.out w'' (x.trans y)).mono fun e w3 hh => ⟨none, 0, 0, hh.1, hh.2⟩
    clear d hT st hE hlt hle el hk ok hz HREV
    generalize evE D n b S = k at *
    have HNM := Lib.hid (num_err k)
    have HS0 : Hid (∀ w', Calls Tryz.prog 20 #[.slice none 0 0, .slice none 0 0] w' fun e w'' => e = .returned (.bool true) ∧ Ext w' w'') := fun w' => rSameI_any (n := 0) (R := fun _ => RI.z) (T := fun _ => RI.z) (V := fun _ => IV.z) ⟨RnI.none_, fun i hi => absurd hi (by omega)⟩ ⟨RnI.none_, fun i hi => absurd hi (by omega)⟩ (by omega)
    go_enter Tryz.func3, Tryz.ntmps3
    go_upto_region 1 with fail
    rw [← hW1]; clear hW1
    go_wp2_with (first
     | (go_at_call 11; (with_reducible refine (HA.out _ ex2).mono ?_); rintro e1 w1 ⟨rfl, h1⟩; (try clear c0 c1 c2); obtain ⟨c0, c1, c2⟩ := HBX.out w1 ex2)
     | (go_at_call 12; (with_reducible refine (HLI.out _ ex2).mono ?_); rintro e1 w2 ⟨rfl, h2⟩; (try clear c0 c1 c2); obtain ⟨c0, c1, c2⟩ := HBX.out w2 ex2)
     | (go_at_call 13; (with_reducible refine (HLN.out _ ex2).mono ?_); rintro e1 w3 ⟨rfl, h3⟩; (try clear c0 c1 c2); obtain ⟨c0, c1, c2⟩ := HBX.out w3 ex2)
     | (go_at_call 14; (with_reducible refine (HEV.out _ ex2).mono ?_); rintro e1 w4 ⟨rfl, h4⟩; (try clear c0 c1 c2); obtain ⟨c0, c1, c2⟩ := HBX.out w4 ex2)
     | (go_at_call 15; (with_reducible refine (HCL.out _ ex2).mono ?_); rintro e1 w5 ⟨rfl, h5⟩; (try clear c0 c1 c2); obtain ⟨c0, c1, c2⟩ := HBX.out w5 ex2)
     | (go_at_call 16; (with_reducible refine (HRC.out _ ex2).mono ?_); rintro e1 w6 ⟨rfl, h6⟩; (try clear c0 c1 c2); obtain ⟨c0, c1, c2⟩ := HBX.out w6 ex2)
     | (go_at_call 18; (with_reducible refine (HRE.out _ ex2).mono ?_); rintro e1 w7 ⟨rfl, h7⟩; (try clear c0 c1 c2); obtain ⟨c0, c1, c2⟩ := HBX.out w7 ex2)
     | (go_at_call 19; (with_reducible refine (HRCL.out _ ex2).mono ?_); rintro e1 w8 ⟨rfl, h8⟩; (try clear c0 c1 c2); obtain ⟨c0, c1, c2⟩ := HBX.out w8 ex2)
     | (go_at_call 17; (with_reducible refine (HNM.out _).mono ?_); rintro e1 w9 ⟨rfl, h9⟩)
     | (go_at_call 20; (with_reducible refine (HS0.out _).mono ?_); rintro e1 w10 ⟨rfl, h10⟩))
    go_ret
    exact ⟨by simp, HE.out.trans ex2⟩
  ·have HEV : Hid (∀ w', Ext W1 w' → Calls Tryz.prog 14 #[dgv D p, .slice A n c] w' fun e w'' => e = .returned (.tuple #[.slice none 0 0, .iface 48 (I (chk D))]) ∧ Ext w' w'') := fun w' x => Eval_err (d.ext (hE.trans x)) (hT.ext (hE.trans x)) hk
   have HCL : Hid (∀ w', Ext W1 w' → Calls Tryz.prog 15 #[dgv D p, .slice A n c] w' fun e w'' => e = .returned (.tuple #[.bool false, .iface 48 (I (chk D))]) ∧ Ext w' w'') := fun w' x => Closed_bad (d.ext (hE.trans x)) (hT.ext (hE.trans x)) hk
   have hk1 : (chk D != 0) = true := by simpa using hk
   clear d hT st hE hlt hle el hk
   generalize chk D = k at *
   have HNM := Lib.hid (num_err k)
   go_enter Tryz.func3, Tryz.ntmps3
   go_upto_region 1 with fail
   rw [← hW1]; clear hW1
   go_wp2_with (first
     | (go_at_call 11; (with_reducible refine (HA.out _ ex2).mono ?_); rintro e1 w1 ⟨rfl, h1⟩; (try clear c0 c1 c2); obtain ⟨c0, c1, c2⟩ := HBX.out w1 ex2)
     | (go_at_call 12; (with_reducible refine (HLI.out _ ex2).mono ?_); rintro e1 w2 ⟨rfl, h2⟩; (try clear c0 c1 c2); obtain ⟨c0, c1, c2⟩ := HBX.out w2 ex2)
     | (go_at_call 13; (with_reducible refine (HLN.out _ ex2).mono ?_); rintro e1 w3 ⟨rfl, h3⟩; (try clear c0 c1 c2); obtain ⟨c0, c1, c2⟩ := HBX.out w3 ex2)
     | (go_at_call 14; (with_reducible refine (HEV.out _ ex2).mono ?_); rintro e1 w4 ⟨rfl, h4⟩; (try clear c0 c1 c2); obtain ⟨c0, c1, c2⟩ := HBX.out w4 ex2)
     | (go_at_call 15; (with_reducible refine (HCL.out _ ex2).mono ?_); rintro e1 w5 ⟨rfl, h5⟩; (try clear c0 c1 c2); obtain ⟨c0, c1, c2⟩ := HBX.out w5 ex2)
     | (go_at_call 16; (with_reducible refine (HRC.out _ ex2).mono ?_); rintro e1 w6 ⟨rfl, h6⟩; (try clear c0 c1 c2); obtain ⟨c0, c1, c2⟩ := HBX.out w6 ex2)
     | (go_at_call 17; (with_reducible refine (HNM.out _).mono ?_); rintro e1 w9 ⟨rfl, h9⟩))
   go_ret
   exact ⟨by simp, HE.out.trans ex2⟩
end Go.Proofs.YtgnngldlgcdnfaaGreatDoor
