import Derived.Test.YtgnngldlgcdnfaaGreatDoorRx
import Derived.Test.YtgnngldlgcdnfaaGreatDoorRai
import Derived.Test.YtgnngldlgcdnfaaGreatDoorRaj
import Derived.Test.YtgnngldlgcdnfaaGreatDoorQan
import Derived.Deep.RegionHeld3
namespace Go.Proofs.YtgnngldlgcdnfaaGreatDoor
section
open Go Go.RowKit
attribute [local go_sem ↓] Go.wp_at_zero Go.wp_at_succ
def Ru8 (w : World) (B : Option Addr) (m : Nat) (X : Nat → Int) : Prop := (0 < m → ∃ b o, B = some ⟨b, o, none⟩ ∧ b < w.heap.size ∧ ∀ i, i < m → w.cell? ⟨b, o + i, none⟩ = some (.int .u8 (X i))) ∧ ∀ i, i < m → 0 ≤ X i ∧ X i ≤ 255
theorem Ru8.ext {w w' : World} {B : Option Addr} {m : Nat} {X : Nat → Int} (h : Ru8 w B m X) (e : Ext w w') : Ru8 w' B m X := ⟨fun hn => by
 obtain ⟨b, o, rfl, hb, hc⟩ := h.1 hn
 exact ⟨b, o, rfl, Nat.lt_of_lt_of_le hb e.size, fun i hi => (e.old.1 _ _ hb).trans (hc i hi)⟩, h.2⟩
theorem dy_new {w : World} {b n c : Nat} {A : Option Addr} {f : Nat → Nat} (h : On w b A n c f) : ∀ a, A = some a → b ≤ a.block := fun a ha => by
 obtain ⟨e, _⟩ | ⟨g', e, hr⟩ := h.cases
 ·rw [e] at ha; cases ha
 ·rw [e] at ha; injection ha with ha; subst ha; exact hr.lt.1
def ptX (S : Nat → IV) (m : Nat) (X : Nat → Int) (i : Nat) : DV := stX (S i) (if i < m then X i else 0)
set_option maxRecDepth 100000 in
set_option maxHeartbeats 4000000 in
theorem contain_off {w : World} {D : Dia} {p : Pl} {A B Ai : Option Addr} {n c m e mi ci : Nat} {R : Nat → RI} {F G : Nat → Nat → Nat} {X IN : Nat → Int} (d : Dm w D p) (hT : Tabs w) (st : StsI w A n R F G) (_ : Ru8 w B m X) (hm : m ≤ maxLen) (_ : Ri w Ai mi IN) (hmi : mi ≤ maxLen) (h : litB D = false ∨ leI n R = false ∨ 40 < mi ∨ 100 < m ∨ chk D ≠ 0) :
  Calls Tryz.prog 5 #[dgv D p, .agg #[.slice A n c, .slice B m e], .slice Ai mi ci] w fun e w' => e = .returned (.bool true) ∧ Ext w w' := by
 have hn := st.hn
 unfold maxLen at hn hm hmi
 obtain ⟨W1, hW1⟩ : ∃ W1, W1 = (w.alloc (.cells #[.slice p.AI D.ni p.cI, .slice p.AB D.nb p.cB, .slice p.AO D.no p.cO] 26)).alloc (.cells #[.slice A n c, .slice B m e] 52) := ⟨_, rfl⟩
 have hE : Ext w W1 := by rw [hW1]; exact (Ext.alloc _ _).trans (Ext.alloc _ _)
 have HBX : Hid (∀ w', Ext W1 w' → (w'.cell? ⟨w.heap.size, 0, none⟩ = some (.slice p.AI D.ni p.cI) ∧ w'.cell? ⟨w.heap.size, 1, none⟩ = some (.slice p.AB D.nb p.cB) ∧ w'.cell? ⟨w.heap.size, 2, none⟩ = some (.slice p.AO D.no p.cO)) ∧ w'.cell? ⟨w.heap.size + 1, 0, none⟩ = some (.slice A n c) ∧ w'.cell? ⟨w.heap.size + 1, 1, none⟩ = some (.slice B m e)) := fun w' x => by
  have hl : w.heap.size + 1 < W1.heap.size := by rw [hW1]; simp
  have hb : Bd w' w.heap.size D p := by
   have h0 : Bd W1 w.heap.size D p := by rw [hW1]; exact (Bd.new _ _ _ _).ext (Ext.alloc _ _)
   exact h0.ext x
  exact ⟨⟨hb.c0, hb.c1, hb.c2⟩, (x.old.1 _ _ hl).trans (by rw [hW1]; go_simp), (x.old.1 _ _ hl).trans (by rw [hW1]; go_simp)⟩
 have HA : Hid (∀ w', Ext W1 w' → Calls Tryz.prog 11 #[] w' fun e w'' => e = .returned (.bool true) ∧ Ext w' w'') := fun w' x => rgAwake_any w' (hT.ext (hE.trans x))
 have HLI : Hid (∀ w', Ext W1 w' → Calls Tryz.prog 12 #[dgv D p] w' fun e w'' => e = .returned (.bool (litB D)) ∧ Ext w' w'') := fun w' e => light_any (d.ext (hE.trans e))
 have HLN : Hid (∀ w', Ext W1 w' → Calls Tryz.prog 13 #[.slice A n c] w' fun e w'' => e = .returned (.bool (leI n R)) ∧ Ext w' w'') := fun w' e => Lean_any (st.rn.ext (hE.trans e)) (by unfold maxLen; omega)
 have HCK : Hid (∀ w', Ext W1 w' → Calls Tryz.prog 21 #[dgv D p] w' fun e w'' => e = .returned (errv (chk D)) ∧ Ext w' w'') := fun w' x => check_any (d.ext (hE.trans x)) (hT.ext (hE.trans x))
 have HE := Lib.hid hE
 have HW0 : Hid (w.heap.size + 1 < W1.heap.size) := by show _ < _; rw [hW1]; simp
 obtain ⟨⟨c0, c1, c2⟩, c3, c4⟩ := HBX.out _ (Ext.refl _)
 clear d hT st hE
 cases hl : litB D with
 | false =>
  rw [hl] at HLI
  clear h hl HCK HLN
  go_enter Tryz.func5, Tryz.ntmps5
  go_upto_region 1 with fail
  rw [← hW1]; clear hW1
  go_wp2_with (first
   | (go_at_call 11; (with_reducible refine (HA.out _ ex2).mono ?_); rintro e1 w1 ⟨rfl, h1⟩; (try clear c0 c1 c2 c3 c4); obtain ⟨⟨c0, c1, c2⟩, c3, c4⟩ := HBX.out w1 ex2)
   | (go_at_call 12; (with_reducible refine (HLI.out _ ex2).mono ?_); rintro e1 w2 ⟨rfl, h2⟩; (try clear c0 c1 c2 c3 c4); obtain ⟨⟨c0, c1, c2⟩, c3, c4⟩ := HBX.out w2 ex2))
  go_ret
  exact ⟨rfl, HE.out.trans ex2⟩
 | true =>
 rw [hl] at HLI
 cases hle : leI n R with
 | false =>
  rw [hle] at HLN
  clear h hl hle HCK
  go_enter Tryz.func5, Tryz.ntmps5
  go_upto_region 1 with fail
  rw [← hW1]; clear hW1
  go_wp2_with (first
   | (go_at_call 11; (with_reducible refine (HA.out _ ex2).mono ?_); rintro e1 w1 ⟨rfl, h1⟩; (try clear c0 c1 c2 c3 c4); obtain ⟨⟨c0, c1, c2⟩, c3, c4⟩ := HBX.out w1 ex2)
   | (go_at_call 12; (with_reducible refine (HLI.out _ ex2).mono ?_); rintro e1 w2 ⟨rfl, h2⟩; (try clear c0 c1 c2 c3 c4); obtain ⟨⟨c0, c1, c2⟩, c3, c4⟩ := HBX.out w2 ex2)
   | (go_at_call 13; (with_reducible refine (HLN.out _ ex2).mono ?_); rintro e1 w3 ⟨rfl, h3⟩; (try clear c0 c1 c2 c3 c4); obtain ⟨⟨c0, c1, c2⟩, c3, c4⟩ := HBX.out w3 ex2))
  go_ret
  exact ⟨rfl, HE.out.trans ex2⟩
 | true =>
 rw [hle] at HLN
 by_cases h1 : 40 < mi
 ·have g1 : decide ((40 : Int) < (mi : Int)) = true := decide_eq_true (by omega)
  clear h hl hle HCK h1
  go_enter Tryz.func5, Tryz.ntmps5
  go_upto_region 1 with fail
  rw [← hW1]; clear hW1
  go_wp2_with (first
   | (go_at_call 11; (with_reducible refine (HA.out _ ex2).mono ?_); rintro e1 w1 ⟨rfl, h1⟩; (try clear c0 c1 c2 c3 c4); obtain ⟨⟨c0, c1, c2⟩, c3, c4⟩ := HBX.out w1 ex2)
   | (go_at_call 12; (with_reducible refine (HLI.out _ ex2).mono ?_); rintro e1 w2 ⟨rfl, h2⟩; (try clear c0 c1 c2 c3 c4); obtain ⟨⟨c0, c1, c2⟩, c3, c4⟩ := HBX.out w2 ex2)
   | (go_at_call 13; (with_reducible refine (HLN.out _ ex2).mono ?_); rintro e1 w3 ⟨rfl, h3⟩; (try clear c0 c1 c2 c3 c4); obtain ⟨⟨c0, c1, c2⟩, c3, c4⟩ := HBX.out w3 ex2))
  go_ret
  exact ⟨rfl, HE.out.trans ex2⟩
 have g1 : decide ((40 : Int) < (mi : Int)) = false := decide_eq_false (by omega)
 by_cases h2 : 100 < m
 ·have g2 : decide ((100 : Int) < (m : Int)) = true := decide_eq_true (by omega)
  clear h hl hle HCK h1 h2
  go_enter Tryz.func5, Tryz.ntmps5
  go_upto_region 1 with fail
  rw [← hW1]; clear hW1
  go_wp2_with (first
   | (go_at_call 11; (with_reducible refine (HA.out _ ex2).mono ?_); rintro e1 w1 ⟨rfl, h1⟩; (try clear c0 c1 c2 c3 c4); obtain ⟨⟨c0, c1, c2⟩, c3, c4⟩ := HBX.out w1 ex2)
   | (go_at_call 12; (with_reducible refine (HLI.out _ ex2).mono ?_); rintro e1 w2 ⟨rfl, h2⟩; (try clear c0 c1 c2 c3 c4); obtain ⟨⟨c0, c1, c2⟩, c3, c4⟩ := HBX.out w2 ex2)
   | (go_at_call 13; (with_reducible refine (HLN.out _ ex2).mono ?_); rintro e1 w3 ⟨rfl, h3⟩; (try clear c0 c1 c2 c3 c4); obtain ⟨⟨c0, c1, c2⟩, c3, c4⟩ := HBX.out w3 ex2))
  go_ret
  exact ⟨rfl, HE.out.trans ex2⟩
 have g2 : decide ((100 : Int) < (m : Int)) = false := decide_eq_false (by omega)
 have hk : chk D ≠ 0 := by
  rcases h with h | h | h | h | h
  ·rw [hl] at h; cases h
  ·rw [hle] at h; cases h
  ·omega
  ·omega
  ·exact h
 rw [errv_n hk] at HCK
 clear h hl hle h1 h2 hk
 generalize chk D = k at *
 go_enter Tryz.func5, Tryz.ntmps5
 go_upto_region 1 with fail
 rw [← hW1]; clear hW1
 go_wp2_with (first
  | (go_at_call 11; (with_reducible refine (HA.out _ ex2).mono ?_); rintro e1 w1 ⟨rfl, h1⟩; (try clear c0 c1 c2 c3 c4); obtain ⟨⟨c0, c1, c2⟩, c3, c4⟩ := HBX.out w1 ex2)
  | (go_at_call 12; (with_reducible refine (HLI.out _ ex2).mono ?_); rintro e1 w2 ⟨rfl, h2⟩; (try clear c0 c1 c2 c3 c4); obtain ⟨⟨c0, c1, c2⟩, c3, c4⟩ := HBX.out w2 ex2)
  | (go_at_call 13; (with_reducible refine (HLN.out _ ex2).mono ?_); rintro e1 w3 ⟨rfl, h3⟩; (try clear c0 c1 c2 c3 c4); obtain ⟨⟨c0, c1, c2⟩, c3, c4⟩ := HBX.out w3 ex2)
  | (go_at_call 21; (with_reducible refine (HCK.out _ ex2).mono ?_); rintro e1 w4 ⟨rfl, h4⟩; (try clear c0 c1 c2 c3 c4); obtain ⟨⟨c0, c1, c2⟩, c3, c4⟩ := HBX.out w4 ex2))
 go_ret
 exact ⟨rfl, HE.out.trans ex2⟩
set_option maxRecDepth 100000 in
set_option maxHeartbeats 4000000 in
theorem contain_on {w : World} {D : Dia} {p : Pl} {A B Ai : Option Addr} {n c m e mi ci : Nat} {R : Nat → RI} {F G : Nat → Nat → Nat} {X IN : Nat → Int} (d : Dm w D p) (hT : Tabs w) (st : StsI w A n R F G) (ru : Ru8 w B m X) (hm : m ≤ maxLen) (ri : Ri w Ai mi IN) (hmi : mi ≤ maxLen) (hlt : litB D = true) (hle : leI n R = true) (h40 : mi ≤ 40) (h100 : m ≤ 100) (hk : chk D = 0) :
  Calls Tryz.prog 5 #[dgv D p, .agg #[.slice A n c, .slice B m e], .slice Ai mi ci] w fun e w' => e = .returned (.bool true) ∧ Ext w w' := by
 have hn := st.hn
 unfold maxLen at hn hm hmi
 obtain ⟨W1, hW1⟩ : ∃ W1, W1 = (w.alloc (.cells #[.slice p.AI D.ni p.cI, .slice p.AB D.nb p.cB, .slice p.AO D.no p.cO] 26)).alloc (.cells #[.slice A n c, .slice B m e] 52) := ⟨_, rfl⟩
 have hE : Ext w W1 := by rw [hW1]; exact (Ext.alloc _ _).trans (Ext.alloc _ _)
 have HBX : Hid (∀ w', Ext W1 w' → (w'.cell? ⟨w.heap.size, 0, none⟩ = some (.slice p.AI D.ni p.cI) ∧ w'.cell? ⟨w.heap.size, 1, none⟩ = some (.slice p.AB D.nb p.cB) ∧ w'.cell? ⟨w.heap.size, 2, none⟩ = some (.slice p.AO D.no p.cO)) ∧ w'.cell? ⟨w.heap.size + 1, 0, none⟩ = some (.slice A n c) ∧ w'.cell? ⟨w.heap.size + 1, 1, none⟩ = some (.slice B m e)) := fun w' x => by
  have hl : w.heap.size + 1 < W1.heap.size := by rw [hW1]; simp
  have hb : Bd w' w.heap.size D p := by
   have h0 : Bd W1 w.heap.size D p := by rw [hW1]; exact (Bd.new _ _ _ _).ext (Ext.alloc _ _)
   exact h0.ext x
  exact ⟨⟨hb.c0, hb.c1, hb.c2⟩, (x.old.1 _ _ hl).trans (by rw [hW1]; go_simp), (x.old.1 _ _ hl).trans (by rw [hW1]; go_simp)⟩
 have HA : Hid (∀ w', Ext W1 w' → Calls Tryz.prog 11 #[] w' fun e w'' => e = .returned (.bool true) ∧ Ext w' w'') := fun w' x => rgAwake_any w' (hT.ext (hE.trans x))
 have HLI : Hid (∀ w', Ext W1 w' → Calls Tryz.prog 12 #[dgv D p] w' fun e w'' => e = .returned (.bool (litB D)) ∧ Ext w' w'') := fun w' e => light_any (d.ext (hE.trans e))
 have HLN : Hid (∀ w', Ext W1 w' → Calls Tryz.prog 13 #[.slice A n c] w' fun e w'' => e = .returned (.bool (leI n R)) ∧ Ext w' w'') := fun w' e => Lean_any (st.rn.ext (hE.trans e)) (by unfold maxLen; omega)
 have HCK : Hid (∀ w', Ext W1 w' → Calls Tryz.prog 21 #[dgv D p] w' fun e w'' => e = .returned (errv (chk D)) ∧ Ext w' w'') := fun w' x => check_any (d.ext (hE.trans x)) (hT.ext (hE.trans x))
 have HE := Lib.hid hE
 have HW0 : Hid (w.heap.size + 1 < W1.heap.size) := by show _ < _; rw [hW1]; simp
 obtain ⟨⟨c0, c1, c2⟩, c3, c4⟩ := HBX.out _ (Ext.refl _)
 have g1 : decide ((40 : Int) < (mi : Int)) = false := decide_eq_false (by omega)
 have g2 : decide ((100 : Int) < (m : Int)) = false := decide_eq_false (by omega)
 obtain ⟨hn100, el⟩ := st.el hle
 obtain ⟨S, hS⟩ : ∃ S, ivS R F G = S := ⟨_, rfl⟩
 obtain ⟨b, hb⟩ : ∃ b, ivO R F G = b := ⟨_, rfl⟩
 rw [hS, hb] at el
 rw [hlt] at HLI
 rw [hle] at HLN
 rw [hk, errv_z] at HCK
 have ok := chk_ok hk
 have HVO : Hid (∀ w', Ext W1 w' → Calls Tryz.prog 14 #[dgv D p, .slice A n c] w' (EvP D n b S w')) := fun w' x => Eval_ok (d.ext (hE.trans x)) (hT.ext (hE.trans x)) hk (st.rn.ext (hE.trans x)) fun k hk => ((el k hk).ext (hE.trans x)).toElI
 by_cases hz : evE D n b S = 0
 case neg =>
  have HEV : Hid (∀ w', Ext W1 w' → Calls Tryz.prog 14 #[dgv D p, .slice A n c] w' fun e w'' => e = .returned (.tuple #[.slice none 0 0, .iface 48 (I (evE D n b S))]) ∧ Ext w' w'') := fun w' x => (HVO.out w' x).mono fun e w'' hh => by
   rcases hh with ⟨_, q⟩ | ⟨q, _⟩
   ·exact q
   ·exact absurd q hz
  clear d hT st ru ri hE hlt hle el hk hz ok HVO
  generalize evE D n b S = k at *
  go_enter Tryz.func5, Tryz.ntmps5
  go_upto_region 1 with fail
  rw [← hW1]; clear hW1
  go_wp2_with (first
   | (go_at_call 11; (with_reducible refine (HA.out _ ex2).mono ?_); rintro e1 w1 ⟨rfl, h1⟩; (try clear c0 c1 c2 c3 c4); obtain ⟨⟨c0, c1, c2⟩, c3, c4⟩ := HBX.out w1 ex2)
   | (go_at_call 12; (with_reducible refine (HLI.out _ ex2).mono ?_); rintro e1 w2 ⟨rfl, h2⟩; (try clear c0 c1 c2 c3 c4); obtain ⟨⟨c0, c1, c2⟩, c3, c4⟩ := HBX.out w2 ex2)
   | (go_at_call 13; (with_reducible refine (HLN.out _ ex2).mono ?_); rintro e1 w3 ⟨rfl, h3⟩; (try clear c0 c1 c2 c3 c4); obtain ⟨⟨c0, c1, c2⟩, c3, c4⟩ := HBX.out w3 ex2)
   | (go_at_call 21; (with_reducible refine (HCK.out _ ex2).mono ?_); rintro e1 w4 ⟨rfl, h4⟩; (try clear c0 c1 c2 c3 c4); obtain ⟨⟨c0, c1, c2⟩, c3, c4⟩ := HBX.out w4 ex2)
   | (go_at_call 14; (with_reducible refine (HEV.out _ ex2).mono ?_); rintro e1 w5 ⟨rfl, h5⟩; (try clear c0 c1 c2 c3 c4); obtain ⟨⟨c0, c1, c2⟩, c3, c4⟩ := HBX.out w5 ex2))
  go_ret
  exact ⟨rfl, HE.out.trans ex2⟩
 case pos =>
  have hgood := evE_good hz
  have HEV : Hid (∀ w', Ext W1 w' → Calls Tryz.prog 14 #[dgv D p, .slice A n c] w' fun e w'' => ∃ g R', e = .returned (.tuple #[.slice (some ⟨g, 0, none⟩) D.nb D.nb, .nilIface]) ∧ LvI w'' g D.nb R' (tkI D S) ∧ Ext w' w'') := fun w' x => (HVO.out w' x).mono fun e w'' hh => by
   rcases hh with ⟨q, _⟩ | ⟨_, g, R', h1, h2⟩
   ·exact absurd hz q
   ·exact ⟨g, R', h1, h2.lv, h2.ext⟩
  have hcn : ∀ k, k < n → CnI W1 (R k) (S k) := fun k hk => ((el k hk).ext hE).cn (hgood.2.1 k hk)
  have hsh : ∀ k, k < n → ShI (S k) := fun k hk => (hcn k hk).gd.sh (ev_short hz hk)
  have HCN := Lib.hid hcn; have HSH := Lib.hid hsh
  have HRS := Lib.hid (st.rn.ext hE)
  have HRU := Lib.hid (ru.ext hE)
  have HT := Lib.hid (hT.ext hE)
  have HLG := Lib.hid hgood.2.2
  have HNL : Hid (n = (delL D).length) := hgood.1
  have HIN : Hid (∀ w', Ext W1 w' → Calls Tryz.prog 30 #[dgv D p, .slice Ai mi ci] w' (InpR D mi IN w')) := fun w' x => inputs_any (d.ext (hE.trans x)) (by have := ok.toWF.ni; omega) (fun j hj => by have := ok.port hj; omega) (ri.ext (hE.trans x)) (by unfold maxLen; omega)
  have hni : D.ni ≤ maxLen := by have := ok.toWF.ni; unfold maxLen; omega
  have hir : inR D (inpV D mi IN) = true := allN_iff.2 fun j hj => by have := inp_rng ok mi IN j hj; simp; exact this
  have HSB : Hid (tkG D (ptX S m X) (inpV D mi IN) = false → ∀ w' As cs Rs Aj cj, Ext W1 w' → Ln w' As n Rs (ptX S m X) → Ri w' Aj D.ni (inpV D mi IN) → Calls Tryz.prog 29 #[dgv D p, .slice As n cs, .slice Aj D.ni cj] w' fun e w'' => e = .returned (.tuple #[.slice none 0 0, .slice none 0 0, .iface 48 (I 4)]) ∧ Ext w' w'') := fun hg w' As cs Rs Aj cj x l r => by
   have hs : stE D n (fun _ => true) (ptX S m X) D.ni (inpV D mi IN) = 4 := by
    unfold stE
    rw [if_neg (by have := hgood.1; omega), if_neg (by rw [allN_true]; decide), if_neg (by omega), if_neg (by rw [hir]; decide), if_pos hg]
   have := Step_bad (cs := cs) (ci := cj) (d.ext (hE.trans x)) (hT.ext (hE.trans x)) hk l.rn (fun k hk => El.of (l.el k hk)) r hni (by rw [hs]; decide)
   rw [hs] at this; exact this
  have HSG : Hid (tkG D (ptX S m X) (inpV D mi IN) ≠ false → ∀ w' As cs Rs Aj cj, Ext W1 w' → Ln w' As n Rs (ptX S m X) → Ri w' Aj D.ni (inpV D mi IN) → Calls Tryz.prog 29 #[dgv D p, .slice As n cs, .slice Aj D.ni cj] w' (StB D n (ptX S m X) (inpV D mi IN) w')) := fun hg w' As cs Rs Aj cj x l r => by
   have hs : stE D n (fun _ => true) (ptX S m X) D.ni (inpV D mi IN) = 0 := by
    unfold stE
    rw [if_neg (by have := hgood.1; omega), if_neg (by rw [allN_true]; decide), if_neg (by omega), if_neg (by rw [hir]; decide), if_neg hg]
   exact Step_good (cs := cs) (ci := cj) (d.ext (hE.trans x)) (hT.ext (hE.trans x)) hk l.rn (fun k hk => El.of (l.el k hk)) r hni hs
  have HSL : Hid (tkG D (ptX S m X) (inpV D mi IN) ≠ false → ∀ i, i < D.nb → lng (tkV D (ptX S m X) (inpV D mi IN) i) = false) := fun hg i hi => by
   have := allN_iff.1 (show tkG D (ptX S m X) (inpV D mi IN) = true by simpa using hg) i hi
   simpa using this
  have HTK : Hid ((∀ i, i < D.nb → GdI (tkI D S i)) → (∀ i, i < D.nb → (tkV D (ptX S m X) (inpV D mi IN) i).ok) → (∀ i, i < D.nb → lng (tkV D (ptX S m X) (inpV D mi IN) i) = false) → ∀ i, i < D.nb → BtI (tkI D S i) (tkV D (ptX S m X) (inpV D mi IN) i)) := fun hg ho hl => by
   have hni := hgood.1
   refine tk_in ok (fun j hj => inp_rng ok mi IN j hj) (fun k hk => ?_) (fun i hi => (hg i hi).sh (hgood.2.2 i hi)) fun i hi => Shr.of (hl i hi) (ho i hi)
   have hX : 0 ≤ (if k < m then X k else 0) ∧ (if k < m then X k else 0) ≤ 255 := by
    by_cases q : k < m
    ·rw [if_pos q]; exact ru.2 k q
    ·rw [if_neg q]; omega
   exact stX_in (hsh k (by omega)) hX.1 hX.2
  have hnb := ok.nb
  have HNB : Hid (0 < n → 0 < D.nb) := fun h => by have := del_le D; have := hgood.1; omega
  clear d hT st ru ri hE hlt hle el hk hz ok HVO hgood hcn hsh hS hb hni hir
  go_enter Tryz.func5, Tryz.ntmps5
  go_upto_region 1 with fail
  rw [← hW1]; clear hW1
  go_upto_region 7 with (first
    | (go_at_call 11; (with_reducible refine (HA.out _ ex2).mono ?_); rintro e1 w1 ⟨rfl, h1⟩; (try clear c0 c1 c2 c3 c4); obtain ⟨⟨c0, c1, c2⟩, c3, c4⟩ := HBX.out w1 ex2)
    | (go_at_call 12; (with_reducible refine (HLI.out _ ex2).mono ?_); rintro e1 w2 ⟨rfl, h2⟩; (try clear c0 c1 c2 c3 c4); obtain ⟨⟨c0, c1, c2⟩, c3, c4⟩ := HBX.out w2 ex2)
    | (go_at_call 13; (with_reducible refine (HLN.out _ ex2).mono ?_); rintro e1 w3 ⟨rfl, h3⟩; (try clear c0 c1 c2 c3 c4); obtain ⟨⟨c0, c1, c2⟩, c3, c4⟩ := HBX.out w3 ex2)
    | (go_at_call 21; (with_reducible refine (HCK.out _ ex2).mono ?_); rintro e1 w4 ⟨rfl, h4⟩; (try clear c0 c1 c2 c3 c4); obtain ⟨⟨c0, c1, c2⟩, c3, c4⟩ := HBX.out w4 ex2)
    | (go_at_call 14; (with_reducible refine (HEV.out _ ex2).mono ?_); rintro e1 w5 ⟨g5, R5, rfl, l5, h5⟩; have L5 := Lib.hid l5; clear l5; (try clear c0 c1 c2 c3 c4); obtain ⟨⟨c0, c1, c2⟩, c3, c4⟩ := HBX.out w5 ex2))
  have HX5 : Hid (Ext W1 w5) := (show Ext W1 w5 from ex2)
  clear h1 h2 h3 h4 h5 HA HLI HLN HCK HEV g1 g2
  go_wp2_with fail
  clear c0 c1 c2 c3 c4
  have HN0 : Hid (NwM w5 w5 w5.heap.size none 0 (fun _ => RN.z) (fun _ => DV.zero) 0) := NwM.nil (Ext.refl _) (Nat.le_refl _) (Nat.le_refl _) _ _
  go_loopw [9, 61] (fun s9 s wr => ∃ (j : Nat) (A : Option Addr) (c : Nat) (R : Nat → RN) (V : Nat → DV), j ≤ n ∧ s = I j ∧ s9 = .slice A j c ∧ Hid (NwM w5 wr w5.heap.size A c R V j) ∧ Hid (∀ i, i < j → V i = ptX S m X i)) (fun _ s _ => n - (intOf s).toNat)
  case atStart => exact ⟨0, none, 0, _, _, Nat.zero_le _, rfl, rfl, HN0, fun i hi => absurd hi (by omega)⟩
  case round =>
   clear HN0
   obtain ⟨j, As, cs, Rs, Vs, hj, rfl, rfl, H, HVF⟩ := hrel
   by_cases hlt : j < n
   ·have hX := HX5.out.trans H.out.ext
    obtain ⟨bs, os, hA, hbs, hcs⟩ := HRS.out.ext hX (by omega)
    obtain ⟨x0, x1, x2, x3, x4, x5⟩ := hcs j hlt
    have cn := (HCN.out j hlt).ext hX
    have hsh := HSH.out j hlt
    obtain ⟨⟨c0, c1, c2⟩, c3, c4⟩ := HBX.out _ hX
    have hlt' : (j : Int) < (n : Int) := by omega
    obtain ⟨W2, hW2⟩ : ∃ W2, W2 = wr.alloc (.cells #[.bool (R j).lo.neg, .slice (R j).lo.A (R j).lo.n (R j).lo.c, I (R j).lo.den, .bool (R j).hi.neg, .slice (R j).hi.A (R j).hi.n (R j).hi.c, I (R j).hi.den] 58) := ⟨_, rfl⟩
    have hE2 : Ext wr W2 := by rw [hW2]; exact Ext.alloc _ _
    have HB2 : Hid (B6 W2 wr.heap.size (.bool (R j).lo.neg) (.slice (R j).lo.A (R j).lo.n (R j).lo.c) (I (R j).lo.den) (.bool (R j).hi.neg) (.slice (R j).hi.A (R j).hi.n (R j).hi.c) (I (R j).hi.den)) := by show B6 _ _ _ _ _ _ _ _; rw [hW2]; exact B6.new _ _ _ _ _ _ _ _
    have HE2 := Lib.hid hE2
    have HX2 := Lib.hid (hX.trans hE2)
    obtain ⟨k, hk⟩ : ∃ k, (if j < m then X j else 0) = k := ⟨_, rfl⟩
    have hkr : 0 ≤ k ∧ k ≤ 255 := by
     rw [← hk]
     by_cases q : j < m
     ·rw [if_pos q]; exact HRU.out.2 j q
     ·rw [if_neg q]; omega
    have hsz0 := stX_sz hsh k ⟨by omega, by omega⟩
    have hpt : ptX S m X j = stX (S j) k := by unfold ptX; rw [hk]
    have HWI : Hid (∀ w', Ext W2 w' → Calls Tryz.prog 26 #[(R j).v] w' (DyRes (subD (S j).hi (S j).lo) w')) := fun w' x => riwidth_any (cn.ext (hE2.trans x)).iw
    have HOF : Hid (∀ w', Calls Tryz.prog 27 #[I k] w' (DyRes (ofI k 0) w')) := fun w' => rof_any k w' (by omega) (by omega)
    have HMU : Hid (∀ w' A c B e, Cn w' (cnR (subD (S j).hi (S j).lo) A c) (subD (S j).hi (S j).lo) → Cn w' (cnR (ofI k 0) B e) (ofI k 0) → Calls Tryz.prog 25 #[(cnR (subD (S j).hi (S j).lo) A c).v, (cnR (ofI k 0) B e).v] w' (DyRes (stW (S j) k) w')) := fun w' A c B e a b => rmul_any a.dy b.dy
    have HSF : Hid (∀ w' A c, Cn w' (cnR (stW (S j) k) A c) (stW (S j) k) → Calls Tryz.prog 24 #[(cnR (stW (S j) k) A c).v, I (-8)] w' (DyRes (shiftD (stW (S j) k) (-8)) w')) := fun w' A c a => rshift_any2 (-8) a.dy (by decide) (by decide)
    have HAD : Hid (∀ w' A c, Ext W2 w' → Cn w' (cnR (shiftD (stW (S j) k) (-8)) A c) (shiftD (stW (S j) k) (-8)) → Calls Tryz.prog 28 #[(R j).lo.v, dv (shiftD (stW (S j) k) (-8)).neg A (len (shiftD (stW (S j) k) (-8)).m) c (shiftD (stW (S j) k) (-8)).den] w' (DyRes (stX (S j) k) w')) := fun w' A c x a => radd_any (cn.lo.ext (hE2.trans x)).dy a.dy
    have HVF2 : Hid (∀ i, i < j + 1 → putD Vs j (stX (S j) k) i = ptX S m X i) := fun i hi => by
     unfold putD
     by_cases q : i = j
     ·rw [if_pos q, q, hpt]
     ·rw [if_neg q]; exact HVF.out i (by omega)
    have SZ := Lib.hid hsz0
    have HAX := Lib.hid hA
    have hki : IntKind.i64.wrap k = k := IntWalk.i64_in _ (by omega)
    have hnm : n ≤ 100 := hn100
    clear hcs cn hsh hsz0 hpt hX hE2
    generalize subD (S j).hi (S j).lo = dw at *
    generalize ofI k 0 = ow at *
    generalize shiftD (stW (S j) k) (-8) = sv at *
    generalize stW (S j) k = mv at *
    generalize stX (S j) k = tv at *
    generalize R j = rj at *
    obtain ⟨⟨n1, A1, l1, e1', d1⟩, ⟨n2, A2, l2, e2', d2⟩⟩ := rj
    simp only at hW2 x0 x1 x2 x3 x4 x5 HB2 HWI HAD
    rw [hA]
    clear hA
    by_cases hjm : j < m
    ·rw [if_pos hjm] at hk
     obtain ⟨bu, ou, hBu, hbu, hcu⟩ := (HRU.out.ext HX2.out).1 (by omega)
     have xu := hcu j hjm
     rw [hk] at xu
     have hjm' : (j : Int) < (m : Int) := by omega
     have HBU := Lib.hid hBu
     clear hcu hk
     rw [hBu] at HBX c4 ⊢
     clear hBu
     go_upto_region 10 with fail
     rw [← hW2]; clear hW2 x0 x1 x2 x3 x4 x5
     clear c0 c1 c2 c3 c4
     obtain ⟨⟨c0, c1, c2⟩, c3, c4⟩ := HBX.out _ HX2.out
     go_upto_region 13 with fail
     obtain ⟨⟨k0, k1, k2, k3, k4, k5⟩, _⟩ := HB2.out
     go_upto_region 14 with (first
      | (go_at_call 26; (with_reducible refine (HWI.out _ (Ext.refl _)).mono ?_); rintro e1 w6 hr; obtain ⟨A6, y6, rfl, cn6, _, hx6⟩ := hr.cn SZ.out.1.1 (Nat.le_trans SZ.out.1.2 (by decide)); have CN6 := Lib.hid cn6; have HX6 := Lib.hid hx6; clear hr cn6 hx6)
      | (go_at_call 27; (with_reducible refine (HOF.out _).mono ?_); rintro e1 w7 hr; obtain ⟨A7, y7, rfl, cn7, _, hx7⟩ := hr.cn SZ.out.2.1.1 (Nat.le_trans SZ.out.2.1.2 (by decide)); have CN7 := Lib.hid cn7; have HX7 := Lib.hid (HX6.out.trans hx7); have CN67 := Lib.hid (CN6.out.ext hx7); clear hr cn7 hx7)
      | (go_at_call 25; (with_reducible refine (HMU.out _ _ _ _ _ CN67.out CN7.out).mono ?_); rintro e1 w8 hr; obtain ⟨A8, y8, rfl, cn8, _, hx8⟩ := hr.cn SZ.out.2.2.1.1 (Nat.le_trans SZ.out.2.2.1.2 (by decide)); have CN8 := Lib.hid cn8; have HX8 := Lib.hid (HX7.out.trans hx8); clear hr cn8 hx8)
      | (go_at_call 24; (with_reducible refine (HSF.out _ _ _ CN8.out).mono ?_); rintro e1 w9 hr; obtain ⟨A9, y9, rfl, on9, hx9⟩ := hr; have CN9 := Lib.hid (Cn.on on9 SZ.out.2.2.2.1.1 (Nat.le_trans SZ.out.2.2.2.1.2 (by decide))); have HX9 := Lib.hid (HX8.out.trans hx9); clear on9 hx9))
     obtain ⟨WB, hWB⟩ : ∃ WB, WB = w9.alloc (.cells #[.bool sv.neg, .slice A9 (len sv.m) y9, I sv.den] 56) := ⟨_, rfl⟩
     have hEB : Ext w9 WB := by rw [hWB]; exact Ext.alloc _ _
     have hBB : Bx WB w9.heap.size (.bool sv.neg) (.slice A9 (len sv.m) y9) (I sv.den) := by rw [hWB]; exact Bx.new _ _ _ _ _
     have HXB := Lib.hid (HX9.out.trans hEB)
     have CNB := Lib.hid (CN9.out.ext hEB)
     rw [← hWB]
     clear hWB hEB k0 k1 k2 k3 k4 k5 c0 c1 c2 c3 c4
     obtain ⟨⟨k0, k1, k2, k3, k4, k5⟩, _⟩ := HB2.out.ext HXB.out
     obtain ⟨⟨b0, b1, b2⟩, _⟩ := hBB
     have hsz : w5.heap.size ≤ WB.heap.size := Nat.le_trans H.out.blt (HE2.out.trans HXB.out).size
     go_wp2_with (first
      | (go_at_call 28; (with_reducible refine (HAD.out _ _ _ HXB.out CNB.out).mono ?_); rintro e1 w10 hr; obtain ⟨A10, y10, rfl, on10, hx10⟩ := hr; have nw10 := dy_new on10; have CN10 := Lib.hid (Cn.on on10 SZ.out.2.2.2.2.1 (Nat.le_trans SZ.out.2.2.2.2.2 (by decide))); clear on10; have HX10 := Lib.hid (HE2.out.trans (HXB.out.trans hx10)); have NW10 : Hid (∀ a, A10 = some a → WB.heap.size ≤ a.block) := nw10; have hsz2 := hx10.size; clear nw10 hx10)
      | (at_builtin; refine appN rfl _ _ rfl w5.heap.size As cs (putR Rs j (cnR tv A10 y10)) j rfl (H.out.own' (HX10.out.trans (Ext.alloc _ _)) _) _ _ rfl (news3 rfl Rs j) (by omega) (by simp; omega) ?_; intro g5 cap w11 hown hgrow hat hltg; have HN := Lib.hid (H.out.step (HX10.out.trans (Ext.alloc _ _)) (cnR tv A10 y10) tv (CN10.out.ext (Ext.alloc _ _)) (fun _ a ha q => by have h1 := NW10.out a ha; have h2 := (H.out.own.lt a.block q.symm).2; have h3 := (HE2.out.trans HXB.out).size; omega) hown hgrow hat); clear hown hgrow hat hltg))
     (try rw [← HAX.out])
     (try rw [← HBU.out])
     go_roundw
     case rel => exact ⟨j + 1, _, _, _, _, by omega, by go_num, rfl, HN, HVF2⟩
     case measure => simp [intOf]; omega
    ·rw [if_neg hjm] at hk
     have hjm' : ¬ (j : Int) < (m : Int) := by omega
     have HBU : Hid (B = B) := rfl
     clear hkr
     subst hk
     go_upto_region 10 with fail
     rw [← hW2]; clear hW2 x0 x1 x2 x3 x4 x5
     clear c0 c1 c2 c3 c4
     obtain ⟨⟨c0, c1, c2⟩, c3, c4⟩ := HBX.out _ HX2.out
     go_upto_region 13 with fail
     obtain ⟨⟨k0, k1, k2, k3, k4, k5⟩, _⟩ := HB2.out
     go_upto_region 14 with (first
      | (go_at_call 26; (with_reducible refine (HWI.out _ (Ext.refl _)).mono ?_); rintro e1 w6 hr; obtain ⟨A6, y6, rfl, cn6, _, hx6⟩ := hr.cn SZ.out.1.1 (Nat.le_trans SZ.out.1.2 (by decide)); have CN6 := Lib.hid cn6; have HX6 := Lib.hid hx6; clear hr cn6 hx6)
      | (go_at_call 27; (with_reducible refine (HOF.out _).mono ?_); rintro e1 w7 hr; obtain ⟨A7, y7, rfl, cn7, _, hx7⟩ := hr.cn SZ.out.2.1.1 (Nat.le_trans SZ.out.2.1.2 (by decide)); have CN7 := Lib.hid cn7; have HX7 := Lib.hid (HX6.out.trans hx7); have CN67 := Lib.hid (CN6.out.ext hx7); clear hr cn7 hx7)
      | (go_at_call 25; (with_reducible refine (HMU.out _ _ _ _ _ CN67.out CN7.out).mono ?_); rintro e1 w8 hr; obtain ⟨A8, y8, rfl, cn8, _, hx8⟩ := hr.cn SZ.out.2.2.1.1 (Nat.le_trans SZ.out.2.2.1.2 (by decide)); have CN8 := Lib.hid cn8; have HX8 := Lib.hid (HX7.out.trans hx8); clear hr cn8 hx8)
      | (go_at_call 24; (with_reducible refine (HSF.out _ _ _ CN8.out).mono ?_); rintro e1 w9 hr; obtain ⟨A9, y9, rfl, on9, hx9⟩ := hr; have CN9 := Lib.hid (Cn.on on9 SZ.out.2.2.2.1.1 (Nat.le_trans SZ.out.2.2.2.1.2 (by decide))); have HX9 := Lib.hid (HX8.out.trans hx9); clear on9 hx9))
     obtain ⟨WB, hWB⟩ : ∃ WB, WB = w9.alloc (.cells #[.bool sv.neg, .slice A9 (len sv.m) y9, I sv.den] 56) := ⟨_, rfl⟩
     have hEB : Ext w9 WB := by rw [hWB]; exact Ext.alloc _ _
     have hBB : Bx WB w9.heap.size (.bool sv.neg) (.slice A9 (len sv.m) y9) (I sv.den) := by rw [hWB]; exact Bx.new _ _ _ _ _
     have HXB := Lib.hid (HX9.out.trans hEB)
     have CNB := Lib.hid (CN9.out.ext hEB)
     rw [← hWB]
     clear hWB hEB k0 k1 k2 k3 k4 k5 c0 c1 c2 c3 c4
     obtain ⟨⟨k0, k1, k2, k3, k4, k5⟩, _⟩ := HB2.out.ext HXB.out
     obtain ⟨⟨b0, b1, b2⟩, _⟩ := hBB
     have hsz : w5.heap.size ≤ WB.heap.size := Nat.le_trans H.out.blt (HE2.out.trans HXB.out).size
     go_wp2_with (first
      | (go_at_call 28; (with_reducible refine (HAD.out _ _ _ HXB.out CNB.out).mono ?_); rintro e1 w10 hr; obtain ⟨A10, y10, rfl, on10, hx10⟩ := hr; have nw10 := dy_new on10; have CN10 := Lib.hid (Cn.on on10 SZ.out.2.2.2.2.1 (Nat.le_trans SZ.out.2.2.2.2.2 (by decide))); clear on10; have HX10 := Lib.hid (HE2.out.trans (HXB.out.trans hx10)); have NW10 : Hid (∀ a, A10 = some a → WB.heap.size ≤ a.block) := nw10; have hsz2 := hx10.size; clear nw10 hx10)
      | (at_builtin; refine appN rfl _ _ rfl w5.heap.size As cs (putR Rs j (cnR tv A10 y10)) j rfl (H.out.own' (HX10.out.trans (Ext.alloc _ _)) _) _ _ rfl (news3 rfl Rs j) (by omega) (by simp; omega) ?_; intro g5 cap w11 hown hgrow hat hltg; have HN := Lib.hid (H.out.step (HX10.out.trans (Ext.alloc _ _)) (cnR tv A10 y10) tv (CN10.out.ext (Ext.alloc _ _)) (fun _ a ha q => by have h1 := NW10.out a ha; have h2 := (H.out.own.lt a.block q.symm).2; have h3 := (HE2.out.trans HXB.out).size; omega) hown hgrow hat); clear hown hgrow hat hltg))
     (try rw [← HAX.out])
     (try rw [← HBU.out])
     go_roundw
     case rel => exact ⟨j + 1, _, _, _, _, by omega, by go_num, rfl, HN, HVF2⟩
     case measure => simp [intOf]; omega
   ·obtain rfl : j = n := by omega
    have HL := Lib.hid (H.out.ln.congr HVF.out)
    have HX6 := Lib.hid (HX5.out.trans H.out.ext)
    have L6 := Lib.hid (L5.out.ext H.out.ext)
    obtain ⟨w6, hw6⟩ : ∃ w6, w6 = wr := ⟨_, rfl⟩
    subst hw6
    clear H HVF HCN HSH HRS HRU L5
    obtain ⟨⟨c0, c1, c2⟩, c3, c4⟩ := HBX.out _ HX6.out
    have HIS : Hid (∀ w, Calls Tryz.prog 23 #[.iface 48 (I 4), I 4] w fun e w' => e = .returned (.bool true) ∧ Ext w w') := fun w => by
     have := is_err 4 4 w; rwa [decide_eq_true rfl] at this
    have HBY : Hid (∀ w', Ext w6 w' → w'.cell? ⟨w.heap.size, 0, none⟩ = some (.slice p.AI D.ni p.cI) ∧ w'.cell? ⟨w.heap.size, 1, none⟩ = some (.slice p.AB D.nb p.cB) ∧ w'.cell? ⟨w.heap.size, 2, none⟩ = some (.slice p.AO D.no p.cO)) := fun w' x => (HBX.out w' (HX6.out.trans x)).1
    go_upto_region 16 with fail
    by_cases hg : tkG D (ptX S m X) (inpV D mi IN) = false
    ·have HSB2 := Lib.hid (HSB.out hg)
     clear HSG HSL HTK hg c3 c4
     go_region_held3 (fun w' => w'.cell? ⟨w.heap.size, 0, none⟩ = some (.slice p.AI D.ni p.cI) ∧ w'.cell? ⟨w.heap.size, 1, none⟩ = some (.slice p.AB D.nb p.cB) ∧ w'.cell? ⟨w.heap.size, 2, none⟩ = some (.slice p.AO D.no p.cO)) (first | with_reducible assumption | exact HBY.out _ ex2)
      (first
      | (go_at_call 30; (with_reducible refine (HIN.out _ (HX6.out.trans ex2)).mono ?_); rintro e1 w7 ⟨A7, c7, rfl, o7, h7⟩; have R7 := Lib.hid o7.ri; clear o7)
      | (go_at_call 29; (with_reducible refine (HSB2.out _ _ _ _ _ _ (HX6.out.trans ex2) (HL.out.ext ex2) (R7.out.ext ex2)).mono ?_); rintro e1 w8 ⟨rfl, h8⟩))
     all_goals
      go_wp2_with (go_at_call 23; (with_reducible refine (HIS.out _).mono ?_); rintro e1 w9 ⟨rfl, h9⟩)
      go_ret
      exact ⟨rfl, HE.out.trans (HX6.out.trans ex2)⟩
    ·have HSG2 := Lib.hid (HSG.out hg)
     have HSL2 := Lib.hid (HSL.out hg)
     clear HSB HSG HSL hg c3 c4
     go_region_held3 (fun w' => w'.cell? ⟨w.heap.size, 0, none⟩ = some (.slice p.AI D.ni p.cI) ∧ w'.cell? ⟨w.heap.size, 1, none⟩ = some (.slice p.AB D.nb p.cB) ∧ w'.cell? ⟨w.heap.size, 2, none⟩ = some (.slice p.AO D.no p.cO)) (first | with_reducible assumption | exact HBY.out _ ex2)
      (first
      | (go_at_call 30; (with_reducible refine (HIN.out _ (HX6.out.trans ex2)).mono ?_); rintro e1 w7 ⟨A7, c7, rfl, o7, h7⟩; have R7 := Lib.hid o7.ri; clear o7)
      | (go_at_call 29; (with_reducible refine (HSG2.out _ _ _ _ _ _ (HX6.out.trans ex2) (HL.out.ext ex2) (R7.out.ext ex2)).mono ?_); rintro e1 w8 ⟨gn, Rn', gv, Rv, rfl, _, lv, _, _, h8⟩; have LV := Lib.hid lv; clear lv))
     all_goals
      have HX8 : Hid (Ext w6 w8) := (show Ext w6 w8 from ex2)
      have L8 := Lib.hid (L6.out.ext HX8.out)
      have HTQ := Lib.hid (HTK.out (fun i hi => (L8.out.el i hi).gd) (fun i hi => (LV.out.el i hi).ok) HSL2.out)
      (try clear c0 c1 c2)
      obtain ⟨c0, c1, c2⟩ := HBY.out _ HX8.out
      have gnb : ((D.nb : Int) != (D.nb : Int)) = false := by simp
      go_wp2_with fail
      clear c0 c1 c2
      go_loopw [120] (fun s wr => ∃ i : Nat, i ≤ D.nb ∧ s = I i ∧ Hid (Ext w8 wr)) (fun s _ => D.nb - (intOf s).toNat)
      case atStart => exact ⟨0, Nat.zero_le _, rfl, Ext.refl _⟩
      case round =>
       obtain ⟨i, hi, rfl, HR⟩ := hrel
       by_cases hli : i < D.nb
       ·obtain ⟨v0, v1, v2⟩ := (LV.out.ext HR.out).cells hli
        obtain ⟨r0, r1, r2, r3, r4, r5⟩ := (L8.out.ext HR.out).cells hli
        have hlg := (L8.out.ext HR.out).row.lt
        have cv := (LV.out.ext HR.out).el i hli
        have cr := (L8.out.ext HR.out).el i hli
        have hcon := con_in cr.lo.ok cr.hi.ok cv.ok (HTQ.out i hli)
        have HCO : Hid (∀ w', Ext wr w' → Calls Tryz.prog 31 #[(R5 i).v, (Rv i).v] w' fun e w'' => e = .returned (.bool true) ∧ Ext w' w'') := fun w' x => by
         have := contains_any (cr.ext x).iw (cv.ext x).dy; rw [hcon] at this; exact this
        have hli' : (i : Int) < (D.nb : Int) := by omega
        obtain ⟨W2, hW2⟩ : ∃ W2, W2 = wr.alloc (.cells #[.bool (Rv i).neg, .slice (Rv i).A (Rv i).n (Rv i).c, I (Rv i).den] 56) := ⟨_, rfl⟩
        have hE2 : Ext wr W2 := by rw [hW2]; exact Ext.alloc _ _
        have hb2 : Bx W2 wr.heap.size (.bool (Rv i).neg) (.slice (Rv i).A (Rv i).n (Rv i).c) (I (Rv i).den) := by rw [hW2]; exact Bx.new _ _ _ _ _
        have HX2 := Lib.hid (HR.out.trans hE2)
        have HCO2 : Hid (∀ w', Ext W2 w' → Calls Tryz.prog 31 #[(R5 i).v, (Rv i).v] w' fun e w'' => e = .returned (.bool true) ∧ Ext w' w'') := fun w' x => HCO.out w' (hE2.trans x)
        have z0 := (hE2.old.1 _ _ hlg).trans r0; have z1 := (hE2.old.1 _ _ hlg).trans r1; have z2 := (hE2.old.1 _ _ hlg).trans r2
        have z3 := (hE2.old.1 _ _ hlg).trans r3; have z4 := (hE2.old.1 _ _ hlg).trans r4; have z5 := (hE2.old.1 _ _ hlg).trans r5
        have hlg2 : g5 < W2.heap.size := Nat.lt_of_lt_of_le hlg hE2.size
        have hl2 := hb2.lt
        obtain ⟨⟨b0, b1, b2⟩, _⟩ := hb2
        have hb : Ext W2 W2 := Ext.refl _
        clear cv cr hcon HCO hE2 r0 r1 r2 r3 r4 r5 hlg
        generalize R5 i = rr at *
        generalize Rv i = rv at *
        go_upto_region 24 with fail
        rw [← hW2]; clear hW2 v0 v1 v2
        have hL := fun (x : Later _) => (Ext.trans hb x.ext).old.1
        refine wp_region_later (by kernel_rfl) (by kernel_rfl) ?_
        repeat (go_big_quiet_step ((go_at_call 31; with_reducible exact Calls.later (HCO2.out _ (Later.ext _)))))
        refine wpQuiet_nil ?_
        intro w2 hw2
        replace hb := Ext.trans hb (Later.of hw2)
        clear hw2 hL
        obtain ⟨hc, hf⟩ := hb.old
        go_wp2_with fail
        go_roundw
        case rel => exact ⟨i + 1, by omega, by go_num, HX2.out.trans hb⟩
        case measure => simp [intOf]; omega
       ·have hiq : i = D.nb := by omega
        go_wp2_with fail
        go_ret
        exact ⟨rfl, HE.out.trans (HX6.out.trans (HX8.out.trans HR.out))⟩
theorem contain_any {w : World} {D : Dia} {p : Pl} {A B Ai : Option Addr} {n c m e mi ci : Nat} {R : Nat → RI} {F G : Nat → Nat → Nat} {X IN : Nat → Int} (d : Dm w D p) (hT : Tabs w) (st : StsI w A n R F G) (ru : Ru8 w B m X) (hm : m ≤ maxLen) (ri : Ri w Ai mi IN) (hmi : mi ≤ maxLen) :
  Calls Tryz.prog 5 #[dgv D p, .agg #[.slice A n c, .slice B m e], .slice Ai mi ci] w fun e w' => e = .returned (.bool true) ∧ Ext w w' := by
 by_cases h1 : litB D = true
 case neg => exact contain_off d hT st ru hm ri hmi (.inl (by simpa using h1))
 by_cases h2 : leI n R = true
 case neg => exact contain_off d hT st ru hm ri hmi (.inr (.inl (by simpa using h2)))
 by_cases h3 : 40 < mi
 ·exact contain_off d hT st ru hm ri hmi (.inr (.inr (.inl h3)))
 by_cases h4 : 100 < m
 ·exact contain_off d hT st ru hm ri hmi (.inr (.inr (.inr (.inl h4))))
 by_cases h5 : chk D = 0
 ·exact contain_on d hT st ru hm ri hmi h1 h2 (by omega) (by omega) h5
 ·exact contain_off d hT st ru hm ri hmi (.inr (.inr (.inr (.inr h5))))
end
section
open Go.ChangeShapes Go.WideShapes Go.ChangeAt Go.RowKit
section
variable {H : Type} {enc : TypeId × Value → H} {w : World} {base : Nat} {held : Bool}
theorem u8_slice {fuel : Nat} {cs : List Value} {x : DataW H × List MemPlace} (h : DataW.trod enc Tryz.prog w base (fun _ => true) held fuel 50 cs = some x) :
  ∃ (A : Option Addr) (n c : Nat) (f : Nat → Int), cs = [.slice A n c] ∧ n ≤ maxLen ∧ Ru8 w A n f := by
 rcases open_ints Tryz.underlying50 Tryz.underlying5 (by kernel_rfl) h with ⟨rfl, _⟩ | ⟨a, len, cap, zs, rfl, _, hl, hm, hz, _, hcell, hwf⟩
 ·exact ⟨none, 0, 0, fun _ => 0, rfl, Nat.zero_le _, fun h => absurd h (by omega), fun i hi => by omega⟩
 ·rw [if_pos rfl] at hz
  refine ⟨some a, len, cap, fun i => zs.getD i 0, rfl, by omega, fun h1 => ?_, fun i hi => ?_⟩
  ·obtain ⟨b, off, rfl, hc'⟩ := ints_at hcell (by omega)
   exact ⟨b, off, rfl, World.block_lt_of_cell? w _ (hc' 0 (by omega)), fun i hi => hc' i (by omega)⟩
  ·have hi' : i < zs.length := by omega
   have := hwf (zs.getD i 0) (by rw [List.getD_eq_getElem?_getD, List.getElem?_eq_getElem hi']; exact List.getElem_mem hi')
   show 0 ≤ zs.getD i 0 ∧ zs.getD i 0 ≤ 255
   generalize zs.getD i 0 = z at this
   simp [Lit.wf, IntKind.min, IntKind.max, IntKind.signed, IntKind.bits] at this
   omega
set_option maxRecDepth 100000 in
theorem open_state {w' : World} {b0 : Nat} {v : Value} {d : DataW H} {p : List MemPlace}
  (hv : Value.okWide Tryz.prog w' .any b0 52 v) (h : DataW.Trod enc Tryz.prog w base (fun _ => true) held 52 v d p) :
  ∃ (A : Option Addr) (n c : Nat) (R : Nat → RI) (F G : Nat → Nat → Nat) (B : Option Addr) (m e : Nat) (X : Nat → Int), v = .agg #[.slice A n c, .slice B m e] ∧ StsI w A n R F G ∧ Ru8 w B m X ∧ m ≤ maxLen := by
 obtain ⟨cs, rfl, _⟩ := okWide_struct Tryz.underlying52 hv
 obtain ⟨l⟩ := cs
 obtain ⟨fuel, hd⟩ := h
 have hd' : DataW.trod enc Tryz.prog w base (fun _ => true) held fuel 52 l = some (d, p) := hd
 obtain ⟨xs, m, _, _, hl, hlen, hf⟩ := DataW.trod_struct Tryz.underlying52 hd'
 have h3 : l.length = 2 := by rw [hl]; kernel_rfl
 match xs, hlen with
 | [y0, y1], _ =>
  match l, h3 with
  | [c0, c1], _ =>
   have k0 : Tryz.prog.cellsOf 27 = 1 := by kernel_rfl
   have k1 : Tryz.prog.cellsOf 50 = 1 := by kernel_rfl
   have e0 : DataW.trod enc Tryz.prog w base (fun _ => true) held m 27 (([c0, c1].drop 0).take (Tryz.prog.cellsOf 27)) = some y0 := hf 0 _ rfl
   have e1 : DataW.trod enc Tryz.prog w base (fun _ => true) held m 50 (([c0, c1].drop 1).take (Tryz.prog.cellsOf 50)) = some y1 := hf 1 _ rfl
   rw [k0] at e0
   rw [k1] at e1
   obtain ⟨A, n, c, R, F, G, g0, st⟩ := ivs_slice e0
   obtain ⟨B, m', e, X, g1, hn, r⟩ := u8_slice e1
   cases g0; cases g1
   exact ⟨A, n, c, R, F, G, B, m', e, X, rfl, st, r, hn⟩
end
end
end Go.Proofs.YtgnngldlgcdnfaaGreatDoor
