/- The law ScalesUniform: it returns true. -/
import Derived.Test.YtgnngldlgcdnfaaDoorSch
import Derived.Test.YtgnngldlgcdnfaaDoorScf
import Derived.Test.YtgnngldlgcdnfaaDoorScm
namespace Go.Proofs.YtgnngldlgcdnfaaDoor
open Go Go.RowKit
attribute [local go_sem ↓] Go.wp_at_zero Go.wp_at_succ

/-- Is one of the first n scales v, or was it said before? -/
def smN (z : Bool) (S : Nat → IV) (v : Int) : Nat → Bool
  | 0 => z
  | k + 1 => smN z S v k || (chS (S k) == v)
theorem smN_hit {z : Bool} {S : Nat → IV} {v : Int} {i : Nat} (h : chS (S i) = v) : ∀ n, i < n → smN z S v n = true
  | 0, q => by omega
  | n + 1, q => by
    unfold smN
    by_cases e : i = n
    · subst e; rw [h]; simp
    · rw [smN_hit h n (by omega)]; rfl
theorem smN_end (S : Nat → IV) (n : Nat) : smN ((n : Int) == 0) S (leS S n) n = true := by
  by_cases h : n = 0
  · subst h; rfl
  · obtain ⟨i, hi, e⟩ := leS_at S (n := n) (by omega)
    exact smN_hit e.symm n hi
set_option maxRecDepth 100000 in
set_option maxHeartbeats 4000000 in
theorem scalesUniform_off {w : World} {D : Dia} {p : Pl} {A B : Option Addr} {n c m e : Nat} {R : Nat → RI} {F G : Nat → Nat → Nat} {X : Nat → Int} (d : Dm w D p) (hT : Tabs w) (st : StsI w A n R F G) (_ : Ri w B m X) (hm : m ≤ maxLen) (h : litS D n R m = false ∨ chk D ≠ 0) :
    Calls Tryd.prog 4 #[dgv D p, rgv A n c B m e] w fun e w' => e = .returned (.bool true) ∧ Ext w w' := by
  have hn := st.hn
  unfold maxLen at hm hn
  obtain ⟨W1, hW1⟩ : ∃ W1, W1 = (w.alloc (.cells #[.slice p.AI D.ni p.cI, .slice p.AB D.nb p.cB, .slice p.AO D.no p.cO] 26)).alloc (.cells #[.slice A n c, .slice B m e] 29) := ⟨_, rfl⟩
  have hE : Ext w W1 := by rw [hW1]; exact (Ext.alloc _ _).trans (Ext.alloc _ _)
  have HBX : Hid (∀ w', Ext W1 w' → (w'.cell? ⟨w.heap.size, 0, none⟩ = some (.slice p.AI D.ni p.cI) ∧ w'.cell? ⟨w.heap.size, 1, none⟩ = some (.slice p.AB D.nb p.cB) ∧ w'.cell? ⟨w.heap.size, 2, none⟩ = some (.slice p.AO D.no p.cO)) ∧ w'.cell? ⟨w.heap.size + 1, 0, none⟩ = some (.slice A n c) ∧ w'.cell? ⟨w.heap.size + 1, 1, none⟩ = some (.slice B m e)) := fun w' x => by
    have hl : w.heap.size + 1 < W1.heap.size := by rw [hW1]; simp
    have hb : Bd w' w.heap.size D p := by
      have h0 : Bd W1 w.heap.size D p := by rw [hW1]; exact (Bd.new _ _ _ _).ext (Ext.alloc _ _)
      exact h0.ext x
    exact ⟨⟨hb.c0, hb.c1, hb.c2⟩, (x.old.1 _ _ hl).trans (by rw [hW1]; go_simp), (x.old.1 _ _ hl).trans (by rw [hW1]; go_simp)⟩
  have HA : Hid (∀ w', Ext W1 w' → Calls Tryd.prog 7 #[] w' fun e w'' => e = .returned (.bool true) ∧ Ext w' w'') := fun w' x => scAwake_any w' (hT.ext (hE.trans x))
  have HLI : Hid (∀ w', Ext W1 w' → Calls Tryd.prog 8 #[dgv D p, rgv A n c B m e] w' fun e w'' => e = .returned (.bool (litS D n R m)) ∧ Ext w' w'') := fun w' x => scLight_any (d.ext (hE.trans x)) (st.rn.ext (hE.trans x)) (by unfold maxLen; omega) (by unfold maxLen; omega)
  have HCK : Hid (∀ w', Ext W1 w' → Calls Tryd.prog 9 #[dgv D p] w' fun e w'' => e = .returned (errv (chk D)) ∧ Ext w' w'') := fun w' x => check_any (d.ext (hE.trans x)) (hT.ext (hE.trans x))
  have HE := Lib.hid hE
  obtain ⟨⟨c0, c1, c2⟩, c3, c4⟩ := HBX.out _ (Ext.refl _)
  clear d hT st hE
  cases hl : litS D n R m with
  | false =>
    rw [hl] at HLI
    clear h hl HCK
    go_enter Tryd.func4, Tryd.ntmps4
    go_upto_region 1 with fail
    rw [← hW1]; clear hW1
    go_wp2_with (first
        | (go_at_call 7; (with_reducible refine (HA.out _ (by (with_reducible (repeat (first | exact Ext.refl _ | assumption | (refine Ext.toSet ?_ (by omega)) | refine Ext.toAlloc ?_ | refine Ext.toDrew ?_ | refine Ext.toDrewN ?_ | refine Ext.trans ?_ (by assumption)))); (first | done | fail "no"))).mono ?_); rintro e1 w1 ⟨rfl, h1⟩; (try clear c0 c1 c2 c3 c4); obtain ⟨⟨c0, c1, c2⟩, c3, c4⟩ := HBX.out w1 (by (with_reducible (repeat (first | exact Ext.refl _ | assumption | (refine Ext.toSet ?_ (by omega)) | refine Ext.toAlloc ?_ | refine Ext.toDrew ?_ | refine Ext.toDrewN ?_ | refine Ext.trans ?_ (by assumption)))); (first | done | fail "no")))
        | (go_at_call 8; (with_reducible refine (HLI.out _ (by (with_reducible (repeat (first | exact Ext.refl _ | assumption | (refine Ext.toSet ?_ (by omega)) | refine Ext.toAlloc ?_ | refine Ext.toDrew ?_ | refine Ext.toDrewN ?_ | refine Ext.trans ?_ (by assumption)))); (first | done | fail "no"))).mono ?_); rintro e1 w2 ⟨rfl, h2⟩; (try clear c0 c1 c2 c3 c4); obtain ⟨⟨c0, c1, c2⟩, c3, c4⟩ := HBX.out w2 (by (with_reducible (repeat (first | exact Ext.refl _ | assumption | (refine Ext.toSet ?_ (by omega)) | refine Ext.toAlloc ?_ | refine Ext.toDrew ?_ | refine Ext.toDrewN ?_ | refine Ext.trans ?_ (by assumption)))); (first | done | fail "no"))))
    go_ret
    exact ⟨rfl, HE.out.trans (by (with_reducible (repeat (first | exact Ext.refl _ | assumption | (refine Ext.toSet ?_ (by omega)) | refine Ext.toAlloc ?_ | refine Ext.toDrew ?_ | refine Ext.toDrewN ?_ | refine Ext.trans ?_ (by assumption)))); (first | done | fail "no"))⟩
  | true =>
    rw [hl] at HLI
    have hk : chk D ≠ 0 := by rcases h with h | h; rw [hl] at h; cases h; exact h
    clear h hl
    rw [errv_n hk] at HCK
    clear hk
    generalize chk D = k at *
    go_enter Tryd.func4, Tryd.ntmps4
    go_upto_region 1 with fail
    rw [← hW1]; clear hW1
    go_wp2_with (first
        | (go_at_call 7; (with_reducible refine (HA.out _ (by (with_reducible (repeat (first | exact Ext.refl _ | assumption | (refine Ext.toSet ?_ (by omega)) | refine Ext.toAlloc ?_ | refine Ext.toDrew ?_ | refine Ext.toDrewN ?_ | refine Ext.trans ?_ (by assumption)))); (first | done | fail "no"))).mono ?_); rintro e1 w1 ⟨rfl, h1⟩; (try clear c0 c1 c2 c3 c4); obtain ⟨⟨c0, c1, c2⟩, c3, c4⟩ := HBX.out w1 (by (with_reducible (repeat (first | exact Ext.refl _ | assumption | (refine Ext.toSet ?_ (by omega)) | refine Ext.toAlloc ?_ | refine Ext.toDrew ?_ | refine Ext.toDrewN ?_ | refine Ext.trans ?_ (by assumption)))); (first | done | fail "no")))
        | (go_at_call 8; (with_reducible refine (HLI.out _ (by (with_reducible (repeat (first | exact Ext.refl _ | assumption | (refine Ext.toSet ?_ (by omega)) | refine Ext.toAlloc ?_ | refine Ext.toDrew ?_ | refine Ext.toDrewN ?_ | refine Ext.trans ?_ (by assumption)))); (first | done | fail "no"))).mono ?_); rintro e1 w2 ⟨rfl, h2⟩; (try clear c0 c1 c2 c3 c4); obtain ⟨⟨c0, c1, c2⟩, c3, c4⟩ := HBX.out w2 (by (with_reducible (repeat (first | exact Ext.refl _ | assumption | (refine Ext.toSet ?_ (by omega)) | refine Ext.toAlloc ?_ | refine Ext.toDrew ?_ | refine Ext.toDrewN ?_ | refine Ext.trans ?_ (by assumption)))); (first | done | fail "no")))
        | (go_at_call 9; (with_reducible refine (HCK.out _ (by (with_reducible (repeat (first | exact Ext.refl _ | assumption | (refine Ext.toSet ?_ (by omega)) | refine Ext.toAlloc ?_ | refine Ext.toDrew ?_ | refine Ext.toDrewN ?_ | refine Ext.trans ?_ (by assumption)))); (first | done | fail "no"))).mono ?_); rintro e1 w3 ⟨rfl, h3⟩; (try clear c0 c1 c2 c3 c4); obtain ⟨⟨c0, c1, c2⟩, c3, c4⟩ := HBX.out w3 (by (with_reducible (repeat (first | exact Ext.refl _ | assumption | (refine Ext.toSet ?_ (by omega)) | refine Ext.toAlloc ?_ | refine Ext.toDrew ?_ | refine Ext.toDrewN ?_ | refine Ext.trans ?_ (by assumption)))); (first | done | fail "no"))))
    go_ret
    exact ⟨rfl, HE.out.trans (by (with_reducible (repeat (first | exact Ext.refl _ | assumption | (refine Ext.toSet ?_ (by omega)) | refine Ext.toAlloc ?_ | refine Ext.toDrew ?_ | refine Ext.toDrewN ?_ | refine Ext.trans ?_ (by assumption)))); (first | done | fail "no"))⟩
set_option maxRecDepth 100000 in
set_option maxHeartbeats 4000000 in
theorem uniform_on {w : World} {D : Dia} {p : Pl} {A B : Option Addr} {n c m e : Nat} {R : Nat → RI} {F G : Nat → Nat → Nat} {X : Nat → Int} (d : Dm w D p) (hT : Tabs w) (st : StsI w A n R F G) (_ : Ri w B m X) (hm : m ≤ maxLen) (hlt : litS D n R m = true) (hk : chk D = 0) :
    Calls Tryd.prog 4 #[dgv D p, rgv A n c B m e] w fun e w' => e = .returned (.bool true) ∧ Ext w w' := by
  have hn := st.hn
  unfold maxLen at hm hn
  obtain ⟨W1, hW1⟩ : ∃ W1, W1 = (w.alloc (.cells #[.slice p.AI D.ni p.cI, .slice p.AB D.nb p.cB, .slice p.AO D.no p.cO] 26)).alloc (.cells #[.slice A n c, .slice B m e] 29) := ⟨_, rfl⟩
  have hE : Ext w W1 := by rw [hW1]; exact (Ext.alloc _ _).trans (Ext.alloc _ _)
  have HBX : Hid (∀ w', Ext W1 w' → (w'.cell? ⟨w.heap.size, 0, none⟩ = some (.slice p.AI D.ni p.cI) ∧ w'.cell? ⟨w.heap.size, 1, none⟩ = some (.slice p.AB D.nb p.cB) ∧ w'.cell? ⟨w.heap.size, 2, none⟩ = some (.slice p.AO D.no p.cO)) ∧ w'.cell? ⟨w.heap.size + 1, 0, none⟩ = some (.slice A n c) ∧ w'.cell? ⟨w.heap.size + 1, 1, none⟩ = some (.slice B m e)) := fun w' x => by
    have hl : w.heap.size + 1 < W1.heap.size := by rw [hW1]; simp
    have hb : Bd w' w.heap.size D p := by
      have h0 : Bd W1 w.heap.size D p := by rw [hW1]; exact (Bd.new _ _ _ _).ext (Ext.alloc _ _)
      exact h0.ext x
    exact ⟨⟨hb.c0, hb.c1, hb.c2⟩, (x.old.1 _ _ hl).trans (by rw [hW1]; go_simp), (x.old.1 _ _ hl).trans (by rw [hW1]; go_simp)⟩
  have HA : Hid (∀ w', Ext W1 w' → Calls Tryd.prog 7 #[] w' fun e w'' => e = .returned (.bool true) ∧ Ext w' w'') := fun w' x => scAwake_any w' (hT.ext (hE.trans x))
  have HLI : Hid (∀ w', Ext W1 w' → Calls Tryd.prog 8 #[dgv D p, rgv A n c B m e] w' fun e w'' => e = .returned (.bool (litS D n R m)) ∧ Ext w' w'') := fun w' x => scLight_any (d.ext (hE.trans x)) (st.rn.ext (hE.trans x)) (by unfold maxLen; omega) (by unfold maxLen; omega)
  have HCK : Hid (∀ w', Ext W1 w' → Calls Tryd.prog 9 #[dgv D p] w' fun e w'' => e = .returned (errv (chk D)) ∧ Ext w' w'') := fun w' x => check_any (d.ext (hE.trans x)) (hT.ext (hE.trans x))
  have HE := Lib.hid hE
  obtain ⟨⟨c0, c1, c2⟩, c3, c4⟩ := HBX.out _ (Ext.refl _)
  obtain ⟨hn100, el⟩ := st.el (litS_t hlt).2.1
  obtain ⟨S, hS⟩ : ∃ S, ivS R F G = S := ⟨_, rfl⟩
  obtain ⟨b, hb⟩ : ∃ b, ivO R F G = b := ⟨_, rfl⟩
  rw [hS, hb] at el
  rw [hlt] at HLI
  have ok := chk_ok hk
  have hnb := ok.nb
  rw [hk, errv_z] at HCK
  have HCH : Hid (∀ w', Ext W1 w' → Calls Tryd.prog 10 #[dgv D p, .slice A n c] w' (ChP D n b S w')) := fun w' x => Choose_any (d.ext (hE.trans x)) (hT.ext (hE.trans x)) (by omega) (st.rn.ext (hE.trans x)) fun k hk => ((el k hk).ext (hE.trans x)).toElI
  have HUN : Hid (∀ w', Ext W1 w' → Calls Tryd.prog 17 #[dgv D p, .slice A n c] w' (UnP D n b S w')) := fun w' x => Uniform_any (d.ext (hE.trans x)) (hT.ext (hE.trans x)) (by omega) (st.rn.ext (hE.trans x)) fun k hk => ((el k hk).ext (hE.trans x)).toElI
  rcases Decidable.em (chX D n b S = 0) with hz | hz
  case inr =>
    have HC2 : Hid (∀ w', Ext W1 w' → Calls Tryd.prog 10 #[dgv D p, .slice A n c] w' fun e w'' => e = .returned (.tuple #[.slice none 0 0, .iface 38 (I (chX D n b S))]) ∧ Ext w' w'') := fun w' x => (HCH.out w' x).mono fun e w'' hh => by
      rcases hh with ⟨_, h2⟩ | ⟨h1, _⟩
      · exact h2
      · exact absurd h1 hz
    have HU2 : Hid (∀ w', Ext W1 w' → Calls Tryd.prog 17 #[dgv D p, .slice A n c] w' fun e w'' => e = .returned (.tuple #[.slice none 0 0, .iface 38 (I (chX D n b S))]) ∧ Ext w' w'') := fun w' x => (HUN.out w' x).mono fun e w'' hh => by
      rcases hh with ⟨_, h2⟩ | ⟨h1, _⟩
      · exact h2
      · exact absurd h1 hz
    clear d hT st hE hlt hk el HCH HUN hz ok hnb
    generalize chX D n b S = k at *
    have HNM := Lib.hid (num_err k)
    go_enter Tryd.func4, Tryd.ntmps4
    go_upto_region 1 with fail
    rw [← hW1]; clear hW1
    go_wp2_with (first
        | (go_at_call 7; (with_reducible refine (HA.out _ (by (with_reducible (repeat (first | exact Ext.refl _ | assumption | (refine Ext.toSet ?_ (by omega)) | refine Ext.toAlloc ?_ | refine Ext.toDrew ?_ | refine Ext.toDrewN ?_ | refine Ext.trans ?_ (by assumption)))); (first | done | fail "no"))).mono ?_); rintro e1 w1 ⟨rfl, h1⟩; (try clear c0 c1 c2 c3 c4); obtain ⟨⟨c0, c1, c2⟩, c3, c4⟩ := HBX.out w1 (by (with_reducible (repeat (first | exact Ext.refl _ | assumption | (refine Ext.toSet ?_ (by omega)) | refine Ext.toAlloc ?_ | refine Ext.toDrew ?_ | refine Ext.toDrewN ?_ | refine Ext.trans ?_ (by assumption)))); (first | done | fail "no")))
        | (go_at_call 8; (with_reducible refine (HLI.out _ (by (with_reducible (repeat (first | exact Ext.refl _ | assumption | (refine Ext.toSet ?_ (by omega)) | refine Ext.toAlloc ?_ | refine Ext.toDrew ?_ | refine Ext.toDrewN ?_ | refine Ext.trans ?_ (by assumption)))); (first | done | fail "no"))).mono ?_); rintro e1 w2 ⟨rfl, h2⟩; (try clear c0 c1 c2 c3 c4); obtain ⟨⟨c0, c1, c2⟩, c3, c4⟩ := HBX.out w2 (by (with_reducible (repeat (first | exact Ext.refl _ | assumption | (refine Ext.toSet ?_ (by omega)) | refine Ext.toAlloc ?_ | refine Ext.toDrew ?_ | refine Ext.toDrewN ?_ | refine Ext.trans ?_ (by assumption)))); (first | done | fail "no")))
        | (go_at_call 9; (with_reducible refine (HCK.out _ (by (with_reducible (repeat (first | exact Ext.refl _ | assumption | (refine Ext.toSet ?_ (by omega)) | refine Ext.toAlloc ?_ | refine Ext.toDrew ?_ | refine Ext.toDrewN ?_ | refine Ext.trans ?_ (by assumption)))); (first | done | fail "no"))).mono ?_); rintro e1 w3 ⟨rfl, h3⟩; (try clear c0 c1 c2 c3 c4); obtain ⟨⟨c0, c1, c2⟩, c3, c4⟩ := HBX.out w3 (by (with_reducible (repeat (first | exact Ext.refl _ | assumption | (refine Ext.toSet ?_ (by omega)) | refine Ext.toAlloc ?_ | refine Ext.toDrew ?_ | refine Ext.toDrewN ?_ | refine Ext.trans ?_ (by assumption)))); (first | done | fail "no")))
        | (go_at_call 10; (with_reducible refine (HC2.out _ (by (with_reducible (repeat (first | exact Ext.refl _ | assumption | (refine Ext.toSet ?_ (by omega)) | refine Ext.toAlloc ?_ | refine Ext.toDrew ?_ | refine Ext.toDrewN ?_ | refine Ext.trans ?_ (by assumption)))); (first | done | fail "no"))).mono ?_); rintro e1 w4 ⟨rfl, h4⟩; (try clear c0 c1 c2 c3 c4); obtain ⟨⟨c0, c1, c2⟩, c3, c4⟩ := HBX.out w4 (by (with_reducible (repeat (first | exact Ext.refl _ | assumption | (refine Ext.toSet ?_ (by omega)) | refine Ext.toAlloc ?_ | refine Ext.toDrew ?_ | refine Ext.toDrewN ?_ | refine Ext.trans ?_ (by assumption)))); (first | done | fail "no")))
        | (go_at_call 17; (with_reducible refine (HU2.out _ (by (with_reducible (repeat (first | exact Ext.refl _ | assumption | (refine Ext.toSet ?_ (by omega)) | refine Ext.toAlloc ?_ | refine Ext.toDrew ?_ | refine Ext.toDrewN ?_ | refine Ext.trans ?_ (by assumption)))); (first | done | fail "no"))).mono ?_); rintro e1 w5 ⟨rfl, h5⟩; (try clear c0 c1 c2 c3 c4); obtain ⟨⟨c0, c1, c2⟩, c3, c4⟩ := HBX.out w5 (by (with_reducible (repeat (first | exact Ext.refl _ | assumption | (refine Ext.toSet ?_ (by omega)) | refine Ext.toAlloc ?_ | refine Ext.toDrew ?_ | refine Ext.toDrewN ?_ | refine Ext.trans ?_ (by assumption)))); (first | done | fail "no")))
        | (go_at_call 18; (with_reducible refine (HNM.out _).mono ?_); rintro e1 w6 ⟨rfl, h6⟩))
    go_ret
    exact ⟨by simp, HE.out.trans (by (with_reducible (repeat (first | exact Ext.refl _ | assumption | (refine Ext.toSet ?_ (by omega)) | refine Ext.toAlloc ?_ | refine Ext.toDrew ?_ | refine Ext.toDrewN ?_ | refine Ext.trans ?_ (by assumption)))); (first | done | fail "no"))⟩
  case inl =>
    have HC2 : Hid (∀ w', Ext W1 w' → Calls Tryd.prog 10 #[dgv D p, .slice A n c] w' fun e w'' => ∃ g, e = .returned (.tuple #[.slice (some ⟨g, 0, none⟩) n n, .nilIface]) ∧ RnM w' w'' g n (fun i => chS (S i))) := fun w' x => (HCH.out w' x).mono fun e w'' hh => by
      rcases hh with ⟨h1, _⟩ | ⟨_, h2⟩
      · exact absurd hz h1
      · exact h2
    have HU2 : Hid (∀ w', Ext W1 w' → Calls Tryd.prog 17 #[dgv D p, .slice A n c] w' fun e w'' => ∃ A' c', e = .returned (.tuple #[.slice A' n c', .nilIface]) ∧ Ri w'' A' n (fun _ => leS S n) ∧ Ext w' w'') := fun w' x => (HUN.out w' x).mono fun e w'' hh => by
      rcases hh with ⟨h1, _⟩ | ⟨_, h2⟩
      · exact absurd hz h1
      · exact h2
    have hce : chE D.nb n b S = 0 := by unfold chX at hz; rwa [if_neg (by omega)] at hz
    obtain ⟨hr, hge⟩ := chE_z hce
    obtain ⟨hnn, hbt⟩ := rgE_z hr
    have hcn : ∀ k, k < n → CnI W1 (R k) (S k) := fun k hk => ((el k hk).ext hE).cn (hbt k hk)
    have HFT : Hid (∀ w' B' c', Ext W1 w' → Ri w' B' n (fun _ => leS S n) → Calls Tryd.prog 12 #[dgv D p, .slice A n c, .slice B' n c'] w' fun e w'' => e = .returned (.tuple #[.bool true, .nilIface]) ∧ Ext w' w'') := fun w' B' c' x rg =>
      (Fits_any (d.ext (hE.trans x)) (hT.ext (hE.trans x)) (by omega) (st.rn.ext (hE.trans x)) (fun k hk' => ((el k hk').ext (hE.trans x)).toElI) rg).mono fun e w'' hh => by
        have hf : ftX D n b n = 0 := ftX_ok hk hr hnn
        rcases hh with ⟨h1, _⟩ | ⟨_, h2, h3⟩
        · exact absurd hf h1
        · rw [ft_le (fun i hi => ⟨(hcn i hi).lo.ok, (hcn i hi).hi.ok⟩) hge] at h2; exact ⟨h2, h3⟩
    have HSH : Hid (∀ w' B' c', Ext W1 w' → Ri w' B' n (fun _ => leS S n) → Calls Tryd.prog 19 #[dgv D p, .slice B' n c'] w' fun e w'' => e = .returned (.tuple #[I (inN D (leS S n) D.nb : Nat), .nilIface]) ∧ Ext w' w'') := fun w' B' c' x r =>
      (Shifts_any (d.ext (hE.trans x)) (hT.ext (hE.trans x)) (by unfold maxLen; omega) r).mono fun e w'' hh => by
        have hs : shX D n = 0 := by unfold shX; rw [if_neg (by omega), if_neg (by omega)]
        rcases hh with ⟨q, _⟩ | ⟨_, q⟩
        · exact absurd hs q
        · rw [sh_same ok (fun _ _ => rfl) D.nb (Nat.le_refl _)] at q; exact q
    have HIN := Lib.hid (inN_le D (leS S n) D.nb).1
    have HLE := Lib.hid (fun i (hi : i < n) => leS_le S hi)
    have HEND := Lib.hid (smN_end S n)
    have HD := Lib.hid (d.ext hE)
    obtain ⟨v, hv⟩ : ∃ v, leS S n = v := ⟨_, rfl⟩
    obtain ⟨q, hq⟩ : ∃ q, inN D v D.nb = q := ⟨_, rfl⟩
    obtain ⟨z0, hz0⟩ : ∃ z0, ((n : Int) == 0) = z0 := ⟨_, rfl⟩
    rw [hv] at HU2 HFT HSH HIN HLE HEND
    rw [hq] at HSH HIN
    rw [hz0] at HEND
    have hn1 : ((n : Int) != (n : Int)) = false := by simp
    have HNN := Lib.hid hnn
    have HW0 : Hid (w.heap.size < W1.heap.size) := by show _ < _; rw [hW1]; simp; omega
    clear d hT st hE hlt hk el HCH HUN hz hce hr hge hnn hbt hcn hv hq ok
    go_enter Tryd.func4, Tryd.ntmps4
    go_upto_region 1 with fail
    rw [← hW1]; clear hW1
    go_upto_region 9 with (first
        | (go_at_call 7; (with_reducible refine (HA.out _ (by (with_reducible (repeat (first | exact Ext.refl _ | assumption | (refine Ext.toSet ?_ (by omega)) | refine Ext.toAlloc ?_ | refine Ext.toDrew ?_ | refine Ext.toDrewN ?_ | refine Ext.trans ?_ (by assumption)))); (first | done | fail "no"))).mono ?_); rintro e1 w1 ⟨rfl, h1⟩; (try clear c0 c1 c2 c3 c4); obtain ⟨⟨c0, c1, c2⟩, c3, c4⟩ := HBX.out w1 (by (with_reducible (repeat (first | exact Ext.refl _ | assumption | (refine Ext.toSet ?_ (by omega)) | refine Ext.toAlloc ?_ | refine Ext.toDrew ?_ | refine Ext.toDrewN ?_ | refine Ext.trans ?_ (by assumption)))); (first | done | fail "no")))
        | (go_at_call 8; (with_reducible refine (HLI.out _ (by (with_reducible (repeat (first | exact Ext.refl _ | assumption | (refine Ext.toSet ?_ (by omega)) | refine Ext.toAlloc ?_ | refine Ext.toDrew ?_ | refine Ext.toDrewN ?_ | refine Ext.trans ?_ (by assumption)))); (first | done | fail "no"))).mono ?_); rintro e1 w2 ⟨rfl, h2⟩; (try clear c0 c1 c2 c3 c4); obtain ⟨⟨c0, c1, c2⟩, c3, c4⟩ := HBX.out w2 (by (with_reducible (repeat (first | exact Ext.refl _ | assumption | (refine Ext.toSet ?_ (by omega)) | refine Ext.toAlloc ?_ | refine Ext.toDrew ?_ | refine Ext.toDrewN ?_ | refine Ext.trans ?_ (by assumption)))); (first | done | fail "no")))
        | (go_at_call 9; (with_reducible refine (HCK.out _ (by (with_reducible (repeat (first | exact Ext.refl _ | assumption | (refine Ext.toSet ?_ (by omega)) | refine Ext.toAlloc ?_ | refine Ext.toDrew ?_ | refine Ext.toDrewN ?_ | refine Ext.trans ?_ (by assumption)))); (first | done | fail "no"))).mono ?_); rintro e1 w3 ⟨rfl, h3⟩; (try clear c0 c1 c2 c3 c4); obtain ⟨⟨c0, c1, c2⟩, c3, c4⟩ := HBX.out w3 (by (with_reducible (repeat (first | exact Ext.refl _ | assumption | (refine Ext.toSet ?_ (by omega)) | refine Ext.toAlloc ?_ | refine Ext.toDrew ?_ | refine Ext.toDrewN ?_ | refine Ext.trans ?_ (by assumption)))); (first | done | fail "no")))
        | (go_at_call 10; (with_reducible refine (HC2.out _ (by (with_reducible (repeat (first | exact Ext.refl _ | assumption | (refine Ext.toSet ?_ (by omega)) | refine Ext.toAlloc ?_ | refine Ext.toDrew ?_ | refine Ext.toDrewN ?_ | refine Ext.trans ?_ (by assumption)))); (first | done | fail "no"))).mono ?_); rintro e1 w4 ⟨g, rfl, rg4⟩; have RG4 := Lib.hid rg4; have h4 := rg4.ext; clear rg4; (try clear c0 c1 c2 c3 c4); obtain ⟨⟨c0, c1, c2⟩, c3, c4⟩ := HBX.out w4 (by (with_reducible (repeat (first | exact Ext.refl _ | assumption | (refine Ext.toSet ?_ (by omega)) | refine Ext.toAlloc ?_ | refine Ext.toDrew ?_ | refine Ext.toDrewN ?_ | refine Ext.trans ?_ (by assumption)))); (first | done | fail "no")))
        | (go_at_call 17; (with_reducible refine (HU2.out _ (by (with_reducible (repeat (first | exact Ext.refl _ | assumption | (refine Ext.toSet ?_ (by omega)) | refine Ext.toAlloc ?_ | refine Ext.toDrew ?_ | refine Ext.toDrewN ?_ | refine Ext.trans ?_ (by assumption)))); (first | done | fail "no"))).mono ?_); rintro e1 w5 ⟨A5, c5, rfl, r5, h5⟩; have R5 := Lib.hid r5; clear r5; (try clear c0 c1 c2 c3 c4); obtain ⟨⟨c0, c1, c2⟩, c3, c4⟩ := HBX.out w5 (by (with_reducible (repeat (first | exact Ext.refl _ | assumption | (refine Ext.toSet ?_ (by omega)) | refine Ext.toAlloc ?_ | refine Ext.toDrew ?_ | refine Ext.toDrewN ?_ | refine Ext.trans ?_ (by assumption)))); (first | done | fail "no")))
        | (go_at_call 12; (with_reducible refine (HFT.out _ _ _ (by (with_reducible (repeat (first | exact Ext.refl _ | assumption | (refine Ext.toSet ?_ (by omega)) | refine Ext.toAlloc ?_ | refine Ext.toDrew ?_ | refine Ext.toDrewN ?_ | refine Ext.trans ?_ (by assumption)))); (first | done | fail "no")) R5.out).mono ?_); rintro e1 w6 ⟨rfl, h6⟩; (try clear c0 c1 c2 c3 c4); obtain ⟨⟨c0, c1, c2⟩, c3, c4⟩ := HBX.out w6 (by (with_reducible (repeat (first | exact Ext.refl _ | assumption | (refine Ext.toSet ?_ (by omega)) | refine Ext.toAlloc ?_ | refine Ext.toDrew ?_ | refine Ext.toDrewN ?_ | refine Ext.trans ?_ (by assumption)))); (first | done | fail "no")))
        | (go_at_call 19; (with_reducible refine (HSH.out _ _ _ (by (with_reducible (repeat (first | exact Ext.refl _ | assumption | (refine Ext.toSet ?_ (by omega)) | refine Ext.toAlloc ?_ | refine Ext.toDrew ?_ | refine Ext.toDrewN ?_ | refine Ext.trans ?_ (by assumption)))); (first | done | fail "no")) (R5.out.ext (by (with_reducible (repeat (first | exact Ext.refl _ | assumption | (refine Ext.toSet ?_ (by omega)) | refine Ext.toAlloc ?_ | refine Ext.toDrew ?_ | refine Ext.toDrewN ?_ | refine Ext.trans ?_ (by assumption)))); (first | done | fail "no")))).mono ?_); rintro e1 w7 ⟨rfl, h7⟩; (try clear c0 c1 c2 c3 c4); obtain ⟨⟨c0, c1, c2⟩, c3, c4⟩ := HBX.out w7 (by (with_reducible (repeat (first | exact Ext.refl _ | assumption | (refine Ext.toSet ?_ (by omega)) | refine Ext.toAlloc ?_ | refine Ext.toDrew ?_ | refine Ext.toDrewN ?_ | refine Ext.trans ?_ (by assumption)))); (first | done | fail "no"))))
    have HX7 : Hid (Ext W1 w7) := (show Ext W1 w7 from (by (with_reducible (repeat (first | exact Ext.refl _ | assumption | (refine Ext.toSet ?_ (by omega)) | refine Ext.toAlloc ?_ | refine Ext.toDrew ?_ | refine Ext.toDrewN ?_ | refine Ext.trans ?_ (by assumption)))); (first | done | fail "no")))
    have RG7 := Lib.hid (RG4.out.to (show Ext w4 w7 from (by (with_reducible (repeat (first | exact Ext.refl _ | assumption | (refine Ext.toSet ?_ (by omega)) | refine Ext.toAlloc ?_ | refine Ext.toDrew ?_ | refine Ext.toDrewN ?_ | refine Ext.trans ?_ (by assumption)))); (first | done | fail "no"))))
    have R7 := Lib.hid (R5.out.ext (show Ext w5 w7 from (by (with_reducible (repeat (first | exact Ext.refl _ | assumption | (refine Ext.toSet ?_ (by omega)) | refine Ext.toAlloc ?_ | refine Ext.toDrew ?_ | refine Ext.toDrewN ?_ | refine Ext.trans ?_ (by assumption)))); (first | done | fail "no"))))
    clear h1 h2 h3 h4 h5 h6 h7 HA HLI HCK HC2 HU2 HFT HSH RG4 R5 c0 c1 c2 c3 c4
    go_wp2_with fail
    go_loopw [13, 14, 91] (fun s13 s14 s wr => ∃ (k q : Nat) (z : Bool), k ≤ n ∧ s = I k ∧ s13 = .bool z ∧ s14 = I q ∧ q ≤ k ∧ Hid (kinN D k = q) ∧ Hid (smN z0 S v k = z) ∧ Hid (Ext w7 wr)) (fun _ _ s _ => n - (intOf s).toNat)
    case atStart => exact ⟨0, 0, z0, Nat.zero_le _, rfl, rfl, rfl, Nat.le_refl _, rfl, rfl, Ext.refl _⟩
    case round =>
      clear hz0
      obtain ⟨k, q', z, hk, rfl, rfl, rfl, hqk, HQ, HZ, H⟩ := hrel
      by_cases hlt : k < n
      · have xg := (RG7.out.to H.out).row.cell hlt
        have lg := (RG7.out.to H.out).row.lt
        obtain ⟨bb, ob, hA, hbb, hcb⟩ := (R7.out.ext H.out) (by omega)
        have y0 := hcb 0 (by omega)
        have y1 := hcb k hlt
        rw [Nat.add_zero] at y0
        have hlt' : (k : Int) < (n : Int) := by omega
        have hlb' : (k : Int) < (D.nb : Int) := by have := HNN.out; omega
        have hn0 : (0 : Int) < (n : Int) := by omega
        have hle := HLE.out k hlt
        have dd := HD.out.ext (HX7.out.trans H.out)
        obtain ⟨bB, oB, hab, hbB, hcB⟩ := dd.blocks (by omega)
        obtain ⟨x0, x1, x2, x3, x4, x5⟩ := hcB k (by omega)
        have HQ2 : Hid (kinN D (k + 1) = q' + if (D.B k).k = 0 then 1 else 0) := by show _ = _; rw [← HQ.out]; rfl
        have HZ2 : Hid (smN z0 S v (k + 1) = (z || (chS (S k) == v))) := by show _ = _; rw [← HZ.out]; rfl
        obtain ⟨u, hu⟩ : ∃ u, chS (S k) = u := ⟨_, rfl⟩
        simp only [hu] at xg hle HZ2
        obtain ⟨kd, hkd⟩ : ∃ kd, (D.B k).k = kd := ⟨_, rfl⟩
        rw [hkd] at x0 HQ2
        clear hu hkd x1 x2 x3 x4 x5 hcb hcB dd
        obtain ⟨⟨c0, c1, c2⟩, c3, c4⟩ := HBX.out _ (HX7.out.trans H.out)
        have hz0 : w.heap.size < wr.heap.size := by have a := HE.out.size; have b := HX7.out.size; have c := H.out.size; have d := HW0.out; omega
        have hb : Ext wr wr := Ext.refl _
        have g1 : (v != v) = false := by simp
        have g2 : decide (u < v) = false := decide_eq_false (by omega)
        clear hle
        have HAX := Lib.hid hA
        have HAB := Lib.hid hab
        rw [hA]
        clear hA
        by_cases hkz : kd = 0
        · have hk1 : (kd == 0) = true := by simp [hkz]
          have HQ3 : Hid (kinN D (k + 1) = q' + 1) := by show _ = _; rw [HQ2.out, if_pos hkz]
          clear hkz HQ2
          cases z with
          | true =>
            have HZ3 : Hid (smN z0 S v (k + 1) = true) := HZ2.out
            clear HZ2
            go_upto_region 16 with fail
            have hL := fun (x : Later _) => (Ext.trans hb x.ext).old.1
            refine wp_region_later (by kernel_rfl) (by kernel_rfl) ?_
            repeat (go_big_quiet_step (fail))
            refine wpQuiet_nil ?_
            intro w2 hw2
            replace hb := Ext.trans hb (Later.of hw2)
            clear hw2 hL
            obtain ⟨hc, hf⟩ := hb.old
            go_upto_region 18 with fail
            have hL := fun (x : Later _) => (Ext.trans hb x.ext).old.1
            refine wp_region_later (by kernel_rfl) (by kernel_rfl) ?_
            repeat (go_big_quiet_step (fail))
            refine wpQuiet_nil ?_
            intro w2 hw2
            replace hb := Ext.trans hb (Later.of hw2)
            clear hw2 hL
            obtain ⟨hc, hf⟩ := hb.old
            go_wp2_with fail
            (try rw [← HAX.out])
            (try rw [← HAB.out])
            go_roundw
            case rel => exact ⟨k + 1, q' + 1, true, by omega, by go_num, rfl, by go_num, by omega, HQ3, HZ3, H.out.trans hb⟩
            case measure => simp [intOf]; omega
          | false =>
            by_cases huv : u = v
            · have g3 : (u == v) = true := by simp [huv]
              have HZ3 : Hid (smN z0 S v (k + 1) = true) := by show _ = _; rw [HZ2.out, g3]; rfl
              clear HZ2 huv
              go_upto_region 16 with fail
              have hL := fun (x : Later _) => (Ext.trans hb x.ext).old.1
              refine wp_region_later (by kernel_rfl) (by kernel_rfl) ?_
              repeat (go_big_quiet_step (fail))
              refine wpQuiet_nil ?_
              intro w2 hw2
              replace hb := Ext.trans hb (Later.of hw2)
              clear hw2 hL
              obtain ⟨hc, hf⟩ := hb.old
              go_upto_region 18 with fail
              have hL := fun (x : Later _) => (Ext.trans hb x.ext).old.1
              refine wp_region_later (by kernel_rfl) (by kernel_rfl) ?_
              repeat (go_big_quiet_step (fail))
              refine wpQuiet_nil ?_
              intro w2 hw2
              replace hb := Ext.trans hb (Later.of hw2)
              clear hw2 hL
              obtain ⟨hc, hf⟩ := hb.old
              go_wp2_with fail
              (try rw [← HAX.out])
              (try rw [← HAB.out])
              go_roundw
              case rel => exact ⟨k + 1, q' + 1, true, by omega, by go_num, rfl, by go_num, by omega, HQ3, HZ3, H.out.trans hb⟩
              case measure => simp [intOf]; omega
            · have g3 : (u == v) = false := by simp [huv]
              have HZ3 : Hid (smN z0 S v (k + 1) = false) := by show _ = _; rw [HZ2.out, g3]; rfl
              clear HZ2 huv
              go_upto_region 16 with fail
              have hL := fun (x : Later _) => (Ext.trans hb x.ext).old.1
              refine wp_region_later (by kernel_rfl) (by kernel_rfl) ?_
              repeat (go_big_quiet_step (fail))
              refine wpQuiet_nil ?_
              intro w2 hw2
              replace hb := Ext.trans hb (Later.of hw2)
              clear hw2 hL
              obtain ⟨hc, hf⟩ := hb.old
              go_upto_region 18 with fail
              have hL := fun (x : Later _) => (Ext.trans hb x.ext).old.1
              refine wp_region_later (by kernel_rfl) (by kernel_rfl) ?_
              repeat (go_big_quiet_step (fail))
              refine wpQuiet_nil ?_
              intro w2 hw2
              replace hb := Ext.trans hb (Later.of hw2)
              clear hw2 hL
              obtain ⟨hc, hf⟩ := hb.old
              go_wp2_with fail
              (try rw [← HAX.out])
              (try rw [← HAB.out])
              go_roundw
              case rel => exact ⟨k + 1, q' + 1, false, by omega, by go_num, rfl, by go_num, by omega, HQ3, HZ3, H.out.trans hb⟩
              case measure => simp [intOf]; omega
        · have hk1 : (kd == 0) = false := by simp [hkz]
          have HQ3 : Hid (kinN D (k + 1) = q') := by show _ = _; rw [HQ2.out, if_neg hkz]; rfl
          clear hkz HQ2
          cases z with
          | true =>
            have HZ3 : Hid (smN z0 S v (k + 1) = true) := HZ2.out
            clear HZ2
            go_upto_region 16 with fail
            have hL := fun (x : Later _) => (Ext.trans hb x.ext).old.1
            refine wp_region_later (by kernel_rfl) (by kernel_rfl) ?_
            repeat (go_big_quiet_step (fail))
            refine wpQuiet_nil ?_
            intro w2 hw2
            replace hb := Ext.trans hb (Later.of hw2)
            clear hw2 hL
            obtain ⟨hc, hf⟩ := hb.old
            go_upto_region 18 with fail
            have hL := fun (x : Later _) => (Ext.trans hb x.ext).old.1
            refine wp_region_later (by kernel_rfl) (by kernel_rfl) ?_
            repeat (go_big_quiet_step (fail))
            refine wpQuiet_nil ?_
            intro w2 hw2
            replace hb := Ext.trans hb (Later.of hw2)
            clear hw2 hL
            obtain ⟨hc, hf⟩ := hb.old
            go_wp2_with fail
            (try rw [← HAX.out])
            (try rw [← HAB.out])
            go_roundw
            case rel => exact ⟨k + 1, q', true, by omega, by go_num, rfl, rfl, by omega, HQ3, HZ3, H.out.trans hb⟩
            case measure => simp [intOf]; omega
          | false =>
            by_cases huv : u = v
            · have g3 : (u == v) = true := by simp [huv]
              have HZ3 : Hid (smN z0 S v (k + 1) = true) := by show _ = _; rw [HZ2.out, g3]; rfl
              clear HZ2 huv
              go_upto_region 16 with fail
              have hL := fun (x : Later _) => (Ext.trans hb x.ext).old.1
              refine wp_region_later (by kernel_rfl) (by kernel_rfl) ?_
              repeat (go_big_quiet_step (fail))
              refine wpQuiet_nil ?_
              intro w2 hw2
              replace hb := Ext.trans hb (Later.of hw2)
              clear hw2 hL
              obtain ⟨hc, hf⟩ := hb.old
              go_upto_region 18 with fail
              have hL := fun (x : Later _) => (Ext.trans hb x.ext).old.1
              refine wp_region_later (by kernel_rfl) (by kernel_rfl) ?_
              repeat (go_big_quiet_step (fail))
              refine wpQuiet_nil ?_
              intro w2 hw2
              replace hb := Ext.trans hb (Later.of hw2)
              clear hw2 hL
              obtain ⟨hc, hf⟩ := hb.old
              go_wp2_with fail
              (try rw [← HAX.out])
              (try rw [← HAB.out])
              go_roundw
              case rel => exact ⟨k + 1, q', true, by omega, by go_num, rfl, rfl, by omega, HQ3, HZ3, H.out.trans hb⟩
              case measure => simp [intOf]; omega
            · have g3 : (u == v) = false := by simp [huv]
              have HZ3 : Hid (smN z0 S v (k + 1) = false) := by show _ = _; rw [HZ2.out, g3]; rfl
              clear HZ2 huv
              go_upto_region 16 with fail
              have hL := fun (x : Later _) => (Ext.trans hb x.ext).old.1
              refine wp_region_later (by kernel_rfl) (by kernel_rfl) ?_
              repeat (go_big_quiet_step (fail))
              refine wpQuiet_nil ?_
              intro w2 hw2
              replace hb := Ext.trans hb (Later.of hw2)
              clear hw2 hL
              obtain ⟨hc, hf⟩ := hb.old
              go_upto_region 18 with fail
              have hL := fun (x : Later _) => (Ext.trans hb x.ext).old.1
              refine wp_region_later (by kernel_rfl) (by kernel_rfl) ?_
              repeat (go_big_quiet_step (fail))
              refine wpQuiet_nil ?_
              intro w2 hw2
              replace hb := Ext.trans hb (Later.of hw2)
              clear hw2 hL
              obtain ⟨hc, hf⟩ := hb.old
              go_wp2_with fail
              (try rw [← HAX.out])
              (try rw [← HAB.out])
              go_roundw
              case rel => exact ⟨k + 1, q', false, by omega, by go_num, rfl, rfl, by omega, HQ3, HZ3, H.out.trans hb⟩
              case measure => simp [intOf]; omega
      · obtain rfl : k = n := by omega
        have hzt : z = true := by rw [← HZ.out, HEND.out]
        have hq2 : decide (q ≤ q') = true := decide_eq_true (by
          have a := HIN.out; have e := HQ.out; have f := HNN.out
          rw [← f] at a; rw [e] at a; omega)
        subst hzt
        go_wp2_with fail
        go_ret
        exact ⟨rfl, HE.out.trans (HX7.out.trans H.out)⟩
theorem uniform_any {w : World} {D : Dia} {p : Pl} {A B : Option Addr} {n c m e : Nat} {R : Nat → RI} {F G : Nat → Nat → Nat} {X : Nat → Int} (d : Dm w D p) (hT : Tabs w) (st : StsI w A n R F G) (rx : Ri w B m X) (hm : m ≤ maxLen) (_ : ∀ i, i < m → in64 (X i)) :
    Calls Tryd.prog 4 #[dgv D p, rgv A n c B m e] w fun e w' => e = .returned (.bool true) ∧ Ext w w' := by
  cases hl : litS D n R m with
  | false => exact scalesUniform_off d hT st rx hm (.inl hl)
  | true =>
    by_cases hk : chk D = 0
    · exact uniform_on d hT st rx hm hl hk
    · exact scalesUniform_off d hT st rx hm (.inr hk)
end Go.Proofs.YtgnngldlgcdnfaaDoor
