/- The law ScalesGreatest: it returns true. -/
import Derived.Test.YtgnngldlgcdnfaaDoorScg
import Derived.Deep.RegionHeld3
namespace Go.Proofs.YtgnngldlgcdnfaaDoor
open Go Go.RowKit
attribute [local go_sem ↓] Go.wp_at_zero Go.wp_at_succ

theorem chX_cases {D : Dia} (h : chk D = 0) (n : Nat) (b : Nat → Bool) (S : Nat → IV) : chX D n b S = 0 ∨ chX D n b S = 11 ∨ chX D n b S = 2 ∨ chX D n b S = 4 := by
  unfold chX chE rgE
  rw [if_neg (by omega)]
  repeat' split
  all_goals first | omega | simp_all
theorem is_yes (k : Int) (w : World) : Calls Tryd.prog 11 #[.iface 38 (I k), I k] w fun e w' => e = .returned (.bool true) ∧ Ext w w' := by
  have := is_err k k w; rwa [decide_eq_true rfl] at this
theorem is_no (k c : Int) (h : k ≠ c) (w : World) : Calls Tryd.prog 11 #[.iface 38 (I k), I c] w fun e w' => e = .returned (.bool false) ∧ Ext w w' := by
  have := is_err k c w; rwa [decide_eq_false h] at this
theorem litS_t {D : Dia} {n m : Nat} {R : Nat → RI} (h : litS D n R m = true) : litB D = true ∧ leI n R = true ∧ m ≤ 100 := by
  unfold litS at h
  simp only [Bool.and_eq_true, decide_eq_true_eq] at h
  exact ⟨h.1, h.2.1, h.2.2⟩
set_option maxRecDepth 100000 in
set_option maxHeartbeats 4000000 in
theorem scalesGreatest_off {w : World} {D : Dia} {p : Pl} {A B : Option Addr} {n c m e : Nat} {R : Nat → RI} {F G : Nat → Nat → Nat} {X : Nat → Int} (d : Dm w D p) (hT : Tabs w) (st : StsI w A n R F G) (_ : Ri w B m X) (hm : m ≤ maxLen) (h : litS D n R m = false ∨ chk D ≠ 0) :
    Calls Tryd.prog 3 #[dgv D p, rgv A n c B m e] w fun e w' => e = .returned (.bool true) ∧ Ext w w' := by
  have hn := st.hn
  unfold maxLen at hm hn
  obtain ⟨W1, hW1⟩ : ∃ W1, W1 = (w.alloc (.cells #[.slice p.AI D.ni p.cI, .slice p.AB D.nb p.cB, .slice p.AO D.no p.cO] 26)).alloc (.cells #[.slice A n c, .slice B m e] 29) := ⟨_, rfl⟩
  have hE : Ext w W1 := by rw [hW1]; exact (Ext.alloc _ _).trans (Ext.alloc _ _)
  have HBX : Hid (∀ w', Ext W1 w' → (w'.cell? ⟨w.heap.size, 0, none⟩ = some (.slice p.AI D.ni p.cI) ∧ w'.cell? ⟨w.heap.size, 1, none⟩ = some (.slice p.AB D.nb p.cB) ∧ w'.cell? ⟨w.heap.size, 2, none⟩ = some (.slice p.AO D.no p.cO)) ∧ w'.cell? ⟨w.heap.size + 1, 0, none⟩ = some (.slice A n c) ∧ w'.cell? ⟨w.heap.size + 1, 1, none⟩ = some (.slice B m e)) := fun w' x => by
    have hl : w.heap.size + 1 < W1.heap.size := by rw [hW1]; simp
    have hb : Bd w' w.heap.size D p := by
      have h0 : Bd W1 w.heap.size D p := by rw [hW1]; exact (Bd.new _ _ _ _).ext (Ext.alloc _ _)
      exact h0.ext x
    exact ⟨⟨hb.c0, hb.c1, hb.c2⟩, (x.old.1 _ _ hl).trans (by rw [hW1]; go_simp), (x.old.1 _ _ hl).trans (by rw [hW1]; go_simp)⟩
  have HA : Hid (∀ w', Ext W1 w' → Calls Tryd.prog 7 #[] w' fun e w'' => e = .returned (.bool true) ∧ Ext w' w'') := fun w' x => scAwake_any w' (hT.ext (hE.trans x))
  have HLI : Hid (∀ w', Ext W1 w' → Calls Tryd.prog 8 #[dgv D p, rgv A n c B m e] w' fun e w'' => e = .returned (.bool (litS D n R m)) ∧ Ext w' w'') := fun w' x => scLight_any (d.ext (hE.trans x)) (st.rn.ext (hE.trans x)) (by unfold maxLen; omega) (by unfold maxLen; omega)
  have HCK : Hid (∀ w', Ext W1 w' → Calls Tryd.prog 9 #[dgv D p] w' fun e w'' => e = .returned (errv (chk D)) ∧ Ext w' w'') := fun w' x => check_any (d.ext (hE.trans x)) (hT.ext (hE.trans x))
  have HE := Lib.hid hE
  obtain ⟨⟨c0, c1, c2⟩, c3, c4⟩ := HBX.out _ (Ext.refl _)
  clear d hT st hE
  cases hl : litS D n R m with
  | false =>
    rw [hl] at HLI
    clear h hl HCK
    go_enter Tryd.func3, Tryd.ntmps3
    go_upto_region 1 with fail
    rw [← hW1]; clear hW1
    go_wp2_with (first
        | (go_at_call 7; (with_reducible refine (HA.out _ (by (with_reducible (repeat (first | exact Ext.refl _ | assumption | (refine Ext.toSet ?_ (by omega)) | refine Ext.toAlloc ?_ | refine Ext.toDrew ?_ | refine Ext.toDrewN ?_ | refine Ext.trans ?_ (by assumption)))); (first | done | fail "no"))).mono ?_); rintro e1 w1 ⟨rfl, h1⟩; (try clear c0 c1 c2 c3 c4); obtain ⟨⟨c0, c1, c2⟩, c3, c4⟩ := HBX.out w1 (by (with_reducible (repeat (first | exact Ext.refl _ | assumption | (refine Ext.toSet ?_ (by omega)) | refine Ext.toAlloc ?_ | refine Ext.toDrew ?_ | refine Ext.toDrewN ?_ | refine Ext.trans ?_ (by assumption)))); (first | done | fail "no")))
        | (go_at_call 8; (with_reducible refine (HLI.out _ (by (with_reducible (repeat (first | exact Ext.refl _ | assumption | (refine Ext.toSet ?_ (by omega)) | refine Ext.toAlloc ?_ | refine Ext.toDrew ?_ | refine Ext.toDrewN ?_ | refine Ext.trans ?_ (by assumption)))); (first | done | fail "no"))).mono ?_); rintro e1 w2 ⟨rfl, h2⟩; (try clear c0 c1 c2 c3 c4); obtain ⟨⟨c0, c1, c2⟩, c3, c4⟩ := HBX.out w2 (by (with_reducible (repeat (first | exact Ext.refl _ | assumption | (refine Ext.toSet ?_ (by omega)) | refine Ext.toAlloc ?_ | refine Ext.toDrew ?_ | refine Ext.toDrewN ?_ | refine Ext.trans ?_ (by assumption)))); (first | done | fail "no"))))
    go_ret
    exact ⟨rfl, HE.out.trans (by (with_reducible (repeat (first | exact Ext.refl _ | assumption | (refine Ext.toSet ?_ (by omega)) | refine Ext.toAlloc ?_ | refine Ext.toDrew ?_ | refine Ext.toDrewN ?_ | refine Ext.trans ?_ (by assumption)))); (first | done | fail "no"))⟩
  | true =>
    rw [hl] at HLI
    have hk : chk D ≠ 0 := by rcases h with h | h; rw [hl] at h; cases h; exact h
    clear h hl
    rw [errv_n hk] at HCK
    clear hk
    generalize chk D = k at *
    go_enter Tryd.func3, Tryd.ntmps3
    go_upto_region 1 with fail
    rw [← hW1]; clear hW1
    go_wp2_with (first
        | (go_at_call 7; (with_reducible refine (HA.out _ (by (with_reducible (repeat (first | exact Ext.refl _ | assumption | (refine Ext.toSet ?_ (by omega)) | refine Ext.toAlloc ?_ | refine Ext.toDrew ?_ | refine Ext.toDrewN ?_ | refine Ext.trans ?_ (by assumption)))); (first | done | fail "no"))).mono ?_); rintro e1 w1 ⟨rfl, h1⟩; (try clear c0 c1 c2 c3 c4); obtain ⟨⟨c0, c1, c2⟩, c3, c4⟩ := HBX.out w1 (by (with_reducible (repeat (first | exact Ext.refl _ | assumption | (refine Ext.toSet ?_ (by omega)) | refine Ext.toAlloc ?_ | refine Ext.toDrew ?_ | refine Ext.toDrewN ?_ | refine Ext.trans ?_ (by assumption)))); (first | done | fail "no")))
        | (go_at_call 8; (with_reducible refine (HLI.out _ (by (with_reducible (repeat (first | exact Ext.refl _ | assumption | (refine Ext.toSet ?_ (by omega)) | refine Ext.toAlloc ?_ | refine Ext.toDrew ?_ | refine Ext.toDrewN ?_ | refine Ext.trans ?_ (by assumption)))); (first | done | fail "no"))).mono ?_); rintro e1 w2 ⟨rfl, h2⟩; (try clear c0 c1 c2 c3 c4); obtain ⟨⟨c0, c1, c2⟩, c3, c4⟩ := HBX.out w2 (by (with_reducible (repeat (first | exact Ext.refl _ | assumption | (refine Ext.toSet ?_ (by omega)) | refine Ext.toAlloc ?_ | refine Ext.toDrew ?_ | refine Ext.toDrewN ?_ | refine Ext.trans ?_ (by assumption)))); (first | done | fail "no")))
        | (go_at_call 9; (with_reducible refine (HCK.out _ (by (with_reducible (repeat (first | exact Ext.refl _ | assumption | (refine Ext.toSet ?_ (by omega)) | refine Ext.toAlloc ?_ | refine Ext.toDrew ?_ | refine Ext.toDrewN ?_ | refine Ext.trans ?_ (by assumption)))); (first | done | fail "no"))).mono ?_); rintro e1 w3 ⟨rfl, h3⟩; (try clear c0 c1 c2 c3 c4); obtain ⟨⟨c0, c1, c2⟩, c3, c4⟩ := HBX.out w3 (by (with_reducible (repeat (first | exact Ext.refl _ | assumption | (refine Ext.toSet ?_ (by omega)) | refine Ext.toAlloc ?_ | refine Ext.toDrew ?_ | refine Ext.toDrewN ?_ | refine Ext.trans ?_ (by assumption)))); (first | done | fail "no"))))
    go_ret
    exact ⟨rfl, HE.out.trans (by (with_reducible (repeat (first | exact Ext.refl _ | assumption | (refine Ext.toSet ?_ (by omega)) | refine Ext.toAlloc ?_ | refine Ext.toDrew ?_ | refine Ext.toDrewN ?_ | refine Ext.trans ?_ (by assumption)))); (first | done | fail "no"))⟩
set_option maxRecDepth 100000 in
set_option maxHeartbeats 4000000 in
theorem greatest_on {w : World} {D : Dia} {p : Pl} {A B : Option Addr} {n c m e : Nat} {R : Nat → RI} {F G : Nat → Nat → Nat} {X : Nat → Int} (d : Dm w D p) (hT : Tabs w) (st : StsI w A n R F G) (_ : Ri w B m X) (hm : m ≤ maxLen) (hlt : litS D n R m = true) (hk : chk D = 0) :
    Calls Tryd.prog 3 #[dgv D p, rgv A n c B m e] w fun e w' => e = .returned (.bool true) ∧ Ext w w' := by
  have hn := st.hn
  unfold maxLen at hm hn
  obtain ⟨W1, hW1⟩ : ∃ W1, W1 = (w.alloc (.cells #[.slice p.AI D.ni p.cI, .slice p.AB D.nb p.cB, .slice p.AO D.no p.cO] 26)).alloc (.cells #[.slice A n c, .slice B m e] 29) := ⟨_, rfl⟩
  have hE : Ext w W1 := by rw [hW1]; exact (Ext.alloc _ _).trans (Ext.alloc _ _)
  have HBX : Hid (∀ w', Ext W1 w' → (w'.cell? ⟨w.heap.size, 0, none⟩ = some (.slice p.AI D.ni p.cI) ∧ w'.cell? ⟨w.heap.size, 1, none⟩ = some (.slice p.AB D.nb p.cB) ∧ w'.cell? ⟨w.heap.size, 2, none⟩ = some (.slice p.AO D.no p.cO)) ∧ w'.cell? ⟨w.heap.size + 1, 0, none⟩ = some (.slice A n c) ∧ w'.cell? ⟨w.heap.size + 1, 1, none⟩ = some (.slice B m e)) := fun w' x => by
    have hl : w.heap.size + 1 < W1.heap.size := by rw [hW1]; simp
    have hb : Bd w' w.heap.size D p := by
      have h0 : Bd W1 w.heap.size D p := by rw [hW1]; exact (Bd.new _ _ _ _).ext (Ext.alloc _ _)
      exact h0.ext x
    exact ⟨⟨hb.c0, hb.c1, hb.c2⟩, (x.old.1 _ _ hl).trans (by rw [hW1]; go_simp), (x.old.1 _ _ hl).trans (by rw [hW1]; go_simp)⟩
  have HA : Hid (∀ w', Ext W1 w' → Calls Tryd.prog 7 #[] w' fun e w'' => e = .returned (.bool true) ∧ Ext w' w'') := fun w' x => scAwake_any w' (hT.ext (hE.trans x))
  have HLI : Hid (∀ w', Ext W1 w' → Calls Tryd.prog 8 #[dgv D p, rgv A n c B m e] w' fun e w'' => e = .returned (.bool (litS D n R m)) ∧ Ext w' w'') := fun w' x => scLight_any (d.ext (hE.trans x)) (st.rn.ext (hE.trans x)) (by unfold maxLen; omega) (by unfold maxLen; omega)
  have HCK : Hid (∀ w', Ext W1 w' → Calls Tryd.prog 9 #[dgv D p] w' fun e w'' => e = .returned (errv (chk D)) ∧ Ext w' w'') := fun w' x => check_any (d.ext (hE.trans x)) (hT.ext (hE.trans x))
  have HE := Lib.hid hE
  obtain ⟨⟨c0, c1, c2⟩, c3, c4⟩ := HBX.out _ (Ext.refl _)
  obtain ⟨hn100, el⟩ := st.el (litS_t hlt).2.1
  obtain ⟨S, hS⟩ : ∃ S, ivS R F G = S := ⟨_, rfl⟩
  obtain ⟨b, hb⟩ : ∃ b, ivO R F G = b := ⟨_, rfl⟩
  rw [hS, hb] at el
  rw [hlt] at HLI
  rw [hk, errv_z] at HCK
  have HCH : Hid (∀ w', Ext W1 w' → Calls Tryd.prog 10 #[dgv D p, .slice A n c] w' (ChP D n b S w')) := fun w' x => Choose_any (d.ext (hE.trans x)) (hT.ext (hE.trans x)) (by omega) (st.rn.ext (hE.trans x)) fun k hk => ((el k hk).ext (hE.trans x)).toElI
  have hnb := (chk_ok hk).nb
  rcases Decidable.em (chX D n b S = 0) with hz | hz
  case inr =>
    have HC2 : Hid (∀ w', Ext W1 w' → Calls Tryd.prog 10 #[dgv D p, .slice A n c] w' fun e w'' => e = .returned (.tuple #[.slice none 0 0, .iface 38 (I (chX D n b S))]) ∧ Ext w' w'') := fun w' x => (HCH.out w' x).mono fun e w'' hh => by
      rcases hh with ⟨_, h2⟩ | ⟨h1, _⟩
      · exact h2
      · exact absurd h1 hz
    have hcs : chX D n b S = 11 ∨ chX D n b S = 2 ∨ chX D n b S = 4 := (chX_cases hk n b S).resolve_left hz
    clear d hT st hE hlt hk el HCH hz
    generalize chX D n b S = k at *
    have I1 := Lib.hid (is_yes 11); have I2 := Lib.hid (is_yes 2); have I3 := Lib.hid (is_yes 4)
    have N1 := Lib.hid (is_no 2 11 (by decide)); have N2 := Lib.hid (is_no 4 11 (by decide)); have N3 := Lib.hid (is_no 4 2 (by decide))
    rcases hcs with rfl | rfl | rfl
    all_goals
      go_enter Tryd.func3, Tryd.ntmps3
      go_upto_region 1 with fail
      rw [← hW1]; clear hW1
      go_wp2_with (first
          | (go_at_call 7; (with_reducible refine (HA.out _ (by (with_reducible (repeat (first | exact Ext.refl _ | assumption | (refine Ext.toSet ?_ (by omega)) | refine Ext.toAlloc ?_ | refine Ext.toDrew ?_ | refine Ext.toDrewN ?_ | refine Ext.trans ?_ (by assumption)))); (first | done | fail "no"))).mono ?_); rintro e1 w1 ⟨rfl, h1⟩; (try clear c0 c1 c2 c3 c4); obtain ⟨⟨c0, c1, c2⟩, c3, c4⟩ := HBX.out w1 (by (with_reducible (repeat (first | exact Ext.refl _ | assumption | (refine Ext.toSet ?_ (by omega)) | refine Ext.toAlloc ?_ | refine Ext.toDrew ?_ | refine Ext.toDrewN ?_ | refine Ext.trans ?_ (by assumption)))); (first | done | fail "no")))
          | (go_at_call 8; (with_reducible refine (HLI.out _ (by (with_reducible (repeat (first | exact Ext.refl _ | assumption | (refine Ext.toSet ?_ (by omega)) | refine Ext.toAlloc ?_ | refine Ext.toDrew ?_ | refine Ext.toDrewN ?_ | refine Ext.trans ?_ (by assumption)))); (first | done | fail "no"))).mono ?_); rintro e1 w2 ⟨rfl, h2⟩; (try clear c0 c1 c2 c3 c4); obtain ⟨⟨c0, c1, c2⟩, c3, c4⟩ := HBX.out w2 (by (with_reducible (repeat (first | exact Ext.refl _ | assumption | (refine Ext.toSet ?_ (by omega)) | refine Ext.toAlloc ?_ | refine Ext.toDrew ?_ | refine Ext.toDrewN ?_ | refine Ext.trans ?_ (by assumption)))); (first | done | fail "no")))
          | (go_at_call 9; (with_reducible refine (HCK.out _ (by (with_reducible (repeat (first | exact Ext.refl _ | assumption | (refine Ext.toSet ?_ (by omega)) | refine Ext.toAlloc ?_ | refine Ext.toDrew ?_ | refine Ext.toDrewN ?_ | refine Ext.trans ?_ (by assumption)))); (first | done | fail "no"))).mono ?_); rintro e1 w3 ⟨rfl, h3⟩; (try clear c0 c1 c2 c3 c4); obtain ⟨⟨c0, c1, c2⟩, c3, c4⟩ := HBX.out w3 (by (with_reducible (repeat (first | exact Ext.refl _ | assumption | (refine Ext.toSet ?_ (by omega)) | refine Ext.toAlloc ?_ | refine Ext.toDrew ?_ | refine Ext.toDrewN ?_ | refine Ext.trans ?_ (by assumption)))); (first | done | fail "no")))
          | (go_at_call 10; (with_reducible refine (HC2.out _ (by (with_reducible (repeat (first | exact Ext.refl _ | assumption | (refine Ext.toSet ?_ (by omega)) | refine Ext.toAlloc ?_ | refine Ext.toDrew ?_ | refine Ext.toDrewN ?_ | refine Ext.trans ?_ (by assumption)))); (first | done | fail "no"))).mono ?_); rintro e1 w4 ⟨rfl, h4⟩)
          | (go_at_call 11; (with_reducible refine (I1.out _).mono ?_); rintro e1 w50 ⟨rfl, h50⟩)
          | (go_at_call 11; (with_reducible refine (I2.out _).mono ?_); rintro e1 w51 ⟨rfl, h51⟩)
          | (go_at_call 11; (with_reducible refine (I3.out _).mono ?_); rintro e1 w52 ⟨rfl, h52⟩)
          | (go_at_call 11; (with_reducible refine (N1.out _).mono ?_); rintro e1 w53 ⟨rfl, h53⟩)
          | (go_at_call 11; (with_reducible refine (N2.out _).mono ?_); rintro e1 w54 ⟨rfl, h54⟩)
          | (go_at_call 11; (with_reducible refine (N3.out _).mono ?_); rintro e1 w55 ⟨rfl, h55⟩))
      go_ret
      exact ⟨rfl, HE.out.trans (by (with_reducible (repeat (first | exact Ext.refl _ | assumption | (refine Ext.toSet ?_ (by omega)) | refine Ext.toAlloc ?_ | refine Ext.toDrew ?_ | refine Ext.toDrewN ?_ | refine Ext.trans ?_ (by assumption)))); (first | done | fail "no"))⟩
  case inl =>
    have HC2 : Hid (∀ w', Ext W1 w' → Calls Tryd.prog 10 #[dgv D p, .slice A n c] w' fun e w'' => ∃ g, e = .returned (.tuple #[.slice (some ⟨g, 0, none⟩) n n, .nilIface]) ∧ RnM w' w'' g n (fun i => chS (S i))) := fun w' x => (HCH.out w' x).mono fun e w'' hh => by
      rcases hh with ⟨h1, _⟩ | ⟨_, h2⟩
      · exact absurd hz h1
      · exact h2
    have hce : chE D.nb n b S = 0 := by unfold chX at hz; rwa [if_neg (by omega)] at hz
    obtain ⟨hr, hge⟩ := chE_z hce
    obtain ⟨hnn, hbt⟩ := rgE_z hr
    have HFT : Hid (∀ w' g, Ext W1 w' → Ri w' (some ⟨g, 0, none⟩) n (fun i => chS (S i)) → Calls Tryd.prog 12 #[dgv D p, .slice A n c, .slice (some ⟨g, 0, none⟩) n n] w' fun e w'' => e = .returned (.tuple #[.bool true, .nilIface]) ∧ Ext w' w'') := fun w' g x rg =>
      (Fits_any (d.ext (hE.trans x)) (hT.ext (hE.trans x)) (by omega) (st.rn.ext (hE.trans x)) (fun k hk' => ((el k hk').ext (hE.trans x)).toElI) rg).mono fun e w'' hh => by
        have hf : ftX D n b n = 0 := ftX_ok hk hr hnn
        rcases hh with ⟨h1, _⟩ | ⟨_, h2, h3⟩
        · exact absurd hf h1
        · rw [ft_ch hge] at h2; exact ⟨h2, h3⟩
    obtain ⟨ov, hov⟩ : ∃ ov, ofI 1073741824 0 = ov := ⟨_, rfl⟩
    have HO : Hid (∀ w', Ext W1 w' → Calls Tryd.prog 13 #[I 1073741824] w' (DyRes ov w')) := fun w' x => by rw [← hov]; exact of_any _ w' (hT.ext (hE.trans x)) (by omega) (by omega)
    have OZ := Lib.hid (hov ▸ of_sz 1073741824 ⟨by omega, by omega⟩)
    have HEL : Hid (∀ k, k < n → CnI W1 (R k) (S k)) := fun k hk => ((el k hk).ext hE).cn (hbt k hk)
    have HRN := Lib.hid (st.rn.ext hE)
    have HT := Lib.hid (hT.ext hE)
    have HGE := Lib.hid hge
    have HOV := Lib.hid hov
    clear d hT st hE hlt hk el HCH hz hce hr hge hnn hbt hov
    go_enter Tryd.func3, Tryd.ntmps3
    go_upto_region 1 with fail
    rw [← hW1]; clear hW1
    go_upto_region 10 with (first
        | (go_at_call 7; (with_reducible refine (HA.out _ (by (with_reducible (repeat (first | exact Ext.refl _ | assumption | (refine Ext.toSet ?_ (by omega)) | refine Ext.toAlloc ?_ | refine Ext.toDrew ?_ | refine Ext.toDrewN ?_ | refine Ext.trans ?_ (by assumption)))); (first | done | fail "no"))).mono ?_); rintro e1 w1 ⟨rfl, h1⟩; (try clear c0 c1 c2 c3 c4); obtain ⟨⟨c0, c1, c2⟩, c3, c4⟩ := HBX.out w1 (by (with_reducible (repeat (first | exact Ext.refl _ | assumption | (refine Ext.toSet ?_ (by omega)) | refine Ext.toAlloc ?_ | refine Ext.toDrew ?_ | refine Ext.toDrewN ?_ | refine Ext.trans ?_ (by assumption)))); (first | done | fail "no")))
        | (go_at_call 8; (with_reducible refine (HLI.out _ (by (with_reducible (repeat (first | exact Ext.refl _ | assumption | (refine Ext.toSet ?_ (by omega)) | refine Ext.toAlloc ?_ | refine Ext.toDrew ?_ | refine Ext.toDrewN ?_ | refine Ext.trans ?_ (by assumption)))); (first | done | fail "no"))).mono ?_); rintro e1 w2 ⟨rfl, h2⟩; (try clear c0 c1 c2 c3 c4); obtain ⟨⟨c0, c1, c2⟩, c3, c4⟩ := HBX.out w2 (by (with_reducible (repeat (first | exact Ext.refl _ | assumption | (refine Ext.toSet ?_ (by omega)) | refine Ext.toAlloc ?_ | refine Ext.toDrew ?_ | refine Ext.toDrewN ?_ | refine Ext.trans ?_ (by assumption)))); (first | done | fail "no")))
        | (go_at_call 9; (with_reducible refine (HCK.out _ (by (with_reducible (repeat (first | exact Ext.refl _ | assumption | (refine Ext.toSet ?_ (by omega)) | refine Ext.toAlloc ?_ | refine Ext.toDrew ?_ | refine Ext.toDrewN ?_ | refine Ext.trans ?_ (by assumption)))); (first | done | fail "no"))).mono ?_); rintro e1 w3 ⟨rfl, h3⟩; (try clear c0 c1 c2 c3 c4); obtain ⟨⟨c0, c1, c2⟩, c3, c4⟩ := HBX.out w3 (by (with_reducible (repeat (first | exact Ext.refl _ | assumption | (refine Ext.toSet ?_ (by omega)) | refine Ext.toAlloc ?_ | refine Ext.toDrew ?_ | refine Ext.toDrewN ?_ | refine Ext.trans ?_ (by assumption)))); (first | done | fail "no")))
        | (go_at_call 10; (with_reducible refine (HC2.out _ (by (with_reducible (repeat (first | exact Ext.refl _ | assumption | (refine Ext.toSet ?_ (by omega)) | refine Ext.toAlloc ?_ | refine Ext.toDrew ?_ | refine Ext.toDrewN ?_ | refine Ext.trans ?_ (by assumption)))); (first | done | fail "no"))).mono ?_); rintro e1 w4 ⟨g, rfl, rg4⟩; have RG4 := Lib.hid rg4; have h4 := rg4.ext; clear rg4; (try clear c0 c1 c2 c3 c4); obtain ⟨⟨c0, c1, c2⟩, c3, c4⟩ := HBX.out w4 (by (with_reducible (repeat (first | exact Ext.refl _ | assumption | (refine Ext.toSet ?_ (by omega)) | refine Ext.toAlloc ?_ | refine Ext.toDrew ?_ | refine Ext.toDrewN ?_ | refine Ext.trans ?_ (by assumption)))); (first | done | fail "no")))
        | (go_at_call 12; (with_reducible refine (HFT.out _ _ (by (with_reducible (repeat (first | exact Ext.refl _ | assumption | (refine Ext.toSet ?_ (by omega)) | refine Ext.toAlloc ?_ | refine Ext.toDrew ?_ | refine Ext.toDrewN ?_ | refine Ext.trans ?_ (by assumption)))); (first | done | fail "no")) RG4.out.ri).mono ?_); rintro e1 w5 ⟨rfl, h5⟩; (try clear c0 c1 c2 c3 c4); obtain ⟨⟨c0, c1, c2⟩, c3, c4⟩ := HBX.out w5 (by (with_reducible (repeat (first | exact Ext.refl _ | assumption | (refine Ext.toSet ?_ (by omega)) | refine Ext.toAlloc ?_ | refine Ext.toDrew ?_ | refine Ext.toDrewN ?_ | refine Ext.trans ?_ (by assumption)))); (first | done | fail "no")))
        | (go_at_call 13; (with_reducible refine (HO.out _ (by (with_reducible (repeat (first | exact Ext.refl _ | assumption | (refine Ext.toSet ?_ (by omega)) | refine Ext.toAlloc ?_ | refine Ext.toDrew ?_ | refine Ext.toDrewN ?_ | refine Ext.trans ?_ (by assumption)))); (first | done | fail "no"))).mono ?_); rintro e1 w6 hr; obtain ⟨A6, k6, rfl, on6, h6⟩ := hr; have CN6 := Lib.hid (Cn.on on6 OZ.out.1 OZ.out.2); clear on6))
    obtain ⟨W9, hW9⟩ : ∃ W9, W9 = w6.alloc (.cells #[.bool ov.neg, .slice A6 (len ov.m) k6, I ov.den] 43) := ⟨_, rfl⟩
    have hE9 : Ext w6 W9 := by rw [hW9]; exact Ext.alloc _ _
    have hb9 : Bx W9 w6.heap.size (.bool ov.neg) (.slice A6 (len ov.m) k6) (I ov.den) := by rw [hW9]; exact Bx.new _ _ _ _ _
    have HB9 : Hid (∀ w', Ext W9 w' → w'.cell? ⟨w6.heap.size, 0, none⟩ = some (.bool ov.neg) ∧ w'.cell? ⟨w6.heap.size, 1, none⟩ = some (.slice A6 (len ov.m) k6) ∧ w'.cell? ⟨w6.heap.size, 2, none⟩ = some (I ov.den)) := fun w' x => (hb9.ext x).1
    have HX9 : Hid (Ext W1 W9) := (show Ext W1 w6 from (by (with_reducible (repeat (first | exact Ext.refl _ | assumption | (refine Ext.toSet ?_ (by omega)) | refine Ext.toAlloc ?_ | refine Ext.toDrew ?_ | refine Ext.toDrewN ?_ | refine Ext.trans ?_ (by assumption)))); (first | done | fail "no"))).trans hE9
    have RG9 := Lib.hid (RG4.out.to (show Ext w4 W9 from (show Ext w4 w6 from (by (with_reducible (repeat (first | exact Ext.refl _ | assumption | (refine Ext.toSet ?_ (by omega)) | refine Ext.toAlloc ?_ | refine Ext.toDrew ?_ | refine Ext.toDrewN ?_ | refine Ext.trans ?_ (by assumption)))); (first | done | fail "no"))).trans hE9))
    have CN9 := Lib.hid (CN6.out.ext hE9)
    rw [← hW9]
    clear hW9 hE9 hb9 c0 c1 c2 c3 c4 RG4 CN6 HA HLI HCK HC2 HFT HO
    go_wp2_with fail
    go_loopw [71] (fun s wr => ∃ j : Nat, j ≤ n ∧ s = I j ∧ Hid (Ext W9 wr)) (fun s _ => n - (intOf s).toNat)
    case atStart => exact ⟨0, Nat.zero_le _, rfl, Ext.refl _⟩
    case round =>
      obtain ⟨j, hj, rfl, H⟩ := hrel
      by_cases hlt : j < n
      · have xg := (RG9.out.to H.out).row.cell hlt
        have cj := (HEL.out j hlt).ext (HX9.out.trans H.out)
        obtain ⟨br, or_, hbr, hbl, hcr⟩ := HRN.out.ext (HX9.out.trans H.out) (by omega)
        obtain ⟨x0, x1, x2, x3, x4, x5⟩ := hcr j hlt
        obtain ⟨⟨c0, c1, c2⟩, c3, c4⟩ := HBX.out _ (HX9.out.trans H.out)
        have hlt' : (j : Int) < (n : Int) := by omega
        have hge := HGE.out j hlt
        have hle := (chS_bd (S j)).2
        obtain ⟨v, hv⟩ : ∃ v, chS (S j) = v := ⟨_, rfl⟩
        obtain ⟨mg, hmg⟩ : ∃ mg, mgD (S j) = mg := ⟨_, rfl⟩
        have sz := mgD_sz (x := S j) ⟨cj.lo.ok, cj.el⟩ ⟨cj.hi.ok, cj.eh⟩
        have f1 : fitB mg v 1073741824 = true := by rw [← hv, ← hmg]; exact chS_fit hge
        have f2 : v < 30 → fitB mg (v + 1) 1073741824 = false := fun h => by
          have := chS_max (x := S j) (i := (v + 1).toNat) (by omega) (by omega)
          rw [hmg] at this
          rwa [show (((v + 1).toNat : Nat) : Int) = v + 1 by omega] at this
        rw [hmg] at sz
        have HMG : Hid (∀ w', Ext wr w' → Calls Tryd.prog 14 #[(R j).v] w' (DyRes mg w')) := fun w' x => by rw [← hmg]; exact imag_any (cj.ext x).iw (HT.out.ext (HX9.out.trans (H.out.trans x)))
        have SZ := Lib.hid sz
        rw [hv] at xg hge hle
        have F1 := Lib.hid f1; have F2 := Lib.hid f2
        clear hcr cj hv hmg sz f1 f2
        obtain ⟨sv, hsv⟩ : ∃ sv, shiftD mg v = sv := ⟨_, rfl⟩
        obtain ⟨su, hsu⟩ : ∃ su, shiftD mg (v + 1) = su := ⟨_, rfl⟩
        obtain ⟨q1, hq1⟩ : ∃ q, cmpD sv ov = q := ⟨_, rfl⟩
        obtain ⟨q2, hq2⟩ : ∃ q, cmpD su ov = q := ⟨_, rfl⟩
        have hq1' : q1 ≤ 0 := by have := F1.out; unfold fitB at this; rw [hsv, HOV.out, hq1] at this; simpa using this
        have hq2' : v < 30 → 0 < q2 := fun h => by have := F2.out h; unfold fitB at this; rw [hsu, HOV.out, hq2] at this; simpa using this
        have SV := Lib.hid (hsv ▸ shift_sz v (Nat.le_trans SZ.out.2 (by decide)) : sv.ok ∧ len sv.m ≤ 16777216)
        have SU := Lib.hid (hsu ▸ shift_sz (v + 1) (Nat.le_trans SZ.out.2 (by decide)) : su.ok ∧ len su.m ≤ 16777216)
        have HSV : Hid (∀ w' A k, Ext wr w' → Cn w' (cnR mg A k) mg → Calls Tryd.prog 16 #[dv mg.neg A (len mg.m) k mg.den, I v] w' (DyRes sv w')) := fun w' A k x cn => by rw [← hsv]; exact shift_any v cn.dy (HT.out.ext (HX9.out.trans (H.out.trans x))) (by omega) (by omega)
        have HSU : Hid (∀ w' A k, Ext wr w' → Cn w' (cnR mg A k) mg → Calls Tryd.prog 16 #[dv mg.neg A (len mg.m) k mg.den, I (v + 1)] w' (DyRes su w')) := fun w' A k x cn => by rw [← hsu]; exact shift_any (v + 1) cn.dy (HT.out.ext (HX9.out.trans (H.out.trans x))) (by omega) (by omega)
        have HC1 : Hid (∀ w' A k, Ext wr w' → Cn w' (cnR sv A k) sv → Calls Tryd.prog 15 #[dv sv.neg A (len sv.m) k sv.den, dv ov.neg A6 (len ov.m) k6 ov.den] w' (fun e w'' => e = .returned (I q1) ∧ Ext w' w'')) := fun w' A k x cn => by rw [← hq1]; exact cmp_any cn.dy (CN9.out.ext (H.out.trans x)).dy
        have HC2 : Hid (∀ w' A k, Ext wr w' → Cn w' (cnR su A k) su → Calls Tryd.prog 15 #[dv su.neg A (len su.m) k su.den, dv ov.neg A6 (len ov.m) k6 ov.den] w' (fun e w'' => e = .returned (I q2) ∧ Ext w' w'')) := fun w' A k x cn => by rw [← hq2]; exact cmp_any cn.dy (CN9.out.ext (H.out.trans x)).dy
        have HB9r := Lib.hid (fun w' (x : Ext wr w') => HB9.out w' (H.out.trans x))
        clear hsv hsu hq1 hq2 F1 F2
        generalize R j = rj at *
        obtain ⟨⟨n1, A1, l1, e1', d1⟩, ⟨n2, A2, l2, e2', d2⟩⟩ := rj
        have hrn := hbr
        rw [hbr] at c3
        go_upto_region 14 with (go_at_call 14; (with_reducible refine (HMG.out _ (by (with_reducible (repeat (first | exact Ext.refl _ | assumption | (refine Ext.toSet ?_ (by omega)) | refine Ext.toAlloc ?_ | refine Ext.toDrew ?_ | refine Ext.toDrewN ?_ | refine Ext.trans ?_ (by assumption)))); (first | done | fail "no"))).mono ?_); rintro e1 w7 hr; obtain ⟨A7, k7, rfl, on7, h7⟩ := hr; have CN7 := Lib.hid (Cn.on on7 SZ.out.1 (Nat.le_trans SZ.out.2 (by decide))); clear on7)
        obtain ⟨W10, hW10⟩ : ∃ W10, W10 = w7.alloc (.cells #[.bool mg.neg, .slice A7 (len mg.m) k7, I mg.den] 43) := ⟨_, rfl⟩
        have hE10 : Ext w7 W10 := by rw [hW10]; exact Ext.alloc _ _
        have hb10 : Bx W10 w7.heap.size (.bool mg.neg) (.slice A7 (len mg.m) k7) (I mg.den) := by rw [hW10]; exact Bx.new _ _ _ _ _
        have hX10 : Ext wr W10 := h7.trans hE10
        have HX10 := Lib.hid hX10
        have CN10 := Lib.hid (CN7.out.ext hE10)
        have HS : Hid (∀ w', Ext W10 w' → (w'.cell? ⟨w7.heap.size, 0, none⟩ = some (.bool mg.neg) ∧ w'.cell? ⟨w7.heap.size, 1, none⟩ = some (.slice A7 (len mg.m) k7) ∧ w'.cell? ⟨w7.heap.size, 2, none⟩ = some (I mg.den)) ∧ w'.cell? ⟨w6.heap.size, 0, none⟩ = some (.bool ov.neg) ∧ w'.cell? ⟨w6.heap.size, 1, none⟩ = some (.slice A6 (len ov.m) k6) ∧ w'.cell? ⟨w6.heap.size, 2, none⟩ = some (I ov.den)) := fun w' x => ⟨(hb10.ext x).1, HB9r.out w' (hX10.trans x)⟩
        rw [← hW10]
        clear hW10 hE10 hb10 h7 x0 x1 x2 x3 x4 x5 c0 c1 c2 c3 c4 CN7 HMG xg hX10
        have g1 : decide (v < 0) = false := decide_eq_false (by omega)
        have g2 : decide (30 < v) = false := decide_eq_false (by omega)
        have g3 : decide (0 < q1) = false := decide_eq_false (by omega)
        have hw1 : IntKind.i64.wrap (v + 1) = v + 1 := IntWalk.i64_in _ (by omega)
        by_cases hv30 : v < 30
        · have g4 : decide (v < 30) = true := decide_eq_true hv30
          have g5 : decide (q2 ≤ 0) = false := decide_eq_false (by have := hq2' hv30; omega)
          clear hq1' hq2' hge hle hv30
          go_region_held3 (fun w' => (w'.cell? ⟨w7.heap.size, 0, none⟩ = some (.bool mg.neg) ∧ w'.cell? ⟨w7.heap.size, 1, none⟩ = some (.slice A7 (len mg.m) k7) ∧ w'.cell? ⟨w7.heap.size, 2, none⟩ = some (I mg.den)) ∧ w'.cell? ⟨w6.heap.size, 0, none⟩ = some (.bool ov.neg) ∧ w'.cell? ⟨w6.heap.size, 1, none⟩ = some (.slice A6 (len ov.m) k6) ∧ w'.cell? ⟨w6.heap.size, 2, none⟩ = some (I ov.den)) (first | with_reducible assumption | exact HS.out _ (by (with_reducible (repeat (first | exact Ext.refl _ | assumption | (refine Ext.toSet ?_ (by omega)) | refine Ext.toAlloc ?_ | refine Ext.toDrew ?_ | refine Ext.toDrewN ?_ | refine Ext.trans ?_ (by assumption)))); (first | done | fail "no")))
            (first
              | (go_at_call 16; (with_reducible refine (HSV.out _ _ _ (HX10.out.trans (by (with_reducible (repeat (first | exact Ext.refl _ | assumption | (refine Ext.toSet ?_ (by omega)) | refine Ext.toAlloc ?_ | refine Ext.toDrew ?_ | refine Ext.toDrewN ?_ | refine Ext.trans ?_ (by assumption)))); (first | done | fail "no"))) (CN10.out.ext (by (with_reducible (repeat (first | exact Ext.refl _ | assumption | (refine Ext.toSet ?_ (by omega)) | refine Ext.toAlloc ?_ | refine Ext.toDrew ?_ | refine Ext.toDrewN ?_ | refine Ext.trans ?_ (by assumption)))); (first | done | fail "no")))).mono ?_); rintro e1 w11 hr; obtain ⟨A11, k11, rfl, on11, h11⟩ := hr; have CN11 := Lib.hid (Cn.on on11 SV.out.1 SV.out.2); clear on11)
              | (go_at_call 16; (with_reducible refine (HSU.out _ _ _ (HX10.out.trans (by (with_reducible (repeat (first | exact Ext.refl _ | assumption | (refine Ext.toSet ?_ (by omega)) | refine Ext.toAlloc ?_ | refine Ext.toDrew ?_ | refine Ext.toDrewN ?_ | refine Ext.trans ?_ (by assumption)))); (first | done | fail "no"))) (CN10.out.ext (by (with_reducible (repeat (first | exact Ext.refl _ | assumption | (refine Ext.toSet ?_ (by omega)) | refine Ext.toAlloc ?_ | refine Ext.toDrew ?_ | refine Ext.toDrewN ?_ | refine Ext.trans ?_ (by assumption)))); (first | done | fail "no")))).mono ?_); rintro e1 w12 hr; obtain ⟨A12, k12, rfl, on12, h12⟩ := hr; have CN12 := Lib.hid (Cn.on on12 SU.out.1 SU.out.2); clear on12)
              | (go_at_call 15; (with_reducible refine (HC1.out _ _ _ (HX10.out.trans (by (with_reducible (repeat (first | exact Ext.refl _ | assumption | (refine Ext.toSet ?_ (by omega)) | refine Ext.toAlloc ?_ | refine Ext.toDrew ?_ | refine Ext.toDrewN ?_ | refine Ext.trans ?_ (by assumption)))); (first | done | fail "no"))) (CN11.out.ext (by (with_reducible (repeat (first | exact Ext.refl _ | assumption | (refine Ext.toSet ?_ (by omega)) | refine Ext.toAlloc ?_ | refine Ext.toDrew ?_ | refine Ext.toDrewN ?_ | refine Ext.trans ?_ (by assumption)))); (first | done | fail "no")))).mono ?_); rintro e1 w13 ⟨rfl, h13⟩)
              | (go_at_call 15; (with_reducible refine (HC2.out _ _ _ (HX10.out.trans (by (with_reducible (repeat (first | exact Ext.refl _ | assumption | (refine Ext.toSet ?_ (by omega)) | refine Ext.toAlloc ?_ | refine Ext.toDrew ?_ | refine Ext.toDrewN ?_ | refine Ext.trans ?_ (by assumption)))); (first | done | fail "no"))) (CN12.out.ext (by (with_reducible (repeat (first | exact Ext.refl _ | assumption | (refine Ext.toSet ?_ (by omega)) | refine Ext.toAlloc ?_ | refine Ext.toDrew ?_ | refine Ext.toDrewN ?_ | refine Ext.trans ?_ (by assumption)))); (first | done | fail "no")))).mono ?_); rintro e1 w14 ⟨rfl, h14⟩))
          clear hw1
          go_wp2_with fail
          (try rw [← hrn])
          go_roundw
          case rel => exact ⟨j + 1, by omega, by go_num, H.out.trans (HX10.out.trans (by (with_reducible (repeat (first | exact Ext.refl _ | assumption | (refine Ext.toSet ?_ (by omega)) | refine Ext.toAlloc ?_ | refine Ext.toDrew ?_ | refine Ext.toDrewN ?_ | refine Ext.trans ?_ (by assumption)))); (first | done | fail "no")))⟩
          case measure => simp [intOf]; omega
        · have g4 : decide (v < 30) = false := decide_eq_false hv30
          clear hq1' hq2' hge hle hv30 hw1
          (try dsimp only [List.append])
          refine wp_region_noPanic ?_
          refine wp_region_held_drew (S := fun w' => (w'.cell? ⟨w7.heap.size, 0, none⟩ = some (.bool mg.neg) ∧ w'.cell? ⟨w7.heap.size, 1, none⟩ = some (.slice A7 (len mg.m) k7) ∧ w'.cell? ⟨w7.heap.size, 2, none⟩ = some (I mg.den)) ∧ w'.cell? ⟨w6.heap.size, 0, none⟩ = some (.bool ov.neg) ∧ w'.cell? ⟨w6.heap.size, 1, none⟩ = some (.slice A6 (len ov.m) k6) ∧ w'.cell? ⟨w6.heap.size, 2, none⟩ = some (I ov.den)) (by kernel_rfl) ?_ (fun hHeld => ?_)
          · exact HS.out _ (Ext.drew _)
          refine wpAnyH_take (i := 0) (oi := { dst := some 82, op := Op.move (Operand.tmp 11), type := 3, pos := "law.go:83", after := #[], guard := none }) (v := ?_) rfl (by kernel_rfl) (by kernel_rfl) (by kernel_rfl) (fun _ _ _ h => h) (Or.inl ⟨by rfl, ?hy⟩) hHeld ?_
          case hy => ((intro w' hSw; (try dsimp only at hSw); go_simp); (try with_reducible rfl))
          (try simp only [Act.put, List.setIfInBounds_toArray, List.set_cons_zero, List.set_cons_succ])
          refine wpAnyH_take (i := 1) (oi := { dst := some 83, op := Op.binOp BinOp.lss 3 (Operand.tmp 82) (Operand.const (Value.int IntKind.i64 0)) 3, type := 4, pos := "law.go:83", after := #[{ on := 0, ground := Ground.data }], guard := none }) (v := ?_) rfl (by kernel_rfl) (by kernel_rfl) (by kernel_rfl) (fun _ _ _ h => h) (Or.inl ⟨by rfl, ?hy⟩) hHeld ?_
          case hy => ((intro w' hSw; (try dsimp only at hSw); go_simp); (try with_reducible rfl))
          (try simp only [Act.put, List.setIfInBounds_toArray, List.set_cons_zero, List.set_cons_succ])
          refine wpAnyH_take (i := 2) (oi := { dst := some 84, op := Op.move (Operand.tmp 83), type := 4, pos := "law.go:83", after := #[{ on := 1, ground := Ground.data }], guard := none }) (v := ?_) rfl (by kernel_rfl) (by kernel_rfl) (by kernel_rfl) (fun _ _ _ h => h) (Or.inl ⟨by rfl, ?hy⟩) hHeld ?_
          case hy => ((intro w' hSw; (try dsimp only at hSw); go_simp); (try with_reducible rfl))
          (try simp only [Act.put, List.setIfInBounds_toArray, List.set_cons_zero, List.set_cons_succ])
          refine wpAnyH_take (i := 3) (oi := { dst := some 85, op := Op.move (Operand.tmp 11), type := 3, pos := "law.go:83", after := #[{ on := 2, ground := Ground.guard }], guard := some (2, false) }) (v := ?_) rfl (by kernel_rfl) (by kernel_rfl) (by kernel_rfl) (fun _ _ _ h => h) (Or.inl ⟨by rfl, ?hy⟩) hHeld ?_
          case hy => ((intro w' hSw; (try dsimp only at hSw); go_simp); (try with_reducible rfl))
          (try simp only [Act.put, List.setIfInBounds_toArray, List.set_cons_zero, List.set_cons_succ])
          refine wpAnyH_take (i := 4) (oi := { dst := some 86, op := Op.binOp BinOp.gtr 3 (Operand.tmp 85) (Operand.const (Value.int IntKind.i64 30)) 3, type := 4, pos := "law.go:83", after := #[{ on := 3, ground := Ground.data }, { on := 2, ground := Ground.guard }], guard := some (2, false) }) (v := ?_) rfl (by kernel_rfl) (by kernel_rfl) (by kernel_rfl) (fun _ _ _ h => h) (Or.inl ⟨by rfl, ?hy⟩) hHeld ?_
          case hy => ((intro w' hSw; (try dsimp only at hSw); go_simp); (try with_reducible rfl))
          (try simp only [Act.put, List.setIfInBounds_toArray, List.set_cons_zero, List.set_cons_succ])
          refine wpAnyH_take (i := 5) (oi := { dst := some 87, op := Op.pick (Operand.tmp 84) (Operand.const (Value.bool true)) (Operand.tmp 86), type := 4, pos := "law.go:83", after := #[{ on := 2, ground := Ground.data }, { on := 4, ground := Ground.data }], guard := none }) (v := ?_) rfl (by kernel_rfl) (by kernel_rfl) (by kernel_rfl) (fun _ _ _ h => h) (Or.inl ⟨by rfl, ?hy⟩) hHeld ?_
          case hy => ((intro w' hSw; (try dsimp only at hSw); go_simp); (try with_reducible rfl))
          (try simp only [Act.put, List.setIfInBounds_toArray, List.set_cons_zero, List.set_cons_succ])
          refine wpAnyH_take (i := 6) (oi := { dst := some 88, op := Op.move (Operand.tmp 87), type := 4, pos := "law.go:83", after := #[{ on := 5, ground := Ground.data }, { on := 2, ground := Ground.chain }], guard := none }) (v := ?_) rfl (by kernel_rfl) (by kernel_rfl) (by kernel_rfl) (fun _ _ _ h => h) (Or.inl ⟨by rfl, ?hy⟩) hHeld ?_
          case hy => ((intro w' hSw; (try dsimp only at hSw); go_simp); (try with_reducible rfl))
          (try simp only [Act.put, List.setIfInBounds_toArray, List.set_cons_zero, List.set_cons_succ])
          refine wpAnyH_take (i := 7) (oi := { dst := some 89, op := Op.load 43 (Operand.tmp 12), type := 43, pos := "law.go:83", after := #[{ on := 6, ground := Ground.guard }], guard := some (6, false) }) (v := ?_) rfl (by kernel_rfl) (by kernel_rfl) (by kernel_rfl) (fun _ _ _ h => h) (Or.inl ⟨by rfl, ?hy⟩) hHeld ?_
          case hy => ((intro w' hSw; (try dsimp only at hSw); go_simp); (try with_reducible rfl))
          (try simp only [Act.put, List.setIfInBounds_toArray, List.set_cons_zero, List.set_cons_succ])
          refine wpAnyH_take (i := 8) (oi := { dst := some 90, op := Op.move (Operand.tmp 11), type := 3, pos := "law.go:83", after := #[{ on := 6, ground := Ground.guard }], guard := some (6, false) }) (v := ?_) rfl (by kernel_rfl) (by kernel_rfl) (by kernel_rfl) (fun _ _ _ h => h) (Or.inl ⟨by rfl, ?hy⟩) hHeld ?_
          case hy => ((intro w' hSw; (try dsimp only at hSw); go_simp); (try with_reducible rfl))
          (try simp only [Act.put, List.setIfInBounds_toArray, List.set_cons_zero, List.set_cons_succ])
          refine wpAnyH_take (i := 10) (oi := { dst := some 92, op := Op.load 43 (Operand.tmp 9), type := 43, pos := "law.go:83", after := #[{ on := 6, ground := Ground.guard }], guard := some (6, false) }) (v := ?_) rfl (by kernel_rfl) (by kernel_rfl) (by kernel_rfl) (fun _ _ _ h => h) (Or.inl ⟨by rfl, ?hy⟩) hHeld ?_
          case hy => ((intro w' hSw; (try dsimp only at hSw); go_simp); (try with_reducible rfl))
          (try simp only [Act.put, List.setIfInBounds_toArray, List.set_cons_zero, List.set_cons_succ])
          refine wpAnyH_ready (rs := [9]) (by kernel_rfl) (by simp) ?_
          refine AllReadyH.cons (o := { dst := some 91, op := Op.call { callee := Callee.value (Operand.func 16), args := #[Operand.tmp 89, Operand.tmp 90], argTypes := #[43, 3] }, type := 43, pos := "law.go:83", after := #[{ on := 7, ground := Ground.data }, { on := 8, ground := Ground.data }, { on := 6, ground := Ground.chain }, { on := 6, ground := Ground.guard }], guard := some (6, false) }) rfl (fun K hK => ?_) AllReadyH.nil
          go_simp
          (go_at_call 16; (with_reducible refine (HSV.out _ _ _ (HX10.out.trans (by (with_reducible (repeat (first | exact Ext.refl _ | assumption | (refine Ext.toSet ?_ (by omega)) | refine Ext.toAlloc ?_ | refine Ext.toDrew ?_ | refine Ext.toDrewN ?_ | refine Ext.trans ?_ (by assumption)))); (first | done | fail "no"))) (CN10.out.ext (by (with_reducible (repeat (first | exact Ext.refl _ | assumption | (refine Ext.toSet ?_ (by omega)) | refine Ext.toAlloc ?_ | refine Ext.toDrew ?_ | refine Ext.toDrewN ?_ | refine Ext.trans ?_ (by assumption)))); (first | done | fail "no")))).mono ?_); rintro e1 w11 hr; obtain ⟨A11, k11, rfl, on11, h11⟩ := hr; have CN11 := Lib.hid (Cn.on on11 SV.out.1 SV.out.2); clear on11)
          (try go_wp2_with fail)
          refine hK.out _ _ (HS.out _ (by (with_reducible (repeat (first | exact Ext.refl _ | assumption | (refine Ext.toSet ?_ (by omega)) | refine Ext.toAlloc ?_ | refine Ext.toDrew ?_ | refine Ext.toDrewN ?_ | refine Ext.trans ?_ (by assumption)))); (first | done | fail "no"))) (fun hHeld' => ?_)
          clear hK K hHeld
          have hHeld := hHeld'
          clear hHeld'
          (try simp only [Act.put, List.setIfInBounds_toArray, List.set_cons_zero, List.set_cons_succ])
          refine wpAnyH_ready (rs := [11]) (by kernel_rfl) (by simp) ?_
          refine AllReadyH.cons (o := { dst := some 93, op := Op.call { callee := Callee.value (Operand.func 15), args := #[Operand.tmp 91, Operand.tmp 92], argTypes := #[43, 43] }, type := 3, pos := "law.go:83", after := #[{ on := 9, ground := Ground.data }, { on := 10, ground := Ground.data }, { on := 9, ground := Ground.chain }, { on := 6, ground := Ground.guard }], guard := some (6, false) }) rfl (fun K hK => ?_) AllReadyH.nil
          go_simp
          (go_at_call 15; (with_reducible refine (HC1.out _ _ _ (HX10.out.trans (by (with_reducible (repeat (first | exact Ext.refl _ | assumption | (refine Ext.toSet ?_ (by omega)) | refine Ext.toAlloc ?_ | refine Ext.toDrew ?_ | refine Ext.toDrewN ?_ | refine Ext.trans ?_ (by assumption)))); (first | done | fail "no"))) (CN11.out.ext (by (with_reducible (repeat (first | exact Ext.refl _ | assumption | (refine Ext.toSet ?_ (by omega)) | refine Ext.toAlloc ?_ | refine Ext.toDrew ?_ | refine Ext.toDrewN ?_ | refine Ext.trans ?_ (by assumption)))); (first | done | fail "no")))).mono ?_); rintro e1 w13 ⟨rfl, h13⟩)
          (try go_wp2_with fail)
          refine hK.out _ _ (HS.out _ (by (with_reducible (repeat (first | exact Ext.refl _ | assumption | (refine Ext.toSet ?_ (by omega)) | refine Ext.toAlloc ?_ | refine Ext.toDrew ?_ | refine Ext.toDrewN ?_ | refine Ext.trans ?_ (by assumption)))); (first | done | fail "no"))) (fun hHeld' => ?_)
          clear hK K hHeld
          have hHeld := hHeld'
          clear hHeld'
          (try simp only [Act.put, List.setIfInBounds_toArray, List.set_cons_zero, List.set_cons_succ])
          refine wpAnyH_take (i := 12) (oi := { dst := some 94, op := Op.binOp BinOp.gtr 3 (Operand.tmp 93) (Operand.const (Value.int IntKind.i64 0)) 3, type := 4, pos := "law.go:83", after := #[{ on := 11, ground := Ground.data }, { on := 6, ground := Ground.guard }], guard := some (6, false) }) (v := ?_) rfl (by kernel_rfl) (by kernel_rfl) (by kernel_rfl) (fun _ _ _ h => h) (Or.inl ⟨by rfl, ?hy⟩) hHeld ?_
          case hy => ((intro w' hSw; (try dsimp only at hSw); go_simp); (try with_reducible rfl))
          (try simp only [Act.put, List.setIfInBounds_toArray, List.set_cons_zero, List.set_cons_succ])
          refine wpAnyH_take (i := 13) (oi := { dst := some 95, op := Op.pick (Operand.tmp 88) (Operand.const (Value.bool true)) (Operand.tmp 94), type := 4, pos := "law.go:83", after := #[{ on := 6, ground := Ground.data }, { on := 12, ground := Ground.data }], guard := none }) (v := ?_) rfl (by kernel_rfl) (by kernel_rfl) (by kernel_rfl) (fun _ _ _ h => h) (Or.inl ⟨by rfl, ?hy⟩) hHeld ?_
          case hy => ((intro w' hSw; (try dsimp only at hSw); go_simp); (try with_reducible rfl))
          (try simp only [Act.put, List.setIfInBounds_toArray, List.set_cons_zero, List.set_cons_succ])
          refine wpAnyH_take (i := 14) (oi := { dst := some 96, op := Op.move (Operand.tmp 95), type := 4, pos := "law.go:83", after := #[{ on := 13, ground := Ground.data }, { on := 11, ground := Ground.chain }], guard := none }) (v := ?_) rfl (by kernel_rfl) (by kernel_rfl) (by kernel_rfl) (fun _ _ _ h => h) (Or.inl ⟨by rfl, ?hy⟩) hHeld ?_
          case hy => ((intro w' hSw; (try dsimp only at hSw); go_simp); (try with_reducible rfl))
          (try simp only [Act.put, List.setIfInBounds_toArray, List.set_cons_zero, List.set_cons_succ])
          refine wpAnyH_take (i := 15) (oi := { dst := some 97, op := Op.move (Operand.tmp 11), type := 3, pos := "law.go:83", after := #[{ on := 14, ground := Ground.guard }], guard := some (14, false) }) (v := ?_) rfl (by kernel_rfl) (by kernel_rfl) (by kernel_rfl) (fun _ _ _ h => h) (Or.inl ⟨by rfl, ?hy⟩) hHeld ?_
          case hy => ((intro w' hSw; (try dsimp only at hSw); go_simp); (try with_reducible rfl))
          (try simp only [Act.put, List.setIfInBounds_toArray, List.set_cons_zero, List.set_cons_succ])
          refine wpAnyH_take (i := 16) (oi := { dst := some 98, op := Op.binOp BinOp.lss 3 (Operand.tmp 97) (Operand.const (Value.int IntKind.i64 30)) 3, type := 4, pos := "law.go:83", after := #[{ on := 15, ground := Ground.data }, { on := 14, ground := Ground.guard }], guard := some (14, false) }) (v := ?_) rfl (by kernel_rfl) (by kernel_rfl) (by kernel_rfl) (fun _ _ _ h => h) (Or.inl ⟨by rfl, ?hy⟩) hHeld ?_
          case hy => ((intro w' hSw; (try dsimp only at hSw); go_simp); (try with_reducible rfl))
          (try simp only [Act.put, List.setIfInBounds_toArray, List.set_cons_zero, List.set_cons_succ])
          refine wpAnyH_take (i := 17) (oi := { dst := some 99, op := Op.move (Operand.tmp 98), type := 4, pos := "law.go:83", after := #[{ on := 16, ground := Ground.data }, { on := 14, ground := Ground.chain }, { on := 14, ground := Ground.guard }], guard := some (14, false) }) (v := ?_) rfl (by kernel_rfl) (by kernel_rfl) (by kernel_rfl) (fun _ _ _ h => h) (Or.inl ⟨by rfl, ?hy⟩) hHeld ?_
          case hy => ((intro w' hSw; (try dsimp only at hSw); go_simp); (try with_reducible rfl))
          (try simp only [Act.put, List.setIfInBounds_toArray, List.set_cons_zero, List.set_cons_succ])
          refine wpAnyH_take (i := 18) (oi := { dst := some 100, op := Op.load 43 (Operand.tmp 12), type := 43, pos := "law.go:83", after := #[{ on := 17, ground := Ground.guard }], guard := some (17, true) }) (v := undef) rfl (by kernel_rfl) (by kernel_rfl) (by kernel_rfl) (fun _ _ _ h => h) (Or.inr ⟨by rfl, rfl⟩) hHeld ?_
          (try simp only [Act.put, List.setIfInBounds_toArray, List.set_cons_zero, List.set_cons_succ])
          refine wpAnyH_take (i := 19) (oi := { dst := some 101, op := Op.move (Operand.tmp 11), type := 3, pos := "law.go:83", after := #[{ on := 17, ground := Ground.guard }], guard := some (17, true) }) (v := undef) rfl (by kernel_rfl) (by kernel_rfl) (by kernel_rfl) (fun _ _ _ h => h) (Or.inr ⟨by rfl, rfl⟩) hHeld ?_
          (try simp only [Act.put, List.setIfInBounds_toArray, List.set_cons_zero, List.set_cons_succ])
          refine wpAnyH_take (i := 20) (oi := { dst := some 102, op := Op.binOp BinOp.add 3 (Operand.tmp 101) (Operand.const (Value.int IntKind.i64 1)) 3, type := 3, pos := "law.go:83", after := #[{ on := 19, ground := Ground.data }, { on := 17, ground := Ground.guard }], guard := some (17, true) }) (v := undef) rfl (by kernel_rfl) (by kernel_rfl) (by kernel_rfl) (fun _ _ _ h => h) (Or.inr ⟨by rfl, rfl⟩) hHeld ?_
          (try simp only [Act.put, List.setIfInBounds_toArray, List.set_cons_zero, List.set_cons_succ])
          refine wpAnyH_take (i := 22) (oi := { dst := some 104, op := Op.load 43 (Operand.tmp 9), type := 43, pos := "law.go:83", after := #[{ on := 17, ground := Ground.guard }], guard := some (17, true) }) (v := undef) rfl (by kernel_rfl) (by kernel_rfl) (by kernel_rfl) (fun _ _ _ h => h) (Or.inr ⟨by rfl, rfl⟩) hHeld ?_
          (try simp only [Act.put, List.setIfInBounds_toArray, List.set_cons_zero, List.set_cons_succ])
          refine wpAnyH_take (i := 21) (oi := { dst := some 103, op := Op.call { callee := Callee.value (Operand.func 16), args := #[Operand.tmp 100, Operand.tmp 102], argTypes := #[43, 3] }, type := 43, pos := "law.go:83", after := #[{ on := 18, ground := Ground.data }, { on := 20, ground := Ground.data }, { on := 17, ground := Ground.chain }, { on := 17, ground := Ground.guard }], guard := some (17, true) }) (v := undef) rfl (by kernel_rfl) (by kernel_rfl) (by kernel_rfl) (fun _ _ _ h => h) (Or.inr ⟨by rfl, rfl⟩) hHeld ?_
          (try simp only [Act.put, List.setIfInBounds_toArray, List.set_cons_zero, List.set_cons_succ])
          refine wpAnyH_take (i := 23) (oi := { dst := some 105, op := Op.call { callee := Callee.value (Operand.func 15), args := #[Operand.tmp 103, Operand.tmp 104], argTypes := #[43, 43] }, type := 3, pos := "law.go:83", after := #[{ on := 21, ground := Ground.data }, { on := 22, ground := Ground.data }, { on := 21, ground := Ground.chain }, { on := 17, ground := Ground.guard }], guard := some (17, true) }) (v := undef) rfl (by kernel_rfl) (by kernel_rfl) (by kernel_rfl) (fun _ _ _ h => h) (Or.inr ⟨by rfl, rfl⟩) hHeld ?_
          (try simp only [Act.put, List.setIfInBounds_toArray, List.set_cons_zero, List.set_cons_succ])
          refine wpAnyH_take (i := 24) (oi := { dst := some 106, op := Op.binOp BinOp.leq 3 (Operand.tmp 105) (Operand.const (Value.int IntKind.i64 0)) 3, type := 4, pos := "law.go:83", after := #[{ on := 23, ground := Ground.data }, { on := 17, ground := Ground.guard }], guard := some (17, true) }) (v := undef) rfl (by kernel_rfl) (by kernel_rfl) (by kernel_rfl) (fun _ _ _ h => h) (Or.inr ⟨by rfl, rfl⟩) hHeld ?_
          (try simp only [Act.put, List.setIfInBounds_toArray, List.set_cons_zero, List.set_cons_succ])
          refine wpAnyH_take (i := 25) (oi := { dst := some 107, op := Op.pick (Operand.tmp 99) (Operand.tmp 106) (Operand.const (Value.bool false)), type := 4, pos := "law.go:83", after := #[{ on := 17, ground := Ground.data }, { on := 24, ground := Ground.data }, { on := 14, ground := Ground.guard }], guard := some (14, false) }) (v := ?_) rfl (by kernel_rfl) (by kernel_rfl) (by kernel_rfl) (fun _ _ _ h => h) (Or.inl ⟨by rfl, ?hy⟩) hHeld ?_
          case hy => ((intro w' hSw; (try dsimp only at hSw); go_simp); (try with_reducible rfl))
          (try simp only [Act.put, List.setIfInBounds_toArray, List.set_cons_zero, List.set_cons_succ])
          refine wpAnyH_take (i := 26) (oi := { dst := some 108, op := Op.pick (Operand.tmp 96) (Operand.const (Value.bool true)) (Operand.tmp 107), type := 4, pos := "law.go:83", after := #[{ on := 14, ground := Ground.data }, { on := 25, ground := Ground.data }], guard := none }) (v := ?_) rfl (by kernel_rfl) (by kernel_rfl) (by kernel_rfl) (fun _ _ _ h => h) (Or.inl ⟨by rfl, ?hy⟩) hHeld ?_
          case hy => ((intro w' hSw; (try dsimp only at hSw); go_simp); (try with_reducible rfl))
          (try simp only [Act.put, List.setIfInBounds_toArray, List.set_cons_zero, List.set_cons_succ])
          refine wpAnyH_done (by kernel_rfl) ?_ _
          (try refine NoPanic.normal ?_)
          go_wp2_with fail
          (try rw [← hrn])
          go_roundw
          case rel => exact ⟨j + 1, by omega, by go_num, H.out.trans (HX10.out.trans (by (with_reducible (repeat (first | exact Ext.refl _ | assumption | (refine Ext.toSet ?_ (by omega)) | refine Ext.toAlloc ?_ | refine Ext.toDrew ?_ | refine Ext.toDrewN ?_ | refine Ext.trans ?_ (by assumption)))); (first | done | fail "no")))⟩
          case measure => simp [intOf]; omega
      · obtain rfl : j = n := by omega
        go_wp2_with fail
        go_ret
        exact ⟨rfl, HE.out.trans (HX9.out.trans H.out)⟩
theorem greatest_any {w : World} {D : Dia} {p : Pl} {A B : Option Addr} {n c m e : Nat} {R : Nat → RI} {F G : Nat → Nat → Nat} {X : Nat → Int} (d : Dm w D p) (hT : Tabs w) (st : StsI w A n R F G) (rx : Ri w B m X) (hm : m ≤ maxLen) (_ : ∀ i, i < m → in64 (X i)) :
    Calls Tryd.prog 3 #[dgv D p, rgv A n c B m e] w fun e w' => e = .returned (.bool true) ∧ Ext w w' := by
  cases hl : litS D n R m with
  | false => exact scalesGreatest_off d hT st rx hm (.inl hl)
  | true =>
    by_cases hk : chk D = 0
    · exact greatest_on d hT st rx hm hl hk
    · exact scalesGreatest_off d hT st rx hm (.inr hk)
end Go.Proofs.YtgnngldlgcdnfaaDoor
