/- The law ScalesNarrow: it returns true. -/
import Derived.Test.YtgnngldlgcdnfaaDoorSch
import Derived.Test.YtgnngldlgcdnfaaDoorOwv
import Derived.Deep.RegionHeld3
namespace Go.Proofs.YtgnngldlgcdnfaaDoor
open Go Go.RowKit
attribute [local go_sem ↓] Go.wp_at_zero Go.wp_at_succ

/-- Twice the range. -/
def wdV (x : IV) : IV := ⟨shiftD x.lo 1, shiftD x.hi 1⟩
theorem wd_q {x : DV} (h : x.ok) : (shiftD x 1).q = 2 * x.q := by
  have := q_shiftN h (s := 1) (by omega)
  have e : qp 1 = 2 := by unfold qp; rfl
  rw [e] at this
  rw [show shiftD x 1 = shiftD x ((1 : Nat) : Int) from rfl, this]; grind
/-- Is one of the first n scales 0? -/
def zrN (S : Nat → IV) : Nat → Bool
  | 0 => false
  | k + 1 => zrN S k || (chS (S k) == 0)
theorem zrN_hit {S : Nat → IV} {i : Nat} (h : chS (S i) = 0) : ∀ n, i < n → zrN S n = true
  | 0, q => by omega
  | n + 1, q => by
    unfold zrN
    by_cases e : i = n
    · subst e; rw [h]; simp
    · rw [zrN_hit h n (by omega)]; rfl
theorem chE_four {nb n : Nat} {b : Nat → Bool} {S : Nat → IV} (h : rgE nb n b = 0) (hz : chE nb n b S ≠ 0) : chE nb n b S = 4 ∧ ∃ i, i < n ∧ chS (S i) < 0 := by
  unfold chE at hz ⊢
  rw [if_neg (by omega)] at hz
  rw [if_neg (by omega)]
  by_cases q : allN n (fun i => decide (0 ≤ chS (S i))) = true
  · rw [if_pos q] at hz; exact absurd rfl hz
  · rw [if_neg q]
    obtain ⟨i, hi, hq⟩ := allN_false.1 (by simpa using q)
    exact ⟨rfl, i, hi, by have := of_decide_eq_false hq; omega⟩
set_option maxRecDepth 100000 in
set_option maxHeartbeats 4000000 in
theorem scalesNarrow_off {w : World} {D : Dia} {p : Pl} {A B : Option Addr} {n c m e : Nat} {R : Nat → RI} {F G : Nat → Nat → Nat} {X : Nat → Int} (d : Dm w D p) (hT : Tabs w) (st : StsI w A n R F G) (_ : Ri w B m X) (hm : m ≤ maxLen) (h : litS D n R m = false ∨ chk D ≠ 0) :
    Calls Tryd.prog 5 #[dgv D p, rgv A n c B m e] w fun e w' => e = .returned (.bool true) ∧ Ext w w' := by
  have hn := st.hn
  unfold maxLen at hm hn
  obtain ⟨W1, hW1⟩ : ∃ W1, W1 = (w.alloc (.cells #[.slice p.AI D.ni p.cI, .slice p.AB D.nb p.cB, .slice p.AO D.no p.cO] 26)).alloc (.cells #[.slice A n c, .slice B m e] 29) := ⟨_, rfl⟩
  have hE : Ext w W1 := by rw [hW1]; exact (Ext.alloc _ _).trans (Ext.alloc _ _)
  have HBX : Hid (∀ w', Ext W1 w' → (w'.cell? ⟨w.heap.size, 0, none⟩ = some (.slice p.AI D.ni p.cI) ∧ w'.cell? ⟨w.heap.size, 1, none⟩ = some (.slice p.AB D.nb p.cB) ∧ w'.cell? ⟨w.heap.size, 2, none⟩ = some (.slice p.AO D.no p.cO)) ∧ w'.cell? ⟨w.heap.size + 1, 0, none⟩ = some (.slice A n c) ∧ w'.cell? ⟨w.heap.size + 1, 1, none⟩ = some (.slice B m e)) := fun w' x => by
    have hl : w.heap.size + 1 < W1.heap.size := by rw [hW1]; simp
    have hb : Bd w' w.heap.size D p := by
      have h0 : Bd W1 w.heap.size D p := by rw [hW1]; exact (Bd.new _ _ _ _).ext (Ext.alloc _ _)
      exact h0.ext x
    exact ⟨⟨hb.c0, hb.c1, hb.c2⟩, (x.old.1 _ _ hl).trans (by rw [hW1]; go_simp), (x.old.1 _ _ hl).trans (by rw [hW1]; go_simp)⟩
  have HA : Hid (∀ w', Ext W1 w' → Calls Tryd.prog 7 #[] w' fun e w'' => e = .returned (.bool true) ∧ Ext w' w'') := fun w' x => scAwake_any w' (hT.ext (hE.trans x))
  have HLI : Hid (∀ w', Ext W1 w' → Calls Tryd.prog 8 #[dgv D p, rgv A n c B m e] w' fun e w'' => e = .returned (.bool (litS D n R m)) ∧ Ext w' w'') := fun w' x => scLight_any (d.ext (hE.trans x)) (st.rn.ext (hE.trans x)) (by unfold maxLen; omega) (by unfold maxLen; omega)
  have HCK : Hid (∀ w', Ext W1 w' → Calls Tryd.prog 9 #[dgv D p] w' fun e w'' => e = .returned (errv (chk D)) ∧ Ext w' w'') := fun w' x => check_any (d.ext (hE.trans x)) (hT.ext (hE.trans x))
  have HE := Lib.hid hE
  obtain ⟨⟨c0, c1, c2⟩, c3, c4⟩ := HBX.out _ (Ext.refl _)
  clear d hT st hE
  cases hl : litS D n R m with
  | false =>
    rw [hl] at HLI
    clear h hl HCK
    go_enter Tryd.func5, Tryd.ntmps5
    go_upto_region 1 with fail
    rw [← hW1]; clear hW1
    go_wp2_with (first
        | (go_at_call 7; (with_reducible refine (HA.out _ (by (with_reducible (repeat (first | exact Ext.refl _ | assumption | (refine Ext.toSet ?_ (by omega)) | refine Ext.toAlloc ?_ | refine Ext.toDrew ?_ | refine Ext.toDrewN ?_ | refine Ext.trans ?_ (by assumption)))); (first | done | fail "no"))).mono ?_); rintro e1 w1 ⟨rfl, h1⟩; (try clear c0 c1 c2 c3 c4); obtain ⟨⟨c0, c1, c2⟩, c3, c4⟩ := HBX.out w1 (by (with_reducible (repeat (first | exact Ext.refl _ | assumption | (refine Ext.toSet ?_ (by omega)) | refine Ext.toAlloc ?_ | refine Ext.toDrew ?_ | refine Ext.toDrewN ?_ | refine Ext.trans ?_ (by assumption)))); (first | done | fail "no")))
        | (go_at_call 8; (with_reducible refine (HLI.out _ (by (with_reducible (repeat (first | exact Ext.refl _ | assumption | (refine Ext.toSet ?_ (by omega)) | refine Ext.toAlloc ?_ | refine Ext.toDrew ?_ | refine Ext.toDrewN ?_ | refine Ext.trans ?_ (by assumption)))); (first | done | fail "no"))).mono ?_); rintro e1 w2 ⟨rfl, h2⟩; (try clear c0 c1 c2 c3 c4); obtain ⟨⟨c0, c1, c2⟩, c3, c4⟩ := HBX.out w2 (by (with_reducible (repeat (first | exact Ext.refl _ | assumption | (refine Ext.toSet ?_ (by omega)) | refine Ext.toAlloc ?_ | refine Ext.toDrew ?_ | refine Ext.toDrewN ?_ | refine Ext.trans ?_ (by assumption)))); (first | done | fail "no"))))
    go_ret
    exact ⟨rfl, HE.out.trans (by (with_reducible (repeat (first | exact Ext.refl _ | assumption | (refine Ext.toSet ?_ (by omega)) | refine Ext.toAlloc ?_ | refine Ext.toDrew ?_ | refine Ext.toDrewN ?_ | refine Ext.trans ?_ (by assumption)))); (first | done | fail "no"))⟩
  | true =>
    rw [hl] at HLI
    have hk : chk D ≠ 0 := by rcases h with h | h; rw [hl] at h; cases h; exact h
    clear h hl
    rw [errv_n hk] at HCK
    clear hk
    generalize chk D = k at *
    go_enter Tryd.func5, Tryd.ntmps5
    go_upto_region 1 with fail
    rw [← hW1]; clear hW1
    go_wp2_with (first
        | (go_at_call 7; (with_reducible refine (HA.out _ (by (with_reducible (repeat (first | exact Ext.refl _ | assumption | (refine Ext.toSet ?_ (by omega)) | refine Ext.toAlloc ?_ | refine Ext.toDrew ?_ | refine Ext.toDrewN ?_ | refine Ext.trans ?_ (by assumption)))); (first | done | fail "no"))).mono ?_); rintro e1 w1 ⟨rfl, h1⟩; (try clear c0 c1 c2 c3 c4); obtain ⟨⟨c0, c1, c2⟩, c3, c4⟩ := HBX.out w1 (by (with_reducible (repeat (first | exact Ext.refl _ | assumption | (refine Ext.toSet ?_ (by omega)) | refine Ext.toAlloc ?_ | refine Ext.toDrew ?_ | refine Ext.toDrewN ?_ | refine Ext.trans ?_ (by assumption)))); (first | done | fail "no")))
        | (go_at_call 8; (with_reducible refine (HLI.out _ (by (with_reducible (repeat (first | exact Ext.refl _ | assumption | (refine Ext.toSet ?_ (by omega)) | refine Ext.toAlloc ?_ | refine Ext.toDrew ?_ | refine Ext.toDrewN ?_ | refine Ext.trans ?_ (by assumption)))); (first | done | fail "no"))).mono ?_); rintro e1 w2 ⟨rfl, h2⟩; (try clear c0 c1 c2 c3 c4); obtain ⟨⟨c0, c1, c2⟩, c3, c4⟩ := HBX.out w2 (by (with_reducible (repeat (first | exact Ext.refl _ | assumption | (refine Ext.toSet ?_ (by omega)) | refine Ext.toAlloc ?_ | refine Ext.toDrew ?_ | refine Ext.toDrewN ?_ | refine Ext.trans ?_ (by assumption)))); (first | done | fail "no")))
        | (go_at_call 9; (with_reducible refine (HCK.out _ (by (with_reducible (repeat (first | exact Ext.refl _ | assumption | (refine Ext.toSet ?_ (by omega)) | refine Ext.toAlloc ?_ | refine Ext.toDrew ?_ | refine Ext.toDrewN ?_ | refine Ext.trans ?_ (by assumption)))); (first | done | fail "no"))).mono ?_); rintro e1 w3 ⟨rfl, h3⟩; (try clear c0 c1 c2 c3 c4); obtain ⟨⟨c0, c1, c2⟩, c3, c4⟩ := HBX.out w3 (by (with_reducible (repeat (first | exact Ext.refl _ | assumption | (refine Ext.toSet ?_ (by omega)) | refine Ext.toAlloc ?_ | refine Ext.toDrew ?_ | refine Ext.toDrewN ?_ | refine Ext.trans ?_ (by assumption)))); (first | done | fail "no"))))
    go_ret
    exact ⟨rfl, HE.out.trans (by (with_reducible (repeat (first | exact Ext.refl _ | assumption | (refine Ext.toSet ?_ (by omega)) | refine Ext.toAlloc ?_ | refine Ext.toDrew ?_ | refine Ext.toDrewN ?_ | refine Ext.trans ?_ (by assumption)))); (first | done | fail "no"))⟩
theorem six_kept {w w' : World} {r : Option Nat} {g : Nat} {v0 v1 v2 v3 v4 v5 : Value} (h : w.grownBy w' r) (c : w.cell? ⟨g, 0, none⟩ = some v0 ∧ w.cell? ⟨g, 1, none⟩ = some v1 ∧ w.cell? ⟨g, 2, none⟩ = some v2 ∧ w.cell? ⟨g, 3, none⟩ = some v3 ∧ w.cell? ⟨g, 4, none⟩ = some v4 ∧ w.cell? ⟨g, 5, none⟩ = some v5) (hne : r ≠ some g) :
    w'.cell? ⟨g, 0, none⟩ = some v0 ∧ w'.cell? ⟨g, 1, none⟩ = some v1 ∧ w'.cell? ⟨g, 2, none⟩ = some v2 ∧ w'.cell? ⟨g, 3, none⟩ = some v3 ∧ w'.cell? ⟨g, 4, none⟩ = some v4 ∧ w'.cell? ⟨g, 5, none⟩ = some v5 :=
  ⟨h.cell c.1 hne.symm, h.cell c.2.1 hne.symm, h.cell c.2.2.1 hne.symm, h.cell c.2.2.2.1 hne.symm, h.cell c.2.2.2.2.1 hne.symm, h.cell c.2.2.2.2.2 hne.symm⟩
theorem six_new (w : World) (v0 v1 v2 v3 v4 v5 : Value) (t : TypeId) : ∀ j u, [v0, v1, v2, v3, v4, v5][j]? = some u → (w.alloc (.cells #[v0, v1, v2, v3, v4, v5] t)).cell? ((⟨w.heap.size, 0, none⟩ : Addr).add j) = some u := fun j u hj => by
  have h := (B6.new w v0 v1 v2 v3 v4 v5 t).1
  have hadd : (⟨w.heap.size, 0, none⟩ : Addr).add j = ⟨w.heap.size, 0 + j, none⟩ := by unfold Addr.add; split <;> simp_all
  rw [hadd, Nat.zero_add]
  match j, hj with
  | 0, hj => injection hj with hj; subst hj; exact h.1
  | 1, hj => injection hj with hj; subst hj; exact h.2.1
  | 2, hj => injection hj with hj; subst hj; exact h.2.2.1
  | 3, hj => injection hj with hj; subst hj; exact h.2.2.2.1
  | 4, hj => injection hj with hj; subst hj; exact h.2.2.2.2.1
  | 5, hj => injection hj with hj; subst hj; exact h.2.2.2.2.2
  | k + 6, hj => simp at hj
theorem cn_two {w w' : World} {u v : DV} {b b' : Nat} {A B : Option Addr} {c k : Nat} (h : End u ∧ End v ∧ u.q ≤ v.q) (a : On w b A (len u.m) c (dg u.m)) (a' : On w b' B (len v.m) k (dg v.m)) (e : Ext w w') : CnI w' (ciR ⟨u, v⟩ A c B k) ⟨u, v⟩ :=
  ⟨(Cn.on a h.1.1 (Nat.le_trans h.1.2 (by decide))).ext e, (Cn.on a' h.2.1.1 (Nat.le_trans h.2.1.2 (by decide))).ext e, h.1.2, h.2.1.2, h.2.2⟩
theorem on_new {w : World} {b base n c : Nat} {A : Option Addr} {f : Nat → Nat} (h : On w b A n c f) (hb : base ≤ b) : 0 < n → ∀ a, A = some a → base ≤ a.block := fun _ a ha => by
  obtain ⟨e, _⟩ | ⟨g', e, hr⟩ := h.cases
  · rw [e] at ha; cases ha
  · rw [e] at ha; injection ha with ha; subst ha; exact Nat.le_trans hb hr.lt.1
theorem nw_two {w w' : World} {u v : DV} {b b' base : Nat} {A B : Option Addr} {c k : Nat} (a : On w b A (len u.m) c (dg u.m)) (a' : On w' b' B (len v.m) k (dg v.m)) (h1 : base ≤ b) (h2 : base ≤ b') : NwI base (ciR ⟨u, v⟩ A c B k) ⟨u, v⟩ := ⟨on_new a h1, on_new a' h2⟩
set_option maxRecDepth 100000 in
set_option maxHeartbeats 4000000 in
theorem narrow_on {w : World} {D : Dia} {p : Pl} {A B : Option Addr} {n c m e : Nat} {R : Nat → RI} {F G : Nat → Nat → Nat} {X : Nat → Int} (d : Dm w D p) (hT : Tabs w) (st : StsI w A n R F G) (_ : Ri w B m X) (hm : m ≤ maxLen) (hlt : litS D n R m = true) (hk : chk D = 0) :
    Calls Tryd.prog 5 #[dgv D p, rgv A n c B m e] w fun e w' => e = .returned (.bool true) ∧ Ext w w' := by
  have hn := st.hn
  unfold maxLen at hm hn
  obtain ⟨W1, hW1⟩ : ∃ W1, W1 = (w.alloc (.cells #[.slice p.AI D.ni p.cI, .slice p.AB D.nb p.cB, .slice p.AO D.no p.cO] 26)).alloc (.cells #[.slice A n c, .slice B m e] 29) := ⟨_, rfl⟩
  have hE : Ext w W1 := by rw [hW1]; exact (Ext.alloc _ _).trans (Ext.alloc _ _)
  have HBX : Hid (∀ w', Ext W1 w' → (w'.cell? ⟨w.heap.size, 0, none⟩ = some (.slice p.AI D.ni p.cI) ∧ w'.cell? ⟨w.heap.size, 1, none⟩ = some (.slice p.AB D.nb p.cB) ∧ w'.cell? ⟨w.heap.size, 2, none⟩ = some (.slice p.AO D.no p.cO)) ∧ w'.cell? ⟨w.heap.size + 1, 0, none⟩ = some (.slice A n c) ∧ w'.cell? ⟨w.heap.size + 1, 1, none⟩ = some (.slice B m e)) := fun w' x => by
    have hl : w.heap.size + 1 < W1.heap.size := by rw [hW1]; simp
    have hb : Bd w' w.heap.size D p := by
      have h0 : Bd W1 w.heap.size D p := by rw [hW1]; exact (Bd.new _ _ _ _).ext (Ext.alloc _ _)
      exact h0.ext x
    exact ⟨⟨hb.c0, hb.c1, hb.c2⟩, (x.old.1 _ _ hl).trans (by rw [hW1]; go_simp), (x.old.1 _ _ hl).trans (by rw [hW1]; go_simp)⟩
  have HA : Hid (∀ w', Ext W1 w' → Calls Tryd.prog 7 #[] w' fun e w'' => e = .returned (.bool true) ∧ Ext w' w'') := fun w' x => scAwake_any w' (hT.ext (hE.trans x))
  have HLI : Hid (∀ w', Ext W1 w' → Calls Tryd.prog 8 #[dgv D p, rgv A n c B m e] w' fun e w'' => e = .returned (.bool (litS D n R m)) ∧ Ext w' w'') := fun w' x => scLight_any (d.ext (hE.trans x)) (st.rn.ext (hE.trans x)) (by unfold maxLen; omega) (by unfold maxLen; omega)
  have HCK : Hid (∀ w', Ext W1 w' → Calls Tryd.prog 9 #[dgv D p] w' fun e w'' => e = .returned (errv (chk D)) ∧ Ext w' w'') := fun w' x => check_any (d.ext (hE.trans x)) (hT.ext (hE.trans x))
  have HE := Lib.hid hE
  obtain ⟨⟨c0, c1, c2⟩, c3, c4⟩ := HBX.out _ (Ext.refl _)
  obtain ⟨hn100, el⟩ := st.el (litS_t hlt).2.1
  have hlen := (lea_t (litS_t hlt).2.1).2
  obtain ⟨S, hS⟩ : ∃ S, ivS R F G = S := ⟨_, rfl⟩
  obtain ⟨b, hb⟩ : ∃ b, ivO R F G = b := ⟨_, rfl⟩
  rw [hS, hb] at el
  rw [hlt] at HLI
  rw [hk, errv_z] at HCK
  have HCH : Hid (∀ w', Ext W1 w' → Calls Tryd.prog 10 #[dgv D p, .slice A n c] w' (ChP D n b S w')) := fun w' x => Choose_any (d.ext (hE.trans x)) (hT.ext (hE.trans x)) (by omega) (st.rn.ext (hE.trans x)) fun k hk => ((el k hk).ext (hE.trans x)).toElI
  have hnb := (chk_ok hk).nb
  rcases Decidable.em (chX D n b S = 0) with hz | hz
  case inr =>
    have HC2 : Hid (∀ w', Ext W1 w' → Calls Tryd.prog 10 #[dgv D p, .slice A n c] w' fun e w'' => e = .returned (.tuple #[.slice none 0 0, .iface 38 (I (chX D n b S))]) ∧ Ext w' w'') := fun w' x => (HCH.out w' x).mono fun e w'' hh => by
      rcases hh with ⟨_, h2⟩ | ⟨h1, _⟩
      · exact h2
      · exact absurd h1 hz
    clear d hT st hE hlt hk el HCH hz hlen
    generalize chX D n b S = k at *
    go_enter Tryd.func5, Tryd.ntmps5
    go_upto_region 1 with fail
    rw [← hW1]; clear hW1
    go_wp2_with (first
        | (go_at_call 7; (with_reducible refine (HA.out _ (by (with_reducible (repeat (first | exact Ext.refl _ | assumption | (refine Ext.toSet ?_ (by omega)) | refine Ext.toAlloc ?_ | refine Ext.toDrew ?_ | refine Ext.toDrewN ?_ | refine Ext.trans ?_ (by assumption)))); (first | done | fail "no"))).mono ?_); rintro e1 w1 ⟨rfl, h1⟩; (try clear c0 c1 c2 c3 c4); obtain ⟨⟨c0, c1, c2⟩, c3, c4⟩ := HBX.out w1 (by (with_reducible (repeat (first | exact Ext.refl _ | assumption | (refine Ext.toSet ?_ (by omega)) | refine Ext.toAlloc ?_ | refine Ext.toDrew ?_ | refine Ext.toDrewN ?_ | refine Ext.trans ?_ (by assumption)))); (first | done | fail "no")))
        | (go_at_call 8; (with_reducible refine (HLI.out _ (by (with_reducible (repeat (first | exact Ext.refl _ | assumption | (refine Ext.toSet ?_ (by omega)) | refine Ext.toAlloc ?_ | refine Ext.toDrew ?_ | refine Ext.toDrewN ?_ | refine Ext.trans ?_ (by assumption)))); (first | done | fail "no"))).mono ?_); rintro e1 w2 ⟨rfl, h2⟩; (try clear c0 c1 c2 c3 c4); obtain ⟨⟨c0, c1, c2⟩, c3, c4⟩ := HBX.out w2 (by (with_reducible (repeat (first | exact Ext.refl _ | assumption | (refine Ext.toSet ?_ (by omega)) | refine Ext.toAlloc ?_ | refine Ext.toDrew ?_ | refine Ext.toDrewN ?_ | refine Ext.trans ?_ (by assumption)))); (first | done | fail "no")))
        | (go_at_call 9; (with_reducible refine (HCK.out _ (by (with_reducible (repeat (first | exact Ext.refl _ | assumption | (refine Ext.toSet ?_ (by omega)) | refine Ext.toAlloc ?_ | refine Ext.toDrew ?_ | refine Ext.toDrewN ?_ | refine Ext.trans ?_ (by assumption)))); (first | done | fail "no"))).mono ?_); rintro e1 w3 ⟨rfl, h3⟩; (try clear c0 c1 c2 c3 c4); obtain ⟨⟨c0, c1, c2⟩, c3, c4⟩ := HBX.out w3 (by (with_reducible (repeat (first | exact Ext.refl _ | assumption | (refine Ext.toSet ?_ (by omega)) | refine Ext.toAlloc ?_ | refine Ext.toDrew ?_ | refine Ext.toDrewN ?_ | refine Ext.trans ?_ (by assumption)))); (first | done | fail "no")))
        | (go_at_call 10; (with_reducible refine (HC2.out _ (by (with_reducible (repeat (first | exact Ext.refl _ | assumption | (refine Ext.toSet ?_ (by omega)) | refine Ext.toAlloc ?_ | refine Ext.toDrew ?_ | refine Ext.toDrewN ?_ | refine Ext.trans ?_ (by assumption)))); (first | done | fail "no"))).mono ?_); rintro e1 w4 ⟨rfl, h4⟩))
    go_ret
    exact ⟨rfl, HE.out.trans (by (with_reducible (repeat (first | exact Ext.refl _ | assumption | (refine Ext.toSet ?_ (by omega)) | refine Ext.toAlloc ?_ | refine Ext.toDrew ?_ | refine Ext.toDrewN ?_ | refine Ext.trans ?_ (by assumption)))); (first | done | fail "no"))⟩
  case inl =>
    have HC2 : Hid (∀ w', Ext W1 w' → Calls Tryd.prog 10 #[dgv D p, .slice A n c] w' fun e w'' => ∃ g, e = .returned (.tuple #[.slice (some ⟨g, 0, none⟩) n n, .nilIface]) ∧ RnM w' w'' g n (fun i => chS (S i))) := fun w' x => (HCH.out w' x).mono fun e w'' hh => by
      rcases hh with ⟨h1, _⟩ | ⟨_, h2⟩
      · exact absurd hz h1
      · exact h2
    have hce : chE D.nb n b S = 0 := by unfold chX at hz; rwa [if_neg (by omega)] at hz
    obtain ⟨hr, hge⟩ := chE_z hce
    obtain ⟨hnn, hbt⟩ := rgE_z hr
    have hcn : ∀ k, k < n → CnI W1 (R k) (S k) := fun k hk => ((el k hk).ext hE).cn (hbt k hk)
    have hls : ∀ k, k < n → len (S k).lo.m ≤ 140 ∧ len (S k).hi.m ≤ 140 := fun k hk => by
      have a := hlen k hk; have cn := hcn k hk
      have a1 := cn.lo.n; have a2 := cn.hi.n
      omega
    have HCW : Hid (∀ w' Aw cw Rw, Ext W1 w' → LnI w' Aw n Rw (fun k => wdV (S k)) → Calls Tryd.prog 10 #[dgv D p, .slice Aw n cw] w' (ChP D n (fun _ => true) (fun k => wdV (S k)) w')) := fun w' Aw cw Rw x l =>
      Choose_any (d.ext (hE.trans x)) (hT.ext (hE.trans x)) (by omega) l.rn fun k hk => ElI.of (l.el k hk)
    have HEL := Lib.hid hcn
    have HLS := Lib.hid hls
    have HRN := Lib.hid (st.rn.ext hE)
    have HT := Lib.hid (hT.ext hE)
    have HGE := Lib.hid hge
    have HR0 : Hid (rgE D.nb n (fun _ => true) = 0) := rgE_ok hnn fun _ _ => rfl
    have HTW : Hid (∀ k, k < n → chS (wdV (S k)) ≤ chS (S k) ∧ chS (S k) - 1 ≤ chS (wdV (S k)) ∧ (chS (S k) < 30 → 0 ≤ chS (S k) → chS (wdV (S k)) = chS (S k) - 1)) := fun k hk =>
      chS_twice (hcn k hk).lo.ok (hcn k hk).hi.ok (shiftD_ok _ _) (shiftD_ok _ _) (wd_q (hcn k hk).lo.ok) (wd_q (hcn k hk).hi.ok)
    have HK := Lib.hid hk
    clear d hT st hE hlt hk el HCH hz hce hr hge hnn hbt hcn hls hlen
    obtain ⟨iI, zI, hiI, hzI, hsI, hbI, hcI⟩ := infoIv'
    go_enter Tryd.func5, Tryd.ntmps5
    go_upto_region 1 with fail
    rw [← hW1]; clear hW1
    go_upto_region 7 with (first
        | (go_at_call 7; (with_reducible refine (HA.out _ (by (with_reducible (repeat (first | exact Ext.refl _ | assumption | (refine Ext.toSet ?_ (by omega)) | refine Ext.toAlloc ?_ | refine Ext.toDrew ?_ | refine Ext.toDrewN ?_ | refine Ext.trans ?_ (by assumption)))); (first | done | fail "no"))).mono ?_); rintro e1 w1 ⟨rfl, h1⟩; (try clear c0 c1 c2 c3 c4); obtain ⟨⟨c0, c1, c2⟩, c3, c4⟩ := HBX.out w1 (by (with_reducible (repeat (first | exact Ext.refl _ | assumption | (refine Ext.toSet ?_ (by omega)) | refine Ext.toAlloc ?_ | refine Ext.toDrew ?_ | refine Ext.toDrewN ?_ | refine Ext.trans ?_ (by assumption)))); (first | done | fail "no")))
        | (go_at_call 8; (with_reducible refine (HLI.out _ (by (with_reducible (repeat (first | exact Ext.refl _ | assumption | (refine Ext.toSet ?_ (by omega)) | refine Ext.toAlloc ?_ | refine Ext.toDrew ?_ | refine Ext.toDrewN ?_ | refine Ext.trans ?_ (by assumption)))); (first | done | fail "no"))).mono ?_); rintro e1 w2 ⟨rfl, h2⟩; (try clear c0 c1 c2 c3 c4); obtain ⟨⟨c0, c1, c2⟩, c3, c4⟩ := HBX.out w2 (by (with_reducible (repeat (first | exact Ext.refl _ | assumption | (refine Ext.toSet ?_ (by omega)) | refine Ext.toAlloc ?_ | refine Ext.toDrew ?_ | refine Ext.toDrewN ?_ | refine Ext.trans ?_ (by assumption)))); (first | done | fail "no")))
        | (go_at_call 9; (with_reducible refine (HCK.out _ (by (with_reducible (repeat (first | exact Ext.refl _ | assumption | (refine Ext.toSet ?_ (by omega)) | refine Ext.toAlloc ?_ | refine Ext.toDrew ?_ | refine Ext.toDrewN ?_ | refine Ext.trans ?_ (by assumption)))); (first | done | fail "no"))).mono ?_); rintro e1 w3 ⟨rfl, h3⟩; (try clear c0 c1 c2 c3 c4); obtain ⟨⟨c0, c1, c2⟩, c3, c4⟩ := HBX.out w3 (by (with_reducible (repeat (first | exact Ext.refl _ | assumption | (refine Ext.toSet ?_ (by omega)) | refine Ext.toAlloc ?_ | refine Ext.toDrew ?_ | refine Ext.toDrewN ?_ | refine Ext.trans ?_ (by assumption)))); (first | done | fail "no")))
        | (go_at_call 10; (with_reducible refine (HC2.out _ (by (with_reducible (repeat (first | exact Ext.refl _ | assumption | (refine Ext.toSet ?_ (by omega)) | refine Ext.toAlloc ?_ | refine Ext.toDrew ?_ | refine Ext.toDrewN ?_ | refine Ext.trans ?_ (by assumption)))); (first | done | fail "no"))).mono ?_); rintro e1 w4 ⟨g, rfl, rg4⟩; have RG4 := Lib.hid rg4; have h4 := rg4.ext; clear rg4; (try clear c0 c1 c2 c3 c4); obtain ⟨⟨c0, c1, c2⟩, c3, c4⟩ := HBX.out w4 (by (with_reducible (repeat (first | exact Ext.refl _ | assumption | (refine Ext.toSet ?_ (by omega)) | refine Ext.toAlloc ?_ | refine Ext.toDrew ?_ | refine Ext.toDrewN ?_ | refine Ext.trans ?_ (by assumption)))); (first | done | fail "no"))))
    have HX4 : Hid (Ext W1 w4) := (show Ext W1 w4 from (by (with_reducible (repeat (first | exact Ext.refl _ | assumption | (refine Ext.toSet ?_ (by omega)) | refine Ext.toAlloc ?_ | refine Ext.toDrew ?_ | refine Ext.toDrewN ?_ | refine Ext.trans ?_ (by assumption)))); (first | done | fail "no")))
    clear h1 h2 h3 h4 HA HLI HCK HC2
    obtain ⟨br, or_, hbr⟩ : ∃ br, ∃ or_ : Unit, br = A := ⟨A, (), rfl⟩
    clear or_ hbr br
    go_wp2_with fail
    clear c0 c1 c2 c3 c4
    go_loopw [7, 42] (fun s7 s wr => ∃ (j : Nat) (Aw : Option Addr) (cw : Nat) (Rw : Nat → RI) (Vw : Nat → IV), j ≤ n ∧ s = I j ∧ s7 = .slice Aw j cw ∧ Hid (WdI w4 wr Aw cw Rw Vw j) ∧ Hid (∀ i, i < j → Vw i = wdV (S i))) (fun _ s _ => n - (intOf s).toNat)
    case atStart => exact ⟨0, none, 0, fun _ => RI.z, fun _ => IV.z, Nat.zero_le _, rfl, rfl, WdI.nil _ _ _, fun i hi => absurd hi (by omega)⟩
    case round =>
      obtain ⟨j, Aw, cw, Rw, Vw, hj, rfl, rfl, H, HV⟩ := hrel
      by_cases hlt : j < n
      · have hX := HX4.out.trans H.out.ext
        have cj := (HEL.out j hlt).ext hX
        obtain ⟨br, or_, hbr, hbl, hcr⟩ := HRN.out.ext hX (by omega)
        obtain ⟨x0, x1, x2, x3, x4, x5⟩ := hcr j hlt
        have hlt' : (j : Int) < (n : Int) := by omega
        have hls := HLS.out j hlt
        obtain ⟨u, hu⟩ : ∃ u, shiftD (S j).lo 1 = u := ⟨_, rfl⟩
        obtain ⟨v, hv⟩ : ∃ v, shiftD (S j).hi 1 = v := ⟨_, rfl⟩
        have HUV : Hid (wdV (S j) = ⟨u, v⟩) := by show _ = _; unfold wdV; rw [hu, hv]
        have bu : End u := by rw [← hu]; exact ⟨shiftD_ok _ _, by have := lim_shift (S j).lo 1; omega⟩
        have bv : End v := by rw [← hv]; exact ⟨shiftD_ok _ _, by have := lim_shift (S j).hi 1; omega⟩
        have hle : u.q ≤ v.q := by
          rw [← hu, ← hv, wd_q cj.lo.ok, wd_q cj.hi.ok]
          have := cj.le; grind
        have HE2 : Hid (End u ∧ End v ∧ u.q ≤ v.q) := ⟨bu, bv, hle⟩
        obtain ⟨W2, hW2⟩ : ∃ W2, W2 = wr.alloc (.cells #[.bool (R j).lo.neg, .slice (R j).lo.A (R j).lo.n (R j).lo.c, I (R j).lo.den, .bool (R j).hi.neg, .slice (R j).hi.A (R j).hi.n (R j).hi.c, I (R j).hi.den] 47) := ⟨_, rfl⟩
        have hE2 : Ext wr W2 := by rw [hW2]; exact Ext.alloc _ _
        have hb2 : B6 W2 wr.heap.size (.bool (R j).lo.neg) (.slice (R j).lo.A (R j).lo.n (R j).lo.c) (I (R j).lo.den) (.bool (R j).hi.neg) (.slice (R j).hi.A (R j).hi.n (R j).hi.c) (I (R j).hi.den) := by rw [hW2]; exact B6.new _ _ _ _ _ _ _ _
        have HS : Hid (∀ w', Ext W2 w' → w'.cell? ⟨wr.heap.size, 0, none⟩ = some (.bool (R j).lo.neg) ∧ w'.cell? ⟨wr.heap.size, 1, none⟩ = some (.slice (R j).lo.A (R j).lo.n (R j).lo.c) ∧ w'.cell? ⟨wr.heap.size, 2, none⟩ = some (I (R j).lo.den) ∧ w'.cell? ⟨wr.heap.size, 3, none⟩ = some (.bool (R j).hi.neg) ∧ w'.cell? ⟨wr.heap.size, 4, none⟩ = some (.slice (R j).hi.A (R j).hi.n (R j).hi.c) ∧ w'.cell? ⟨wr.heap.size, 5, none⟩ = some (I (R j).hi.den)) := fun w' x => (hb2.ext x).1
        have HSU : Hid (∀ w', Ext W2 w' → Calls Tryd.prog 16 #[(R j).lo.v, I 1] w' (DyRes u w')) := fun w' x => by rw [← hu]; exact shift_any 1 (cj.lo.ext (hE2.trans x)).dy (HT.out.ext (hX.trans (hE2.trans x))) (by omega) (by omega)
        have HSV : Hid (∀ w', Ext W2 w' → Calls Tryd.prog 16 #[(R j).hi.v, I 1] w' (DyRes v w')) := fun w' x => by rw [← hv]; exact shift_any 1 (cj.hi.ext (hE2.trans x)).dy (HT.out.ext (hX.trans (hE2.trans x))) (by omega) (by omega)
        have HX2 := Lib.hid hE2
        obtain ⟨⟨c0, c1, c2⟩, c3, c4⟩ := HBX.out _ hX
        rw [hbr] at c3
        clear hcr cj hu hv hb2 bu bv hle hls hX hE2
        generalize R j = rj at *
        obtain ⟨⟨n1, A1, l1, e1', d1⟩, ⟨n2, A2, l2, e2', d2⟩⟩ := rj
        simp only at HS HSU HSV hW2 x0 x1 x2 x3 x4 x5
        have hwz := H.out.ext.size
        go_upto_region 10 with fail
        rw [← hW2]; clear hW2 x0 x1 x2 x3 x4 x5 c0 c1 c2 c3 c4
        have HBR := Lib.hid hbr
        clear hbr
        go_region_held3 (fun w' => w'.cell? ⟨wr.heap.size, 0, none⟩ = some (.bool n1) ∧ w'.cell? ⟨wr.heap.size, 1, none⟩ = some (.slice A1 l1 e1') ∧ w'.cell? ⟨wr.heap.size, 2, none⟩ = some (I d1) ∧ w'.cell? ⟨wr.heap.size, 3, none⟩ = some (.bool n2) ∧ w'.cell? ⟨wr.heap.size, 4, none⟩ = some (.slice A2 l2 e2') ∧ w'.cell? ⟨wr.heap.size, 5, none⟩ = some (I d2)) (first | with_reducible assumption | exact HS.out _ (by (with_reducible (repeat (first | exact Ext.refl _ | assumption | (refine Ext.toSet ?_ (by omega)) | refine Ext.toAlloc ?_ | refine Ext.toDrew ?_ | refine Ext.toDrewN ?_ | refine Ext.trans ?_ (by assumption)))); (first | done | fail "no")) | exact HSZ)
          (first
            | (go_at_call 16; (with_reducible refine (HSU.out _ (by (with_reducible (repeat (first | exact Ext.refl _ | assumption | (refine Ext.toSet ?_ (by omega)) | refine Ext.toAlloc ?_ | refine Ext.toDrew ?_ | refine Ext.toDrewN ?_ | refine Ext.trans ?_ (by assumption)))); (first | done | fail "no"))).mono ?_); rintro e1 w11 hr; obtain ⟨A11, k11, rfl, on11, h11⟩ := hr; have ON11 := Lib.hid on11; clear on11)
            | (go_at_call 16; (with_reducible refine (HSV.out _ (by (with_reducible (repeat (first | exact Ext.refl _ | assumption | (refine Ext.toSet ?_ (by omega)) | refine Ext.toAlloc ?_ | refine Ext.toDrew ?_ | refine Ext.toDrewN ?_ | refine Ext.trans ?_ (by assumption)))); (first | done | fail "no"))).mono ?_); rintro e1 w12 hr; obtain ⟨A12, k12, rfl, on12, h12⟩ := hr; have ON12 := Lib.hid on12; clear on12)
            | (refine step_append_lies _ (by rfl) (.tmp 46) (.tmp 54) 27 (by rfl) w4.heap.size 47 iI zI 6 80 Tryd.underlying27 hiI hzI hsI hbI (by rw [hcI]; rfl) (by omega) (.slice Aw j cw) j (ivs6 Rw j) (by rfl) (H.out.own.ext (HX2.out.trans (by (with_reducible (repeat (first | exact Ext.refl _ | assumption | (refine Ext.toSet ?_ (by omega)) | refine Ext.toAlloc ?_ | refine Ext.toDrew ?_ | refine Ext.toDrewN ?_ | refine Ext.trans ?_ (by assumption)))); (first | done | fail "no")))) ⟨w12.heap.size, 0, none⟩ 1 1 (nc6 (ciR ⟨u, v⟩ A11 k11 A12 k12)) (by rfl) (by rfl) (six_new _ _ _ _ _ _ _ _) (by intro y hy; simp only [nc6, List.mem_cons, List.not_mem_nil, or_false] at hy; rcases hy with rfl | rfl | rfl | rfl | rfl | rfl <;> rfl) (by omega) (by unfold maxLen; omega) (by omega) (by have := Ext.size (show Ext W2 w12 from (by (with_reducible (repeat (first | exact Ext.refl _ | assumption | (refine Ext.toSet ?_ (by omega)) | refine Ext.toAlloc ?_ | refine Ext.toDrew ?_ | refine Ext.toDrewN ?_ | refine Ext.trans ?_ (by assumption)))); (first | done | fail "no"))); have := HX2.out.size; simp; omega) _ (by rfl) ?_; intro gg cap w9 hown hgrow hat hltg; have HP := Lib.hid (H.out.app (r := ciR ⟨u, v⟩ A11 k11 A12 k12) (x := ⟨u, v⟩) (HX2.out.trans (by (with_reducible (repeat (first | exact Ext.refl _ | assumption | (refine Ext.toSet ?_ (by omega)) | refine Ext.toAlloc ?_ | refine Ext.toDrew ?_ | refine Ext.toDrewN ?_ | refine Ext.trans ?_ (by assumption)))); (first | done | fail "no"))) (cn_two HE2.out (ON11.out.ext h12) ON12.out (Ext.alloc _ _)) (nw_two ON11.out ON12.out (by have := HX2.out.size; (try simp only [World.size_drew]); omega) (by have := HX2.out.size; have := h11.size; (try simp only [World.size_drew] at this); omega)) hown hgrow hat); have HSZ := six_kept hgrow (HS.out _ (show Ext W2 (w12.alloc _) from (by (with_reducible (repeat (first | exact Ext.refl _ | assumption | (refine Ext.toSet ?_ (by omega)) | refine Ext.toAlloc ?_ | refine Ext.toDrew ?_ | refine Ext.toDrewN ?_ | refine Ext.trans ?_ (by assumption)))); (first | done | fail "no")))) (fun q => by have := (H.out.own.lt _ q).2; omega); clear hown hgrow hat))
        have HV2 : Hid (∀ i, i < j + 1 → putI Vw j ⟨u, v⟩ i = wdV (S i)) := fun i hi => by
          unfold putI
          by_cases q : i = j
          · subst q; rw [if_pos rfl, HUV.out]
          · rw [if_neg q]; exact HV.out i (by omega)
        go_wp2_with fail
        (try rw [← HBR.out])
        go_roundw
        case rel => exact ⟨j + 1, _, _, _, _, by omega, by go_num, rfl, HP, HV2⟩
        case measure => simp [intOf]; omega
      · obtain rfl : j = n := by omega
        have HX := Lib.hid (HX4.out.trans H.out.ext)
        have HLW := Lib.hid (H.out.ln.congr HV.out)
        have RG5 := Lib.hid (RG4.out.to H.out.ext)
        have HCJ := Lib.hid (HCW.out wr Aw cw Rw HX.out HLW.out)
        obtain ⟨⟨c0, c1, c2⟩, c3, c4⟩ := HBX.out _ HX.out
        clear H HV HEL HLS HRN RG4 HCW HLW hiI hzI hsI hbI hcI
        have hz4 : chX D j (fun _ => true) (fun k => wdV (S k)) = chE D.nb j (fun _ => true) (fun k => wdV (S k)) := by
          unfold chX; rw [if_neg (by have := HK.out; omega)]
        rcases Decidable.em (chX D j (fun _ => true) (fun k => wdV (S k)) = 0) with hz | hz
        case inr =>
          have hfour := chE_four HR0.out (by rw [← hz4]; exact hz)
          obtain ⟨h4, i, hi, hneg⟩ := hfour
          have HZI : Hid (chS (S i) = 0) := by
            have a := (HTW.out i hi).2.1; have b := HGE.out i hi
            show chS (S i) = 0; omega
          have HZN := Lib.hid (zrN_hit HZI.out j hi)
          have HC3 : Hid (Calls Tryd.prog 10 #[dgv D p, .slice Aw j cw] wr fun e w'' => e = .returned (.tuple #[.slice none 0 0, .iface 38 (I 4)]) ∧ Ext wr w'') := HCJ.out.mono fun e w'' hh => by
            rcases hh with ⟨_, h2⟩ | ⟨h1, _⟩
            · rw [hz4, h4] at h2; exact h2
            · exact absurd h1 hz
          have HIS := Lib.hid (is_yes 4)
          clear HCJ hz hz4 h4 hneg hi
          go_upto_region 15 with (go_at_call 10; (with_reducible refine HC3.out.mono ?_); rintro e1 w5 ⟨rfl, h5⟩)
          have HX5 := Lib.hid (HX.out.trans h5)
          have RG6 := Lib.hid (RG5.out.to h5)
          clear h5 RG5 c0 c1 c2 c3 c4
          go_wp2_with fail
          go_loopw [12, 67] (fun s12 s wr => ∃ (k : Nat) (z : Bool), k ≤ j ∧ s = I k ∧ s12 = .bool z ∧ Hid (zrN S k = z) ∧ Hid (Ext w5 wr)) (fun _ s _ => j - (intOf s).toNat)
          case atStart => exact ⟨0, false, Nat.zero_le _, rfl, rfl, rfl, Ext.refl _⟩
          case round =>
            obtain ⟨k, z, hk, rfl, rfl, HZ, H⟩ := hrel
            by_cases hlt : k < j
            · have xg := (RG6.out.to H.out).row.cell hlt
              have hlt' : (k : Int) < (j : Int) := by omega
              have HZ2 : Hid (zrN S (k + 1) = (z || (chS (S k) == 0))) := by show _ = _; rw [← HZ.out]; rfl
              obtain ⟨v, hv⟩ : ∃ v, chS (S k) = v := ⟨_, rfl⟩
              rw [hv] at xg HZ2
              clear hv
              cases z with
              | true =>
                have HZ3 : Hid (zrN S (k + 1) = true) := HZ2.out
                clear HZ2
                go_wp2_with fail
                go_roundw
                case rel => exact ⟨k + 1, true, by omega, by go_num, rfl, HZ3, H.out⟩
                case measure => simp [intOf]; omega
              | false =>
                by_cases hv0 : v = 0
                · have hv1 : (v == 0) = true := by simp [hv0]
                  have HZ3 : Hid (zrN S (k + 1) = true) := by show _ = _; rw [HZ2.out, hv1]; rfl
                  clear HZ2 hv0
                  go_wp2_with fail
                  go_roundw
                  case rel => exact ⟨k + 1, true, by omega, by go_num, rfl, HZ3, H.out⟩
                  case measure => simp [intOf]; omega
                · have hv1 : (v == 0) = false := by simp [hv0]
                  have HZ3 : Hid (zrN S (k + 1) = false) := by show _ = _; rw [HZ2.out, hv1]; rfl
                  clear HZ2 hv0
                  go_wp2_with fail
                  go_roundw
                  case rel => exact ⟨k + 1, false, by omega, by go_num, rfl, HZ3, H.out⟩
                  case measure => simp [intOf]; omega
            · obtain rfl : k = j := by omega
              have hzt : z = true := by rw [← HZ.out, HZN.out]
              subst hzt
              go_wp2_with (go_at_call 11; (with_reducible refine (HIS.out _).mono ?_); rintro e1 w6 ⟨rfl, h6⟩)
              go_ret
              exact ⟨rfl, HE.out.trans (HX5.out.trans (H.out.trans h6))⟩
        case inl =>
          have HC3 : Hid (Calls Tryd.prog 10 #[dgv D p, .slice Aw j cw] wr fun e w'' => ∃ g, e = .returned (.tuple #[.slice (some ⟨g, 0, none⟩) j j, .nilIface]) ∧ RnM wr w'' g j (fun k => chS (wdV (S k)))) := HCJ.out.mono fun e w'' hh => by
            rcases hh with ⟨h1, _⟩ | ⟨_, h2⟩
            · exact absurd hz h1
            · exact h2
          clear HCJ hz hz4
          go_upto_region 23 with (go_at_call 10; (with_reducible refine HC3.out.mono ?_); rintro e1 w5 ⟨g5, rfl, rg5⟩; have RH5 := Lib.hid rg5; have h5 := rg5.ext; clear rg5 c0 c1 c2 c3 c4; obtain ⟨⟨c0, c1, c2⟩, c3, c4⟩ := HBX.out _ (HX.out.trans h5))
          have HX5 := Lib.hid (HX.out.trans h5)
          have RG6 := Lib.hid (RG5.out.to h5)
          clear h5 RG5 c0 c1 c2 c3 c4
          go_wp2_with fail
          go_loopw [97] (fun s wr => ∃ (k : Nat), k ≤ j ∧ s = I k ∧ Hid (Ext w5 wr)) (fun s _ => j - (intOf s).toNat)
          case atStart => exact ⟨0, Nat.zero_le _, rfl, Ext.refl _⟩
          case round =>
            obtain ⟨k, hk, rfl, H⟩ := hrel
            by_cases hlt : k < j
            · have xg := (RG6.out.to H.out).row.cell hlt
              have xh := (RH5.out.to H.out).row.cell hlt
              have lg := (RG6.out.to H.out).row.lt
              have lh := (RH5.out.to H.out).row.lt
              have hlt' : (k : Int) < (j : Int) := by omega
              obtain ⟨t1, t2, t3⟩ := HTW.out k hlt
              have t0 := HGE.out k hlt
              have tb := (chS_bd (S k)).2
              obtain ⟨v, hv⟩ : ∃ v, chS (S k) = v := ⟨_, rfl⟩
              obtain ⟨u, hu⟩ : ∃ u, chS (wdV (S k)) = u := ⟨_, rfl⟩
              simp only [hv, hu] at xg xh t0 t1 t2 t3 tb
              clear hv hu
              have hb : Ext wr wr := Ext.refl _
              have g1 : decide (v < u) = false := decide_eq_false (by omega)
              have hw1 : IntKind.i64.wrap (v - 1) = v - 1 := IntWalk.i64_in _ (by omega)
              have g3 : decide (u < v - 1) = false := decide_eq_false (by omega)
              by_cases hv30 : v < 30
              · have g2 : decide (v < 30) = true := decide_eq_true hv30
                have g4 : (u != v - 1) = false := by have := t3 hv30 t0; simp; omega
                clear t0 t1 t2 t3 tb hv30
                go_upto_region 26 with fail
                have hL := fun (x : Later _) => (Ext.trans hb x.ext).old.1
                refine wp_region_later (by kernel_rfl) (by kernel_rfl) ?_
                repeat (go_big_quiet_step (fail))
                refine wpQuiet_nil ?_
                intro w2 hw2
                replace hb := Ext.trans hb (Later.of hw2)
                clear hw2 hL
                obtain ⟨hc, hf⟩ := hb.old
                clear hw1
                go_wp2_with fail
                go_roundw
                case rel => exact ⟨k + 1, by omega, by go_num, H.out.trans hb⟩
                case measure => simp [intOf]; omega
              · have g2 : decide (v < 30) = false := decide_eq_false hv30
                clear t0 t1 t2 t3 tb hv30
                go_upto_region 26 with fail
                have hL := fun (x : Later _) => (Ext.trans hb x.ext).old.1
                refine wp_region_later (by kernel_rfl) (by kernel_rfl) ?_
                repeat (go_big_quiet_step (fail))
                refine wpQuiet_nil ?_
                intro w2 hw2
                replace hb := Ext.trans hb (Later.of hw2)
                clear hw2 hL
                obtain ⟨hc, hf⟩ := hb.old
                clear hw1
                go_wp2_with fail
                go_roundw
                case rel => exact ⟨k + 1, by omega, by go_num, H.out.trans hb⟩
                case measure => simp [intOf]; omega
            · obtain rfl : k = j := by omega
              go_wp2_with fail
              go_ret
              exact ⟨rfl, HE.out.trans (HX5.out.trans H.out)⟩
theorem narrow_any {w : World} {D : Dia} {p : Pl} {A B : Option Addr} {n c m e : Nat} {R : Nat → RI} {F G : Nat → Nat → Nat} {X : Nat → Int} (d : Dm w D p) (hT : Tabs w) (st : StsI w A n R F G) (rx : Ri w B m X) (hm : m ≤ maxLen) (_ : ∀ i, i < m → in64 (X i)) :
    Calls Tryd.prog 5 #[dgv D p, rgv A n c B m e] w fun e w' => e = .returned (.bool true) ∧ Ext w w' := by
  cases hl : litS D n R m with
  | false => exact scalesNarrow_off d hT st rx hm (.inl hl)
  | true =>
    by_cases hk : chk D = 0
    · exact narrow_on d hT st rx hm hl hk
    · exact scalesNarrow_off d hT st rx hm (.inr hk)
end Go.Proofs.YtgnngldlgcdnfaaDoor
