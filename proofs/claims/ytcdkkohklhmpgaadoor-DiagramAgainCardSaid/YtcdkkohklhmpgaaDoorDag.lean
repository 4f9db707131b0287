/- The law DiagramAgain. -/
import Derived.Test.YtcdkkohklhmpgaaDoorPru
import Derived.Test.YtcdkkohklhmpgaaDoorPma
import Derived.Test.YtcdkkohklhmpgaaDoorDgq
import Derived.Test.YtcdkkohklhmpgaaDoorDgno
namespace Go.Proofs.YtcdkkohklhmpgaaDoor
open Go Go.RowKit

/-- What a second Prune returns. -/
def Pr2 (D : Dia) (w : World) (e : Ending) (w' : World) : Prop :=
  ∃ pm AL cl, e = .returned (.tuple #[dgv D pm, .slice AL D.nb cl, .nilIface]) ∧ Dm w' D pm ∧ Ri w' AL D.nb (fun k => (k : Int)) ∧ Ext w w'
theorem Prune_again {w : World} {D : Dia} {p : Pl} (d : Dm w (prK D) p) (hT : Tabs w) (ok : OkD D) : Calls Tryd.prog 7 #[dgv (prK D) p] w (Pr2 (prK D) w) :=
  (Prune_ok d hT (ok_chk (prK_ok ok))).mono fun e w' h => by
    obtain ⟨pl, AK, ck, h1, h2, h3, h4⟩ := h
    have q := prKK ok
    have hk : ∀ i, i < (prK D).nb → keepP (prK D) i = true := fun i hi => keepK ok hi
    have hnb : (mkL (prK D).nb (keepP (prK D))).length = (prK D).nb := by rw [mkL_len, cnt_yes hk]
    have hr := h3.1
    rw [hnb] at hr h1
    refine ⟨pl, AK, ck, ?_, Dm.eqd (D := prK (prK D)) h2 q, hr.congr fun i hi => by rw [mkL_yes hk i hi], h4⟩
    rw [h1]
    have e1 : dgv (prD (prK D) (keepP (prK D))) pl = dgv (prK D) pl := by
      show dgv (prK (prK D)) pl = _
      unfold dgv; rw [q.ni, q.nb, q.no]
    rw [e1]
theorem mkL_up {n j : Nat} {p : Nat → Bool} (hj : j + 1 < (mkL n p).length) : (mkL n p).getD j 0 < (mkL n p).getD (j + 1) 0 := by
  have h := List.pairwise_iff_getElem.1 (mkL_sorted n p) j (j + 1) (by omega) hj (by omega)
  have a : (mkL n p)[j] < (mkL n p)[j + 1] := h
  rw [List.getD_eq_getElem?_getD, List.getD_eq_getElem?_getD, List.getElem?_eq_getElem (by omega), List.getElem?_eq_getElem hj]
  exact a
set_option maxRecDepth 100000 in
set_option maxHeartbeats 4000000 in
theorem diagramAgain_any {w : World} {D : Dia} {p : Pl} (d : Dm w D p) (hT : Tabs w) : Calls Tryd.prog 3 #[dgv D p] w fun e w' => e = .returned (.bool true) ∧ Ext w w' := by
  obtain ⟨W1, hW1⟩ : ∃ W1, W1 = w.alloc (.cells #[.slice p.AI D.ni p.cI, .slice p.AB D.nb p.cB, .slice p.AO D.no p.cO] 26) := ⟨_, rfl⟩
  have hE : Ext w W1 := by rw [hW1]; exact Ext.alloc _ _
  have hbd : Bd W1 w.heap.size D p := by rw [hW1]; exact Bd.new _ _ _ _
  have HBX : Hid (∀ w', Ext W1 w' → w'.cell? ⟨w.heap.size, 0, none⟩ = some (.slice p.AI D.ni p.cI) ∧ w'.cell? ⟨w.heap.size, 1, none⟩ = some (.slice p.AB D.nb p.cB) ∧ w'.cell? ⟨w.heap.size, 2, none⟩ = some (.slice p.AO D.no p.cO)) := fun w' e => by
    have a := hbd.ext e; exact ⟨a.c0, a.c1, a.c2⟩
  have HA : Hid (∀ w', Ext W1 w' → Calls Tryd.prog 4 #[] w' fun e w'' => e = .returned (.bool true) ∧ Ext w' w'') := fun w' e => awake_any w' (hT.ext (hE.trans e))
  have HLI : Hid (∀ w', Ext W1 w' → Calls Tryd.prog 5 #[dgv D p] w' fun e w'' => e = .returned (.bool (litB D)) ∧ Ext w' w'') := fun w' e => light_any (d.ext (hE.trans e))
  have HC : Hid (∀ w', Ext W1 w' → Calls Tryd.prog 6 #[dgv D p] w' fun e w'' => e = .returned (errv (chk D)) ∧ Ext w' w'') := fun w' e => check_any (d.ext (hE.trans e)) (hT.ext (hE.trans e))
  have HE := Lib.hid hE
  obtain ⟨c0, c1, c2⟩ := HBX.out _ (Ext.refl _)
  rw [hW1] at c0 c1 c2
  cases hlt : litB D with
  | false =>
    rw [hlt] at HLI
    clear d hT hbd HC hlt hE
    go_enter Tryd.func3, Tryd.ntmps3
    go_upto_region 1 with fail
    rw [← hW1] at c0 c1 c2
    rw [← hW1]; clear hW1
    go_wp2_with (first
        | (go_at_call 4; (with_reducible refine (HA.out _ (by (with_reducible (repeat (first | exact Ext.refl _ | assumption | (refine Ext.toSet ?_ (by omega)) | refine Ext.toAlloc ?_ | refine Ext.toDrew ?_ | refine Ext.toDrewN ?_ | refine Ext.trans ?_ (by assumption)))); (first | done | fail "no"))).mono ?_); rintro e1 w1 ⟨rfl, h1⟩; obtain ⟨d0, d1, d2⟩ := HBX.out w1 (by (with_reducible (repeat (first | exact Ext.refl _ | assumption | (refine Ext.toSet ?_ (by omega)) | refine Ext.toAlloc ?_ | refine Ext.toDrew ?_ | refine Ext.toDrewN ?_ | refine Ext.trans ?_ (by assumption)))); (first | done | fail "no")))
        | (go_at_call 5; (with_reducible refine (HLI.out _ (by (with_reducible (repeat (first | exact Ext.refl _ | assumption | (refine Ext.toSet ?_ (by omega)) | refine Ext.toAlloc ?_ | refine Ext.toDrew ?_ | refine Ext.toDrewN ?_ | refine Ext.trans ?_ (by assumption)))); (first | done | fail "no"))).mono ?_); rintro e1 w1 ⟨rfl, h1⟩; obtain ⟨d0, d1, d2⟩ := HBX.out w1 (by (with_reducible (repeat (first | exact Ext.refl _ | assumption | (refine Ext.toSet ?_ (by omega)) | refine Ext.toAlloc ?_ | refine Ext.toDrew ?_ | refine Ext.toDrewN ?_ | refine Ext.trans ?_ (by assumption)))); (first | done | fail "no"))))
    go_ret
    exact ⟨rfl, HE.out.trans (by (with_reducible (repeat (first | exact Ext.refl _ | assumption | (refine Ext.toSet ?_ (by omega)) | refine Ext.toAlloc ?_ | refine Ext.toDrew ?_ | refine Ext.toDrewN ?_ | refine Ext.trans ?_ (by assumption)))); (first | done | fail "no"))⟩
  | true =>
    rw [hlt] at HLI
    by_cases hck : chk D ≠ 0
    · rw [errv_n hck] at HC
      clear d hT hbd hlt hE hck
      generalize chk D = code at *
      go_enter Tryd.func3, Tryd.ntmps3
      go_upto_region 1 with fail
      rw [← hW1] at c0 c1 c2
      rw [← hW1]; clear hW1
      go_wp2_with (first
        | (go_at_call 4; (with_reducible refine (HA.out _ (by (with_reducible (repeat (first | exact Ext.refl _ | assumption | (refine Ext.toSet ?_ (by omega)) | refine Ext.toAlloc ?_ | refine Ext.toDrew ?_ | refine Ext.toDrewN ?_ | refine Ext.trans ?_ (by assumption)))); (first | done | fail "no"))).mono ?_); rintro e1 w1 ⟨rfl, h1⟩; obtain ⟨d0, d1, d2⟩ := HBX.out w1 (by (with_reducible (repeat (first | exact Ext.refl _ | assumption | (refine Ext.toSet ?_ (by omega)) | refine Ext.toAlloc ?_ | refine Ext.toDrew ?_ | refine Ext.toDrewN ?_ | refine Ext.trans ?_ (by assumption)))); (first | done | fail "no")))
        | (go_at_call 5; (with_reducible refine (HLI.out _ (by (with_reducible (repeat (first | exact Ext.refl _ | assumption | (refine Ext.toSet ?_ (by omega)) | refine Ext.toAlloc ?_ | refine Ext.toDrew ?_ | refine Ext.toDrewN ?_ | refine Ext.trans ?_ (by assumption)))); (first | done | fail "no"))).mono ?_); rintro e1 w1 ⟨rfl, h1⟩; obtain ⟨d0, d1, d2⟩ := HBX.out w1 (by (with_reducible (repeat (first | exact Ext.refl _ | assumption | (refine Ext.toSet ?_ (by omega)) | refine Ext.toAlloc ?_ | refine Ext.toDrew ?_ | refine Ext.toDrewN ?_ | refine Ext.trans ?_ (by assumption)))); (first | done | fail "no")))
        | (go_at_call 6; (with_reducible refine (HC.out _ (by (with_reducible (repeat (first | exact Ext.refl _ | assumption | (refine Ext.toSet ?_ (by omega)) | refine Ext.toAlloc ?_ | refine Ext.toDrew ?_ | refine Ext.toDrewN ?_ | refine Ext.trans ?_ (by assumption)))); (first | done | fail "no"))).mono ?_); rintro e1 w1 ⟨rfl, h1⟩; obtain ⟨d0, d1, d2⟩ := HBX.out w1 (by (with_reducible (repeat (first | exact Ext.refl _ | assumption | (refine Ext.toSet ?_ (by omega)) | refine Ext.toAlloc ?_ | refine Ext.toDrew ?_ | refine Ext.toDrewN ?_ | refine Ext.trans ?_ (by assumption)))); (first | done | fail "no"))))
      go_ret
      exact ⟨rfl, HE.out.trans (by (with_reducible (repeat (first | exact Ext.refl _ | assumption | (refine Ext.toSet ?_ (by omega)) | refine Ext.toAlloc ?_ | refine Ext.toDrew ?_ | refine Ext.toDrewN ?_ | refine Ext.trans ?_ (by assumption)))); (first | done | fail "no"))⟩
    · have hck : chk D = 0 := by omega
      have ok := chk_ok hck
      have okK := prK_ok ok
      rw [hck, errv_z] at HC
      have HPC : Hid (∀ w', Ext W1 w' → Calls Tryd.prog 7 #[dgv D p] w' (fun e w'' => ∃ pl AK ck, e = .returned (.tuple #[dgv (prK D) pl, .slice AK (prK D).nb ck, .nilIface]) ∧ Dm w'' (prK D) pl ∧ Ri w'' AK (prK D).nb (fun k => ((oldK D k : Nat) : Int)) ∧ Ext w' w'')) := fun w' e => (Prune_ok (d.ext (hE.trans e)) (hT.ext (hE.trans e)) hck).mono fun e w'' h => by
        obtain ⟨pl, AK, ck, h1, h2, h3, h4⟩ := h
        exact ⟨pl, AK, ck, h1, h2, h3.1, h4⟩
      have HPR : Hid (∀ w' pl, Ext W1 w' → Dm w' (prK D) pl → Calls Tryd.prog 7 #[dgv (prK D) pl] w' (Pr2 (prK D) w')) := fun w' pl e m => Prune_again m (hT.ext (hE.trans e)) ok
      have HC2 : Hid (∀ w' pl, Ext W1 w' → Dm w' (prK D) pl → Calls Tryd.prog 6 #[dgv (prK D) pl] w' fun e w'' => e = .returned .nilIface ∧ Ext w' w'') := fun w' pl e m => by
        have h := check_any m (hT.ext (hE.trans e))
        rw [ok_chk okK, errv_z] at h; exact h
      have HSM : Hid (∀ w' pl pq, Dm w' (prK D) pl → Dm w' (prK D) pq → Calls Tryd.prog 8 #[dgv (prK D) pl, dgv (prK D) pq] w' fun e w'' => e = .returned (.bool true) ∧ Ext w' w'') := fun w' pl pq a b => same_true a b
      have HO : Hid (∀ k, k < (prK D).nb → oldK D k < D.nb ∧ ((prK D).B k).k = (D.B (oldK D k)).k) := fun k hk => ⟨(oldK_at hk).1, (prK_k D k).1⟩
      have HUP : Hid (∀ k, k + 1 < (prK D).nb → oldK D k < oldK D (k + 1)) := fun k hk => mkL_up hk
      have HOU : Hid (∀ j, j < D.no → ∃ y : Nat, (prK D).O j = y ∧ y < (prK D).nb ∧ ((oldK D y : Nat) : Int) = D.O j) := fun j hj => by
        have ho := ok.out j hj
        have h := oldK_cnt (i := (D.O j).toNat) (by omega) (keep_out hj)
        exact ⟨_, rfl, h.1, by rw [h.2]; omega⟩
      have hKo : (prK D).no = D.no := rfl
      have hnb := ok.nb
      have hnk := okK.nb
      have hno := ok.no
      have HD := Lib.hid (d.ext hE)
      have hzl : w.heap.size < W1.heap.size := by rw [hW1]; simp
      generalize prK D = DK at *
      obtain ⟨OK, hOK⟩ : ∃ f, oldK D = f := ⟨_, rfl⟩
      rw [hOK] at HPC HO HUP HOU
      have g1 : ((DK.nb : Int) != (DK.nb : Int)) = false := by simp
      have g2 : ((DK.no : Int) != (D.no : Int)) = false := by rw [hKo]; simp
      have g3 : ((DK.nb : Int) == (DK.nb : Int)) = true := by simp
      have HKO := Lib.hid hKo
      clear d hT hbd hlt hE hck hOK ok okK hKo
      go_enter Tryd.func3, Tryd.ntmps3
      go_upto_region 1 with fail
      rw [← hW1] at c0 c1 c2
      rw [← hW1]; clear hW1
      go_wp2_with (first
        | (go_at_call 4; (with_reducible refine (HA.out _ (by (with_reducible (repeat (first | exact Ext.refl _ | assumption | (refine Ext.toSet ?_ (by omega)) | refine Ext.toAlloc ?_ | refine Ext.toDrew ?_ | refine Ext.toDrewN ?_ | refine Ext.trans ?_ (by assumption)))); (first | done | fail "no"))).mono ?_); rintro e1 w1 ⟨rfl, h1⟩; obtain ⟨d0, d1, d2⟩ := HBX.out w1 (by (with_reducible (repeat (first | exact Ext.refl _ | assumption | (refine Ext.toSet ?_ (by omega)) | refine Ext.toAlloc ?_ | refine Ext.toDrew ?_ | refine Ext.toDrewN ?_ | refine Ext.trans ?_ (by assumption)))); (first | done | fail "no")))
        | (go_at_call 5; (with_reducible refine (HLI.out _ (by (with_reducible (repeat (first | exact Ext.refl _ | assumption | (refine Ext.toSet ?_ (by omega)) | refine Ext.toAlloc ?_ | refine Ext.toDrew ?_ | refine Ext.toDrewN ?_ | refine Ext.trans ?_ (by assumption)))); (first | done | fail "no"))).mono ?_); rintro e1 w1 ⟨rfl, h1⟩; obtain ⟨d0, d1, d2⟩ := HBX.out w1 (by (with_reducible (repeat (first | exact Ext.refl _ | assumption | (refine Ext.toSet ?_ (by omega)) | refine Ext.toAlloc ?_ | refine Ext.toDrew ?_ | refine Ext.toDrewN ?_ | refine Ext.trans ?_ (by assumption)))); (first | done | fail "no")))
        | (go_at_call 6; first
            | (have hq := HXB; clear hq; (with_reducible refine (HC2.out _ _ (by (with_reducible (repeat (first | exact Ext.refl _ | assumption | (refine Ext.toSet ?_ (by omega)) | refine Ext.toAlloc ?_ | refine Ext.toDrew ?_ | refine Ext.toDrewN ?_ | refine Ext.trans ?_ (by assumption)))); (first | done | fail "no")) (HM3.out.1.ext (by (with_reducible (repeat (first | exact Ext.refl _ | assumption | (refine Ext.toSet ?_ (by omega)) | refine Ext.toAlloc ?_ | refine Ext.toDrew ?_ | refine Ext.toDrewN ?_ | refine Ext.trans ?_ (by assumption)))); (first | done | fail "no")))).mono ?_); rintro e1 w4 ⟨rfl, h1⟩; obtain ⟨d0, d1, d2⟩ := HBX.out w4 (by (with_reducible (repeat (first | exact Ext.refl _ | assumption | (refine Ext.toSet ?_ (by omega)) | refine Ext.toAlloc ?_ | refine Ext.toDrew ?_ | refine Ext.toDrewN ?_ | refine Ext.trans ?_ (by assumption)))); (first | done | fail "no")); obtain ⟨⟨u0, u1, u2⟩, _⟩ := HXB.out.ext h1; have HX4 := Lib.hid h1)
            | ((with_reducible refine (HC.out _ (by (with_reducible (repeat (first | exact Ext.refl _ | assumption | (refine Ext.toSet ?_ (by omega)) | refine Ext.toAlloc ?_ | refine Ext.toDrew ?_ | refine Ext.toDrewN ?_ | refine Ext.trans ?_ (by assumption)))); (first | done | fail "no"))).mono ?_); rintro e1 w1 ⟨rfl, h1⟩; obtain ⟨d0, d1, d2⟩ := HBX.out w1 (by (with_reducible (repeat (first | exact Ext.refl _ | assumption | (refine Ext.toSet ?_ (by omega)) | refine Ext.toAlloc ?_ | refine Ext.toDrew ?_ | refine Ext.toDrewN ?_ | refine Ext.trans ?_ (by assumption)))); (first | done | fail "no"))))
        | (go_at_call 7; first
            | (have hq := HXB; clear hq; (with_reducible refine (HPR.out _ _ (by (with_reducible (repeat (first | exact Ext.refl _ | assumption | (refine Ext.toSet ?_ (by omega)) | refine Ext.toAlloc ?_ | refine Ext.toDrew ?_ | refine Ext.toDrewN ?_ | refine Ext.trans ?_ (by assumption)))); (first | done | fail "no")) (HM3.out.1.ext (by (with_reducible (repeat (first | exact Ext.refl _ | assumption | (refine Ext.toSet ?_ (by omega)) | refine Ext.toAlloc ?_ | refine Ext.toDrew ?_ | refine Ext.toDrewN ?_ | refine Ext.trans ?_ (by assumption)))); (first | done | fail "no")))).mono ?_); rintro e1 w5 ⟨pm, AL, cl, rfl, m5, r5, h1⟩; have HM5 := Lib.hid (And.intro m5 r5); clear m5 r5; obtain ⟨d0, d1, d2⟩ := HBX.out w5 (by (with_reducible (repeat (first | exact Ext.refl _ | assumption | (refine Ext.toSet ?_ (by omega)) | refine Ext.toAlloc ?_ | refine Ext.toDrew ?_ | refine Ext.toDrewN ?_ | refine Ext.trans ?_ (by assumption)))); (first | done | fail "no")); have hb5 := HXB.out.ext (show Ext _ w5 from (by (with_reducible (repeat (first | exact Ext.refl _ | assumption | (refine Ext.toSet ?_ (by omega)) | refine Ext.toAlloc ?_ | refine Ext.toDrew ?_ | refine Ext.toDrewN ?_ | refine Ext.trans ?_ (by assumption)))); (first | done | fail "no"))); have hl5 := hb5.lt; have hn4 : ¬ w3.heap.size = w5.heap.size := (by omega); have hn5 : ¬ w.heap.size = w5.heap.size := (by omega); obtain ⟨⟨u0, u1, u2⟩, _⟩ := hb5)
            | ((with_reducible refine (HPC.out _ (by (with_reducible (repeat (first | exact Ext.refl _ | assumption | (refine Ext.toSet ?_ (by omega)) | refine Ext.toAlloc ?_ | refine Ext.toDrew ?_ | refine Ext.toDrewN ?_ | refine Ext.trans ?_ (by assumption)))); (first | done | fail "no"))).mono ?_); rintro e1 w3 ⟨pl, AK, ck, rfl, m3, r3, h1⟩; have HM3 := Lib.hid (And.intro m3 r3); clear m3 r3; obtain ⟨d0, d1, d2⟩ := HBX.out w3 (by (with_reducible (repeat (first | exact Ext.refl _ | assumption | (refine Ext.toSet ?_ (by omega)) | refine Ext.toAlloc ?_ | refine Ext.toDrew ?_ | refine Ext.toDrewN ?_ | refine Ext.trans ?_ (by assumption)))); (first | done | fail "no")); have hl3 : w.heap.size < w3.heap.size := Nat.lt_of_lt_of_le hzl (show Ext W1 w3 from (by (with_reducible (repeat (first | exact Ext.refl _ | assumption | (refine Ext.toSet ?_ (by omega)) | refine Ext.toAlloc ?_ | refine Ext.toDrew ?_ | refine Ext.toDrewN ?_ | refine Ext.trans ?_ (by assumption)))); (first | done | fail "no"))).size; have hn3 : ¬ w.heap.size = w3.heap.size := (by omega); have HXB := Lib.hid (Bx.new w3 (.slice pl.AI DK.ni pl.cI) (.slice pl.AB DK.nb pl.cB) (.slice pl.AO DK.no pl.cO) 26)))
        | (go_at_call 8; (with_reducible refine (HSM.out _ _ _ (HM3.out.1.ext (by (with_reducible (repeat (first | exact Ext.refl _ | assumption | (refine Ext.toSet ?_ (by omega)) | refine Ext.toAlloc ?_ | refine Ext.toDrew ?_ | refine Ext.toDrewN ?_ | refine Ext.trans ?_ (by assumption)))); (first | done | fail "no"))) (HM5.out.1.ext (by (with_reducible (repeat (first | exact Ext.refl _ | assumption | (refine Ext.toSet ?_ (by omega)) | refine Ext.toAlloc ?_ | refine Ext.toDrew ?_ | refine Ext.toDrewN ?_ | refine Ext.trans ?_ (by assumption)))); (first | done | fail "no")))).mono ?_); rintro e1 w6 ⟨rfl, h1⟩))
      have HX6 := Lib.hid (show Ext W1 w6 from (by (with_reducible (repeat (first | exact Ext.refl _ | assumption | (refine Ext.toSet ?_ (by omega)) | refine Ext.toAlloc ?_ | refine Ext.toDrew ?_ | refine Ext.toDrewN ?_ | refine Ext.trans ?_ (by assumption)))); (first | done | fail "no")))
      have HM36 : Hid (Dm w6 DK pl ∧ Ri w6 AK DK.nb fun k => ((OK k : Nat) : Int)) := ⟨HM3.out.1.ext (show Ext w3 w6 from (by (with_reducible (repeat (first | exact Ext.refl _ | assumption | (refine Ext.toSet ?_ (by omega)) | refine Ext.toAlloc ?_ | refine Ext.toDrew ?_ | refine Ext.toDrewN ?_ | refine Ext.trans ?_ (by assumption)))); (first | done | fail "no"))), HM3.out.2.ext (show Ext w3 w6 from (by (with_reducible (repeat (first | exact Ext.refl _ | assumption | (refine Ext.toSet ?_ (by omega)) | refine Ext.toAlloc ?_ | refine Ext.toDrew ?_ | refine Ext.toDrewN ?_ | refine Ext.trans ?_ (by assumption)))); (first | done | fail "no")))⟩
      have HM56 : Hid (Ri w6 AL DK.nb fun k => (k : Int)) := HM5.out.2.ext (show Ext w5 w6 from (by (with_reducible (repeat (first | exact Ext.refl _ | assumption | (refine Ext.toSet ?_ (by omega)) | refine Ext.toAlloc ?_ | refine Ext.toDrew ?_ | refine Ext.toDrewN ?_ | refine Ext.trans ?_ (by assumption)))); (first | done | fail "no")))
      have HB6 : Hid (∀ w', Ext w6 w' → w'.cell? ⟨w3.heap.size, 0, none⟩ = some (.slice pl.AI DK.ni pl.cI) ∧ w'.cell? ⟨w3.heap.size, 1, none⟩ = some (.slice pl.AB DK.nb pl.cB) ∧ w'.cell? ⟨w3.heap.size, 2, none⟩ = some (.slice pl.AO DK.no pl.cO)) := fun w' e => by
        have h := (HXB.out.ext (show Ext _ w6 from (by (with_reducible (repeat (first | exact Ext.refl _ | assumption | (refine Ext.toSet ?_ (by omega)) | refine Ext.toAlloc ?_ | refine Ext.toDrew ?_ | refine Ext.toDrewN ?_ | refine Ext.trans ?_ (by assumption)))); (first | done | fail "no")))).ext e
        exact h.1
      have HBD : Hid (∀ w', Ext w6 w' → w'.cell? ⟨w.heap.size, 0, none⟩ = some (.slice p.AI D.ni p.cI) ∧ w'.cell? ⟨w.heap.size, 1, none⟩ = some (.slice p.AB D.nb p.cB) ∧ w'.cell? ⟨w.heap.size, 2, none⟩ = some (.slice p.AO D.no p.cO)) := fun w' e => HBX.out w' (HX6.out.trans e)
      have HDX : Hid (∀ w', Ext w6 w' → Dm w' D p) := fun w' e => HD.out.ext (HX6.out.trans e)
      clear d0 d1 d2 u0 u1 u2 c0 c1 c2 hl5 hn4 hn5 hl3 hn3
      go_loopw [72] (fun s wr => ∃ k : Nat, k ≤ DK.nb ∧ s = I k ∧ Hid (Ext w6 wr)) (fun s _ => DK.nb - (intOf s).toNat)
      case atStart => exact ⟨0, Nat.zero_le _, rfl, Ext.refl _⟩
      case round =>
        obtain ⟨k, hk, rfl, HX⟩ := hrel
        obtain ⟨e0, e1, e2⟩ := HB6.out _ HX.out
        obtain ⟨f0, f1, f2⟩ := HBD.out _ HX.out
        by_cases hlt : k < DK.nb
        · obtain ⟨bL, oL, hAL, hbL, hcL⟩ := HM56.out.ext HX.out (by omega)
          obtain ⟨bK, oK, hAK, hbK, hcK⟩ := HM36.out.2.ext HX.out (by omega)
          obtain ⟨h1, h2⟩ := HO.out k hlt
          obtain ⟨bx, ox, hbx, hblx, hcx⟩ := (HM36.out.1.ext HX.out).blocks (by omega)
          obtain ⟨b, o, hb, hbl, hc⟩ := (HDX.out _ HX.out).blocks (by omega)
          obtain ⟨z0, _⟩ := hcx k hlt
          have hlt' : (k : Int) < (DK.nb : Int) := by omega
          have l0 : wr.cell? ⟨bL, oL + k, none⟩ = some (I (k : Int)) := hcL k hlt
          have k0 : wr.cell? ⟨bK, oK + k, none⟩ = some (I ((OK k : Nat) : Int)) := hcK k hlt
          have gk : ((k : Int) != (k : Int)) = false := by simp
          obtain ⟨y, hy⟩ : ∃ y, OK k = y := ⟨_, rfl⟩
          have hUP := HUP.out (k - 1)
          rw [hy] at k0 h1 h2
          obtain ⟨x0, _⟩ := hc y h1
          have hy0 : ¬ (y : Int) < 0 := by omega
          have hy1 : ¬ (D.nb : Int) ≤ (y : Int) := by omega
          have hy2 : (y : Int) < (D.nb : Int) := by omega
          rw [h2] at z0
          generalize (D.B y).k = kk at *
          have gkk : (kk != kk) = false := by simp
          by_cases h0 : k = 0
          · have hk0 : ¬ (0 : Int) < (k : Int) := by omega
            have hk2 : ¬ 0 < k := by omega
            have hk3 : decide ((0 : Int) < (k : Int)) = false := by simp; omega
            have hk4 : decide (0 < k) = false := by simp; omega
            clear hcL hcK hcx hc hUP h0 hy h2
            go_upto_region 12 with fail
            go_quiet (fail)
            go_wp2_with fail
            (try rw [← hAL])
            (try rw [← hAK])
            go_roundw
            case rel => exact ⟨k + 1, by omega, by go_num, HX.out.trans (Ext.drewN _ _)⟩
            case measure => simp [intOf]; omega
          · have hk0 : (0 : Int) < (k : Int) := by omega
            have hk2 : 0 < k := by omega
            have hk3 : decide ((0 : Int) < (k : Int)) = true := by simp; omega
            have hk4 : decide (0 < k) = true := by simp; omega
            obtain ⟨z, hz⟩ : ∃ z, OK (k - 1) = z := ⟨_, rfl⟩
            obtain ⟨j, hj⟩ : ∃ j : Nat, j = k - 1 := ⟨_, rfl⟩
            have k1 : wr.cell? ⟨bK, oK + j, none⟩ = some (I (z : Int)) := by rw [← hz, hj]; exact hcK (k - 1) (by omega)
            have hyz : ¬ (y : Int) ≤ (z : Int) := by
              have := hUP (by omega)
              rw [show k - 1 + 1 = k by omega, hy, hz] at this; omega
            have hjn : (j : Int) < (DK.nb : Int) := by omega
            have hj0 : ¬ (j : Int) < 0 := by omega
            have hwr : IntKind.i64.wrap ((k : Int) - 1) = (j : Int) := by rw [IntWalk.i64_in _ (by omega)]; omega
            clear hcL hcK hcx hc hUP h0 hy h2 hz hj
            go_upto_region 12 with fail
            go_quiet (fail)
            go_wp2_with fail
            (try rw [← hAL])
            (try rw [← hAK])
            go_roundw
            case rel => exact ⟨k + 1, by omega, by go_num, HX.out.trans (Ext.drewN _ _)⟩
            case measure => simp [intOf]; omega
        · obtain rfl : k = DK.nb := by omega
          have hz := HX.out
          clear hlt hk
          go_wp2_with fail
          clear e0 e1 e2 f0 f1 f2
          go_loopw [135] (fun s wy => ∃ i : Nat, i ≤ DK.no ∧ s = I i ∧ Hid (Ext w6 wy)) (fun s _ => DK.no - (intOf s).toNat)
          case atStart => exact ⟨0, Nat.zero_le _, rfl, hz⟩
          case round =>
            clear HX hz
            obtain ⟨i, hi, rfl, HX⟩ := hrel
            obtain ⟨e0, e1, e2⟩ := HB6.out _ HX.out
            obtain ⟨f0, f1, f2⟩ := HBD.out _ HX.out
            by_cases hlt : i < DK.no
            · obtain ⟨bo, oo, hAo, hbo, hco⟩ := (HM36.out.1.ext HX.out).outs (by omega)
              have hlt' : (i : Int) < (DK.no : Int) := by omega
              have hlt2 : i < D.no := by rw [← HKO.out]; exact hlt
              obtain ⟨bp, op, hAp, hbp, hcp⟩ := (HDX.out _ HX.out).outs (by omega)
              obtain ⟨y, hy1, hy2, hy3⟩ := HOU.out i hlt2
              have o0 := hco i hlt
              rw [hy1] at o0
              have p0 := hcp i hlt2
              obtain ⟨bK, oK, hAK, hbK, hcK⟩ := HM36.out.2.ext HX.out (by omega)
              have k0 : wr.cell? ⟨bK, oK + y, none⟩ = some (I (D.O i)) := by rw [← hy3]; exact hcK y hy2
              have hlt3 : (i : Int) < (D.no : Int) := by omega
              have hy4 : ¬ (y : Int) < 0 := by omega
              have hy5 : ¬ (DK.nb : Int) ≤ (y : Int) := by omega
              have hy6 : (y : Int) < (DK.nb : Int) := by omega
              clear hco hcp hcK hy1 hy3
              generalize D.O i = v at *
              have gv : (v != v) = false := by simp
              go_upto_region 18 with fail
              go_quiet (fail)
              go_wp2_with fail
              (try rw [← hAo])
              go_roundw
              case rel => exact ⟨i + 1, by omega, by go_num, HX.out.trans (Ext.drewN _ _)⟩
              case measure => simp [intOf]; omega
            · obtain rfl : i = DK.no := by omega
              go_wp2_with fail
              go_ret
              exact ⟨rfl, HE.out.trans (HX6.out.trans HX.out)⟩
end Go.Proofs.YtcdkkohklhmpgaaDoor
