/- The law DiagramPrunes. -/
import Derived.Test.YtgnaljnmjphleaaDoorPru
import Derived.Test.YtgnaljnmjphleaaDoorPrr
import Derived.Test.YtgnaljnmjphleaaDoorDgq
import Derived.Test.YtgnaljnmjphleaaDoorDgno
namespace Go.Proofs.YtgnaljnmjphleaaDoor
open Go Go.RowKit

set_option maxRecDepth 100000 in
set_option maxHeartbeats 4000000 in
theorem diagramPrunes_any {w : World} {D : Dia} {p : Pl} (d : Dm w D p) (hT : Tabs w) : Calls Tryd.prog 3 #[dgv D p] w fun e w' => e = .returned (.bool true) ∧ Ext w w' := by
  obtain ⟨W1, hW1⟩ : ∃ W1, W1 = w.alloc (.cells #[.slice p.AI D.ni p.cI, .slice p.AB D.nb p.cB, .slice p.AO D.no p.cO] 26) := ⟨_, rfl⟩
  have hE : Ext w W1 := by rw [hW1]; exact Ext.alloc _ _
  have hbd : Bd W1 w.heap.size D p := by rw [hW1]; exact Bd.new _ _ _ _
  have HBX : Hid (∀ w', Ext W1 w' → w'.cell? ⟨w.heap.size, 0, none⟩ = some (.slice p.AI D.ni p.cI) ∧ w'.cell? ⟨w.heap.size, 1, none⟩ = some (.slice p.AB D.nb p.cB) ∧ w'.cell? ⟨w.heap.size, 2, none⟩ = some (.slice p.AO D.no p.cO)) := fun w' e => by
    have a := hbd.ext e; exact ⟨a.c0, a.c1, a.c2⟩
  have HA : Hid (∀ w', Ext W1 w' → Calls Tryd.prog 6 #[] w' fun e w'' => e = .returned (.bool true) ∧ Ext w' w'') := fun w' e => awake_any w' (hT.ext (hE.trans e))
  have HLI : Hid (∀ w', Ext W1 w' → Calls Tryd.prog 7 #[dgv D p] w' fun e w'' => e = .returned (.bool (litB D)) ∧ Ext w' w'') := fun w' e => light_any (d.ext (hE.trans e))
  have HRC : Hid (∀ w', Ext W1 w' → Calls Tryd.prog 8 #[dgv D p] w' fun e w'' => e = .returned (I (chk D)) ∧ Ext w' w'') := fun w' e => rcheck_any (d.ext (hE.trans e)) (hT.ext (hE.trans e))
  have HE := Lib.hid hE
  obtain ⟨c0, c1, c2⟩ := HBX.out _ (Ext.refl _)
  rw [hW1] at c0 c1 c2
  cases hlt : litB D with
  | false =>
    rw [hlt] at HLI
    clear d hT hbd HRC hlt hE
    go_enter Tryd.func3, Tryd.ntmps3
    go_upto_region 1 with fail
    rw [← hW1] at c0 c1 c2
    rw [← hW1]; clear hW1
    go_wp2_with (first
        | (go_at_call 6; (with_reducible refine (HA.out _ (by (with_reducible (repeat (first | exact Ext.refl _ | assumption | (refine Ext.toSet ?_ (by omega)) | refine Ext.toAlloc ?_ | refine Ext.toDrew ?_ | refine Ext.toDrewN ?_ | refine Ext.trans ?_ (by assumption)))); (first | done | fail "no"))).mono ?_); rintro e1 w1 ⟨rfl, h1⟩; obtain ⟨d0, d1, d2⟩ := HBX.out w1 (by (with_reducible (repeat (first | exact Ext.refl _ | assumption | (refine Ext.toSet ?_ (by omega)) | refine Ext.toAlloc ?_ | refine Ext.toDrew ?_ | refine Ext.toDrewN ?_ | refine Ext.trans ?_ (by assumption)))); (first | done | fail "no")))
        | (go_at_call 7; (with_reducible refine (HLI.out _ (by (with_reducible (repeat (first | exact Ext.refl _ | assumption | (refine Ext.toSet ?_ (by omega)) | refine Ext.toAlloc ?_ | refine Ext.toDrew ?_ | refine Ext.toDrewN ?_ | refine Ext.trans ?_ (by assumption)))); (first | done | fail "no"))).mono ?_); rintro e1 w1 ⟨rfl, h1⟩; obtain ⟨d0, d1, d2⟩ := HBX.out w1 (by (with_reducible (repeat (first | exact Ext.refl _ | assumption | (refine Ext.toSet ?_ (by omega)) | refine Ext.toAlloc ?_ | refine Ext.toDrew ?_ | refine Ext.toDrewN ?_ | refine Ext.trans ?_ (by assumption)))); (first | done | fail "no")))
        | (go_at_call 8; (with_reducible refine (HRC.out _ (by (with_reducible (repeat (first | exact Ext.refl _ | assumption | (refine Ext.toSet ?_ (by omega)) | refine Ext.toAlloc ?_ | refine Ext.toDrew ?_ | refine Ext.toDrewN ?_ | refine Ext.trans ?_ (by assumption)))); (first | done | fail "no"))).mono ?_); rintro e1 w1 ⟨rfl, h1⟩; obtain ⟨d0, d1, d2⟩ := HBX.out w1 (by (with_reducible (repeat (first | exact Ext.refl _ | assumption | (refine Ext.toSet ?_ (by omega)) | refine Ext.toAlloc ?_ | refine Ext.toDrew ?_ | refine Ext.toDrewN ?_ | refine Ext.trans ?_ (by assumption)))); (first | done | fail "no"))))
    go_ret
    exact ⟨rfl, HE.out.trans (by (with_reducible (repeat (first | exact Ext.refl _ | assumption | (refine Ext.toSet ?_ (by omega)) | refine Ext.toAlloc ?_ | refine Ext.toDrew ?_ | refine Ext.toDrewN ?_ | refine Ext.trans ?_ (by assumption)))); (first | done | fail "no"))⟩
  | true =>
    rw [hlt] at HLI
    by_cases hck : chk D = 0
    · have hnb := (chk_ok hck).toWF.nb
      rw [hck] at HRC
      have g0 : ((0 : Int) != 0) = false := by decide
      have HPC : Hid (∀ w', Ext W1 w' → Calls Tryd.prog 9 #[dgv D p] w' (fun e w'' => ∃ pl AK ck, e = .returned (.tuple #[dgv (prD D (keepP D)) pl, .slice AK (mkL D.nb (keepP D)).length ck, .nilIface]) ∧ Dm w'' (prD D (keepP D)) pl ∧ Rl w'' AK ck (mkL D.nb (keepP D)) ∧ Ext w' w'')) := fun w' e => Prune_ok (d.ext (hE.trans e)) (hT.ext (hE.trans e)) hck
      have HPR : Hid (∀ w', Ext W1 w' → Calls Tryd.prog 10 #[dgv D p] w' (fun e w'' => ∃ pl AK ck, e = .returned (.tuple #[dgv (prD D (keepP D)) pl, .slice AK (mkL D.nb (keepP D)).length ck]) ∧ Dm w'' (prD D (keepP D)) pl ∧ Rl w'' AK ck (mkL D.nb (keepP D)) ∧ Ext w' w'')) := fun w' e => rPrune_ok (d.ext (hE.trans e)) hck
      have hkl : (mkL D.nb (keepP D)).length ≤ 1000 := by rw [mkL_len]; have := cnt_le D.nb (keepP D); omega
      have HKL := Lib.hid hkl
      obtain ⟨nk, hnk⟩ : ∃ nk, (mkL D.nb (keepP D)).length = nk := ⟨_, rfl⟩
      have HNK := Lib.hid hnk
      have HSM : Hid (∀ w' pl pq, Dm w' (prD D (keepP D)) pl → Dm w' (prD D (keepP D)) pq → Calls Tryd.prog 11 #[dgv (prD D (keepP D)) pl, dgv (prD D (keepP D)) pq] w' fun e w'' => e = .returned (.bool true) ∧ Ext w' w'') := fun w' pl pq a b => same_true a b
      have HIT : Hid (∀ w' A B c e, Rl w' A c (mkL D.nb (keepP D)) → Rl w' B e (mkL D.nb (keepP D)) → Calls Tryd.prog 12 #[.slice A (mkL D.nb (keepP D)).length c, .slice B (mkL D.nb (keepP D)).length e] w' fun e' w'' => e' = .returned (.bool true) ∧ Ext w' w'') := fun w' A B c e a b => ints_true hkl a.1 b.1
      have hzl : w.heap.size < W1.heap.size := by rw [hW1]; simp
      clear d hT hbd hlt hE hck hkl hnk
      generalize mkL D.nb (keepP D) = LK at *
      generalize prD D (keepP D) = DK at *
      go_enter Tryd.func3, Tryd.ntmps3
      go_upto_region 1 with fail
      rw [← hW1] at c0 c1 c2
      rw [← hW1]; clear hW1
      go_wp2_with (first
        | (go_at_call 6; (with_reducible refine (HA.out _ (by (with_reducible (repeat (first | exact Ext.refl _ | assumption | (refine Ext.toSet ?_ (by omega)) | refine Ext.toAlloc ?_ | refine Ext.toDrew ?_ | refine Ext.toDrewN ?_ | refine Ext.trans ?_ (by assumption)))); (first | done | fail "no"))).mono ?_); rintro e1 w1 ⟨rfl, h1⟩; obtain ⟨d0, d1, d2⟩ := HBX.out w1 (by (with_reducible (repeat (first | exact Ext.refl _ | assumption | (refine Ext.toSet ?_ (by omega)) | refine Ext.toAlloc ?_ | refine Ext.toDrew ?_ | refine Ext.toDrewN ?_ | refine Ext.trans ?_ (by assumption)))); (first | done | fail "no")))
        | (go_at_call 7; (with_reducible refine (HLI.out _ (by (with_reducible (repeat (first | exact Ext.refl _ | assumption | (refine Ext.toSet ?_ (by omega)) | refine Ext.toAlloc ?_ | refine Ext.toDrew ?_ | refine Ext.toDrewN ?_ | refine Ext.trans ?_ (by assumption)))); (first | done | fail "no"))).mono ?_); rintro e1 w1 ⟨rfl, h1⟩; obtain ⟨d0, d1, d2⟩ := HBX.out w1 (by (with_reducible (repeat (first | exact Ext.refl _ | assumption | (refine Ext.toSet ?_ (by omega)) | refine Ext.toAlloc ?_ | refine Ext.toDrew ?_ | refine Ext.toDrewN ?_ | refine Ext.trans ?_ (by assumption)))); (first | done | fail "no")))
        | (go_at_call 8; (with_reducible refine (HRC.out _ (by (with_reducible (repeat (first | exact Ext.refl _ | assumption | (refine Ext.toSet ?_ (by omega)) | refine Ext.toAlloc ?_ | refine Ext.toDrew ?_ | refine Ext.toDrewN ?_ | refine Ext.trans ?_ (by assumption)))); (first | done | fail "no"))).mono ?_); rintro e1 w1 ⟨rfl, h1⟩; obtain ⟨d0, d1, d2⟩ := HBX.out w1 (by (with_reducible (repeat (first | exact Ext.refl _ | assumption | (refine Ext.toSet ?_ (by omega)) | refine Ext.toAlloc ?_ | refine Ext.toDrew ?_ | refine Ext.toDrewN ?_ | refine Ext.trans ?_ (by assumption)))); (first | done | fail "no")))
        | (go_at_call 9; (with_reducible refine (HPC.out _ (by (with_reducible (repeat (first | exact Ext.refl _ | assumption | (refine Ext.toSet ?_ (by omega)) | refine Ext.toAlloc ?_ | refine Ext.toDrew ?_ | refine Ext.toDrewN ?_ | refine Ext.trans ?_ (by assumption)))); (first | done | fail "no"))).mono ?_); rintro e1 w3 ⟨pl, AK, ck, rfl, m3, r3, h1⟩; have HM3 := Lib.hid (And.intro m3 r3); clear m3 r3; obtain ⟨d0, d1, d2⟩ := HBX.out w3 (by (with_reducible (repeat (first | exact Ext.refl _ | assumption | (refine Ext.toSet ?_ (by omega)) | refine Ext.toAlloc ?_ | refine Ext.toDrew ?_ | refine Ext.toDrewN ?_ | refine Ext.trans ?_ (by assumption)))); (first | done | fail "no")); have hl3 : w.heap.size < w3.heap.size := Nat.lt_of_lt_of_le hzl (show Ext W1 w3 from (by (with_reducible (repeat (first | exact Ext.refl _ | assumption | (refine Ext.toSet ?_ (by omega)) | refine Ext.toAlloc ?_ | refine Ext.toDrew ?_ | refine Ext.toDrewN ?_ | refine Ext.trans ?_ (by assumption)))); (first | done | fail "no"))).size; have hn3 : ¬ w.heap.size = w3.heap.size := (by omega); have HXB := Lib.hid (Bx.new w3 (.slice pl.AI DK.ni pl.cI) (.slice pl.AB DK.nb pl.cB) (.slice pl.AO DK.no pl.cO) 26))
        | (go_at_call 10; (with_reducible refine (HPR.out _ (by (with_reducible (repeat (first | exact Ext.refl _ | assumption | (refine Ext.toSet ?_ (by omega)) | refine Ext.toAlloc ?_ | refine Ext.toDrew ?_ | refine Ext.toDrewN ?_ | refine Ext.trans ?_ (by assumption)))); (first | done | fail "no"))).mono ?_); rintro e1 w4 ⟨pq, BK, ek, rfl, m4, r4, h1⟩; have HM4 := Lib.hid (And.intro m4 r4); clear m4 r4; obtain ⟨d0, d1, d2⟩ := HBX.out w4 (by (with_reducible (repeat (first | exact Ext.refl _ | assumption | (refine Ext.toSet ?_ (by omega)) | refine Ext.toAlloc ?_ | refine Ext.toDrew ?_ | refine Ext.toDrewN ?_ | refine Ext.trans ?_ (by assumption)))); (first | done | fail "no")); have hb4 := HXB.out.ext h1; have hl4 := hb4.lt; have hn4 : ¬ w3.heap.size = w4.heap.size := (by omega); have hn5 : ¬ w.heap.size = w4.heap.size := (by omega); obtain ⟨⟨u0, u1, u2⟩, _⟩ := hb4)
        | (go_at_call 11; (with_reducible refine (HSM.out _ _ _ (HM3.out.1.ext (by (with_reducible (repeat (first | exact Ext.refl _ | assumption | (refine Ext.toSet ?_ (by omega)) | refine Ext.toAlloc ?_ | refine Ext.toDrew ?_ | refine Ext.toDrewN ?_ | refine Ext.trans ?_ (by assumption)))); (first | done | fail "no"))) (HM4.out.1.ext (by (with_reducible (repeat (first | exact Ext.refl _ | assumption | (refine Ext.toSet ?_ (by omega)) | refine Ext.toAlloc ?_ | refine Ext.toDrew ?_ | refine Ext.toDrewN ?_ | refine Ext.trans ?_ (by assumption)))); (first | done | fail "no")))).mono ?_); rintro e1 w5 ⟨rfl, h1⟩)
        | (go_at_call 12; (with_reducible refine (HIT.out _ _ _ _ _ (HM3.out.2.ext (by (with_reducible (repeat (first | exact Ext.refl _ | assumption | (refine Ext.toSet ?_ (by omega)) | refine Ext.toAlloc ?_ | refine Ext.toDrew ?_ | refine Ext.toDrewN ?_ | refine Ext.trans ?_ (by assumption)))); (first | done | fail "no"))) (HM4.out.2.ext (by (with_reducible (repeat (first | exact Ext.refl _ | assumption | (refine Ext.toSet ?_ (by omega)) | refine Ext.toAlloc ?_ | refine Ext.toDrew ?_ | refine Ext.toDrewN ?_ | refine Ext.trans ?_ (by assumption)))); (first | done | fail "no")))).mono ?_); rintro e1 w6 ⟨rfl, h1⟩))
      go_ret
      exact ⟨rfl, HE.out.trans (by (with_reducible (repeat (first | exact Ext.refl _ | assumption | (refine Ext.toSet ?_ (by omega)) | refine Ext.toAlloc ?_ | refine Ext.toDrew ?_ | refine Ext.toDrewN ?_ | refine Ext.trans ?_ (by assumption)))); (first | done | fail "no"))⟩
    · have g0 : ((chk D) != 0) = true := by simpa using hck
      clear d hT hbd hlt hE hck
      generalize chk D = code at *
      go_enter Tryd.func3, Tryd.ntmps3
      go_upto_region 1 with fail
      rw [← hW1] at c0 c1 c2
      rw [← hW1]; clear hW1
      go_wp2_with (first
        | (go_at_call 6; (with_reducible refine (HA.out _ (by (with_reducible (repeat (first | exact Ext.refl _ | assumption | (refine Ext.toSet ?_ (by omega)) | refine Ext.toAlloc ?_ | refine Ext.toDrew ?_ | refine Ext.toDrewN ?_ | refine Ext.trans ?_ (by assumption)))); (first | done | fail "no"))).mono ?_); rintro e1 w1 ⟨rfl, h1⟩; obtain ⟨d0, d1, d2⟩ := HBX.out w1 (by (with_reducible (repeat (first | exact Ext.refl _ | assumption | (refine Ext.toSet ?_ (by omega)) | refine Ext.toAlloc ?_ | refine Ext.toDrew ?_ | refine Ext.toDrewN ?_ | refine Ext.trans ?_ (by assumption)))); (first | done | fail "no")))
        | (go_at_call 7; (with_reducible refine (HLI.out _ (by (with_reducible (repeat (first | exact Ext.refl _ | assumption | (refine Ext.toSet ?_ (by omega)) | refine Ext.toAlloc ?_ | refine Ext.toDrew ?_ | refine Ext.toDrewN ?_ | refine Ext.trans ?_ (by assumption)))); (first | done | fail "no"))).mono ?_); rintro e1 w1 ⟨rfl, h1⟩; obtain ⟨d0, d1, d2⟩ := HBX.out w1 (by (with_reducible (repeat (first | exact Ext.refl _ | assumption | (refine Ext.toSet ?_ (by omega)) | refine Ext.toAlloc ?_ | refine Ext.toDrew ?_ | refine Ext.toDrewN ?_ | refine Ext.trans ?_ (by assumption)))); (first | done | fail "no")))
        | (go_at_call 8; (with_reducible refine (HRC.out _ (by (with_reducible (repeat (first | exact Ext.refl _ | assumption | (refine Ext.toSet ?_ (by omega)) | refine Ext.toAlloc ?_ | refine Ext.toDrew ?_ | refine Ext.toDrewN ?_ | refine Ext.trans ?_ (by assumption)))); (first | done | fail "no"))).mono ?_); rintro e1 w1 ⟨rfl, h1⟩; obtain ⟨d0, d1, d2⟩ := HBX.out w1 (by (with_reducible (repeat (first | exact Ext.refl _ | assumption | (refine Ext.toSet ?_ (by omega)) | refine Ext.toAlloc ?_ | refine Ext.toDrew ?_ | refine Ext.toDrewN ?_ | refine Ext.trans ?_ (by assumption)))); (first | done | fail "no"))))
      go_ret
      exact ⟨rfl, HE.out.trans (by (with_reducible (repeat (first | exact Ext.refl _ | assumption | (refine Ext.toSet ?_ (by omega)) | refine Ext.toAlloc ?_ | refine Ext.toDrew ?_ | refine Ext.toDrewN ?_ | refine Ext.trans ?_ (by assumption)))); (first | done | fail "no"))⟩
end Go.Proofs.YtgnaljnmjphleaaDoor
