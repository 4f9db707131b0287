/- The law ExactPruned. -/
import Derived.Test.YtcdkkohklhmpgaaGreatDoorOws
import Derived.Test.YtcdkkohklhmpgaaGreatDoorPmb
import Derived.Test.YtcdkkohklhmpgaaGreatDoorPru
import Derived.Test.YtcdkkohklhmpgaaGreatDoorEyl
import Derived.Test.YtcdkkohklhmpgaaGreatDoorLix
namespace Go.Proofs.YtcdkkohklhmpgaaGreatDoor
open Go Go.RowKit

set_option maxRecDepth 100000 in
set_option maxHeartbeats 8000000 in
theorem exactPruned_any {w : World} {D : Dia} {p : Pl} {Al : Option Addr} {n cl : Nat} {AA : Nat → Option Addr} {m c : Nat → Nat} {IN : Nat → Nat → Int} (d : Dm w D p) (hT : Tabs w) (l : Lli w Al n AA m c IN) (hn : n ≤ maxLen) :
    Calls Tryz.prog 5 #[dgv D p, .slice Al n cl] w fun e w' => e = .returned (.bool true) ∧ Ext w w' := by
  obtain ⟨W1, hW1⟩ : ∃ W1, W1 = w.alloc (.cells #[.slice p.AI D.ni p.cI, .slice p.AB D.nb p.cB, .slice p.AO D.no p.cO] 48) := ⟨_, rfl⟩
  have hE : Ext w W1 := by rw [hW1]; exact Ext.alloc _ _
  have hbd : Bd W1 w.heap.size D p := by rw [hW1]; exact Bd.new _ _ _ _
  have HBX : Hid (∀ w', Ext W1 w' → w'.cell? ⟨w.heap.size, 0, none⟩ = some (.slice p.AI D.ni p.cI) ∧ w'.cell? ⟨w.heap.size, 1, none⟩ = some (.slice p.AB D.nb p.cB) ∧ w'.cell? ⟨w.heap.size, 2, none⟩ = some (.slice p.AO D.no p.cO)) := fun w' e => by
    have a := hbd.ext e; exact ⟨a.c0, a.c1, a.c2⟩
  have HA : Hid (∀ w', Ext W1 w' → Calls Tryz.prog 24 #[] w' fun e w'' => e = .returned (.bool true) ∧ Ext w' w'') := fun w' e => xawake_any w' (hT.ext (hE.trans e))
  have HLI : Hid (∀ w', Ext W1 w' → Calls Tryz.prog 25 #[dgv D p, .slice Al n cl] w' fun e w'' => e = .returned (.bool (litX D n m)) ∧ Ext w' w'') := fun w' e => lightX_any (d.ext (hE.trans e)) (l.ext (hE.trans e)) hn
  have HCC : Hid (∀ w', Ext W1 w' → Calls Tryz.prog 26 #[dgv D p] w' fun e w'' => e = .returned (errv (chk D)) ∧ Ext w' w'') := fun w' e => check_any (d.ext (hE.trans e)) (hT.ext (hE.trans e))
  have HE := Lib.hid hE
  obtain ⟨c0, c1, c2⟩ := HBX.out _ (Ext.refl _)
  rw [hW1] at c0 c1 c2
  cases hlt : litX D n m with
  | false =>
    rw [hlt] at HLI
    clear d hT l hbd HCC hlt hE hn
    go_enter Tryz.func5, Tryz.ntmps5
    go_upto_region 1 with fail
    rw [← hW1] at c0 c1 c2
    rw [← hW1]; clear hW1
    go_wp2_with (first
        | (go_at_call 24; (with_reducible refine (HA.out _ (by (with_reducible (repeat (first | exact Ext.refl _ | assumption | (refine Ext.toSet ?_ (by omega)) | refine Ext.toAlloc ?_ | refine Ext.toDrew ?_ | refine Ext.toDrewN ?_ | refine Ext.trans ?_ (by assumption)))); (first | done | fail "no"))).mono ?_); rintro e1 w1 ⟨rfl, h1⟩; obtain ⟨d0, d1, d2⟩ := HBX.out w1 (by (with_reducible (repeat (first | exact Ext.refl _ | assumption | (refine Ext.toSet ?_ (by omega)) | refine Ext.toAlloc ?_ | refine Ext.toDrew ?_ | refine Ext.toDrewN ?_ | refine Ext.trans ?_ (by assumption)))); (first | done | fail "no")))
        | (go_at_call 25; (with_reducible refine (HLI.out _ (by (with_reducible (repeat (first | exact Ext.refl _ | assumption | (refine Ext.toSet ?_ (by omega)) | refine Ext.toAlloc ?_ | refine Ext.toDrew ?_ | refine Ext.toDrewN ?_ | refine Ext.trans ?_ (by assumption)))); (first | done | fail "no"))).mono ?_); rintro e1 w1 ⟨rfl, h1⟩; obtain ⟨d0, d1, d2⟩ := HBX.out w1 (by (with_reducible (repeat (first | exact Ext.refl _ | assumption | (refine Ext.toSet ?_ (by omega)) | refine Ext.toAlloc ?_ | refine Ext.toDrew ?_ | refine Ext.toDrewN ?_ | refine Ext.trans ?_ (by assumption)))); (first | done | fail "no")))
        | (go_at_call 26; (with_reducible refine (HCC.out _ (by (with_reducible (repeat (first | exact Ext.refl _ | assumption | (refine Ext.toSet ?_ (by omega)) | refine Ext.toAlloc ?_ | refine Ext.toDrew ?_ | refine Ext.toDrewN ?_ | refine Ext.trans ?_ (by assumption)))); (first | done | fail "no"))).mono ?_); rintro e1 w1 ⟨rfl, h1⟩; obtain ⟨d0, d1, d2⟩ := HBX.out w1 (by (with_reducible (repeat (first | exact Ext.refl _ | assumption | (refine Ext.toSet ?_ (by omega)) | refine Ext.toAlloc ?_ | refine Ext.toDrew ?_ | refine Ext.toDrewN ?_ | refine Ext.trans ?_ (by assumption)))); (first | done | fail "no"))))
    go_ret
    exact ⟨rfl, HE.out.trans (by (with_reducible (repeat (first | exact Ext.refl _ | assumption | (refine Ext.toSet ?_ (by omega)) | refine Ext.toAlloc ?_ | refine Ext.toDrew ?_ | refine Ext.toDrewN ?_ | refine Ext.trans ?_ (by assumption)))); (first | done | fail "no"))⟩
  | true =>
  rw [hlt] at HLI
  have hn3 := (lit_x hlt).2.1
  by_cases hck : chk D ≠ 0
  · rw [errv_n hck] at HCC
    clear d hT l hbd hlt hE hn hck
    generalize chk D = code at *
    go_enter Tryz.func5, Tryz.ntmps5
    go_upto_region 1 with fail
    rw [← hW1] at c0 c1 c2
    rw [← hW1]; clear hW1
    go_wp2_with (first
        | (go_at_call 24; (with_reducible refine (HA.out _ (by (with_reducible (repeat (first | exact Ext.refl _ | assumption | (refine Ext.toSet ?_ (by omega)) | refine Ext.toAlloc ?_ | refine Ext.toDrew ?_ | refine Ext.toDrewN ?_ | refine Ext.trans ?_ (by assumption)))); (first | done | fail "no"))).mono ?_); rintro e1 w1 ⟨rfl, h1⟩; obtain ⟨d0, d1, d2⟩ := HBX.out w1 (by (with_reducible (repeat (first | exact Ext.refl _ | assumption | (refine Ext.toSet ?_ (by omega)) | refine Ext.toAlloc ?_ | refine Ext.toDrew ?_ | refine Ext.toDrewN ?_ | refine Ext.trans ?_ (by assumption)))); (first | done | fail "no")))
        | (go_at_call 25; (with_reducible refine (HLI.out _ (by (with_reducible (repeat (first | exact Ext.refl _ | assumption | (refine Ext.toSet ?_ (by omega)) | refine Ext.toAlloc ?_ | refine Ext.toDrew ?_ | refine Ext.toDrewN ?_ | refine Ext.trans ?_ (by assumption)))); (first | done | fail "no"))).mono ?_); rintro e1 w1 ⟨rfl, h1⟩; obtain ⟨d0, d1, d2⟩ := HBX.out w1 (by (with_reducible (repeat (first | exact Ext.refl _ | assumption | (refine Ext.toSet ?_ (by omega)) | refine Ext.toAlloc ?_ | refine Ext.toDrew ?_ | refine Ext.toDrewN ?_ | refine Ext.trans ?_ (by assumption)))); (first | done | fail "no")))
        | (go_at_call 26; (with_reducible refine (HCC.out _ (by (with_reducible (repeat (first | exact Ext.refl _ | assumption | (refine Ext.toSet ?_ (by omega)) | refine Ext.toAlloc ?_ | refine Ext.toDrew ?_ | refine Ext.toDrewN ?_ | refine Ext.trans ?_ (by assumption)))); (first | done | fail "no"))).mono ?_); rintro e1 w1 ⟨rfl, h1⟩; obtain ⟨d0, d1, d2⟩ := HBX.out w1 (by (with_reducible (repeat (first | exact Ext.refl _ | assumption | (refine Ext.toSet ?_ (by omega)) | refine Ext.toAlloc ?_ | refine Ext.toDrew ?_ | refine Ext.toDrewN ?_ | refine Ext.trans ?_ (by assumption)))); (first | done | fail "no"))))
    go_ret
    exact ⟨rfl, HE.out.trans (by (with_reducible (repeat (first | exact Ext.refl _ | assumption | (refine Ext.toSet ?_ (by omega)) | refine Ext.toAlloc ?_ | refine Ext.toDrew ?_ | refine Ext.toDrewN ?_ | refine Ext.trans ?_ (by assumption)))); (first | done | fail "no"))⟩
  · have hck : chk D = 0 := by omega
    have ok := chk_ok hck
    rw [hck, errv_z] at HCC
    have hni := ok.toWF.ni
    have hno := ok.no
    have HD := Lib.hid (d.ext hE); have HT := Lib.hid (hT.ext hE); have OK := Lib.hid ok; have HL := Lib.hid (l.ext hE); have HCK := Lib.hid hck
    have HPC : Hid (∀ w', Ext W1 w' → Calls Tryz.prog 33 #[dgv D p] w' (fun e w'' => ∃ pl AK nk ck, e = .returned (.tuple #[dgv (prK D) pl, .slice AK nk ck, .nilIface]) ∧ Dm w'' (prK D) pl ∧ Ext w' w'')) := fun w' e => (Prune_ok (d.ext (hE.trans e)) (hT.ext (hE.trans e)) hck).mono fun e w'' h => by
      obtain ⟨pl, AK, ck, h1, h2, h3, h4⟩ := h
      exact ⟨pl, AK, _, ck, h1, h2, h4⟩
    have hzl : w.heap.size < W1.heap.size := by rw [hW1]; simp
    obtain ⟨DK, hDK⟩ : ∃ DK, prK D = DK := ⟨_, rfl⟩
    rw [hDK] at HPC
    have HDK := Lib.hid hDK
    clear d hT l hbd hlt hE hck ok hn hDK
    go_enter Tryz.func5, Tryz.ntmps5
    go_upto_region 1 with fail
    rw [← hW1] at c0 c1 c2
    rw [← hW1]; clear hW1
    go_wp2_with (first
        | (go_at_call 24; (with_reducible refine (HA.out _ (by (with_reducible (repeat (first | exact Ext.refl _ | assumption | (refine Ext.toSet ?_ (by omega)) | refine Ext.toAlloc ?_ | refine Ext.toDrew ?_ | refine Ext.toDrewN ?_ | refine Ext.trans ?_ (by assumption)))); (first | done | fail "no"))).mono ?_); rintro e1 w1 ⟨rfl, h1⟩; obtain ⟨d0, d1, d2⟩ := HBX.out w1 (by (with_reducible (repeat (first | exact Ext.refl _ | assumption | (refine Ext.toSet ?_ (by omega)) | refine Ext.toAlloc ?_ | refine Ext.toDrew ?_ | refine Ext.toDrewN ?_ | refine Ext.trans ?_ (by assumption)))); (first | done | fail "no")))
        | (go_at_call 25; (with_reducible refine (HLI.out _ (by (with_reducible (repeat (first | exact Ext.refl _ | assumption | (refine Ext.toSet ?_ (by omega)) | refine Ext.toAlloc ?_ | refine Ext.toDrew ?_ | refine Ext.toDrewN ?_ | refine Ext.trans ?_ (by assumption)))); (first | done | fail "no"))).mono ?_); rintro e1 w1 ⟨rfl, h1⟩; obtain ⟨d0, d1, d2⟩ := HBX.out w1 (by (with_reducible (repeat (first | exact Ext.refl _ | assumption | (refine Ext.toSet ?_ (by omega)) | refine Ext.toAlloc ?_ | refine Ext.toDrew ?_ | refine Ext.toDrewN ?_ | refine Ext.trans ?_ (by assumption)))); (first | done | fail "no")))
        | (go_at_call 26; (with_reducible refine (HCC.out _ (by (with_reducible (repeat (first | exact Ext.refl _ | assumption | (refine Ext.toSet ?_ (by omega)) | refine Ext.toAlloc ?_ | refine Ext.toDrew ?_ | refine Ext.toDrewN ?_ | refine Ext.trans ?_ (by assumption)))); (first | done | fail "no"))).mono ?_); rintro e1 w1 ⟨rfl, h1⟩; obtain ⟨d0, d1, d2⟩ := HBX.out w1 (by (with_reducible (repeat (first | exact Ext.refl _ | assumption | (refine Ext.toSet ?_ (by omega)) | refine Ext.toAlloc ?_ | refine Ext.toDrew ?_ | refine Ext.toDrewN ?_ | refine Ext.trans ?_ (by assumption)))); (first | done | fail "no")))
        | (go_at_call 33; (with_reducible refine (HPC.out _ (by (with_reducible (repeat (first | exact Ext.refl _ | assumption | (refine Ext.toSet ?_ (by omega)) | refine Ext.toAlloc ?_ | refine Ext.toDrew ?_ | refine Ext.toDrewN ?_ | refine Ext.trans ?_ (by assumption)))); (first | done | fail "no"))).mono ?_); rintro e1 w3 ⟨pl, AK, nk, ck, rfl, m3, h1⟩; have HM3 := Lib.hid m3; clear m3; obtain ⟨d0, d1, d2⟩ := HBX.out w3 (by (with_reducible (repeat (first | exact Ext.refl _ | assumption | (refine Ext.toSet ?_ (by omega)) | refine Ext.toAlloc ?_ | refine Ext.toDrew ?_ | refine Ext.toDrewN ?_ | refine Ext.trans ?_ (by assumption)))); (first | done | fail "no")); have hl3 : w.heap.size < w3.heap.size := Nat.lt_of_lt_of_le hzl (show Ext W1 w3 from (by (with_reducible (repeat (first | exact Ext.refl _ | assumption | (refine Ext.toSet ?_ (by omega)) | refine Ext.toAlloc ?_ | refine Ext.toDrew ?_ | refine Ext.toDrewN ?_ | refine Ext.trans ?_ (by assumption)))); (first | done | fail "no"))).size; have hn3 : ¬ w.heap.size = w3.heap.size := (by omega)))
    obtain ⟨w4, hw4⟩ : ∃ w4, w4 = w3.alloc (.cells #[.slice pl.AI DK.ni pl.cI, .slice pl.AB DK.nb pl.cB, .slice pl.AO DK.no pl.cO] 48) := ⟨_, rfl⟩
    have HX4 : Hid (Ext W1 w4) := by show Ext _ _; rw [hw4]; exact Ext.trans (by (with_reducible (repeat (first | exact Ext.refl _ | assumption | (refine Ext.toSet ?_ (by omega)) | refine Ext.toAlloc ?_ | refine Ext.toDrew ?_ | refine Ext.toDrewN ?_ | refine Ext.trans ?_ (by assumption)))); (first | done | fail "no")) (Ext.alloc w3 _)
    have HM4 : Hid (Dm w4 DK pl) := by show Dm _ _ _; rw [hw4]; exact HM3.out.ext (Ext.alloc _ _)
    have HB4 : Hid (∀ w', Ext w4 w' → w'.cell? ⟨w3.heap.size, 0, none⟩ = some (.slice pl.AI DK.ni pl.cI) ∧ w'.cell? ⟨w3.heap.size, 1, none⟩ = some (.slice pl.AB DK.nb pl.cB) ∧ w'.cell? ⟨w3.heap.size, 2, none⟩ = some (.slice pl.AO DK.no pl.cO)) := fun w' e => by
      have h := (Bx.new w3 (.slice pl.AI DK.ni pl.cI) (.slice pl.AB DK.nb pl.cB) (.slice pl.AO DK.no pl.cO) 48)
      rw [← hw4] at h
      exact (h.ext e).1
    have HBX4 : Hid (∀ w', Ext w4 w' → w'.cell? ⟨w.heap.size, 0, none⟩ = some (.slice p.AI D.ni p.cI) ∧ w'.cell? ⟨w.heap.size, 1, none⟩ = some (.slice p.AB D.nb p.cB) ∧ w'.cell? ⟨w.heap.size, 2, none⟩ = some (.slice p.AO D.no p.cO)) := fun w' e => HBX.out w' (HX4.out.trans e)
    (try rw [← hw4])
    clear hw4 d0 d1 d2 c0 c1 c2 HM3 hl3 hn3
    have HIF : Hid (∃ IF : Nat → Nat → Int, ∀ t, IF t = fitV D (m t) (IN t)) := ⟨_, fun _ => rfl⟩
    obtain ⟨IF, hIF⟩ := HIF.out
    have HIF := Lib.hid hIF; clear hIF
    have HM0 : Hid (RiM w4 w4 w4.heap.size D.ni none 0 (fun _ => none) (fun _ => 0) IF 0) := RiM.nil (Ext.refl _) (Nat.le_refl _) (Nat.le_refl _) _
    go_loopw [8, 40] (fun s8 s wr => ∃ (t : Nat) (A : Option Addr) (c3 : Nat) (G : Nat → Option Addr) (cc : Nat → Nat), t ≤ n ∧ s = I t ∧ s8 = .slice A t c3 ∧ Hid (RiM w4 wr w4.heap.size D.ni A c3 G cc IF t)) (fun _ s _ => n - (intOf s).toNat)
    case atStart => exact ⟨0, none, 0, _, _, Nat.zero_le _, rfl, rfl, HM0.out⟩
    case round =>
      clear HM0
      obtain ⟨t, A, c3, G, cc, ht, rfl, rfl, H⟩ := hrel
      by_cases hlt : t < n
      · have hX := HX4.out.trans H.out.ext
        obtain ⟨b, o, hbl, hbb, hc⟩ := (HL.out.ext hX).cells (by omega)
        have xl := hc t hlt
        obtain ⟨c0, c1, c2⟩ := HBX.out _ hX
        have hlt' : (t : Int) < (n : Int) := by omega
        have hblt := H.out.blt
        have HFI : Hid (∀ w', Ext wr w' → Calls Tryz.prog 28 #[dgv D p, .slice (AA t) (m t) (c t)] w' (fun e w'' => ∃ A2 c2, e = .returned (.slice A2 D.ni c2) ∧ Ri w'' A2 D.ni (IF t) ∧ (∀ b o, A2 = some ⟨b, o, none⟩ → w'.heap.size ≤ b ∧ b < w''.heap.size) ∧ Ext w' w'')) := fun w' e => (fit_any (HD.out.ext (hX.trans e)) (by omega) (fun j hj => by have := OK.out.port hj; omega) ((HL.out.rows t hlt).1.ext (hX.trans e)) (HL.out.rows t hlt).2).mono fun e w'' h => by
          obtain ⟨A2, c2, h1, h2, h3⟩ := h
          exact ⟨A2, c2, h1, by rw [HIF.out]; exact h2.ri, h2.blk, h3⟩
        clear hc hX
        go_wp2_with (first
          | (go_at_call 28; (with_reducible refine (HFI.out _ (Ext.refl _)).mono ?_); rintro e1 w5 ⟨A2, c2', rfl, ri, hA2, h5⟩; have HRI := Lib.hid ri; have HA2 := Lib.hid hA2; have HX5 := Lib.hid h5; have hs5 := h5.size; clear ri h5 hA2)
          | (at_builtin; refine appS rfl _ _ rfl w4.heap.size A c3 (putA' G t A2) (putN' cc t c2') D.ni t rfl (H.out.own' (HX5.out.trans (Ext.alloc _ _)) A2 c2') _ _ rfl (by unfold putA' putN'; rw [if_pos rfl, if_pos rfl]; go_simp) (by omega) (by simp; omega) ?_; intro g6 cap w6 hown hgrow hat hltg; have HN := Lib.hid (H.out.step (HX5.out.trans (Ext.alloc _ _)) (HRI.out.ext (Ext.alloc _ _)) (fun b o ha => ⟨(HA2.out b o ha).1, by have := (HA2.out b o ha).2; simp; omega⟩) hown hgrow hat); clear hown hgrow hat hltg))
        (try rw [← hbl])
        go_roundw
        case rel => exact ⟨t + 1, _, _, _, _, by omega, by go_num, rfl, HN.out⟩
        case measure => simp [intOf]; omega
      · obtain rfl : t = n := by omega
        have HLL : Hid (Lli wr A t G (fun _ => D.ni) cc IF) := H.out.lli (by unfold maxLen; omega)
        have HX4r := Lib.hid H.out.ext
        have hnn : t ≤ maxLen := by unfold maxLen; omega
        have hnk : DK.no = D.no := by rw [← HDK.out]; rfl
        have HNK := Lib.hid hnk
        have hrk := runE_K OK.out t (fun _ => D.ni) IF (fun _ _ => rfl) (fun k hk i hi => by rw [HIF.out]; exact fit_rng OK.out _ _ i hi)
        rw [HDK.out] at hrk
        have HRA : Hid (∀ w', Ext wr w' → Calls Tryz.prog 29 #[dgv D p, .slice A t c3] w' (RunP D t (fun _ => D.ni) IF w')) := fun w' e => Run_ok (HD.out.ext (HX4.out.trans (HX4r.out.trans e))) (HT.out.ext (HX4.out.trans (HX4r.out.trans e))) HCK.out (HLL.out.ext e) hnn
        have HRB : Hid (∀ w', Ext wr w' → Calls Tryz.prog 29 #[dgv DK pl, .slice A t c3] w' (RunP DK t (fun _ => D.ni) IF w')) := fun w' e => Run_ok (HM4.out.ext (HX4r.out.trans e)) (HT.out.ext (HX4.out.trans (HX4r.out.trans e))) (by rw [← HDK.out]; exact ok_chk (prK_ok OK.out)) (HLL.out.ext e) hnn
        obtain ⟨c0, c1, c2⟩ := HBX4.out _ HX4r.out
        obtain ⟨u0, u1, u2⟩ := HB4.out _ HX4r.out
        clear hlt ht hnn hnk
        by_cases hr : runE D t (fun _ => D.ni) IF = 0
        · have hr2 := hrk.2.2 hr
          have HUA : Hid (∀ w', Ext wr w' → Calls Tryz.prog 29 #[dgv D p, .slice A t c3] w' (fun e w'' => ∃ g G R, e = .returned (.tuple #[.slice (some ⟨g, 0, none⟩) t t, .nilIface]) ∧ RoM w' w'' g t D.no G R (runV D IF) t)) := fun w' e => (HRA.out w' e).mono fun e w'' h => by
            rcases h with ⟨h1, _⟩ | ⟨_, h2⟩
            · exact absurd hr h1
            · exact h2
          have HUB : Hid (∀ w', Ext wr w' → Calls Tryz.prog 29 #[dgv DK pl, .slice A t c3] w' (fun e w'' => ∃ g G R, e = .returned (.tuple #[.slice (some ⟨g, 0, none⟩) t t, .nilIface]) ∧ RoM w' w'' g t D.no G R (runV DK IF) t)) := fun w' e => (HRB.out w' e).mono fun e w'' h => by
            rcases h with ⟨h1, _⟩ | ⟨_, h2⟩
            · exact absurd hr2 h1
            · rw [HNK.out] at h2; exact h2
          have HQ : Hid (∀ k j, j < D.no → runV DK IF k j = runV D IF k j) := fun k j hj => by rw [← HDK.out]; exact run_K OK.out IF k hj
          have g1 : ((t : Int) != (t : Int)) = false := by simp
          clear hrk hr hr2 HRA HRB
          go_wp2_with (go_at_call 29; first
            | (have hq := HM7; clear hq; (with_reducible refine (HUB.out _ (by (with_reducible (repeat (first | exact Ext.refl _ | assumption | (refine Ext.toSet ?_ (by omega)) | refine Ext.toAlloc ?_ | refine Ext.toDrew ?_ | refine Ext.toDrewN ?_ | refine Ext.trans ?_ (by assumption)))); (first | done | fail "no"))).mono ?_); rintro e1 w8 ⟨g', G', R', rfl, m8⟩; have h1 := m8.ext; have HM8 := Lib.hid m8; clear m8)
            | ((with_reducible refine (HUA.out _ (by (with_reducible (repeat (first | exact Ext.refl _ | assumption | (refine Ext.toSet ?_ (by omega)) | refine Ext.toAlloc ?_ | refine Ext.toDrew ?_ | refine Ext.toDrewN ?_ | refine Ext.trans ?_ (by assumption)))); (first | done | fail "no"))).mono ?_); rintro e1 w7 ⟨g, G7, R7, rfl, m7⟩; have h1 := m7.ext; have HM7 := Lib.hid m7; clear m7; obtain ⟨u0, u1, u2⟩ := HB4.out w7 (HX4r.out.trans (by (with_reducible (repeat (first | exact Ext.refl _ | assumption | (refine Ext.toSet ?_ (by omega)) | refine Ext.toAlloc ?_ | refine Ext.toDrew ?_ | refine Ext.toDrewN ?_ | refine Ext.trans ?_ (by assumption)))); (first | done | fail "no")))))
          have HX78 := Lib.hid (show Ext w7 w8 from (by (with_reducible (repeat (first | exact Ext.refl _ | assumption | (refine Ext.toSet ?_ (by omega)) | refine Ext.toAlloc ?_ | refine Ext.toDrew ?_ | refine Ext.toDrewN ?_ | refine Ext.trans ?_ (by assumption)))); (first | done | fail "no")))
          have HX8 := Lib.hid (show Ext wr w8 from (by (with_reducible (repeat (first | exact Ext.refl _ | assumption | (refine Ext.toSet ?_ (by omega)) | refine Ext.toAlloc ?_ | refine Ext.toDrew ?_ | refine Ext.toDrewN ?_ | refine Ext.trans ?_ (by assumption)))); (first | done | fail "no")))
          clear c0 c1 c2 u0 u1 u2
          go_loopw [85] (fun s wy => ∃ k : Nat, k ≤ t ∧ s = I k ∧ Hid (Ext w8 wy)) (fun s _ => t - (intOf s).toNat)
          case atStart => exact ⟨0, Nat.zero_le _, rfl, Ext.refl _⟩
          case round =>
            obtain ⟨k, hk, rfl, HX⟩ := hrel
            by_cases hlt : k < t
            · have x0 := ((HM7.out.to (HX78.out.trans HX.out)).row.cell hlt)
              have y0 := ((HM8.out.to HX.out).row.cell hlt)
              rw [if_pos hlt] at x0 y0
              have hx0l := (HM7.out.to (HX78.out.trans HX.out)).row.lt
              have hy0l := (HM8.out.to HX.out).row.lt
              have HSM : Hid (∀ w', Ext wr w' → Calls Tryz.prog 34 #[.slice (some ⟨G7 k, 0, none⟩) D.no D.no, .slice (some ⟨G' k, 0, none⟩) D.no D.no] w' (fun e w'' => e = .returned (.bool true) ∧ Ext w' w'')) := fun w' e =>
                rsameL_any ((HM7.out.lv k hlt).ln.ext (HX78.out.trans (HX.out.trans e))) (((HM8.out.lv k hlt).ln.congr fun j hj => HQ.out k j hj).ext (HX.out.trans e)) (by omega)
              have hlt' : (k : Int) < (t : Int) := by omega
              have hb : Ext wr wr := Ext.refl _
              go_upto_region 21 with fail
              have hL := fun (x : Later _) => (Ext.trans hb x.ext).old.1
              refine wp_region_later (by kernel_rfl) (by kernel_rfl) ?_
              repeat (go_big_quiet_step (((go_at_call 34; exact Calls.later (HSM.out _ (Later.ext _))))))
              refine wpQuiet_nil ?_
              intro w2 hw2
              replace hb := Ext.trans hb (Later.of hw2)
              clear hw2 hL
              obtain ⟨hc, hf⟩ := hb.old
              have HB2 := Lib.hid (HX.out.trans hb)
              clear hb
              go_wp2_with fail
              go_roundw
              case rel => exact ⟨k + 1, by omega, by go_num, HB2.out⟩
              case measure => simp [intOf]; omega
            · obtain rfl : k = t := by omega
              go_wp2_with fail
              go_ret
              exact ⟨rfl, HE.out.trans (HX4.out.trans (HX4r.out.trans (HX8.out.trans HX.out)))⟩
        · have hr4 : runE D t (fun _ => D.ni) IF = 4 := by rcases hrk.1 with h | h; exact absurd h hr; exact h
          have HUA : Hid (∀ w', Ext wr w' → Calls Tryz.prog 29 #[dgv D p, .slice A t c3] w' (fun e w'' => e = .returned (.tuple #[.slice none 0 0, .iface 61 (I 4)]) ∧ Ext w' w'')) := fun w' e => (HRA.out w' e).mono fun e w'' h => by
            rcases h with ⟨h1, h2, h3⟩ | ⟨h1, _⟩
            · rw [hr4, errv_n (by omega)] at h2; exact ⟨h2, h3⟩
            · exact absurd h1 hr
          by_cases hr2 : runE DK t (fun _ => D.ni) IF = 0
          · have HUB : Hid (∀ w', Ext wr w' → Calls Tryz.prog 29 #[dgv DK pl, .slice A t c3] w' (fun e w'' => ∃ g, e = .returned (.tuple #[.slice (some ⟨g, 0, none⟩) t t, .nilIface]) ∧ Ext w' w'')) := fun w' e => (HRB.out w' e).mono fun e w'' h => by
              rcases h with ⟨h1, _⟩ | ⟨_, g, G, R, h2, h3⟩
              · exact absurd hr2 h1
              · exact ⟨g, h2, h3.ext⟩
            clear hrk hr hr2 HRA HRB hr4
            go_wp2_with (go_at_call 29; first
              | (have hq := HM7; clear hq; (with_reducible refine (HUB.out _ (by (with_reducible (repeat (first | exact Ext.refl _ | assumption | (refine Ext.toSet ?_ (by omega)) | refine Ext.toAlloc ?_ | refine Ext.toDrew ?_ | refine Ext.toDrewN ?_ | refine Ext.trans ?_ (by assumption)))); (first | done | fail "no"))).mono ?_); rintro e1 w8 ⟨g', rfl, h1⟩)
              | ((with_reducible refine (HUA.out _ (by (with_reducible (repeat (first | exact Ext.refl _ | assumption | (refine Ext.toSet ?_ (by omega)) | refine Ext.toAlloc ?_ | refine Ext.toDrew ?_ | refine Ext.toDrewN ?_ | refine Ext.trans ?_ (by assumption)))); (first | done | fail "no"))).mono ?_); rintro e1 w7 ⟨rfl, h1⟩; have HM7 := Lib.hid h1; obtain ⟨u0, u1, u2⟩ := HB4.out w7 (HX4r.out.trans (by (with_reducible (repeat (first | exact Ext.refl _ | assumption | (refine Ext.toSet ?_ (by omega)) | refine Ext.toAlloc ?_ | refine Ext.toDrew ?_ | refine Ext.toDrewN ?_ | refine Ext.trans ?_ (by assumption)))); (first | done | fail "no")))))
            go_ret
            exact ⟨rfl, HE.out.trans (HX4.out.trans (HX4r.out.trans (by (with_reducible (repeat (first | exact Ext.refl _ | assumption | (refine Ext.toSet ?_ (by omega)) | refine Ext.toAlloc ?_ | refine Ext.toDrew ?_ | refine Ext.toDrewN ?_ | refine Ext.trans ?_ (by assumption)))); (first | done | fail "no"))))⟩
          · have hr5 : runE DK t (fun _ => D.ni) IF = 4 := by rcases hrk.2.1 with h | h; exact absurd h hr2; exact h
            have HUB : Hid (∀ w', Ext wr w' → Calls Tryz.prog 29 #[dgv DK pl, .slice A t c3] w' (fun e w'' => e = .returned (.tuple #[.slice none 0 0, .iface 61 (I 4)]) ∧ Ext w' w'')) := fun w' e => (HRB.out w' e).mono fun e w'' h => by
              rcases h with ⟨h1, h2, h3⟩ | ⟨h1, _⟩
              · rw [hr5, errv_n (by omega)] at h2; exact ⟨h2, h3⟩
              · exact absurd h1 hr2
            have g4 : ((4 : Int) == (4 : Int)) = true := by decide
            clear hrk hr hr2 HRA HRB hr4 hr5
            go_wp2_with (first
              | (go_at_call 29; first
                | (have hq := HM7; clear hq; (with_reducible refine (HUB.out _ (by (with_reducible (repeat (first | exact Ext.refl _ | assumption | (refine Ext.toSet ?_ (by omega)) | refine Ext.toAlloc ?_ | refine Ext.toDrew ?_ | refine Ext.toDrewN ?_ | refine Ext.trans ?_ (by assumption)))); (first | done | fail "no"))).mono ?_); rintro e1 w8 ⟨rfl, h1⟩)
                | ((with_reducible refine (HUA.out _ (by (with_reducible (repeat (first | exact Ext.refl _ | assumption | (refine Ext.toSet ?_ (by omega)) | refine Ext.toAlloc ?_ | refine Ext.toDrew ?_ | refine Ext.toDrewN ?_ | refine Ext.trans ?_ (by assumption)))); (first | done | fail "no"))).mono ?_); rintro e1 w7 ⟨rfl, h1⟩; have HM7 := Lib.hid h1; obtain ⟨u0, u1, u2⟩ := HB4.out w7 (HX4r.out.trans (by (with_reducible (repeat (first | exact Ext.refl _ | assumption | (refine Ext.toSet ?_ (by omega)) | refine Ext.toAlloc ?_ | refine Ext.toDrew ?_ | refine Ext.toDrewN ?_ | refine Ext.trans ?_ (by assumption)))); (first | done | fail "no")))))
              | (go_at_call 22; (with_reducible refine (num_err _ _).mono ?_); rintro e1 w9 ⟨rfl, h1⟩))
            go_ret
            exact ⟨rfl, HE.out.trans (HX4.out.trans (HX4r.out.trans (by (with_reducible (repeat (first | exact Ext.refl _ | assumption | (refine Ext.toSet ?_ (by omega)) | refine Ext.toAlloc ?_ | refine Ext.toDrew ?_ | refine Ext.toDrewN ?_ | refine Ext.trans ?_ (by assumption)))); (first | done | fail "no"))))⟩
end Go.Proofs.YtcdkkohklhmpgaaGreatDoor
