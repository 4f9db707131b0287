/- The law ExactRuns. -/
import Derived.Test.YtgnaljnmjphleaaGreatDoorExi
namespace Go.Proofs.YtgnaljnmjphleaaGreatDoor
open Go Go.RowKit

set_option maxRecDepth 100000 in
set_option maxHeartbeats 4000000 in
theorem exactRuns_any {w : World} {D : Dia} {p : Pl} {Al : Option Addr} {n cl : Nat} {AA : Nat → Option Addr} {m c : Nat → Nat} {IN : Nat → Nat → Int} (d : Dm w D p) (hT : Tabs w) (l : Lli w Al n AA m c IN) (hn : n ≤ maxLen) :
    Calls Tryz.prog 4 #[dgv D p, .slice Al n cl] w fun e w' => e = .returned (.bool true) ∧ Ext w w' := by
  obtain ⟨W1, hW1⟩ : ∃ W1, W1 = w.alloc (.cells #[.slice p.AI D.ni p.cI, .slice p.AB D.nb p.cB, .slice p.AO D.no p.cO] 26) := ⟨_, rfl⟩
  have hE : Ext w W1 := by rw [hW1]; exact Ext.alloc _ _
  have hbd : Bd W1 w.heap.size D p := by rw [hW1]; exact Bd.new _ _ _ _
  have HBX : Hid (∀ w', Ext W1 w' → w'.cell? ⟨w.heap.size, 0, none⟩ = some (.slice p.AI D.ni p.cI) ∧ w'.cell? ⟨w.heap.size, 1, none⟩ = some (.slice p.AB D.nb p.cB) ∧ w'.cell? ⟨w.heap.size, 2, none⟩ = some (.slice p.AO D.no p.cO)) := fun w' e => by
    have a := hbd.ext e; exact ⟨a.c0, a.c1, a.c2⟩
  have HA : Hid (∀ w', Ext W1 w' → Calls Tryz.prog 8 #[] w' fun e w'' => e = .returned (.bool true) ∧ Ext w' w'') := fun w' e => xawake_any w' (hT.ext (hE.trans e))
  have HLI : Hid (∀ w', Ext W1 w' → Calls Tryz.prog 9 #[dgv D p, .slice Al n cl] w' fun e w'' => e = .returned (.bool (litX D n m)) ∧ Ext w' w'') := fun w' e => lightX_any (d.ext (hE.trans e)) (l.ext (hE.trans e)) hn
  have HRC : Hid (∀ w', Ext W1 w' → Calls Tryz.prog 13 #[dgv D p] w' fun e w'' => e = .returned (I (chk D)) ∧ Ext w' w'') := fun w' e => rcheck_any (d.ext (hE.trans e)) (hT.ext (hE.trans e))
  have HE := Lib.hid hE
  obtain ⟨c0, c1, c2⟩ := HBX.out _ (Ext.refl _)
  rw [hW1] at c0 c1 c2
  cases hlt : litX D n m with
  | false =>
    rw [hlt] at HLI
    clear d hT l hbd HRC hlt hE hn
    go_enter Tryz.func4, Tryz.ntmps4
    go_upto_region 1 with fail
    rw [← hW1] at c0 c1 c2
    rw [← hW1]; clear hW1
    go_wp2_with (first
      | (go_at_call 8; (with_reducible refine (HA.out _ (by (with_reducible (repeat (first | exact Ext.refl _ | assumption | (refine Ext.toSet ?_ (by omega)) | refine Ext.toAlloc ?_ | refine Ext.toDrew ?_ | refine Ext.toDrewN ?_ | refine Ext.trans ?_ (by assumption)))); (first | done | fail "no"))).mono ?_); rintro e1 w1 ⟨rfl, h1⟩; obtain ⟨d0, d1, d2⟩ := HBX.out w1 (by (with_reducible (repeat (first | exact Ext.refl _ | assumption | (refine Ext.toSet ?_ (by omega)) | refine Ext.toAlloc ?_ | refine Ext.toDrew ?_ | refine Ext.toDrewN ?_ | refine Ext.trans ?_ (by assumption)))); (first | done | fail "no")))
            | (go_at_call 9; (with_reducible refine (HLI.out _ (by (with_reducible (repeat (first | exact Ext.refl _ | assumption | (refine Ext.toSet ?_ (by omega)) | refine Ext.toAlloc ?_ | refine Ext.toDrew ?_ | refine Ext.toDrewN ?_ | refine Ext.trans ?_ (by assumption)))); (first | done | fail "no"))).mono ?_); rintro e1 w1 ⟨rfl, h1⟩; obtain ⟨d0, d1, d2⟩ := HBX.out w1 (by (with_reducible (repeat (first | exact Ext.refl _ | assumption | (refine Ext.toSet ?_ (by omega)) | refine Ext.toAlloc ?_ | refine Ext.toDrew ?_ | refine Ext.toDrewN ?_ | refine Ext.trans ?_ (by assumption)))); (first | done | fail "no")))
            | (go_at_call 13; (with_reducible refine (HRC.out _ (by (with_reducible (repeat (first | exact Ext.refl _ | assumption | (refine Ext.toSet ?_ (by omega)) | refine Ext.toAlloc ?_ | refine Ext.toDrew ?_ | refine Ext.toDrewN ?_ | refine Ext.trans ?_ (by assumption)))); (first | done | fail "no"))).mono ?_); rintro e1 w1 ⟨rfl, h1⟩; obtain ⟨d0, d1, d2⟩ := HBX.out w1 (by (with_reducible (repeat (first | exact Ext.refl _ | assumption | (refine Ext.toSet ?_ (by omega)) | refine Ext.toAlloc ?_ | refine Ext.toDrew ?_ | refine Ext.toDrewN ?_ | refine Ext.trans ?_ (by assumption)))); (first | done | fail "no"))))
    go_ret
    exact ⟨rfl, HE.out.trans (by (with_reducible (repeat (first | exact Ext.refl _ | assumption | (refine Ext.toSet ?_ (by omega)) | refine Ext.toAlloc ?_ | refine Ext.toDrew ?_ | refine Ext.toDrewN ?_ | refine Ext.trans ?_ (by assumption)))); (first | done | fail "no"))⟩
  | true =>
    have hn3 := (lit_x hlt).2.1
    rw [hlt] at HLI
    by_cases hck : chk D = 0
    · have hno := (chk_ok hck).no
      rw [hck] at HRC
      have g0 : ((0 : Int) != 0) = false := by decide
      by_cases hru : runE D n m IN = 0
      · have HRU : Hid (∀ w', Ext W1 w' → Calls Tryz.prog 18 #[dgv D p, .slice Al n cl] w' (fun e w'' => ∃ g G R, e = .returned (.tuple #[.slice (some ⟨g, 0, none⟩) n n, .nilIface]) ∧ RoM w' w'' g n D.no G R (runV D IN) n)) := fun w' e =>
          (Run_ok (cl := cl) (d.ext (hE.trans e)) (hT.ext (hE.trans e)) hck (l.ext (hE.trans e)) hn).mono fun e w'' h => by
            rcases h with ⟨h1, _⟩ | ⟨_, h2⟩
            · exact absurd hru h1
            · exact h2
        have HRR : Hid (∀ w', Ext W1 w' → Calls Tryz.prog 19 #[dgv D p, .slice Al n cl] w' (RnA D n IN w')) := fun w' e =>
          (rRun_any (cl := cl) (d.ext (hE.trans e)) hck (l.ext (hE.trans e)) hn).mono fun e w'' h => by
            rcases h with ⟨h1, _⟩ | ⟨_, h2⟩
            · exact absurd hru h1
            · exact h2
        clear d hT l hbd hlt hE hck hru hn
        have g1 : ((n : Int) != (n : Int)) = false := by simp
        go_enter Tryz.func4, Tryz.ntmps4
        go_upto_region 1 with fail
        rw [← hW1] at c0 c1 c2
        rw [← hW1]; clear hW1
        go_wp2_with (first
          | (go_at_call 8; (with_reducible refine (HA.out _ (by (with_reducible (repeat (first | exact Ext.refl _ | assumption | (refine Ext.toSet ?_ (by omega)) | refine Ext.toAlloc ?_ | refine Ext.toDrew ?_ | refine Ext.toDrewN ?_ | refine Ext.trans ?_ (by assumption)))); (first | done | fail "no"))).mono ?_); rintro e1 w1 ⟨rfl, h1⟩; obtain ⟨d0, d1, d2⟩ := HBX.out w1 (by (with_reducible (repeat (first | exact Ext.refl _ | assumption | (refine Ext.toSet ?_ (by omega)) | refine Ext.toAlloc ?_ | refine Ext.toDrew ?_ | refine Ext.toDrewN ?_ | refine Ext.trans ?_ (by assumption)))); (first | done | fail "no")))
            | (go_at_call 9; (with_reducible refine (HLI.out _ (by (with_reducible (repeat (first | exact Ext.refl _ | assumption | (refine Ext.toSet ?_ (by omega)) | refine Ext.toAlloc ?_ | refine Ext.toDrew ?_ | refine Ext.toDrewN ?_ | refine Ext.trans ?_ (by assumption)))); (first | done | fail "no"))).mono ?_); rintro e1 w1 ⟨rfl, h1⟩; obtain ⟨d0, d1, d2⟩ := HBX.out w1 (by (with_reducible (repeat (first | exact Ext.refl _ | assumption | (refine Ext.toSet ?_ (by omega)) | refine Ext.toAlloc ?_ | refine Ext.toDrew ?_ | refine Ext.toDrewN ?_ | refine Ext.trans ?_ (by assumption)))); (first | done | fail "no")))
            | (go_at_call 13; (with_reducible refine (HRC.out _ (by (with_reducible (repeat (first | exact Ext.refl _ | assumption | (refine Ext.toSet ?_ (by omega)) | refine Ext.toAlloc ?_ | refine Ext.toDrew ?_ | refine Ext.toDrewN ?_ | refine Ext.trans ?_ (by assumption)))); (first | done | fail "no"))).mono ?_); rintro e1 w1 ⟨rfl, h1⟩; obtain ⟨d0, d1, d2⟩ := HBX.out w1 (by (with_reducible (repeat (first | exact Ext.refl _ | assumption | (refine Ext.toSet ?_ (by omega)) | refine Ext.toAlloc ?_ | refine Ext.toDrew ?_ | refine Ext.toDrewN ?_ | refine Ext.trans ?_ (by assumption)))); (first | done | fail "no")))
          | (go_at_call 18; (with_reducible refine (HRU.out _ (by (with_reducible (repeat (first | exact Ext.refl _ | assumption | (refine Ext.toSet ?_ (by omega)) | refine Ext.toAlloc ?_ | refine Ext.toDrew ?_ | refine Ext.toDrewN ?_ | refine Ext.trans ?_ (by assumption)))); (first | done | fail "no"))).mono ?_); rintro e1 w3 ⟨g, G, R, rfl, m3⟩; have h1 := m3.ext; have HM3 := Lib.hid m3; clear m3; obtain ⟨d0, d1, d2⟩ := HBX.out w3 (by (with_reducible (repeat (first | exact Ext.refl _ | assumption | (refine Ext.toSet ?_ (by omega)) | refine Ext.toAlloc ?_ | refine Ext.toDrew ?_ | refine Ext.toDrewN ?_ | refine Ext.trans ?_ (by assumption)))); (first | done | fail "no")))
          | (go_at_call 19; (with_reducible refine (HRR.out _ (by (with_reducible (repeat (first | exact Ext.refl _ | assumption | (refine Ext.toSet ?_ (by omega)) | refine Ext.toAlloc ?_ | refine Ext.toDrew ?_ | refine Ext.toDrewN ?_ | refine Ext.trans ?_ (by assumption)))); (first | done | fail "no"))).mono ?_); rintro e1 w4 ⟨A4, c4, G4, cc4, R4, rfl, m4, l4, h1⟩; have HM4 := Lib.hid (And.intro m4 l4); clear m4 l4; obtain ⟨d0, d1, d2⟩ := HBX.out w4 (by (with_reducible (repeat (first | exact Ext.refl _ | assumption | (refine Ext.toSet ?_ (by omega)) | refine Ext.toAlloc ?_ | refine Ext.toDrew ?_ | refine Ext.toDrewN ?_ | refine Ext.trans ?_ (by assumption)))); (first | done | fail "no")))
          | (go_at_call 14; (with_reducible refine (num_nil _).mono ?_); rintro e1 w5 ⟨rfl, h1⟩; obtain ⟨d0, d1, d2⟩ := HBX.out w5 (by (with_reducible (repeat (first | exact Ext.refl _ | assumption | (refine Ext.toSet ?_ (by omega)) | refine Ext.toAlloc ?_ | refine Ext.toDrew ?_ | refine Ext.toDrewN ?_ | refine Ext.trans ?_ (by assumption)))); (first | done | fail "no"))))
        have HX3 := Lib.hid (show Ext w3 w5 from (by (with_reducible (repeat (first | exact Ext.refl _ | assumption | (refine Ext.toSet ?_ (by omega)) | refine Ext.toAlloc ?_ | refine Ext.toDrew ?_ | refine Ext.toDrewN ?_ | refine Ext.trans ?_ (by assumption)))); (first | done | fail "no")))
        have HX4 := Lib.hid (show Ext w4 w5 from (by (with_reducible (repeat (first | exact Ext.refl _ | assumption | (refine Ext.toSet ?_ (by omega)) | refine Ext.toAlloc ?_ | refine Ext.toDrew ?_ | refine Ext.toDrewN ?_ | refine Ext.trans ?_ (by assumption)))); (first | done | fail "no")))
        have HX5 := Lib.hid (show Ext W1 w5 from (by (with_reducible (repeat (first | exact Ext.refl _ | assumption | (refine Ext.toSet ?_ (by omega)) | refine Ext.toAlloc ?_ | refine Ext.toDrew ?_ | refine Ext.toDrewN ?_ | refine Ext.trans ?_ (by assumption)))); (first | done | fail "no")))
        clear d0 d1 d2 c0 c1 c2
        go_loopw [58] (fun s wr => ∃ t : Nat, t ≤ n ∧ s = I t ∧ Hid (Ext w5 wr)) (fun s _ => n - (intOf s).toNat)
        case atStart => exact ⟨0, Nat.zero_le _, rfl, Ext.refl _⟩
        case round =>
          obtain ⟨t, ht, rfl, HX⟩ := hrel
          by_cases hlt : t < n
          · obtain ⟨g4, hA4, hg4, hc4⟩ := HM4.out.1 (by omega)
            have y0 := ((HX4.out.trans HX.out).old.1 _ _ hg4).trans (hc4 t hlt)
            have x0 := ((HM3.out.to (HX3.out.trans HX.out)).row.cell hlt)
            rw [if_pos hlt] at x0
            have hx0l := (HM3.out.to (HX3.out.trans HX.out)).row.lt
            have hy0l := Nat.lt_of_lt_of_le hg4 (HX4.out.trans HX.out).size
            have HSM : Hid (∀ w', Ext wr w' → Calls Tryz.prog 16 #[.slice (some ⟨G t, 0, none⟩) D.no D.no, .slice (G4 t) D.no (cc4 t)] w' (fun e w'' => e = .returned (.bool true) ∧ Ext w' w'')) := fun w' e =>
              rsameL_any ((HM3.out.lv t hlt).ln.ext (HX3.out.trans (HX.out.trans e))) ((HM4.out.2 t hlt).ext (HX4.out.trans (HX.out.trans e))) (by omega)
            have hlt' : (t : Int) < (n : Int) := by omega
            have hb : Ext wr wr := Ext.refl _
            clear hc4
            go_upto_region 13 with fail
            have hL := fun (x : Later _) => (Ext.trans hb x.ext).old.1
            refine wp_region_later (by kernel_rfl) (by kernel_rfl) ?_
            repeat (go_big_quiet_step (((go_at_call 16; exact Calls.later (HSM.out _ (Later.ext _))))))
            refine wpQuiet_nil ?_
            intro w2 hw2
            replace hb := Ext.trans hb (Later.of hw2)
            clear hw2 hL
            obtain ⟨hc, hf⟩ := hb.old
            have HB2 := Lib.hid (HX.out.trans hb)
            clear hb
            go_wp2_with fail
            (try rw [← hA4])
            go_roundw
            case rel => exact ⟨t + 1, by omega, by go_num, HB2.out⟩
            case measure => simp [intOf]; omega
          · obtain rfl : t = n := by omega
            go_wp2_with fail
            go_ret
            exact ⟨rfl, HE.out.trans (HX5.out.trans HX.out)⟩
      · have HRU : Hid (∀ w', Ext W1 w' → Calls Tryz.prog 18 #[dgv D p, .slice Al n cl] w' (fun e w'' => e = .returned (.tuple #[.slice none 0 0, .iface 54 (I (runE D n m IN))]) ∧ Ext w' w'')) := fun w' e =>
          (Run_ok (cl := cl) (d.ext (hE.trans e)) (hT.ext (hE.trans e)) hck (l.ext (hE.trans e)) hn).mono fun e w'' h => by
            rcases h with ⟨h1, h2, h3⟩ | ⟨h1, _⟩
            · rw [errv_n h1] at h2; exact ⟨h2, h3⟩
            · exact absurd h1 hru
        have HRR : Hid (∀ w', Ext W1 w' → Calls Tryz.prog 19 #[dgv D p, .slice Al n cl] w' (fun e w'' => e = .returned (.tuple #[.slice none 0 0, I (runE D n m IN)]) ∧ Ext w' w'')) := fun w' e =>
          (rRun_any (cl := cl) (d.ext (hE.trans e)) hck (l.ext (hE.trans e)) hn).mono fun e w'' h => by
            rcases h with ⟨_, h2⟩ | ⟨h1, _⟩
            · exact h2
            · exact absurd h1 hru
        clear d hT l hbd hlt hE hck hru hn
        generalize runE D n m IN = code at *
        have g1 : (code != code) = false := by simp
        go_enter Tryz.func4, Tryz.ntmps4
        go_upto_region 1 with fail
        rw [← hW1] at c0 c1 c2
        rw [← hW1]; clear hW1
        go_wp2_with (first
          | (go_at_call 8; (with_reducible refine (HA.out _ (by (with_reducible (repeat (first | exact Ext.refl _ | assumption | (refine Ext.toSet ?_ (by omega)) | refine Ext.toAlloc ?_ | refine Ext.toDrew ?_ | refine Ext.toDrewN ?_ | refine Ext.trans ?_ (by assumption)))); (first | done | fail "no"))).mono ?_); rintro e1 w1 ⟨rfl, h1⟩; obtain ⟨d0, d1, d2⟩ := HBX.out w1 (by (with_reducible (repeat (first | exact Ext.refl _ | assumption | (refine Ext.toSet ?_ (by omega)) | refine Ext.toAlloc ?_ | refine Ext.toDrew ?_ | refine Ext.toDrewN ?_ | refine Ext.trans ?_ (by assumption)))); (first | done | fail "no")))
            | (go_at_call 9; (with_reducible refine (HLI.out _ (by (with_reducible (repeat (first | exact Ext.refl _ | assumption | (refine Ext.toSet ?_ (by omega)) | refine Ext.toAlloc ?_ | refine Ext.toDrew ?_ | refine Ext.toDrewN ?_ | refine Ext.trans ?_ (by assumption)))); (first | done | fail "no"))).mono ?_); rintro e1 w1 ⟨rfl, h1⟩; obtain ⟨d0, d1, d2⟩ := HBX.out w1 (by (with_reducible (repeat (first | exact Ext.refl _ | assumption | (refine Ext.toSet ?_ (by omega)) | refine Ext.toAlloc ?_ | refine Ext.toDrew ?_ | refine Ext.toDrewN ?_ | refine Ext.trans ?_ (by assumption)))); (first | done | fail "no")))
            | (go_at_call 13; (with_reducible refine (HRC.out _ (by (with_reducible (repeat (first | exact Ext.refl _ | assumption | (refine Ext.toSet ?_ (by omega)) | refine Ext.toAlloc ?_ | refine Ext.toDrew ?_ | refine Ext.toDrewN ?_ | refine Ext.trans ?_ (by assumption)))); (first | done | fail "no"))).mono ?_); rintro e1 w1 ⟨rfl, h1⟩; obtain ⟨d0, d1, d2⟩ := HBX.out w1 (by (with_reducible (repeat (first | exact Ext.refl _ | assumption | (refine Ext.toSet ?_ (by omega)) | refine Ext.toAlloc ?_ | refine Ext.toDrew ?_ | refine Ext.toDrewN ?_ | refine Ext.trans ?_ (by assumption)))); (first | done | fail "no")))
          | (go_at_call 18; (with_reducible refine (HRU.out _ (by (with_reducible (repeat (first | exact Ext.refl _ | assumption | (refine Ext.toSet ?_ (by omega)) | refine Ext.toAlloc ?_ | refine Ext.toDrew ?_ | refine Ext.toDrewN ?_ | refine Ext.trans ?_ (by assumption)))); (first | done | fail "no"))).mono ?_); rintro e1 w1 ⟨rfl, h1⟩; obtain ⟨d0, d1, d2⟩ := HBX.out w1 (by (with_reducible (repeat (first | exact Ext.refl _ | assumption | (refine Ext.toSet ?_ (by omega)) | refine Ext.toAlloc ?_ | refine Ext.toDrew ?_ | refine Ext.toDrewN ?_ | refine Ext.trans ?_ (by assumption)))); (first | done | fail "no")))
          | (go_at_call 19; (with_reducible refine (HRR.out _ (by (with_reducible (repeat (first | exact Ext.refl _ | assumption | (refine Ext.toSet ?_ (by omega)) | refine Ext.toAlloc ?_ | refine Ext.toDrew ?_ | refine Ext.toDrewN ?_ | refine Ext.trans ?_ (by assumption)))); (first | done | fail "no"))).mono ?_); rintro e1 w1 ⟨rfl, h1⟩; obtain ⟨d0, d1, d2⟩ := HBX.out w1 (by (with_reducible (repeat (first | exact Ext.refl _ | assumption | (refine Ext.toSet ?_ (by omega)) | refine Ext.toAlloc ?_ | refine Ext.toDrew ?_ | refine Ext.toDrewN ?_ | refine Ext.trans ?_ (by assumption)))); (first | done | fail "no")))
          | (go_at_call 14; (with_reducible refine (num_err _ _).mono ?_); rintro e1 w5 ⟨rfl, h1⟩; obtain ⟨d0, d1, d2⟩ := HBX.out w5 (by (with_reducible (repeat (first | exact Ext.refl _ | assumption | (refine Ext.toSet ?_ (by omega)) | refine Ext.toAlloc ?_ | refine Ext.toDrew ?_ | refine Ext.toDrewN ?_ | refine Ext.trans ?_ (by assumption)))); (first | done | fail "no"))))
        have HX5 := Lib.hid (show Ext W1 w5 from (by (with_reducible (repeat (first | exact Ext.refl _ | assumption | (refine Ext.toSet ?_ (by omega)) | refine Ext.toAlloc ?_ | refine Ext.toDrew ?_ | refine Ext.toDrewN ?_ | refine Ext.trans ?_ (by assumption)))); (first | done | fail "no")))
        clear d0 d1 d2 c0 c1 c2
        go_loopw [58] (fun s wr => s = I 0 ∧ Hid (Ext w5 wr)) (fun _ _ => 0)
        case atStart => exact ⟨rfl, Ext.refl _⟩
        case round =>
          obtain ⟨rfl, HX⟩ := hrel
          go_wp2_with fail
          go_ret
          exact ⟨rfl, HE.out.trans (HX5.out.trans HX.out)⟩
    · have g0 : ((chk D) != 0) = true := by simpa using hck
      have HRU : Hid (∀ w', Ext W1 w' → Calls Tryz.prog 18 #[dgv D p, .slice Al n cl] w' (fun e w'' => e = .returned (.tuple #[.slice none 0 0, .iface 54 (I (chk D))]) ∧ Ext w' w'')) := fun w' e => Run_err (d.ext (hE.trans e)) (hT.ext (hE.trans e)) hck
      clear d hT l hbd hlt hE hck hn
      generalize chk D = code at *
      go_enter Tryz.func4, Tryz.ntmps4
      go_upto_region 1 with fail
      rw [← hW1] at c0 c1 c2
      rw [← hW1]; clear hW1
      go_wp2_with (first
        | (go_at_call 8; (with_reducible refine (HA.out _ (by (with_reducible (repeat (first | exact Ext.refl _ | assumption | (refine Ext.toSet ?_ (by omega)) | refine Ext.toAlloc ?_ | refine Ext.toDrew ?_ | refine Ext.toDrewN ?_ | refine Ext.trans ?_ (by assumption)))); (first | done | fail "no"))).mono ?_); rintro e1 w1 ⟨rfl, h1⟩; obtain ⟨d0, d1, d2⟩ := HBX.out w1 (by (with_reducible (repeat (first | exact Ext.refl _ | assumption | (refine Ext.toSet ?_ (by omega)) | refine Ext.toAlloc ?_ | refine Ext.toDrew ?_ | refine Ext.toDrewN ?_ | refine Ext.trans ?_ (by assumption)))); (first | done | fail "no")))
            | (go_at_call 9; (with_reducible refine (HLI.out _ (by (with_reducible (repeat (first | exact Ext.refl _ | assumption | (refine Ext.toSet ?_ (by omega)) | refine Ext.toAlloc ?_ | refine Ext.toDrew ?_ | refine Ext.toDrewN ?_ | refine Ext.trans ?_ (by assumption)))); (first | done | fail "no"))).mono ?_); rintro e1 w1 ⟨rfl, h1⟩; obtain ⟨d0, d1, d2⟩ := HBX.out w1 (by (with_reducible (repeat (first | exact Ext.refl _ | assumption | (refine Ext.toSet ?_ (by omega)) | refine Ext.toAlloc ?_ | refine Ext.toDrew ?_ | refine Ext.toDrewN ?_ | refine Ext.trans ?_ (by assumption)))); (first | done | fail "no")))
            | (go_at_call 13; (with_reducible refine (HRC.out _ (by (with_reducible (repeat (first | exact Ext.refl _ | assumption | (refine Ext.toSet ?_ (by omega)) | refine Ext.toAlloc ?_ | refine Ext.toDrew ?_ | refine Ext.toDrewN ?_ | refine Ext.trans ?_ (by assumption)))); (first | done | fail "no"))).mono ?_); rintro e1 w1 ⟨rfl, h1⟩; obtain ⟨d0, d1, d2⟩ := HBX.out w1 (by (with_reducible (repeat (first | exact Ext.refl _ | assumption | (refine Ext.toSet ?_ (by omega)) | refine Ext.toAlloc ?_ | refine Ext.toDrew ?_ | refine Ext.toDrewN ?_ | refine Ext.trans ?_ (by assumption)))); (first | done | fail "no")))
        | (go_at_call 18; (with_reducible refine (HRU.out _ (by (with_reducible (repeat (first | exact Ext.refl _ | assumption | (refine Ext.toSet ?_ (by omega)) | refine Ext.toAlloc ?_ | refine Ext.toDrew ?_ | refine Ext.toDrewN ?_ | refine Ext.trans ?_ (by assumption)))); (first | done | fail "no"))).mono ?_); rintro e1 w1 ⟨rfl, h1⟩; obtain ⟨d0, d1, d2⟩ := HBX.out w1 (by (with_reducible (repeat (first | exact Ext.refl _ | assumption | (refine Ext.toSet ?_ (by omega)) | refine Ext.toAlloc ?_ | refine Ext.toDrew ?_ | refine Ext.toDrewN ?_ | refine Ext.trans ?_ (by assumption)))); (first | done | fail "no")))
        | (go_at_call 14; (with_reducible refine (num_err _ _).mono ?_); rintro e1 w5 ⟨rfl, h1⟩; obtain ⟨d0, d1, d2⟩ := HBX.out w5 (by (with_reducible (repeat (first | exact Ext.refl _ | assumption | (refine Ext.toSet ?_ (by omega)) | refine Ext.toAlloc ?_ | refine Ext.toDrew ?_ | refine Ext.toDrewN ?_ | refine Ext.trans ?_ (by assumption)))); (first | done | fail "no"))))
      go_ret
      exact ⟨by simp, HE.out.trans (by (with_reducible (repeat (first | exact Ext.refl _ | assumption | (refine Ext.toSet ?_ (by omega)) | refine Ext.toAlloc ?_ | refine Ext.toDrew ?_ | refine Ext.toDrewN ?_ | refine Ext.trans ?_ (by assumption)))); (first | done | fail "no"))⟩
end Go.Proofs.YtgnaljnmjphleaaGreatDoor
