/- The law ScalesMoves: it returns true. -/
import Derived.Test.YtgnngldlgcdnfaaDoorScg
import Derived.Test.YtgnngldlgcdnfaaDoorDhac
namespace Go.Proofs.YtgnngldlgcdnfaaDoor
open Go Go.RowKit
attribute [local go_sem ↓] Go.wp_at_zero Go.wp_at_succ

set_option maxRecDepth 100000 in
set_option maxHeartbeats 4000000 in
theorem moves_off {w : World} {D : Dia} {p : Pl} (d : Dm w D p) (hT : Tabs w) (a1 a2 : Int) (h : litB D = false ∨ chk D ≠ 0 ∨ D.nb = 0) : Calls Tryd.prog 6 #[dgv D p, .int .u8 a1, .int .u8 a2] w fun e w' => e = .returned (.bool true) ∧ Ext w w' := by
  obtain ⟨W1, hW1⟩ : ∃ W1, W1 = w.alloc (.cells #[.slice p.AI D.ni p.cI, .slice p.AB D.nb p.cB, .slice p.AO D.no p.cO] 26) := ⟨_, rfl⟩
  have hE : Ext w W1 := by rw [hW1]; exact Ext.alloc _ _
  have hbd : Bd W1 w.heap.size D p := by rw [hW1]; exact Bd.new _ _ _ _
  have HBX : Hid (∀ w', Ext W1 w' → w'.cell? ⟨w.heap.size, 0, none⟩ = some (.slice p.AI D.ni p.cI) ∧ w'.cell? ⟨w.heap.size, 1, none⟩ = some (.slice p.AB D.nb p.cB) ∧ w'.cell? ⟨w.heap.size, 2, none⟩ = some (.slice p.AO D.no p.cO)) := fun w' e => by
    have a := hbd.ext e; exact ⟨a.c0, a.c1, a.c2⟩
  have HA : Hid (∀ w', Ext W1 w' → Calls Tryd.prog 7 #[] w' fun e w'' => e = .returned (.bool true) ∧ Ext w' w'') := fun w' x => scAwake_any w' (hT.ext (hE.trans x))
  have HLI : Hid (∀ w', Ext W1 w' → Calls Tryd.prog 20 #[dgv D p] w' fun e w'' => e = .returned (.bool (litB D)) ∧ Ext w' w'') := fun w' e => light_any (d.ext (hE.trans e))
  have HRC : Hid (∀ w', Ext W1 w' → Calls Tryd.prog 21 #[dgv D p] w' fun e w'' => e = .returned (I (chk D)) ∧ Ext w' w'') := fun w' e => rcheck_any (d.ext (hE.trans e)) (hT.ext (hE.trans e))
  have HE := Lib.hid hE
  obtain ⟨c0, c1, c2⟩ := HBX.out _ (Ext.refl _)
  clear d hT hE hbd
  cases hl : litB D with
  | false =>
    rw [hl] at HLI
    clear h hl HRC
    go_enter Tryd.func6, Tryd.ntmps6
    go_upto_region 1 with fail
    rw [← hW1]; clear hW1
    go_wp2_with (first
      | (go_at_call 7; (with_reducible refine (HA.out _ (by (with_reducible (repeat (first | exact Ext.refl _ | assumption | (refine Ext.toSet ?_ (by omega)) | refine Ext.toAlloc ?_ | refine Ext.toDrew ?_ | refine Ext.toDrewN ?_ | refine Ext.trans ?_ (by assumption)))); (first | done | fail "no"))).mono ?_); rintro e1 w1 ⟨rfl, h1⟩; (try clear c0 c1 c2); obtain ⟨c0, c1, c2⟩ := HBX.out w1 (by (with_reducible (repeat (first | exact Ext.refl _ | assumption | (refine Ext.toSet ?_ (by omega)) | refine Ext.toAlloc ?_ | refine Ext.toDrew ?_ | refine Ext.toDrewN ?_ | refine Ext.trans ?_ (by assumption)))); (first | done | fail "no")))
      | (go_at_call 20; (with_reducible refine (HLI.out _ (by (with_reducible (repeat (first | exact Ext.refl _ | assumption | (refine Ext.toSet ?_ (by omega)) | refine Ext.toAlloc ?_ | refine Ext.toDrew ?_ | refine Ext.toDrewN ?_ | refine Ext.trans ?_ (by assumption)))); (first | done | fail "no"))).mono ?_); rintro e1 w2 ⟨rfl, h2⟩; (try clear c0 c1 c2); obtain ⟨c0, c1, c2⟩ := HBX.out w2 (by (with_reducible (repeat (first | exact Ext.refl _ | assumption | (refine Ext.toSet ?_ (by omega)) | refine Ext.toAlloc ?_ | refine Ext.toDrew ?_ | refine Ext.toDrewN ?_ | refine Ext.trans ?_ (by assumption)))); (first | done | fail "no"))))
    go_ret
    exact ⟨rfl, HE.out.trans (by (with_reducible (repeat (first | exact Ext.refl _ | assumption | (refine Ext.toSet ?_ (by omega)) | refine Ext.toAlloc ?_ | refine Ext.toDrew ?_ | refine Ext.toDrewN ?_ | refine Ext.trans ?_ (by assumption)))); (first | done | fail "no"))⟩
  | true =>
    rw [hl] at HLI
    have h' : chk D ≠ 0 ∨ D.nb = 0 := by rcases h with h | h; rw [hl] at h; cases h; exact h
    clear h hl
    by_cases hk : chk D = 0
    · have hz : D.nb = 0 := h'.resolve_left (fun q => q hk)
      rw [hk] at HRC
      clear h' hk
      have hz1 : ((D.nb : Int) == 0) = true := by simp [hz]
      clear hz
      go_enter Tryd.func6, Tryd.ntmps6
      go_upto_region 1 with fail
      rw [← hW1]; clear hW1
      go_wp2_with (first
        | (go_at_call 7; (with_reducible refine (HA.out _ (by (with_reducible (repeat (first | exact Ext.refl _ | assumption | (refine Ext.toSet ?_ (by omega)) | refine Ext.toAlloc ?_ | refine Ext.toDrew ?_ | refine Ext.toDrewN ?_ | refine Ext.trans ?_ (by assumption)))); (first | done | fail "no"))).mono ?_); rintro e1 w1 ⟨rfl, h1⟩; (try clear c0 c1 c2); obtain ⟨c0, c1, c2⟩ := HBX.out w1 (by (with_reducible (repeat (first | exact Ext.refl _ | assumption | (refine Ext.toSet ?_ (by omega)) | refine Ext.toAlloc ?_ | refine Ext.toDrew ?_ | refine Ext.toDrewN ?_ | refine Ext.trans ?_ (by assumption)))); (first | done | fail "no")))
        | (go_at_call 20; (with_reducible refine (HLI.out _ (by (with_reducible (repeat (first | exact Ext.refl _ | assumption | (refine Ext.toSet ?_ (by omega)) | refine Ext.toAlloc ?_ | refine Ext.toDrew ?_ | refine Ext.toDrewN ?_ | refine Ext.trans ?_ (by assumption)))); (first | done | fail "no"))).mono ?_); rintro e1 w2 ⟨rfl, h2⟩; (try clear c0 c1 c2); obtain ⟨c0, c1, c2⟩ := HBX.out w2 (by (with_reducible (repeat (first | exact Ext.refl _ | assumption | (refine Ext.toSet ?_ (by omega)) | refine Ext.toAlloc ?_ | refine Ext.toDrew ?_ | refine Ext.toDrewN ?_ | refine Ext.trans ?_ (by assumption)))); (first | done | fail "no")))
        | (go_at_call 21; (with_reducible refine (HRC.out _ (by (with_reducible (repeat (first | exact Ext.refl _ | assumption | (refine Ext.toSet ?_ (by omega)) | refine Ext.toAlloc ?_ | refine Ext.toDrew ?_ | refine Ext.toDrewN ?_ | refine Ext.trans ?_ (by assumption)))); (first | done | fail "no"))).mono ?_); rintro e1 w3 ⟨rfl, h3⟩; (try clear c0 c1 c2); obtain ⟨c0, c1, c2⟩ := HBX.out w3 (by (with_reducible (repeat (first | exact Ext.refl _ | assumption | (refine Ext.toSet ?_ (by omega)) | refine Ext.toAlloc ?_ | refine Ext.toDrew ?_ | refine Ext.toDrewN ?_ | refine Ext.trans ?_ (by assumption)))); (first | done | fail "no"))))
      go_ret
      exact ⟨rfl, HE.out.trans (by (with_reducible (repeat (first | exact Ext.refl _ | assumption | (refine Ext.toSet ?_ (by omega)) | refine Ext.toAlloc ?_ | refine Ext.toDrew ?_ | refine Ext.toDrewN ?_ | refine Ext.trans ?_ (by assumption)))); (first | done | fail "no"))⟩
    · have hk1 : (chk D != 0) = true := by simpa using hk
      clear h' hk
      generalize chk D = k at *
      go_enter Tryd.func6, Tryd.ntmps6
      go_upto_region 1 with fail
      rw [← hW1]; clear hW1
      go_wp2_with (first
        | (go_at_call 7; (with_reducible refine (HA.out _ (by (with_reducible (repeat (first | exact Ext.refl _ | assumption | (refine Ext.toSet ?_ (by omega)) | refine Ext.toAlloc ?_ | refine Ext.toDrew ?_ | refine Ext.toDrewN ?_ | refine Ext.trans ?_ (by assumption)))); (first | done | fail "no"))).mono ?_); rintro e1 w1 ⟨rfl, h1⟩; (try clear c0 c1 c2); obtain ⟨c0, c1, c2⟩ := HBX.out w1 (by (with_reducible (repeat (first | exact Ext.refl _ | assumption | (refine Ext.toSet ?_ (by omega)) | refine Ext.toAlloc ?_ | refine Ext.toDrew ?_ | refine Ext.toDrewN ?_ | refine Ext.trans ?_ (by assumption)))); (first | done | fail "no")))
        | (go_at_call 20; (with_reducible refine (HLI.out _ (by (with_reducible (repeat (first | exact Ext.refl _ | assumption | (refine Ext.toSet ?_ (by omega)) | refine Ext.toAlloc ?_ | refine Ext.toDrew ?_ | refine Ext.toDrewN ?_ | refine Ext.trans ?_ (by assumption)))); (first | done | fail "no"))).mono ?_); rintro e1 w2 ⟨rfl, h2⟩; (try clear c0 c1 c2); obtain ⟨c0, c1, c2⟩ := HBX.out w2 (by (with_reducible (repeat (first | exact Ext.refl _ | assumption | (refine Ext.toSet ?_ (by omega)) | refine Ext.toAlloc ?_ | refine Ext.toDrew ?_ | refine Ext.toDrewN ?_ | refine Ext.trans ?_ (by assumption)))); (first | done | fail "no")))
        | (go_at_call 21; (with_reducible refine (HRC.out _ (by (with_reducible (repeat (first | exact Ext.refl _ | assumption | (refine Ext.toSet ?_ (by omega)) | refine Ext.toAlloc ?_ | refine Ext.toDrew ?_ | refine Ext.toDrewN ?_ | refine Ext.trans ?_ (by assumption)))); (first | done | fail "no"))).mono ?_); rintro e1 w3 ⟨rfl, h3⟩; (try clear c0 c1 c2); obtain ⟨c0, c1, c2⟩ := HBX.out w3 (by (with_reducible (repeat (first | exact Ext.refl _ | assumption | (refine Ext.toSet ?_ (by omega)) | refine Ext.toAlloc ?_ | refine Ext.toDrew ?_ | refine Ext.toDrewN ?_ | refine Ext.trans ?_ (by assumption)))); (first | done | fail "no"))))
      go_ret
      exact ⟨rfl, HE.out.trans (by (with_reducible (repeat (first | exact Ext.refl _ | assumption | (refine Ext.toSet ?_ (by omega)) | refine Ext.toAlloc ?_ | refine Ext.toDrew ?_ | refine Ext.toDrewN ?_ | refine Ext.trans ?_ (by assumption)))); (first | done | fail "no"))⟩

set_option maxRecDepth 100000 in
set_option maxHeartbeats 8000000 in
theorem moves_on {w : World} {D : Dia} {p : Pl} (d : Dm w D p) (hT : Tabs w) (a1 a2 : Int) (h1 : 0 ≤ a1 ∧ a1 ≤ 255) (h2 : 0 ≤ a2 ∧ a2 ≤ 255) (hl : litB D = true) (hk : chk D = 0) (hnz : 0 < D.nb) : Calls Tryd.prog 6 #[dgv D p, .int .u8 a1, .int .u8 a2] w fun e w' => e = .returned (.bool true) ∧ Ext w w' := by
  obtain ⟨W1, hW1⟩ : ∃ W1, W1 = w.alloc (.cells #[.slice p.AI D.ni p.cI, .slice p.AB D.nb p.cB, .slice p.AO D.no p.cO] 26) := ⟨_, rfl⟩
  have hE : Ext w W1 := by rw [hW1]; exact Ext.alloc _ _
  have hbd : Bd W1 w.heap.size D p := by rw [hW1]; exact Bd.new _ _ _ _
  have hl0 : w.heap.size < W1.heap.size := by rw [hW1]; simp
  have HBX : Hid (∀ w', Ext W1 w' → w'.cell? ⟨w.heap.size, 0, none⟩ = some (.slice p.AI D.ni p.cI) ∧ w'.cell? ⟨w.heap.size, 1, none⟩ = some (.slice p.AB D.nb p.cB) ∧ w'.cell? ⟨w.heap.size, 2, none⟩ = some (.slice p.AO D.no p.cO)) := fun w' e => by
    have a := hbd.ext e; exact ⟨a.c0, a.c1, a.c2⟩
  have HA : Hid (∀ w', Ext W1 w' → Calls Tryd.prog 7 #[] w' fun e w'' => e = .returned (.bool true) ∧ Ext w' w'') := fun w' x => scAwake_any w' (hT.ext (hE.trans x))
  have HLI : Hid (∀ w', Ext W1 w' → Calls Tryd.prog 20 #[dgv D p] w' fun e w'' => e = .returned (.bool true) ∧ Ext w' w'') := fun w' e => by rw [← hl]; exact light_any (d.ext (hE.trans e))
  have HRC : Hid (∀ w', Ext W1 w' → Calls Tryd.prog 21 #[dgv D p] w' fun e w'' => e = .returned (I 0) ∧ Ext w' w'') := fun w' e => by rw [← hk]; exact rcheck_any (d.ext (hE.trans e)) (hT.ext (hE.trans e))
  have ok := chk_ok hk
  have hnb := ok.nb
  have HSH : Hid (∀ w' g (H : Nat → Int), Ext W1 w' → Ri w' (some ⟨g, 0, none⟩) D.nb H → Calls Tryd.prog 19 #[dgv D p, .slice (some ⟨g, 0, none⟩) D.nb D.nb] w' fun e w'' => e = .returned (.tuple #[I (shN D H D.nb : Nat), .nilIface]) ∧ Ext w' w'') := fun w' g H x r =>
    (Shifts_any (d.ext (hE.trans x)) (hT.ext (hE.trans x)) (by unfold maxLen; omega) r).mono fun e w'' hh => by
      have hs : shX D D.nb = 0 := by unfold shX; rw [if_neg (by omega), if_neg (by omega)]
      rcases hh with ⟨q, _⟩ | ⟨_, q⟩
      · exact absurd hs q
      · exact q
  have HD := Lib.hid (d.ext hE); have OK := Lib.hid ok
  have HE := Lib.hid hE
  obtain ⟨f, hf⟩ : ∃ f : Int, a1 % 31 = f := ⟨_, rfl⟩
  have hf0 : 0 ≤ f := by omega
  have hf1 : f ≤ 30 := by omega
  have HSAME : Hid (shN D (fun _ => f) D.nb = inN D f D.nb) := sh_same ok (fun _ _ => rfl) D.nb (Nat.le_refl _)
  obtain ⟨x, hx⟩ : ∃ x : Nat, a2 % (D.nb : Int) = (x : Int) := ⟨(a2 % (D.nb : Int)).toNat, by have := Int.emod_nonneg a2 (show (D.nb : Int) ≠ 0 by omega); omega⟩
  have hxn : x < D.nb := by have := Int.emod_lt_of_pos a2 (show (0 : Int) < (D.nb : Int) by omega); omega
  obtain ⟨f2, hf2⟩ : ∃ f2 : Int, (f + 1) % 31 = f2 := ⟨_, rfl⟩
  have hmk := run_make_row' 24 3 (I 0) 8 Tryd.underlying24 infoI rfl .i64 .i64 D.nb (by omega) (by omega)
  have hz1 : ((D.nb : Int) == 0) = false := by simp; omega
  obtain ⟨h1a, h1b⟩ := h1
  obtain ⟨h2a, h2b⟩ := h2
  obtain ⟨c0, c1, c2⟩ := HBX.out _ (Ext.refl _)
  clear d hT hE hbd hl hk ok
  go_enter Tryd.func6, Tryd.ntmps6
  go_upto_region 1 with fail
  rw [← hW1]; clear hW1
  go_upto_region 3 with (first
    | (go_at_call 7; (with_reducible refine (HA.out _ (by (with_reducible (repeat (first | exact Ext.refl _ | assumption | (refine Ext.toSet ?_ (by omega)) | refine Ext.toAlloc ?_ | refine Ext.toDrew ?_ | refine Ext.toDrewN ?_ | refine Ext.trans ?_ (by assumption)))); (first | done | fail "no"))).mono ?_); rintro e1 w1 ⟨rfl, h1⟩; (try clear c0 c1 c2); obtain ⟨c0, c1, c2⟩ := HBX.out w1 (by (with_reducible (repeat (first | exact Ext.refl _ | assumption | (refine Ext.toSet ?_ (by omega)) | refine Ext.toAlloc ?_ | refine Ext.toDrew ?_ | refine Ext.toDrewN ?_ | refine Ext.trans ?_ (by assumption)))); (first | done | fail "no")))
    | (go_at_call 20; (with_reducible refine (HLI.out _ (by (with_reducible (repeat (first | exact Ext.refl _ | assumption | (refine Ext.toSet ?_ (by omega)) | refine Ext.toAlloc ?_ | refine Ext.toDrew ?_ | refine Ext.toDrewN ?_ | refine Ext.trans ?_ (by assumption)))); (first | done | fail "no"))).mono ?_); rintro e1 w2 ⟨rfl, h2⟩; (try clear c0 c1 c2); obtain ⟨c0, c1, c2⟩ := HBX.out w2 (by (with_reducible (repeat (first | exact Ext.refl _ | assumption | (refine Ext.toSet ?_ (by omega)) | refine Ext.toAlloc ?_ | refine Ext.toDrew ?_ | refine Ext.toDrewN ?_ | refine Ext.trans ?_ (by assumption)))); (first | done | fail "no")))
    | (go_at_call 21; (with_reducible refine (HRC.out _ (by (with_reducible (repeat (first | exact Ext.refl _ | assumption | (refine Ext.toSet ?_ (by omega)) | refine Ext.toAlloc ?_ | refine Ext.toDrew ?_ | refine Ext.toDrewN ?_ | refine Ext.trans ?_ (by assumption)))); (first | done | fail "no"))).mono ?_); rintro e1 w3 ⟨rfl, h3⟩; (try clear c0 c1 c2); obtain ⟨c0, c1, c2⟩ := HBX.out w3 (by (with_reducible (repeat (first | exact Ext.refl _ | assumption | (refine Ext.toSet ?_ (by omega)) | refine Ext.toAlloc ?_ | refine Ext.toDrew ?_ | refine Ext.toDrewN ?_ | refine Ext.trans ?_ (by assumption)))); (first | done | fail "no"))))
  have HX3 := Lib.hid (show Ext W1 w3 from (by (with_reducible (repeat (first | exact Ext.refl _ | assumption | (refine Ext.toSet ?_ (by omega)) | refine Ext.toAlloc ?_ | refine Ext.toDrew ?_ | refine Ext.toDrewN ?_ | refine Ext.trans ?_ (by assumption)))); (first | done | fail "no")))
  obtain ⟨g, hg⟩ : ∃ g, w3.heap.size = g := ⟨_, rfl⟩
  have HM0 : Hid (RnM W1 (w3.alloc (.cells (madeCells #[I 0] D.nb) 3)) g D.nb (uptoZ (fun _ => f) 0)) := RnM.new D.nb HX3.out hg.symm _
  clear h1 h2 h3 hz1 HA HLI HRC
  go_wp2_with fail
  (try rw [hg])
  clear hmk c0 c1 c2
  have HG := Lib.hid hg
  clear hg
  have HFE := Lib.hid hf
  go_loopw [46] (fun s wr => ∃ (j : Nat), j ≤ D.nb ∧ s = I j ∧ Hid (RnM W1 wr g D.nb (uptoZ (fun _ => f) j))) (fun s _ => D.nb - (intOf s).toNat)
  case atStart => exact ⟨0, Nat.zero_le _, rfl, HM0⟩
  case round =>
    clear HM0
    obtain ⟨j, hj, rfl, H⟩ := hrel
    by_cases hlt : j < D.nb
    · have hlt' : (j : Int) < (D.nb : Int) := by omega
      have HUP : Hid (∀ i, uptoZ (fun _ => f) (j + 1) i = if i = j then f else uptoZ (fun _ => f) j i) := uptoZ_put (fun _ => f) j
      have hcell := H.out.row.cell hlt
      have hfz := H.out.row.frozen j
      have HP := Lib.hid (H.out.putv j _ HUP.out)
      go_wp2_with fail
      go_roundw
      case rel => exact ⟨j + 1, by omega, by go_num, HP⟩
      case measure => simp [intOf]; omega
    · obtain rfl : j = D.nb := by omega
      have HR1 := Lib.hid (H.out.congr (F' := fun _ => f) fun i hi => uptoZ_end hi)
      obtain ⟨c0, c1, c2⟩ := HBX.out _ H.out.ext
      clear H
      go_wp2_with fail
      clear c0 c1 c2
      go_loopw [9, 59] (fun s9 s wr => ∃ (i c : Nat), i ≤ D.nb ∧ s = I i ∧ s9 = I c ∧ c ≤ i ∧ Hid (inN D f i = c) ∧ Hid (RnM W1 wr g D.nb (fun _ => f))) (fun _ s _ => D.nb - (intOf s).toNat)
      case atStart => exact ⟨0, 0, Nat.zero_le _, rfl, rfl, Nat.le_refl _, rfl, HR1⟩
      case round =>
        clear HR1
        obtain ⟨i, c, hi, rfl, rfl, hci, HC, H⟩ := hrel
        by_cases hlt : i < D.nb
        · have dd := HD.out.ext H.out.ext
          obtain ⟨bb, ob, hab, hbb, hcb⟩ := dd.blocks (by omega)
          obtain ⟨x0, x1, x2, x3, x4, x5⟩ := hcb i hlt
          obtain ⟨c0, c1, c2⟩ := HBX.out _ H.out.ext
          have hlt' : (i : Int) < (D.nb : Int) := by omega
          have har := OK.out.ar i hlt
          have hag := OK.out.arg i hlt
          have hIN : Hid (inN D f (i + 1) = c + if (D.B i).k = 0 ∧ (D.P (sr D i 0)).fr ≠ f then 1 else 0) := by show _ = _; rw [← HC.out]; rfl
          obtain ⟨W2, hW2⟩ : ∃ W2, W2 = wr.alloc (.cells #[I (D.B i).k, .slice (p.AA i) (D.B i).n (p.cA i), I (D.B i).vn, I (D.B i).ve, I (D.B i).un, I (D.B i).ue] 56) := ⟨_, rfl⟩
          have hE2 : Ext wr W2 := by rw [hW2]; exact Ext.alloc _ _
          have hb2 : B6 W2 wr.heap.size (I (D.B i).k) (.slice (p.AA i) (D.B i).n (p.cA i)) (I (D.B i).vn) (I (D.B i).ve) (I (D.B i).un) (I (D.B i).ue) := by rw [hW2]; exact B6.new _ _ _ _ _ _ _ _
          have hl2 := hb2.lt
          have HX2 := Lib.hid (H.out.ext.trans hE2)
          have hz0 : w.heap.size < W2.heap.size := by have := HX2.out.size; omega
          obtain ⟨⟨k0, k1, k2, k3, k4, k5⟩, _⟩ := hb2
          obtain ⟨c0', c1', c2'⟩ := HBX.out _ HX2.out
          have HR2 := Lib.hid (H.out.to hE2)
          have hb : Ext W2 W2 := Ext.refl _
          by_cases hkz : (D.B i).k = 0
          · have hn1 : (D.B i).n = 1 := by
              rw [hkz] at har; have e : arity 0 = 1 := by decide
              omega
            have ha0 := hag 0 (by omega)
            unfold cntB at ha0
            rw [if_pos hkz] at ha0
            obtain ⟨y, hy⟩ : ∃ y, sr D i 0 = y := ⟨_, rfl⟩
            have hay : (D.B i).a 0 = (y : Int) := by unfold sr at hy; omega
            obtain ⟨bA, oA, hA, hbA, hcA⟩ := (HD.out.ext HX2.out).args i hlt |>.1 (by omega)
            have xa := hcA 0 (by omega)
            obtain ⟨bp, op, hp, hbp, hcp⟩ := (HD.out.ext HX2.out).ports (by omega)
            have yx := (hcp y (by omega)).2.2
            have hyn : (y : Int) < (D.ni : Int) := by omega
            rw [hay, Nat.add_zero] at xa
            rw [hA, hn1] at k1
            rw [hp] at c0'
            rw [hkz] at k0
            rw [hy] at hIN
            obtain ⟨fr, hfr⟩ : ∃ fr, (D.P y).fr = fr := ⟨_, rfl⟩
            rw [hfr] at yx hIN
            have hfw : a1 % 31 = f := HFE.out
            have HKZ := Lib.hid hkz
            clear hcA hcp ha0 hay hag hcb dd hA har hn1 hkz hy hfr hp
            by_cases hne : fr = f
            · have hne1 : (fr != a1 % 31) = false := by rw [hfw]; simp [hne]
              have HI3 : Hid (inN D f (i + 1) = c) := by show _ = _; rw [hIN.out, if_neg (fun q => q.2 hne)]; rfl
              clear hne hIN hfw
              go_upto_region 13 with fail
              rw [← hW2]; clear hW2
              have hL := fun (x : Later _) => (Ext.trans hb x.ext).old.1
              refine wp_region_later (by kernel_rfl) (by kernel_rfl) ?_
              repeat (go_big_quiet_step (fail))
              refine wpQuiet_nil ?_
              intro w2 hw2
              replace hb := Ext.trans hb (Later.of hw2)
              clear hw2 hL
              obtain ⟨hc, hf⟩ := hb.old
              go_wp2_with fail
              (try rw [← hab])
              go_roundw
              case rel => exact ⟨i + 1, c, by omega, by go_num, rfl, by omega, HI3, HR2.out.to hb⟩
              case measure => simp [intOf]; omega
            · have hne1 : (fr != a1 % 31) = true := by rw [hfw]; simp [hne]
              have HI3 : Hid (inN D f (i + 1) = c + 1) := by show _ = _; rw [hIN.out, if_pos ⟨HKZ.out, hne⟩]
              clear hne hIN hfw
              go_upto_region 13 with fail
              rw [← hW2]; clear hW2
              have hL := fun (x : Later _) => (Ext.trans hb x.ext).old.1
              refine wp_region_later (by kernel_rfl) (by kernel_rfl) ?_
              repeat (go_big_quiet_step (fail))
              refine wpQuiet_nil ?_
              intro w2 hw2
              replace hb := Ext.trans hb (Later.of hw2)
              clear hw2 hL
              obtain ⟨hc, hf⟩ := hb.old
              go_wp2_with fail
              (try rw [← hab])
              go_roundw
              case rel => exact ⟨i + 1, c + 1, by omega, by go_num, by go_num, by omega, HI3, HR2.out.to hb⟩
              case measure => simp [intOf]; omega
          · have hkz1 : ((D.B i).k == 0) = false := by simpa using hkz
            have HI3 : Hid (inN D f (i + 1) = c) := by show _ = _; rw [hIN.out, if_neg (fun q => hkz q.1)]; rfl
            clear hkz hIN hag har hcb dd
            go_upto_region 13 with fail
            rw [← hW2]; clear hW2
            have hL := fun (x : Later _) => (Ext.trans hb x.ext).old.1
            refine wp_region_later (by kernel_rfl) (by kernel_rfl) ?_
            repeat (go_big_quiet_step (fail))
            refine wpQuiet_nil ?_
            intro w2 hw2
            replace hb := Ext.trans hb (Later.of hw2)
            clear hw2 hL
            obtain ⟨hc, hf⟩ := hb.old
            go_wp2_with fail
            (try rw [← hab])
            go_roundw
            case rel => exact ⟨i + 1, c, by omega, by go_num, rfl, by omega, HI3, HR2.out.to hb⟩
            case measure => simp [intOf]; omega
        · obtain rfl : i = D.nb := by omega
          have HSN : Hid (shN D (fun _ => f) D.nb = c) := by show _ = _; rw [HSAME.out, HC.out]
          have HS1 : Hid (∀ w', Ext W1 w' → Ri w' (some ⟨g, 0, none⟩) D.nb (fun _ => f) → Calls Tryd.prog 19 #[dgv D p, .slice (some ⟨g, 0, none⟩) D.nb D.nb] w' fun e w'' => e = .returned (.tuple #[I c, .nilIface]) ∧ Ext w' w'') := fun w' x r => by
            have := HSH.out w' g (fun _ => f) x r
            rw [HSN.out] at this; exact this
          obtain ⟨c0, c1, c2⟩ := HBX.out _ H.out.ext
          have hc2 : c ≤ 200 := by omega
          have hnz' : (0 : Int) < (D.nb : Int) := by omega
          have hxn' : (x : Int) < (D.nb : Int) := by omega
          go_upto_region 19 with (go_at_call 19; (with_reducible refine (HS1.out _ H.out.ext H.out.ri).mono ?_); rintro e1 w4 ⟨rfl, h4⟩)
          have HR4 := Lib.hid (H.out.to h4)
          have hcell := HR4.out.row.cell hxn
          have hfz := HR4.out.row.frozen x
          clear h4 c0 c1 c2 hfz hcell H
          go_upto_region 20 with fail
          have hcell := HR4.out.row.cell hxn
          have hfz := HR4.out.row.frozen x
          rw [hx]
          clear hx
          go_upto_region 21 with fail
          clear hcell hfz
          obtain ⟨G, hG⟩ : ∃ G : Nat → Int, (fun i => if i = x then f2 else f) = G := ⟨_, rfl⟩
          obtain ⟨W5, hW5⟩ : ∃ W5, W5 = w4.setCell ⟨g, x, none⟩ (I f2) := ⟨_, rfl⟩
          have HR5 : Hid (RnM W1 W5 g D.nb G) := by show RnM _ _ _ _ _; rw [hW5]; exact HR4.out.putv x f2 fun i => by rw [← hG]
          have HGF : Hid (∀ i, i ≠ x → G i = (fun _ => f) i) := fun i hi => by rw [← hG]; exact if_neg hi
          (try rw [← hW5])
          clear hW5 hG HR4
          have dd := HD.out.ext HR5.out.ext
          obtain ⟨bb, ob, hab, hbb, hcb⟩ := dd.blocks (by omega)
          obtain ⟨x0, x1, x2, x3, x4, x5⟩ := hcb x hxn
          obtain ⟨c0, c1, c2⟩ := HBX.out _ HR5.out.ext
          have hbnx := (OK.out.toWF.ns2 hxn).2
          obtain ⟨nx, hnx⟩ : ∃ nx, (D.B x).n = nx := ⟨_, rfl⟩
          have HNX := Lib.hid hnx
          rw [hnx] at x1 hbnx
          clear hcb dd hnx
          go_upto_region 22 with fail
          have HAB := Lib.hid hab; clear hab
          clear x0 x1 x2 x3 x4 x5
          go_wp2_with fail
          clear c0 c1 c2
          (try rw [← HAB.out])
          go_loopw [15, 121] (fun s15 s wr => ∃ (k t : Nat), k ≤ D.nb ∧ s = I k ∧ s15 = I t ∧ t ≤ 2 + 2 * k ∧ Hid (nx + usN D x k = t) ∧ Hid (RnM W1 wr g D.nb G)) (fun _ s _ => D.nb - (intOf s).toNat)
          case atStart => exact ⟨0, nx, Nat.zero_le _, rfl, rfl, by omega, rfl, HR5⟩
          case round =>
            clear HR5 HAB
            obtain ⟨k, t, hk, rfl, rfl, htk, HC2, H⟩ := hrel
            by_cases hlt : k < D.nb
            · have dd := HD.out.ext H.out.ext
              obtain ⟨bb, ob, hab, hbb, hcb⟩ := dd.blocks (by omega)
              obtain ⟨x0, x1, x2, x3, x4, x5⟩ := hcb k hlt
              have hlt' : (k : Int) < (D.nb : Int) := by omega
              have hag := OK.out.arg k hlt
              have hn2 := (OK.out.toWF.ns2 hlt).2
              have HUS : Hid (usN D x (k + 1) = usN D x k + if (D.B k).k = 0 then 0 else cnt (D.B k).n (fun j => sr D k j == x)) := rfl
              obtain ⟨wo, hwo⟩ : ∃ wo, wo = wr := ⟨_, rfl⟩
              subst hwo
              by_cases hkz : (D.B k).k = 0
              · have hkz1 : ((D.B k).k != 0) = false := by simp [hkz]
                have HC3 : Hid (nx + usN D x (k + 1) = t) := by show _ = _; rw [HUS.out, if_pos hkz]; exact HC2.out
                have HR6 := Lib.hid (H.out.to (Ext.alloc wo (.cells #[I (D.B k).k, .slice (p.AA k) (D.B k).n (p.cA k), I (D.B k).vn, I (D.B k).ve, I (D.B k).un, I (D.B k).ue] 56)))
                clear hkz hag hcb dd HUS
                go_wp2_with fail
                (try rw [← hab])
                go_roundw
                case rel => exact ⟨k + 1, t, by omega, by go_num, rfl, by omega, HC3, HR6.out⟩
                case measure => simp [intOf]; omega
              · have hkz1 : ((D.B k).k != 0) = true := by simpa using hkz
                obtain ⟨W2, hW2⟩ : ∃ W2, W2 = wo.alloc (.cells #[I (D.B k).k, .slice (p.AA k) (D.B k).n (p.cA k), I (D.B k).vn, I (D.B k).ve, I (D.B k).un, I (D.B k).ue] 56) := ⟨_, rfl⟩
                have hE2 : Ext wo W2 := by rw [hW2]; exact Ext.alloc _ _
                have hb2 : B6 W2 wo.heap.size (I (D.B k).k) (.slice (p.AA k) (D.B k).n (p.cA k)) (I (D.B k).vn) (I (D.B k).ve) (I (D.B k).un) (I (D.B k).ue) := by rw [hW2]; exact B6.new _ _ _ _ _ _ _ _
                have HR6 := Lib.hid (H.out.to hE2)
                obtain ⟨⟨k0, k1, k2, k3, k4, k5⟩, _⟩ := hb2
                have HAR := Lib.hid (((HD.out.ext HR6.out.ext).args k hlt).1)
                have HUS2 : Hid (usN D x (k + 1) = usN D x k + cnt (D.B k).n (fun j => sr D k j == x)) := by show _ = _; rw [HUS.out, if_neg hkz]
                have HAG : Hid (∀ j, j < (D.B k).n → (D.B k).a j = (sr D k j : Int)) := fun j hj => by have := hag j hj; unfold sr; omega
                clear hkz hag hcb dd HUS hE2
                generalize (D.B k).k = bk at *
                generalize (D.B k).vn = bvn at *
                generalize (D.B k).ve = bve at *
                generalize (D.B k).un = bun at *
                generalize (D.B k).ue = bue at *
                generalize (D.B k).n = bn at *
                generalize (D.B k).a = ba at *
                go_upto_region 25 with fail
                rw [← hW2]; clear hW2 x0 x1 x2 x3 x4 x5
                have HAB := Lib.hid hab; clear hab
                go_wp2_with fail
                clear k0 k1 k2 k3 k4 k5
                go_loopw [15, 131] (fun s15 s wr => ∃ (j q : Nat), j ≤ bn ∧ s = I j ∧ s15 = I (t + q : Nat) ∧ q ≤ j ∧ Hid (cnt j (fun j => sr D k j == x) = q) ∧ Hid (Ext W2 wr)) (fun _ s _ => bn - (intOf s).toNat)
                case atStart => exact ⟨0, 0, Nat.zero_le _, rfl, rfl, Nat.le_refl _, rfl, Ext.refl _⟩
                case round =>
                  obtain ⟨j, q, hj, rfl, rfl, hqj, HQ, HW⟩ := hrel
                  by_cases hjl : j < bn
                  · obtain ⟨bA, oA, hA, hbA, hcA⟩ := HAR.out.ext HW.out (by omega)
                    have xa := hcA j hjl
                    rw [HAG.out j hjl] at xa
                    have hjl' : (j : Int) < (bn : Int) := by omega
                    have HQ2 : Hid (cnt (j + 1) (fun j => sr D k j == x) = q + if (sr D k j == x) = true then 1 else 0) := by show _ = _; rw [← HQ.out]; rfl
                    clear hcA
                    generalize sr D k j = y at *
                    by_cases hyx : y = x
                    · have hyx1 : ((y : Int) == (x : Int)) = true := by simp [hyx]
                      have HQ3 : Hid (cnt (j + 1) (fun j => sr D k j == x) = q + 1) := by show _ = _; rw [HQ2.out, hyx]; simp
                      clear hyx HQ2
                      go_wp2_with fail
                      (try rw [← hA])
                      go_roundw
                      case rel => exact ⟨j + 1, q + 1, by omega, by go_num, by go_num, by omega, HQ3, HW.out⟩
                      case measure => simp [intOf]; omega
                    · have hyx1 : ((y : Int) == (x : Int)) = false := by simp; omega
                      have HQ3 : Hid (cnt (j + 1) (fun j => sr D k j == x) = q) := by show _ = _; rw [HQ2.out]; simp [hyx]
                      clear hyx HQ2
                      go_wp2_with fail
                      (try rw [← hA])
                      go_roundw
                      case rel => exact ⟨j + 1, q, by omega, by go_num, rfl, by omega, HQ3, HW.out⟩
                      case measure => simp [intOf]; omega
                  · obtain rfl : j = bn := by omega
                    have HC3 : Hid (nx + usN D x (k + 1) = t + q) := by show _ = _; rw [HUS2.out, HQ.out, ← HC2.out]; omega
                    go_wp2_with fail
                    (try rw [← HAB.out])
                    go_roundw
                    case rel => exact ⟨k + 1, t + q, by omega, by go_num, rfl, by omega, HC3, HR6.out.to HW.out⟩
                    case measure => simp [intOf]; omega
            · obtain rfl : k = D.nb := by omega
              obtain ⟨m2, hm2⟩ : ∃ m2, shN D G D.nb = m2 := ⟨_, rfl⟩
              have b1 : m2 ≤ c + t := by
                have q := sh_move (D := D) (F := fun _ => f) (G := G) (x := x) HGF.out D.nb
                rw [if_pos hxn, hm2, HSN.out, HNX.out] at q
                have := HC2.out; omega
              have b2 : c ≤ m2 + t := by
                have q := sh_move (D := D) (F := G) (G := fun _ => f) (x := x) (fun i hi => (HGF.out i hi).symm) D.nb
                rw [if_pos hxn, hm2, HSN.out, HNX.out] at q
                have := HC2.out; omega
              have b3 : m2 ≤ 200 := by have := shN_le OK.out.toWF G D.nb (Nat.le_refl _); omega
              have HS2 : Hid (∀ w', Ext W1 w' → Ri w' (some ⟨g, 0, none⟩) D.nb G → Calls Tryd.prog 19 #[dgv D p, .slice (some ⟨g, 0, none⟩) D.nb D.nb] w' fun e w'' => e = .returned (.tuple #[I m2, .nilIface]) ∧ Ext w' w'') := fun w' x r => by
                have := HSH.out w' g G x r
                rw [hm2] at this; exact this
              obtain ⟨c0, c1, c2⟩ := HBX.out _ H.out.ext
              have e1 : (m2 : Int) - (c : Int) ≤ (t : Int) := by omega
              have e2 : (c : Int) - (m2 : Int) ≤ (t : Int) := by omega
              clear hm2
              go_wp2_with (go_at_call 19; (with_reducible refine (HS2.out _ H.out.ext H.out.ri).mono ?_); rintro e1 w7 ⟨rfl, h7⟩)
              go_ret
              exact ⟨by first | rfl | (simp; omega), HE.out.trans (H.out.ext.trans h7)⟩
theorem moves_any {w : World} {D : Dia} {p : Pl} (d : Dm w D p) (hT : Tabs w) (a1 : Int) (h1 : 0 ≤ a1 ∧ a1 ≤ 255) (a2 : Int) (h2 : 0 ≤ a2 ∧ a2 ≤ 255) : Calls Tryd.prog 6 #[dgv D p, .int .u8 a1, .int .u8 a2] w fun e w' => e = .returned (.bool true) ∧ Ext w w' := by
  cases hl : litB D with
  | false => exact moves_off d hT a1 a2 (.inl hl)
  | true =>
    by_cases hk : chk D = 0
    · by_cases hz : D.nb = 0
      · exact moves_off d hT a1 a2 (.inr (.inr hz))
      · exact moves_on d hT a1 a2 h1 h2 hl hk (by omega)
    · exact moves_off d hT a1 a2 (.inr (.inl hk))
end Go.Proofs.YtgnngldlgcdnfaaDoor
