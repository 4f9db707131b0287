/- The law DiagramFollows: it returns true. -/
import Derived.Test.YtgajibdmihdkcaaDoorDhj
namespace Go.Proofs.YtgajibdmihdkcaaDoor
open Go Go.RowKit

set_option maxRecDepth 100000 in
set_option maxHeartbeats 8000000 in
theorem follows_off {w : World} {D : Dia} {p : Pl} (d : Dm w D p) (hT : Tabs w) (h : litB D = false ∨ chk D ≠ 0) : Calls Tryd.prog 7 #[dgv D p] w fun e w' => e = .returned (.bool true) ∧ Ext w w' := by
  obtain ⟨W1, hW1⟩ : ∃ W1, W1 = w.alloc (.cells #[.slice p.AI D.ni p.cI, .slice p.AB D.nb p.cB, .slice p.AO D.no p.cO] 26) := ⟨_, rfl⟩
  have hE : Ext w W1 := by rw [hW1]; exact Ext.alloc _ _
  have hz1 : W1.heap.size = w.heap.size + 1 := by rw [hW1]; simp
  have HZ1 := Lib.hid hz1; clear hz1
  have HBD : Hid (Bd W1 w.heap.size D p) := by show Bd _ _ _ _; rw [hW1]; exact Bd.new _ _ _ _
  have HBX : Hid (∀ w', Ext W1 w' → w'.cell? ⟨w.heap.size, 0, none⟩ = some (.slice p.AI D.ni p.cI) ∧ w'.cell? ⟨w.heap.size, 1, none⟩ = some (.slice p.AB D.nb p.cB) ∧ w'.cell? ⟨w.heap.size, 2, none⟩ = some (.slice p.AO D.no p.cO)) := fun w' e => by
    have a := HBD.out.ext e; exact ⟨a.c0, a.c1, a.c2⟩
  have HA : Hid (∀ w', Ext W1 w' → Calls Tryd.prog 11 #[] w' fun e w'' => e = .returned (.bool true) ∧ Ext w' w'') := fun w' e => awake_any w' (hT.ext (hE.trans e))
  have HL : Hid (∀ w', Ext W1 w' → Calls Tryd.prog 12 #[dgv D p] w' fun e w'' => e = .returned (.bool (litB D)) ∧ Ext w' w'') := fun w' e => light_any (d.ext (hE.trans e))
  have HRC : Hid (∀ w', Ext W1 w' → Calls Tryd.prog 13 #[dgv D p] w' fun e w'' => e = .returned (I (chk D)) ∧ Ext w' w'') := fun w' e => rcheck_any (d.ext (hE.trans e)) (hT.ext (hE.trans e))
  have HC : Hid (∀ w', Ext W1 w' → Calls Tryd.prog 15 #[dgv D p] w' fun e w'' => e = .returned (errv (chk D)) ∧ Ext w' w'') := fun w' e => check_any (d.ext (hE.trans e)) (hT.ext (hE.trans e))
  have HE := Lib.hid hE
  have HDT : Hid (Dm w D p ∧ Tabs w) := ⟨d, hT⟩
  have hx : Ext W1 W1 := Ext.refl _
  obtain ⟨c0, c1, c2⟩ := HBX.out _ hx
  clear d hT hE HBD
  cases hl : litB D with
  | false =>
    rw [hl] at HL
    clear h hl
    rw [hW1] at c0 c1 c2
    go_enter Tryd.func7, Tryd.ntmps7
    go_upto_region 1 with fail
    rw [← hW1] at c0 c1 c2
    rw [← hW1]
    clear hW1
    go_wp2_with (first
      | (go_at_call 11; (with_reducible refine (HA.out _ hx).mono ?_); rintro e1 w1 ⟨rfl, h1⟩; replace hx := hx.trans h1; clear h1 c0 c1 c2; obtain ⟨c0, c1, c2⟩ := HBX.out _ hx)
      | (go_at_call 12; (with_reducible refine (HL.out _ hx).mono ?_); rintro e1 w1 ⟨rfl, h1⟩; replace hx := hx.trans h1; clear h1 c0 c1 c2; obtain ⟨c0, c1, c2⟩ := HBX.out _ hx)
      | (go_at_call 13; (with_reducible refine (HRC.out _ hx).mono ?_); rintro e1 w1 ⟨rfl, h1⟩; replace hx := hx.trans h1; clear h1 c0 c1 c2; obtain ⟨c0, c1, c2⟩ := HBX.out _ hx)
      | (go_at_call 15; (with_reducible refine (HC.out _ hx).mono ?_); rintro e1 w1 ⟨rfl, h1⟩; replace hx := hx.trans h1; clear h1 c0 c1 c2; obtain ⟨c0, c1, c2⟩ := HBX.out _ hx))
    go_ret
    exact ⟨rfl, HE.out.trans hx⟩
  | true =>
    rw [hl] at HL
    have hk : chk D ≠ 0 := by rcases h with h | h; rw [hl] at h; cases h; exact h
    clear h hl
    have hk' : (chk D == 0) = false := by simpa using hk
    rw [errv_n hk] at HC
    clear hk
    generalize chk D = k at *
    rw [hW1] at c0 c1 c2
    go_enter Tryd.func7, Tryd.ntmps7
    go_upto_region 1 with fail
    rw [← hW1] at c0 c1 c2
    rw [← hW1]
    clear hW1
    go_wp2_with (first
      | (go_at_call 11; (with_reducible refine (HA.out _ hx).mono ?_); rintro e1 w1 ⟨rfl, h1⟩; replace hx := hx.trans h1; clear h1 c0 c1 c2; obtain ⟨c0, c1, c2⟩ := HBX.out _ hx)
      | (go_at_call 12; (with_reducible refine (HL.out _ hx).mono ?_); rintro e1 w1 ⟨rfl, h1⟩; replace hx := hx.trans h1; clear h1 c0 c1 c2; obtain ⟨c0, c1, c2⟩ := HBX.out _ hx)
      | (go_at_call 13; (with_reducible refine (HRC.out _ hx).mono ?_); rintro e1 w1 ⟨rfl, h1⟩; replace hx := hx.trans h1; clear h1 c0 c1 c2; obtain ⟨c0, c1, c2⟩ := HBX.out _ hx)
      | (go_at_call 15; (with_reducible refine (HC.out _ hx).mono ?_); rintro e1 w1 ⟨rfl, h1⟩; replace hx := hx.trans h1; clear h1 c0 c1 c2; obtain ⟨c0, c1, c2⟩ := HBX.out _ hx))
    go_ret
    exact ⟨rfl, HE.out.trans hx⟩

set_option maxRecDepth 100000 in
set_option maxHeartbeats 8000000 in
theorem follows_on {w : World} {D : Dia} {p : Pl} (d : Dm w D p) (hT : Tabs w) (hl : litB D = true) (hk : chk D = 0) : Calls Tryd.prog 7 #[dgv D p] w fun e w' => e = .returned (.bool true) ∧ Ext w w' := by
  obtain ⟨W1, hW1⟩ : ∃ W1, W1 = w.alloc (.cells #[.slice p.AI D.ni p.cI, .slice p.AB D.nb p.cB, .slice p.AO D.no p.cO] 26) := ⟨_, rfl⟩
  have hE : Ext w W1 := by rw [hW1]; exact Ext.alloc _ _
  have hz1 : W1.heap.size = w.heap.size + 1 := by rw [hW1]; simp
  have HZ1 := Lib.hid hz1; clear hz1
  have HBD : Hid (Bd W1 w.heap.size D p) := by show Bd _ _ _ _; rw [hW1]; exact Bd.new _ _ _ _
  have HBX : Hid (∀ w', Ext W1 w' → w'.cell? ⟨w.heap.size, 0, none⟩ = some (.slice p.AI D.ni p.cI) ∧ w'.cell? ⟨w.heap.size, 1, none⟩ = some (.slice p.AB D.nb p.cB) ∧ w'.cell? ⟨w.heap.size, 2, none⟩ = some (.slice p.AO D.no p.cO)) := fun w' e => by
    have a := HBD.out.ext e; exact ⟨a.c0, a.c1, a.c2⟩
  have HA : Hid (∀ w', Ext W1 w' → Calls Tryd.prog 11 #[] w' fun e w'' => e = .returned (.bool true) ∧ Ext w' w'') := fun w' e => awake_any w' (hT.ext (hE.trans e))
  have HL : Hid (∀ w', Ext W1 w' → Calls Tryd.prog 12 #[dgv D p] w' fun e w'' => e = .returned (.bool (litB D)) ∧ Ext w' w'') := fun w' e => light_any (d.ext (hE.trans e))
  have HRC : Hid (∀ w', Ext W1 w' → Calls Tryd.prog 13 #[dgv D p] w' fun e w'' => e = .returned (I (chk D)) ∧ Ext w' w'') := fun w' e => rcheck_any (d.ext (hE.trans e)) (hT.ext (hE.trans e))
  have HC : Hid (∀ w', Ext W1 w' → Calls Tryd.prog 15 #[dgv D p] w' fun e w'' => e = .returned (errv (chk D)) ∧ Ext w' w'') := fun w' e => check_any (d.ext (hE.trans e)) (hT.ext (hE.trans e))
  have HE := Lib.hid hE
  have HDT : Hid (Dm w D p ∧ Tabs w) := ⟨d, hT⟩
  have hx : Ext W1 W1 := Ext.refl _
  obtain ⟨c0, c1, c2⟩ := HBX.out _ hx
  clear d hT hE HBD
  have HOK := Lib.hid (chk_ok hk)
  have hnb := HOK.out.nb
  rw [hl] at HL
  rw [hk, errv_z] at HC
  have HOC : Hid (∀ w', Ext W1 w' → Calls Tryd.prog 16 #[dgv D p] w' (LsE (ordL D) w')) := fun w' e => Order_ok (HDT.out.1.ext (HE.out.trans e)) (HDT.out.2.ext (HE.out.trans e)) hk
  have hlo : (ordL D).length ≤ D.nb := (ord_end D).1.le
  have HP : Hid (∀ w5 A c, OwL w5 0 A c (ordL D) → ∀ w' (x : Nat), Ext w5 w' → Calls Tryd.prog 29 #[.slice A (ordL D).length c, I x] w' fun e w'' => e = .returned (I (posP D x)) ∧ Ext w' w'') := fun w5 A c h w' x e => by
    have := place_any (x : Int) (h.ri.ext e) (c := c) (by have := (ord_end D).1.le; unfold maxLen; omega)
    refine this.mono fun e w'' hh => ⟨?_, hh.2⟩
    rw [hh.1]
    have : fstI (ordL D).length (fun m => (((ordL D).getD m 0 : Nat) : Int) == (x : Int)) = posP D x := fstI_congr fun m _ => by rw [Bool.eq_iff_iff]; simp; omega
    rw [this]
  clear hk hl
  have hlit : (0 : Int) ≤ (D.nb : Int) := by omega
  rw [hW1] at c0 c1 c2
  go_enter Tryd.func7, Tryd.ntmps7
  go_upto_region 1 with fail
  rw [← hW1] at c0 c1 c2
  rw [← hW1]
  clear hW1
  go_upto_region 6 with (first
    | (go_at_call 11; (with_reducible refine (HA.out _ hx).mono ?_); rintro e1 w1 ⟨rfl, h1⟩; replace hx := hx.trans h1; clear h1 c0 c1 c2; obtain ⟨c0, c1, c2⟩ := HBX.out _ hx)
    | (go_at_call 12; (with_reducible refine (HL.out _ hx).mono ?_); rintro e1 w1 ⟨rfl, h1⟩; replace hx := hx.trans h1; clear h1 c0 c1 c2; obtain ⟨c0, c1, c2⟩ := HBX.out _ hx)
    | (go_at_call 13; (with_reducible refine (HRC.out _ hx).mono ?_); rintro e1 w1 ⟨rfl, h1⟩; replace hx := hx.trans h1; clear h1 c0 c1 c2; obtain ⟨c0, c1, c2⟩ := HBX.out _ hx)
    | (go_at_call 15; (with_reducible refine (HC.out _ hx).mono ?_); rintro e1 w1 ⟨rfl, h1⟩; replace hx := hx.trans h1; clear h1 c0 c1 c2; obtain ⟨c0, c1, c2⟩ := HBX.out _ hx)
    | (go_at_call 16; (with_reducible refine (HOC.out _ hx).mono ?_); rintro e1 w5 ⟨A5, k5, rfl, o5, h1⟩; replace hx := hx.trans h1; have O5 := Lib.hid (o5.mono (Nat.zero_le _)); clear o5 h1 c0 c1 c2; obtain ⟨c0, c1, c2⟩ := HBX.out _ hx))
  have HX5 := Lib.hid hx
  have HPL := Lib.hid (HP.out w5 A5 k5 O5.out)
  obtain ⟨hcap, hcm⟩ := O5.out.cap
  unfold maxLen at hcm
  have HRI := Lib.hid O5.out.ri
  clear HP HOC HA HL HC HRC hx O5
  go_wp2_with fail
  clear c0 c1 c2
  go_loopw [36] (fun s wr => ∃ i : Nat, i ≤ D.nb ∧ s = I i ∧ Hid (Ext w5 wr)) (fun s _ => D.nb - (intOf s).toNat)
  case atStart => exact ⟨0, Nat.zero_le _, rfl, Ext.refl _⟩
  case round =>
    obtain ⟨i, hi, rfl, HY⟩ := hrel
    by_cases hlt : i < D.nb
    · have dd := HDT.out.1.ext (HE.out.trans (HX5.out.trans HY.out))
      obtain ⟨c0, c1, c2⟩ := HBX.out wr (HX5.out.trans HY.out)
      obtain ⟨b, o, ha, hba, hc⟩ := dd.blocks (by omega)
      obtain ⟨x0, x1, x2, x3, x4, x5⟩ := hc i hlt
      have hlt' : (i : Int) < (D.nb : Int) := by omega
      clear hc
      cases hq : isD D i with
      | true =>
        have hkk : ((D.B i).k == 2) = true := hq
        have HPI := Lib.hid (fun w' (e : Ext w5 w') => HPL.out w' i e)
        rw [posP_no hq] at HPI
        clear hq dd
        generalize (D.B i).k = kk at *
        go_wp2_with (go_at_call 29; (with_reducible refine (HPI.out _ (HY.out.trans (Ext.alloc _ _))).mono ?_); rintro e1 w6 ⟨rfl, h6⟩; obtain ⟨hc6, hf6⟩ := h6.old)
        (try rw [← ha])
        go_roundw
        case rel => exact ⟨i + 1, by omega, by go_num, HY.out.trans ((Ext.alloc _ _).trans h6)⟩
        case measure => simp [intOf]; omega
      | false =>
        have hkk : ((D.B i).k == 2) = false := hq
        obtain ⟨k, hk, hpk, hgk, hk0, hk1⟩ := posP_yes HOK.out hlt hq
        have HPI := Lib.hid (fun w' (e : Ext w5 w') => HPL.out w' i e)
        rw [hpk] at HPI
        obtain ⟨g, o5, hA, hg5, hcl⟩ := HRI.out (by omega)
        have HCL := Lib.hid hcl
        subst hA
        clear hcl
        have HMA := Lib.hid (fun t h1 h2 => @ord_least D HOK.out i k t hlt hq hpk h1 h2 hk)
        have HK1 := Lib.hid hk1
        have HLT := Lib.hid (fun j hj => lstP_lt HOK.out hlt hk hgk j hj)
        have HAR := Lib.hid (dd.args i hlt)
        have HSRC := Lib.hid (fun j (hj : j < ns D i) => HOK.out.toWF.src hlt hj)
        have hns0 : ns D i = if (D.B i).k = 0 then 0 else (D.B i).n := rfl
        have hn2 := (HOK.out.toWF.ns2 hlt).2
        clear hq dd hk1 hk0 hgk hpk
        generalize (D.B i).k = kk at *
        generalize ordL D = L at *
        have HSL : Hid (∀ w' B c', Ext w5 w' → (B = some ⟨g, o5 + (k + 1), none⟩ ∨ L.length - (k + 1) = 0) → Calls Tryd.prog 29 #[.slice B (L.length - (k + 1)) c', I i] w' fun e w'' => e = .returned (I (-1)) ∧ Ext w' w'') := fun w' B c' e hB => by
          have hr : Ri w' B (L.length - (k + 1)) (fun m => ((L.getD (k + 1 + m) 0 : Nat) : Int)) := fun hn => by
            rcases hB with rfl | h
            · refine ⟨g, o5 + (k + 1), rfl, Nat.lt_of_lt_of_le hg5 e.size, fun m hm => ?_⟩
              rw [Nat.add_assoc]; exact (e.old.1 _ _ hg5).trans (HCL.out (k + 1 + m) (by omega))
            · omega
          have := place_any (c := c') (i : Int) hr (by unfold maxLen; omega)
          refine this.mono fun e w'' hh => ⟨?_, hh.2⟩
          rw [hh.1, fstI_none fun m hm => ?_]
          have := HK1.out (k + 1 + m) (by omega) (by omega)
          rw [beq_eq_false_iff_ne]; omega
        have HSL0 : Hid (∀ w' B c', Ext w5 w' → Calls Tryd.prog 29 #[.slice B 0 c', I i] w' fun e w'' => e = .returned (I (-1)) ∧ Ext w' w'') := fun w' B c' e => by
          have := place_any (c := c') (i : Int) (Ri.none_ (w := w') (A := B) (f := fun _ => 0)) (by unfold maxLen; omega)
          exact this
        have HBK : Hid (∀ w' x, Ext w5 w' → x < D.nb → w'.cell? ⟨b, o + x * 6, none⟩ = some (I (D.B x).k)) := fun w' x e hx => by
          obtain ⟨b', o', ha', _, hc'⟩ := (HDT.out.1.ext (HE.out.trans (HX5.out.trans e))).blocks (by omega)
          rw [ha] at ha'
          injection ha' with ha'
          injection ha' with h1 h2
          subst h1; subst h2
          exact (hc' x hx).1
        have hkn : ¬ (k : Int) < 0 := by omega
        have HBB : Hid (∀ w', Ext (wr.alloc (.cells #[I kk, .slice (p.AA i) (D.B i).n (p.cA i), I (D.B i).vn, I (D.B i).ve, I (D.B i).un, I (D.B i).ue] 53)) w' → w'.cell? ⟨wr.heap.size, 0, none⟩ = some (I kk) ∧ w'.cell? ⟨wr.heap.size, 1, none⟩ = some (.slice (p.AA i) (D.B i).n (p.cA i))) := fun w' e => by
          have h : wr.heap.size < (wr.alloc (.cells #[I kk, .slice (p.AA i) (D.B i).n (p.cA i), I (D.B i).vn, I (D.B i).ve, I (D.B i).un, I (D.B i).ue] 53)).heap.size := by simp
          exact ⟨(e.old.1 _ _ h).trans (by go_simp), (e.old.1 _ _ h).trans (by go_simp)⟩
        by_cases hk0 : kk = 0
        · have g0 : (kk != 0) = false := by simp [hk0]
          rw [if_pos hk0] at hns0
          rw [hns0] at HMA
          have hz : lstP D i 0 = -1 := rfl
          rw [hz] at HMA
          clear hk0 HSRC HAR
          by_cases h5 : k5 = k + 1
          all_goals
            (try subst h5)
            go_wp2_with (first
              | (go_at_call 29; (with_reducible refine (HPI.out _ (HY.out.trans (Ext.alloc _ _))).mono ?_); rintro e1 w6 ⟨rfl, h6⟩; obtain ⟨z0, z1⟩ := HBB.out _ h6)
              | (go_at_call 29; (with_reducible refine (HSL0.out _ _ _ ((HY.out.trans (Ext.alloc _ _)).trans h6)).mono ?_); rintro e1 w7 ⟨rfl, h7⟩; clear z0 z1; obtain ⟨z0, z1⟩ := HBB.out _ (h6.trans h7))
              | (go_at_call 29; (with_reducible refine (HSL.out _ _ _ ((HY.out.trans (Ext.alloc _ _)).trans h6) (by first | exact .inl rfl | (right; omega))).mono ?_); rintro e1 w7 ⟨rfl, h7⟩; clear z0 z1; obtain ⟨z0, z1⟩ := HBB.out _ (h6.trans h7)))
            have HZ : Hid (Ext w5 w7) := ((HY.out.trans (Ext.alloc _ _)).trans h6).trans h7
            go_loopw [101] (fun s wz => ∃ m : Nat, m ≤ k ∧ s = I m ∧ Hid (Ext w5 wz)) (fun s _ => k - (intOf s).toNat)
            case atStart => exact ⟨0, Nat.zero_le _, rfl, HZ⟩
            case round =>
              obtain ⟨m, hm, rfl, HZ2⟩ := hrel
              by_cases hltm : m < k
              · have xm := (HZ2.out.old.1 _ _ hg5).trans (HCL.out m (by omega))
                have hle : ¬ (i : Int) < ((L.getD m 0 : Nat) : Int) := by have := HMA.out m (by omega) (by omega); omega
                have hltm' : (m : Int) < ((k : Nat) : Int) := by omega
                generalize L.getD m 0 = xv at *
                go_wp2_with fail
                go_roundw
                case rel => exact ⟨m + 1, by omega, by go_num, HZ2⟩
                case measure => simp [intOf]; omega
              · obtain rfl : m = k := by omega
                go_wp2_with fail
                (try rw [← ha])
                go_roundw
                case rel => exact ⟨i + 1, by omega, by go_num, HZ2⟩
                case measure => simp [intOf]; omega
        · have g0 : (kk != 0) = true := by simp [hk0]
          rw [if_neg hk0] at hns0
          rw [hns0] at HMA HSRC HLT
          clear hk0 hns0
          by_cases h5 : k5 = k + 1
          all_goals
            (try subst h5)
            go_wp2_with (first
              | (go_at_call 29; (with_reducible refine (HPI.out _ (HY.out.trans (Ext.alloc _ _))).mono ?_); rintro e1 w6 ⟨rfl, h6⟩; obtain ⟨z0, z1⟩ := HBB.out _ h6)
              | (go_at_call 29; (with_reducible refine (HSL0.out _ _ _ ((HY.out.trans (Ext.alloc _ _)).trans h6)).mono ?_); rintro e1 w7 ⟨rfl, h7⟩; clear z0 z1; obtain ⟨z0, z1⟩ := HBB.out _ (h6.trans h7))
              | (go_at_call 29; (with_reducible refine (HSL.out _ _ _ ((HY.out.trans (Ext.alloc _ _)).trans h6) (by first | exact .inl rfl | (right; omega))).mono ?_); rintro e1 w7 ⟨rfl, h7⟩; clear z0 z1; obtain ⟨z0, z1⟩ := HBB.out _ (h6.trans h7)))
            have HZ : Hid (Ext w5 w7) := ((HY.out.trans (Ext.alloc _ _)).trans h6).trans h7
            have HZ7 : Hid (Ext wr w7) := ((Ext.alloc _ _).trans h6).trans h7
            clear z0 z1
            generalize hnn : (D.B i).n = n at *
            clear hnn
            go_loopw [8, 10, 66] (fun l _ s wz => ∃ j : Nat, j ≤ n ∧ l = I (lstP D i j) ∧ s = I j ∧ Hid (Ext w7 wz)) (fun _ _ s _ => n - (intOf s).toNat)
            case atStart => exact ⟨0, Nat.zero_le _, rfl, rfl, Ext.refl _⟩
            case round =>
              obtain ⟨j, hj, rfl, rfl, HZ2⟩ := hrel
              by_cases hltj : j < n
              · obtain ⟨b3, o3, ha3, hb3, hc3⟩ := HAR.out.1 (by omega)
                have xa := ((HZ7.out.trans HZ2.out).old.1 _ _ hb3).trans (hc3 j hltj)
                obtain ⟨s1, s2, _⟩ := HSRC.out j hltj
                rw [s1] at xa
                obtain ⟨c0, c1, c2⟩ := HBX.out wr (HX5.out.trans (HZ.out.trans HZ2.out))
                have xk := HBK.out wr _ (HZ.out.trans HZ2.out) s2
                have hs2 : ((sr D i j : Nat) : Int) < (D.nb : Int) := by omega
                have hs3 : ¬ (D.nb : Int) ≤ ((sr D i j : Nat) : Int) := by omega
                have hkd : ((D.B (sr D i j)).k != 2) = !isD D (sr D i j) := rfl
                have hltj' : (j : Int) < (n : Int) := by omega
                have HPS := Lib.hid (fun w' (e : Ext w5 w') => HPL.out w' (sr D i j) e)
                have HZ9 := Lib.hid (HZ.out.trans HZ2.out)
                clear hc3 s1 x0 x1 x2 x3 x4 x5
                cases hqs : isD D (sr D i j) with
                | true =>
                  rw [hqs] at hkd
                  have HLS := Lib.hid (lstP_t hqs)
                  clear hqs
                  generalize (D.B (sr D i j)).k = ks at *
                  generalize lstP D i j = lj at *
                  go_wp2_with fail
                  (try rw [← ha])
                  (try rw [← ha3])
                  go_roundw
                  case rel =>
                    refine ⟨_, _, _, _, ⟨j + 1, by omega, ?_, ?_⟩, rfl, rfl, rfl, rfl⟩
                    · rw [HLS.out]
                    · go_num
                  case measure => simp [intOf]; omega
                | false =>
                  rw [hqs] at hkd
                  have HLS := Lib.hid (lstP_f hqs)
                  clear hqs
                  generalize (D.B (sr D i j)).k = ks at *
                  generalize lstP D i j = lj at *
                  generalize posP D (sr D i j) = ps at *
                  go_wp2_with (go_at_call 29; (with_reducible refine (HPS.out _ HZ9.out).mono ?_); rintro e1 w8 ⟨rfl, h8⟩)
                  (try rw [← ha])
                  (try rw [← ha3])
                  go_roundw
                  case rel => exact ⟨j + 1, by omega, by rw [HLS.out], by go_num, HZ2.out.trans h8⟩
                  case measure => simp [intOf]; omega
              · obtain rfl : j = n := by omega
                have hlk := HLT.out j (Nat.le_refl _)
                have hlg := lstP_ge (D := D) i j
                obtain ⟨t0, ht0⟩ : ∃ t0 : Nat, lstP D i j = (t0 : Int) - 1 := ⟨(lstP D i j + 1).toNat, by omega⟩
                have hlk2 : ¬ (k : Int) ≤ (t0 : Int) - 1 := by omega
                rw [ht0] at HMA hlk ⊢
                have HZ := Lib.hid (HZ.out.trans HZ2.out)
                clear ht0 hlg HLT
                go_wp2_with fail
                go_loopw [101] (fun s wz => ∃ m : Nat, m ≤ (k - t0) ∧ s = I m ∧ Hid (Ext w5 wz)) (fun s _ => (k - t0) - (intOf s).toNat)
                case atStart => exact ⟨0, Nat.zero_le _, rfl, HZ⟩
                case round =>
                  obtain ⟨m, hm, rfl, HZ2⟩ := hrel
                  by_cases hltm : m < (k - t0)
                  · have xm := (HZ2.out.old.1 _ _ hg5).trans (HCL.out (t0 + m) (by omega))
                    rw [← Nat.add_assoc] at xm
                    have hle : ¬ (i : Int) < ((L.getD (t0 + m) 0 : Nat) : Int) := by have := HMA.out (t0 + m) (by omega) (by omega); omega
                    have hltm' : (m : Int) < (((k - t0) : Nat) : Int) := by omega
                    generalize L.getD (t0 + m) 0 = xv at *
                    go_wp2_with fail
                    go_roundw
                    case rel => exact ⟨m + 1, by omega, by go_num, HZ2⟩
                    case measure => simp [intOf]; omega
                  · obtain rfl : m = (k - t0) := by omega
                    go_wp2_with fail
                    (try rw [← ha])
                    go_roundw
                    case rel => exact ⟨i + 1, by omega, by go_num, HZ2⟩
                    case measure => simp [intOf]; omega
    · obtain rfl : i = D.nb := by omega
      go_wp2_with fail
      go_ret
      exact ⟨rfl, HE.out.trans (HX5.out.trans HY.out)⟩
theorem follows_any {w : World} {D : Dia} {p : Pl} (d : Dm w D p) (hT : Tabs w) : Calls Tryd.prog 7 #[dgv D p] w fun e w' => e = .returned (.bool true) ∧ Ext w w' := by
  by_cases h : litB D = false ∨ chk D ≠ 0
  · exact follows_off d hT h
  · refine follows_on d hT ?_ (Classical.byContradiction fun q => h (.inr q))
    cases q : litB D
    · exact absurd (.inl q) h
    · rfl
end Go.Proofs.YtgajibdmihdkcaaDoor
