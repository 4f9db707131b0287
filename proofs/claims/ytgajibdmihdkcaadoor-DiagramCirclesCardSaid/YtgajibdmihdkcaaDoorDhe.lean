/- The law DiagramDepends: it returns true. -/
import Derived.Test.YtgajibdmihdkcaaDoorDhc
namespace Go.Proofs.YtgajibdmihdkcaaDoor
open Go Go.RowKit

theorem mkL_get {n x : Nat} {p : Nat → Bool} (hx : x < n) (hp : p x = true) : (mkL n p)[cnt x p]? = some x := by
  induction n with
  | zero => omega
  | succ n ih =>
    show (mkL n p ++ if p n = true then [n] else [])[cnt x p]? = some x
    by_cases e : x = n
    · subst e
      rw [if_pos hp, List.getElem?_append_right (by rw [mkL_len]; exact Nat.le_refl _), mkL_len]; simp
    · have h := ih (by omega)
      rw [List.getElem?_append_left ?_]
      · exact h
      · rcases Nat.lt_or_ge (cnt x p) (mkL n p).length with a | a
        · exact a
        · rw [List.getElem?_eq_none a] at h; cases h
/-- What a block uses: itself, and what its sources use. -/
theorem use_rec {D : Dia} {i : Nat} (hi : i < D.nb) (x : Nat) : useR D i x = true ↔ x = i ∨ ∃ j, j < (nxD D false).nn i ∧ useR D (sr D i j) x = true := by
  have H := rch_is D.nb (nxD D false) (fun k => k == i)
  constructor
  · intro h
    classical
    have hT := H.least (fun y => decide (y = i ∨ ∃ j, j < (nxD D false).nn i ∧ useR D (sr D i j) y = true)) (fun y hy ht j hj => by
      rcases of_decide_eq_true ht with rfl | ⟨j', hj', hu⟩
      · exact decide_eq_true (.inr ⟨j, hj, (rch_is D.nb (nxD D false) (fun k => k == sr D y j)).stt _ (by show (sr D y j == sr D y j) = true; simp)⟩)
      · exact decide_eq_true (.inr ⟨j', hj', (rch_is D.nb (nxD D false) (fun k => k == sr D i j')).clo y hy hu j hj⟩)) (fun y hy => decide_eq_true (.inl (by simpa using hy))) x h
    exact of_decide_eq_true hT
  · rintro (rfl | ⟨j, hj, hu⟩)
    · exact H.stt _ (by simp)
    · exact (rch_is D.nb (nxD D false) (fun k => k == sr D i j)).least (useR D i) H.clo (fun k hk => by
        have : k = sr D i j := by simpa using hk
        subst this
        exact H.clo i hi (H.stt i (by simp)) j hj) x hu
/-- Marks in a row that is newer than W5. -/
structure DpM (W5 w : World) (gm nb : Nat) (M : Nat → Bool) : Prop where
  ext : Ext W5 w
  old : W5.heap.size ≤ gm
  row : w.rowIs gm 4 nb (fun i => .bool (M i))
theorem DpM.to {W5 w w' : World} {gm nb : Nat} {M : Nat → Bool} (h : DpM W5 w gm nb M) (e : Ext w w') : DpM W5 w' gm nb M := ⟨h.ext.trans e, h.old, h.row.ext e⟩
theorem DpM.put {W5 w : World} {gm nb : Nat} {M : Nat → Bool} (h : DpM W5 w gm nb M) (x : Nat) : DpM W5 (w.setCell ⟨gm, x, none⟩ (.bool true)) gm nb (fun i => if i = x then true else M i) :=
  ⟨h.ext.set h.old _, h.old, (h.row.set x (.bool true)).congr fun i _ => by by_cases q : i = x <;> simp [q]⟩
theorem set_gr (w : World) (gm x : Nat) (v : Value) : w.grownBy (w.setCell ⟨gm, x, none⟩ v) (some gm) := ⟨rfl, rfl, rfl, by simp, fun k _ hk => Below.heap_setCell _ _ _ k (fun q => hk (by simp [q]))⟩

set_option maxRecDepth 100000 in
set_option maxHeartbeats 8000000 in
theorem depends_off {w : World} {D : Dia} {p : Pl} (d : Dm w D p) (hT : Tabs w) (i : Int) (h : litB D = false ∨ chk D ≠ 0) : Calls Tryd.prog 10 #[dgv D p, .int .u8 i] w fun e w' => e = .returned (.bool true) ∧ Ext w w' := by
  obtain ⟨W1, hW1⟩ : ∃ W1, W1 = w.alloc (.cells #[.slice p.AI D.ni p.cI, .slice p.AB D.nb p.cB, .slice p.AO D.no p.cO] 26) := ⟨_, rfl⟩
  have hE : Ext w W1 := by rw [hW1]; exact Ext.alloc _ _
  have hz1 : W1.heap.size = w.heap.size + 1 := by rw [hW1]; simp
  have HZ1 := Lib.hid hz1; clear hz1
  have HBD : Hid (Bd W1 w.heap.size D p) := by show Bd _ _ _ _; rw [hW1]; exact Bd.new _ _ _ _
  have HBX : Hid (∀ w', Ext W1 w' → w'.cell? ⟨w.heap.size, 0, none⟩ = some (.slice p.AI D.ni p.cI) ∧ w'.cell? ⟨w.heap.size, 1, none⟩ = some (.slice p.AB D.nb p.cB) ∧ w'.cell? ⟨w.heap.size, 2, none⟩ = some (.slice p.AO D.no p.cO)) := fun w' e => by
    have a := HBD.out.ext e; exact ⟨a.c0, a.c1, a.c2⟩
  have HA : Hid (∀ w', Ext W1 w' → Calls Tryd.prog 11 #[] w' fun e w'' => e = .returned (.bool true) ∧ Ext w' w'') := fun w' e => awake_any w' (hT.ext (hE.trans e))
  have HL : Hid (∀ w', Ext W1 w' → Calls Tryd.prog 12 #[dgv D p] w' fun e w'' => e = .returned (.bool (litB D)) ∧ Ext w' w'') := fun w' e => light_any (d.ext (hE.trans e))
  have HRC : Hid (∀ w', Ext W1 w' → Calls Tryd.prog 13 #[dgv D p] w' fun e w'' => e = .returned (I (chk D)) ∧ Ext w' w'') := fun w' e => rcheck_any (d.ext (hE.trans e)) (hT.ext (hE.trans e))
  have HC : Hid (∀ w', Ext W1 w' → Calls Tryd.prog 15 #[dgv D p] w' fun e w'' => e = .returned (errv (chk D)) ∧ Ext w' w'') := fun w' e => check_any (d.ext (hE.trans e)) (hT.ext (hE.trans e))
  have HE := Lib.hid hE
  have HDT : Hid (Dm w D p ∧ Tabs w) := ⟨d, hT⟩
  have hx : Ext W1 W1 := Ext.refl _
  obtain ⟨c0, c1, c2⟩ := HBX.out _ hx
  clear d hT hE HBD
  cases hl : litB D with
  | false =>
    rw [hl] at HL
    clear h hl
    rw [hW1] at c0 c1 c2
    go_enter Tryd.func10, Tryd.ntmps10
    go_upto_region 1 with fail
    rw [← hW1] at c0 c1 c2
    rw [← hW1]
    clear hW1
    go_wp2_with (first
      | (go_at_call 11; (with_reducible refine (HA.out _ hx).mono ?_); rintro e1 w1 ⟨rfl, h1⟩; replace hx := hx.trans h1; clear h1 c0 c1 c2; obtain ⟨c0, c1, c2⟩ := HBX.out _ hx)
      | (go_at_call 12; (with_reducible refine (HL.out _ hx).mono ?_); rintro e1 w1 ⟨rfl, h1⟩; replace hx := hx.trans h1; clear h1 c0 c1 c2; obtain ⟨c0, c1, c2⟩ := HBX.out _ hx)
      | (go_at_call 13; (with_reducible refine (HRC.out _ hx).mono ?_); rintro e1 w1 ⟨rfl, h1⟩; replace hx := hx.trans h1; clear h1 c0 c1 c2; obtain ⟨c0, c1, c2⟩ := HBX.out _ hx)
      | (go_at_call 15; (with_reducible refine (HC.out _ hx).mono ?_); rintro e1 w1 ⟨rfl, h1⟩; replace hx := hx.trans h1; clear h1 c0 c1 c2; obtain ⟨c0, c1, c2⟩ := HBX.out _ hx))
    go_ret
    exact ⟨rfl, HE.out.trans hx⟩
  | true =>
    rw [hl] at HL
    have hk : chk D ≠ 0 := by rcases h with h | h; rw [hl] at h; cases h; exact h
    clear h hl
    have hk' : (chk D == 0) = false := by simpa using hk
    rw [errv_n hk] at HC
    clear hk
    generalize chk D = k at *
    rw [hW1] at c0 c1 c2
    go_enter Tryd.func10, Tryd.ntmps10
    go_upto_region 1 with fail
    rw [← hW1] at c0 c1 c2
    rw [← hW1]
    clear hW1
    go_wp2_with (first
      | (go_at_call 11; (with_reducible refine (HA.out _ hx).mono ?_); rintro e1 w1 ⟨rfl, h1⟩; replace hx := hx.trans h1; clear h1 c0 c1 c2; obtain ⟨c0, c1, c2⟩ := HBX.out _ hx)
      | (go_at_call 12; (with_reducible refine (HL.out _ hx).mono ?_); rintro e1 w1 ⟨rfl, h1⟩; replace hx := hx.trans h1; clear h1 c0 c1 c2; obtain ⟨c0, c1, c2⟩ := HBX.out _ hx)
      | (go_at_call 13; (with_reducible refine (HRC.out _ hx).mono ?_); rintro e1 w1 ⟨rfl, h1⟩; replace hx := hx.trans h1; clear h1 c0 c1 c2; obtain ⟨c0, c1, c2⟩ := HBX.out _ hx)
      | (go_at_call 15; (with_reducible refine (HC.out _ hx).mono ?_); rintro e1 w1 ⟨rfl, h1⟩; replace hx := hx.trans h1; clear h1 c0 c1 c2; obtain ⟨c0, c1, c2⟩ := HBX.out _ hx))
    go_ret
    exact ⟨rfl, HE.out.trans hx⟩

set_option maxRecDepth 100000 in
set_option maxHeartbeats 8000000 in
theorem depends_none {w : World} {D : Dia} {p : Pl} (d : Dm w D p) (hT : Tabs w) (i : Int) (hl : litB D = true) (hk : chk D = 0) (hnb : D.nb = 0) : Calls Tryd.prog 10 #[dgv D p, .int .u8 i] w fun e w' => e = .returned (.bool true) ∧ Ext w w' := by
  obtain ⟨W1, hW1⟩ : ∃ W1, W1 = w.alloc (.cells #[.slice p.AI D.ni p.cI, .slice p.AB D.nb p.cB, .slice p.AO D.no p.cO] 26) := ⟨_, rfl⟩
  have hE : Ext w W1 := by rw [hW1]; exact Ext.alloc _ _
  have hz1 : W1.heap.size = w.heap.size + 1 := by rw [hW1]; simp
  have HZ1 := Lib.hid hz1; clear hz1
  have HBD : Hid (Bd W1 w.heap.size D p) := by show Bd _ _ _ _; rw [hW1]; exact Bd.new _ _ _ _
  have HBX : Hid (∀ w', Ext W1 w' → w'.cell? ⟨w.heap.size, 0, none⟩ = some (.slice p.AI D.ni p.cI) ∧ w'.cell? ⟨w.heap.size, 1, none⟩ = some (.slice p.AB D.nb p.cB) ∧ w'.cell? ⟨w.heap.size, 2, none⟩ = some (.slice p.AO D.no p.cO)) := fun w' e => by
    have a := HBD.out.ext e; exact ⟨a.c0, a.c1, a.c2⟩
  have HA : Hid (∀ w', Ext W1 w' → Calls Tryd.prog 11 #[] w' fun e w'' => e = .returned (.bool true) ∧ Ext w' w'') := fun w' e => awake_any w' (hT.ext (hE.trans e))
  have HL : Hid (∀ w', Ext W1 w' → Calls Tryd.prog 12 #[dgv D p] w' fun e w'' => e = .returned (.bool (litB D)) ∧ Ext w' w'') := fun w' e => light_any (d.ext (hE.trans e))
  have HRC : Hid (∀ w', Ext W1 w' → Calls Tryd.prog 13 #[dgv D p] w' fun e w'' => e = .returned (I (chk D)) ∧ Ext w' w'') := fun w' e => rcheck_any (d.ext (hE.trans e)) (hT.ext (hE.trans e))
  have HC : Hid (∀ w', Ext W1 w' → Calls Tryd.prog 15 #[dgv D p] w' fun e w'' => e = .returned (errv (chk D)) ∧ Ext w' w'') := fun w' e => check_any (d.ext (hE.trans e)) (hT.ext (hE.trans e))
  have HE := Lib.hid hE
  have HDT : Hid (Dm w D p ∧ Tabs w) := ⟨d, hT⟩
  have hx : Ext W1 W1 := Ext.refl _
  obtain ⟨c0, c1, c2⟩ := HBX.out _ hx
  clear d hT hE HBD
  rw [hl] at HL
  rw [hk, errv_z] at HC
  have h0 : ((D.nb : Int) == 0) = true := by simp [hnb]
  have h00 : decide (D.nb = 0) = true := by simp [hnb]
  clear hk hl hnb
  rw [hW1] at c0 c1 c2
  go_enter Tryd.func10, Tryd.ntmps10
  go_upto_region 1 with fail
  rw [← hW1] at c0 c1 c2
  rw [← hW1]
  clear hW1
  go_wp2_with (first
    | (go_at_call 11; (with_reducible refine (HA.out _ hx).mono ?_); rintro e1 w1 ⟨rfl, h1⟩; replace hx := hx.trans h1; clear h1 c0 c1 c2; obtain ⟨c0, c1, c2⟩ := HBX.out _ hx)
    | (go_at_call 12; (with_reducible refine (HL.out _ hx).mono ?_); rintro e1 w1 ⟨rfl, h1⟩; replace hx := hx.trans h1; clear h1 c0 c1 c2; obtain ⟨c0, c1, c2⟩ := HBX.out _ hx)
    | (go_at_call 13; (with_reducible refine (HRC.out _ hx).mono ?_); rintro e1 w1 ⟨rfl, h1⟩; replace hx := hx.trans h1; clear h1 c0 c1 c2; obtain ⟨c0, c1, c2⟩ := HBX.out _ hx)
    | (go_at_call 15; (with_reducible refine (HC.out _ hx).mono ?_); rintro e1 w1 ⟨rfl, h1⟩; replace hx := hx.trans h1; clear h1 c0 c1 c2; obtain ⟨c0, c1, c2⟩ := HBX.out _ hx))
  go_ret
  exact ⟨rfl, HE.out.trans hx⟩

set_option maxRecDepth 100000 in
set_option maxHeartbeats 8000000 in
theorem depends_on {w : World} {D : Dia} {p : Pl} (d : Dm w D p) (hT : Tabs w) (i : Int) (hi0 : 0 ≤ i) (hi1 : i ≤ 255) (hl : litB D = true) (hk : chk D = 0) (hpos : 0 < D.nb) : Calls Tryd.prog 10 #[dgv D p, .int .u8 i] w fun e w' => e = .returned (.bool true) ∧ Ext w w' := by
  obtain ⟨W1, hW1⟩ : ∃ W1, W1 = w.alloc (.cells #[.slice p.AI D.ni p.cI, .slice p.AB D.nb p.cB, .slice p.AO D.no p.cO] 26) := ⟨_, rfl⟩
  have hE : Ext w W1 := by rw [hW1]; exact Ext.alloc _ _
  have hz1 : W1.heap.size = w.heap.size + 1 := by rw [hW1]; simp
  have HZ1 := Lib.hid hz1; clear hz1
  have HBD : Hid (Bd W1 w.heap.size D p) := by show Bd _ _ _ _; rw [hW1]; exact Bd.new _ _ _ _
  have HBX : Hid (∀ w', Ext W1 w' → w'.cell? ⟨w.heap.size, 0, none⟩ = some (.slice p.AI D.ni p.cI) ∧ w'.cell? ⟨w.heap.size, 1, none⟩ = some (.slice p.AB D.nb p.cB) ∧ w'.cell? ⟨w.heap.size, 2, none⟩ = some (.slice p.AO D.no p.cO)) := fun w' e => by
    have a := HBD.out.ext e; exact ⟨a.c0, a.c1, a.c2⟩
  have HA : Hid (∀ w', Ext W1 w' → Calls Tryd.prog 11 #[] w' fun e w'' => e = .returned (.bool true) ∧ Ext w' w'') := fun w' e => awake_any w' (hT.ext (hE.trans e))
  have HL : Hid (∀ w', Ext W1 w' → Calls Tryd.prog 12 #[dgv D p] w' fun e w'' => e = .returned (.bool (litB D)) ∧ Ext w' w'') := fun w' e => light_any (d.ext (hE.trans e))
  have HRC : Hid (∀ w', Ext W1 w' → Calls Tryd.prog 13 #[dgv D p] w' fun e w'' => e = .returned (I (chk D)) ∧ Ext w' w'') := fun w' e => rcheck_any (d.ext (hE.trans e)) (hT.ext (hE.trans e))
  have HC : Hid (∀ w', Ext W1 w' → Calls Tryd.prog 15 #[dgv D p] w' fun e w'' => e = .returned (errv (chk D)) ∧ Ext w' w'') := fun w' e => check_any (d.ext (hE.trans e)) (hT.ext (hE.trans e))
  have HE := Lib.hid hE
  have HDT : Hid (Dm w D p ∧ Tabs w) := ⟨d, hT⟩
  have hx : Ext W1 W1 := Ext.refl _
  obtain ⟨c0, c1, c2⟩ := HBX.out _ hx
  clear d hT hE HBD
  have wf := (chk_ok hk).toWF
  have hnb := wf.nb
  have hmk := run_make_row' 55 4 (.bool false) 1 Tryd.underlying55 infoB rfl .i64 .i64 D.nb (by omega) (by omega)
  rw [hl] at HL
  rw [hk, errv_z] at HC
  have HU : Hid (∀ w' (j : Nat), Ext W1 w' → j < D.nb → Calls Tryd.prog 18 #[dgv D p, I j] w' (LsE (mkL D.nb (useR D j)) w')) := fun w' j e hj => Uses_ok j (HDT.out.1.ext (HE.out.trans e)) (HDT.out.2.ext (HE.out.trans e)) hk hj
  obtain ⟨t, hmod⟩ : ∃ t : Nat, i % (D.nb : Int) = t := ⟨(i % (D.nb : Int)).toNat, by have := Int.emod_nonneg i (show (D.nb : Int) ≠ 0 by omega); omega⟩
  have ht : t < D.nb := by have := Int.emod_lt_of_pos i (show 0 < (D.nb : Int) by omega); omega
  have hp0 : ((D.nb : Int) == 0) = false := by simp; omega
  have hp00 : decide (D.nb = 0) = false := by simp; omega
  have hp1 : (0 : Int) < (D.nb : Int) := by omega
  have HP := Lib.hid (use_rec ht)
  obtain ⟨P, hP⟩ : ∃ P, useR D t = P := ⟨_, rfl⟩
  rw [hP] at HP
  have HU5 : Hid (∀ w', Ext W1 w' → Calls Tryd.prog 18 #[dgv D p, I t] w' (LsE (mkL D.nb P) w')) := fun w' e => by rw [← hP]; exact HU.out w' t e ht
  have HWF := Lib.hid wf
  have htl : (t : Int) < (D.nb : Int) := by omega
  clear hk hl wf hP
  rw [hW1] at c0 c1 c2
  go_enter Tryd.func10, Tryd.ntmps10
  go_upto_region 1 with fail
  rw [← hW1] at c0 c1 c2
  rw [← hW1]
  clear hW1
  go_upto_region 7 with (first
    | (go_at_call 11; (with_reducible refine (HA.out _ hx).mono ?_); rintro e1 w1 ⟨rfl, h1⟩; replace hx := hx.trans h1; clear h1 c0 c1 c2; obtain ⟨c0, c1, c2⟩ := HBX.out _ hx)
    | (go_at_call 12; (with_reducible refine (HL.out _ hx).mono ?_); rintro e1 w1 ⟨rfl, h1⟩; replace hx := hx.trans h1; clear h1 c0 c1 c2; obtain ⟨c0, c1, c2⟩ := HBX.out _ hx)
    | (go_at_call 13; (with_reducible refine (HRC.out _ hx).mono ?_); rintro e1 w1 ⟨rfl, h1⟩; replace hx := hx.trans h1; clear h1 c0 c1 c2; obtain ⟨c0, c1, c2⟩ := HBX.out _ hx)
    | (go_at_call 15; (with_reducible refine (HC.out _ hx).mono ?_); rintro e1 w1 ⟨rfl, h1⟩; replace hx := hx.trans h1; clear h1 c0 c1 c2; obtain ⟨c0, c1, c2⟩ := HBX.out _ hx)
    | (go_at_call 18; (with_reducible refine (HU5.out _ hx).mono ?_); rintro e1 w5 ⟨A5, k5, rfl, o5, h1⟩; replace hx := hx.trans h1; have O5 := Lib.hid o5; clear o5 h1 c0 c1 c2; obtain ⟨c0, c1, c2⟩ := HBX.out _ hx))
  clear hmod hi0 hi1 hp0 hp00
  have HX5 := Lib.hid hx
  have FU := Lib.hid O5.out.rl
  have dd := HDT.out.1.ext (HE.out.trans hx)
  obtain ⟨b, o, ha, hba, hc⟩ := dd.blocks hpos
  obtain ⟨x0, x1, x2, x3, x4, x5⟩ := hc t ht
  have hz5 : w.heap.size < w5.heap.size := by have := hx.size; have := HZ1.out; omega
  have hne1 : ¬ w.heap.size = w5.heap.size := by omega
  have hne2 : ¬ w5.heap.size = w.heap.size := by omega
  have hrow0 : (w5.alloc (.cells (madeCells #[.bool false] D.nb) 4)).rowIs w5.heap.size 4 D.nb (fun _ => .bool false) := rowIs_made' w5 (.bool false) D.nb 4 rfl
  have hr1 := hrow0.cell ht
  have hr2 := hrow0.frozen t
  have HM0 : Hid (DpM w5 ((w5.alloc (.cells (madeCells #[.bool false] D.nb) 4)).setCell ⟨w5.heap.size, t, none⟩ (.bool true)) w5.heap.size D.nb (fun x => x == t)) :=
    ⟨(Ext.alloc _ _).set (Nat.le_refl _) _, Nat.le_refl _, (hrow0.set t (.bool true)).congr fun x _ => by by_cases q : x = t <;> simp [q]⟩
  have hWeq : (w5.alloc (.cells (madeCells #[.bool false] D.nb) 4)).setCell ⟨w5.heap.size, t, none⟩ (.bool true) = w5.alloc (.cells ((madeCells #[.bool false] D.nb).setIfInBounds t (.bool true)) 4) := by go_simp
  rw [hWeq] at HM0
  clear hWeq
  have HBK := Lib.hid (fun w' (e : Ext w5 w') => dd.ext e)
  clear hc dd hrow0 hx
  obtain ⟨kk, hkk⟩ : ∃ kk, (D.B t).k = kk := ⟨_, rfl⟩
  have HKK := Lib.hid hkk
  rw [hkk] at x0
  by_cases hsk : kk = 2 ∨ kk = 0
  · have hnn : (nxD D false).nn t = 0 := by
      rcases hsk with h | h
      · exact nn_t (by show ((D.B t).k == 2) = true; rw [hkk, h]; rfl)
      · rw [nn_f (by show ((D.B t).k == 2) = false; rw [hkk, h]; rfl)]; unfold ns; rw [if_pos (by rw [hkk, h])]
    have HSTP : Hid (∀ w', Ext (w5.alloc (.cells ((madeCells #[.bool false] D.nb).setIfInBounds t (.bool true)) 4)) w' → DpM w5 w' w5.heap.size D.nb P) := fun w' e => ⟨HM0.out.ext.trans e, Nat.le_refl _, (HM0.out.row.ext e).congr fun x hx9 => by
      have h1 := HP.out x
      rw [hnn] at h1
      have : P x = (x == t) := by
        rw [Bool.eq_iff_iff, h1]
        constructor
        · rintro (h | ⟨j, hj, _⟩)
          · simp [h]
          · omega
        · intro h; left; simpa using h
      rw [this]⟩
    clear hkk hnn
    rcases hsk with rfl | rfl
    all_goals
      go_wp2_with fail
      clear c0 c1 c2 x0 x1 x2 x3 x4 x5 hr1 hr2
      go_loopw [16, 108] (fun s t wr => ∃ x : Nat, x ≤ D.nb ∧ s = I (cnt x P) ∧ t = I x ∧ Hid (DpM w5 wr w5.heap.size D.nb P)) (fun _ t _ => D.nb - (intOf t).toNat)
      case atStart => exact ⟨0, Nat.zero_le _, rfl, rfl, HSTP.out _ (Ext.alloc _ _)⟩
      case round =>
        obtain ⟨x, hx9, rfl, rfl, HY⟩ := hrel
        by_cases hltx : x < D.nb
        · have hcx := HY.out.row.cell hltx
          have hltx' : (x : Int) < (D.nb : Int) := by omega
          have hcnx := cnt_le x P
          cases hpx : P x with
          | false =>
            rw [hpx] at hcx
            have HCN : Hid (cnt (x + 1) P = cnt x P) := by show cnt x P + _ = _; rw [hpx]; rfl
            clear hpx
            generalize cnt x P = cx at *
            go_wp2_with fail
            go_roundw
            case rel => exact ⟨x + 1, by omega, by rw [HCN.out], by go_num, HY⟩
            case measure => simp [intOf]; omega
          | true =>
            rw [hpx] at hcx
            have HCN : Hid (cnt (x + 1) P = cnt x P + 1) := by show cnt x P + _ = _; rw [hpx]; rfl
            have hg := mkL_get hltx hpx
            have hlc : cnt x P < (mkL D.nb P).length := by
              rcases Nat.lt_or_ge (cnt x P) (mkL D.nb P).length with h | h
              · exact h
              · rw [List.getElem?_eq_none h] at hg; cases hg
            obtain ⟨b5, o5, ha5, hb5, hc5⟩ := (FU.out.ext HY.out.ext).1 (by omega)
            have xu : wr.cell? ⟨b5, o5 + cnt x P, none⟩ = some (I (((mkL D.nb P).getD (cnt x P) 0 : Nat) : Int)) := hc5 _ hlc
            rw [List.getD_eq_getElem?_getD, hg] at xu
            have xu' : wr.cell? ⟨b5, o5 + cnt x P, none⟩ = some (I (x : Nat)) := xu
            subst ha5
            have hlc' : ¬ ((mkL D.nb P).length : Int) ≤ (cnt x P : Int) := by omega
            have hlc2 : (cnt x P : Int) < ((mkL D.nb P).length : Int) := by omega
            have hxx : ((x : Int) == (x : Int)) = true := by simp
            clear hpx hg hc5 xu hlc
            generalize hcxx : cnt x P = cx at *
            clear hcxx
            generalize (mkL D.nb P).length = lu at *
            go_wp2_with fail
            go_roundw
            case rel => exact ⟨x + 1, by omega, by rw [HCN.out]; go_num, by go_num, HY⟩
            case measure => simp [intOf]; omega
        · obtain rfl : x = D.nb := by omega
          have hle : ((cnt D.nb P : Int) == ((mkL D.nb P).length : Int)) = true := by rw [mkL_len]; simp
          generalize (mkL D.nb P).length = lu at *
          generalize cnt D.nb P = cx at *
          go_wp2_with fail
          go_ret
          exact ⟨rfl, HE.out.trans (HX5.out.trans HY.out.ext)⟩
  · have hk2 : (kk == 2) = false := by simp; omega
    have hk0 : (kk == 0) = false := by simp; omega
    have hns : ns D t = (D.B t).n := by unfold ns; rw [if_neg (by rw [hkk]; omega)]
    have hnn : (nxD D false).nn t = ns D t := nn_f (by show ((D.B t).k == 2) = false; rw [hkk]; exact hk2)
    have HSRC := Lib.hid (fun j (hj : j < ns D t) => HWF.out.src ht hj)
    have hm2 := (HWF.out.ns2 ht).1
    have HFIN : Hid (∀ M : Nat → Bool, (∀ x, M x = true ↔ x = t ∨ ∃ j, j < (D.B t).n ∧ x < D.nb ∧ useR D (sr D t j) x = true) → ∀ x, x < D.nb → M x = P x) := fun M hM x hx9 => by
      rw [Bool.eq_iff_iff, hM x, HP.out x, hnn, hns]
      constructor
      · rintro (h | ⟨j, h1, _, h3⟩)
        · exact .inl h
        · exact .inr ⟨j, h1, h3⟩
      · rintro (h | ⟨j, h1, h3⟩)
        · exact .inl h
        · exact .inr ⟨j, h1, hx9, h3⟩
    rw [hns] at HSRC hm2
    have hk2n : (kk != 2) = true := by simp; omega
    have hk0n : (kk != 0) = true := by simp; omega
    clear hsk hkk hnn hns hk2 hk0
    generalize hnm : (D.B t).n = m at *
    go_wp2_with fail
    clear c0 c1 c2 x0 x1 x2 x3 x4 x5 hr1 hr2
    (try rw [← ha])
    clear ha
    have hml : (0 : Int) ≤ (m : Int) := by omega
    go_loopw [75] (fun s wr => ∃ (j : Nat) (M : Nat → Bool), j ≤ m ∧ s = I j ∧ Hid (DpM w5 wr w5.heap.size D.nb M) ∧ Hid (∀ x, M x = true ↔ x = t ∨ ∃ j', j' < j ∧ x < D.nb ∧ useR D (sr D t j') x = true)) (fun s _ => m - (intOf s).toNat)
    case atStart => exact ⟨0, fun x => x == t, Nat.zero_le _, rfl, HM0.out.to (Ext.alloc _ _), fun x => ⟨fun h => .inl (by simpa using h), fun h => by rcases h with h | ⟨j', hj', _⟩; simp [h]; omega⟩⟩
    case round =>
      obtain ⟨j, M, hj, rfl, H, HI⟩ := hrel
      by_cases hlt : j < m
      · have da := (HBK.out _ H.out.ext).args t ht
        rw [hnm] at da
        obtain ⟨b3, o3, ha3, hb3, hc3⟩ := da.1 (by omega)
        have xa := hc3 j hlt
        obtain ⟨s1, s2, _⟩ := HSRC.out j hlt
        rw [s1] at xa
        obtain ⟨c0, c1, c2⟩ := HBX.out _ (HX5.out.trans H.out.ext)
        have HUJ := Lib.hid (fun w' e => HU.out w' (sr D t j) e s2)
        have hlt' : (j : Int) < (m : Int) := by omega
        have HMU := Lib.hid (fun x => @mem_mkL D.nb (useR D (sr D t j)) x)
        have hgl := H.out.row.lt
        clear da hc3 s1
        have hLn : (mkL D.nb (useR D (sr D t j))).length ≤ D.nb := by rw [mkL_len]; exact cnt_le _ _
        generalize hLL : mkL D.nb (useR D (sr D t j)) = L at *
        go_wp2_with (go_at_call 18; (with_reducible refine (HUJ.out _ (HX5.out.trans H.out.ext)).mono ?_); rintro e6 w6 ⟨A6, k6, rfl, o6, h6⟩; have O6 := Lib.hid (o6.mono (by omega : w5.heap.size + 1 ≤ wr.heap.size)); have X6 := Lib.hid h6; clear o6 h6)
        clear c0 c1 c2 hLL
        have hLl : (0 : Int) ≤ (L.length : Int) := by omega
        go_loopw [89] (fun s wr => ∃ (q : Nat) (M' : Nat → Bool), q ≤ L.length ∧ s = I q ∧ Hid (DpM w5 wr w5.heap.size D.nb M') ∧ Hid (OwL wr (w5.heap.size + 1) A6 k6 L) ∧ Hid (∀ x, M' x = true ↔ M x = true ∨ ∃ t', t' < q ∧ L.getD t' 0 = x)) (fun s _ => L.length - (intOf s).toNat)
        case atStart => exact ⟨0, M, Nat.zero_le _, rfl, H.out.to X6.out, O6, fun x => ⟨fun h => .inl h, fun h => by rcases h with h | ⟨t', ht', _⟩; exact h; omega⟩⟩
        case round =>
          obtain ⟨q, M', hq, rfl, H2, HO, HI2⟩ := hrel
          by_cases hltq : q < L.length
          · obtain ⟨y, hy⟩ : ∃ y, L.getD q 0 = y := ⟨_, rfl⟩
            have hyn : y < D.nb := by
              have : y ∈ L := by rw [← hy, List.getD_eq_getElem?_getD, List.getElem?_eq_getElem hltq]; exact List.getElem_mem hltq
              exact ((HMU.out y).1 this).1
            obtain ⟨b6, o6, ha6, hb6, hc6⟩ := HO.out.ri (by omega)
            have xy : wr.cell? ⟨b6, o6 + q, none⟩ = some (I (y : Nat)) := by rw [← hy]; exact hc6 q hltq
            have hcell := H2.out.row.cell hyn
            have hfz := H2.out.row.frozen y
            have HPT := Lib.hid (H2.out.put y)
            have HOT := Lib.hid (HO.out.off (g := w5.heap.size) (set_gr wr w5.heap.size y (.bool true)) (by omega))
            have hyn' : ¬ (D.nb : Int) ≤ (y : Int) := by omega
            have hyn2 : (y : Int) < (D.nb : Int) := by omega
            have hltq' : (q : Int) < (L.length : Int) := by omega
            have HY := Lib.hid hy
            subst ha6
            clear hy hc6
            generalize hlenL : L.length = lL at *
            go_wp2_with fail
            (try rw [← ha3])
            go_roundw
            case rel => exact ⟨q + 1, _, by omega, by go_num, HPT, HOT, fun x => by
              show (if x = y then true else M' x) = true ↔ _
              by_cases e : x = y
              · subst e; rw [if_pos rfl]; exact ⟨fun _ => .inr ⟨q, by omega, HY.out⟩, fun _ => rfl⟩
              · rw [if_neg e, HI2.out x]
                constructor
                · rintro (h | ⟨t', h1, h2⟩)
                  · exact .inl h
                  · exact .inr ⟨t', by omega, h2⟩
                · rintro (h | ⟨t', h1, h2⟩)
                  · exact .inl h
                  · by_cases e2 : t' = q
                    · subst e2; rw [HY.out] at h2; exact absurd h2.symm e
                    · exact .inr ⟨t', by omega, h2⟩⟩
            case measure => simp [intOf]; omega
          · obtain rfl : q = L.length := by omega
            have HN : Hid (∀ x, M' x = true ↔ x = t ∨ ∃ j', j' < j + 1 ∧ x < D.nb ∧ useR D (sr D t j') x = true) := fun x => by
              have hm : (∃ t', t' < L.length ∧ L.getD t' 0 = x) ↔ x < D.nb ∧ useR D (sr D t j) x = true := by
                rw [← HMU.out x]
                constructor
                · rintro ⟨t', h1, h2⟩; rw [← h2, List.getD_eq_getElem?_getD, List.getElem?_eq_getElem h1]; exact List.getElem_mem h1
                · intro h; obtain ⟨t', h1, h2⟩ := List.getElem_of_mem h; exact ⟨t', h1, by rw [List.getD_eq_getElem?_getD, List.getElem?_eq_getElem h1]; exact h2⟩
              rw [HI2.out x, HI.out x, hm]
              constructor
              · rintro ((h | ⟨j', h1, h2⟩) | h)
                · exact .inl h
                · exact .inr ⟨j', by omega, h2⟩
                · exact .inr ⟨j, by omega, h⟩
              · rintro (h | ⟨j', h1, h2⟩)
                · exact .inl (.inl h)
                · by_cases e : j' = j
                  · subst e; exact .inr h2
                  · exact .inl (.inr ⟨j', by omega, h2⟩)
            go_wp2_with fail
            (try rw [← ha3])
            go_roundw
            case rel => exact ⟨j + 1, M', by omega, by go_num, H2, HN⟩
            case measure => simp [intOf]; omega
      · obtain rfl : j = m := by omega
        have HSTP : Hid (DpM w5 wr w5.heap.size D.nb P) := ⟨H.out.ext, H.out.old, H.out.row.congr fun x hx9 => by rw [HFIN.out M HI.out x hx9]⟩
        clear HFIN HSRC
        go_wp2_with fail
        go_loopw [16, 108] (fun s t wr => ∃ x : Nat, x ≤ D.nb ∧ s = I (cnt x P) ∧ t = I x ∧ Hid (DpM w5 wr w5.heap.size D.nb P)) (fun _ t _ => D.nb - (intOf t).toNat)
        case atStart => exact ⟨0, Nat.zero_le _, rfl, rfl, HSTP⟩
        case round =>
          obtain ⟨x, hx9, rfl, rfl, HY⟩ := hrel
          by_cases hltx : x < D.nb
          · have hcx := HY.out.row.cell hltx
            have hltx' : (x : Int) < (D.nb : Int) := by omega
            have hcnx := cnt_le x P
            cases hpx : P x with
            | false =>
              rw [hpx] at hcx
              have HCN : Hid (cnt (x + 1) P = cnt x P) := by show cnt x P + _ = _; rw [hpx]; rfl
              clear hpx
              generalize cnt x P = cx at *
              go_wp2_with fail
              go_roundw
              case rel => exact ⟨x + 1, by omega, by rw [HCN.out], by go_num, HY⟩
              case measure => simp [intOf]; omega
            | true =>
              rw [hpx] at hcx
              have HCN : Hid (cnt (x + 1) P = cnt x P + 1) := by show cnt x P + _ = _; rw [hpx]; rfl
              have hg := mkL_get hltx hpx
              have hlc : cnt x P < (mkL D.nb P).length := by
                rcases Nat.lt_or_ge (cnt x P) (mkL D.nb P).length with h | h
                · exact h
                · rw [List.getElem?_eq_none h] at hg; cases hg
              obtain ⟨b5, o5, ha5, hb5, hc5⟩ := (FU.out.ext HY.out.ext).1 (by omega)
              have xu : wr.cell? ⟨b5, o5 + cnt x P, none⟩ = some (I (((mkL D.nb P).getD (cnt x P) 0 : Nat) : Int)) := hc5 _ hlc
              rw [List.getD_eq_getElem?_getD, hg] at xu
              have xu' : wr.cell? ⟨b5, o5 + cnt x P, none⟩ = some (I (x : Nat)) := xu
              subst ha5
              have hlc' : ¬ ((mkL D.nb P).length : Int) ≤ (cnt x P : Int) := by omega
              have hlc2 : (cnt x P : Int) < ((mkL D.nb P).length : Int) := by omega
              have hxx : ((x : Int) == (x : Int)) = true := by simp
              clear hpx hg hc5 xu hlc
              generalize hcxx : cnt x P = cx at *
              clear hcxx
              generalize (mkL D.nb P).length = lu at *
              go_wp2_with fail
              go_roundw
              case rel => exact ⟨x + 1, by omega, by rw [HCN.out]; go_num, by go_num, HY⟩
              case measure => simp [intOf]; omega
          · obtain rfl : x = D.nb := by omega
            have hle : ((cnt D.nb P : Int) == ((mkL D.nb P).length : Int)) = true := by rw [mkL_len]; simp
            generalize (mkL D.nb P).length = lu at *
            generalize cnt D.nb P = cx at *
            go_wp2_with fail
            go_ret
            exact ⟨rfl, HE.out.trans (HX5.out.trans HY.out.ext)⟩

theorem depends_any {w : World} {D : Dia} {p : Pl} (d : Dm w D p) (hT : Tabs w) (i : Int) (h8 : 0 ≤ i ∧ i ≤ 255) : Calls Tryd.prog 10 #[dgv D p, .int .u8 i] w fun e w' => e = .returned (.bool true) ∧ Ext w w' := by
  by_cases h : litB D = false ∨ chk D ≠ 0
  · exact depends_off d hT i h
  · have hl : litB D = true := by
      cases q : litB D
      · exact absurd (.inl q) h
      · rfl
    have hk : chk D = 0 := Classical.byContradiction fun q => h (.inr q)
    rcases Nat.eq_zero_or_pos D.nb with h0 | h0
    · exact depends_none d hT i hl hk h0
    · exact depends_on d hT i h8.1 h8.2 hl hk h0
end Go.Proofs.YtgajibdmihdkcaaDoor
