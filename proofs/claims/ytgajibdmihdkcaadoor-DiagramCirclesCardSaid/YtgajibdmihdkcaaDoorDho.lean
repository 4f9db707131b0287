/- The law DiagramCircles: it returns true. -/
import Derived.Test.YtgajibdmihdkcaaDoorDhn
namespace Go.Proofs.YtgajibdmihdkcaaDoor
open Go Go.RowKit

theorem DpM.putv {W5 w : World} {gm nb : Nat} {M M' : Nat → Bool} (h : DpM W5 w gm nb M) (x : Nat) (v : Bool) (hM : ∀ i, M' i = if i = x then v else M i) : DpM W5 (w.setCell ⟨gm, x, none⟩ (.bool v)) gm nb M' :=
  ⟨h.ext.set h.old _, h.old, (h.row.set x (.bool v)).congr fun i _ => by rw [hM i]; by_cases q : i = x <;> simp [q]⟩
theorem anyN_s (n : Nat) (q : Nat → Bool) : anyN (n + 1) q = (anyN n q || q n) := by
  rw [Bool.eq_iff_iff, Bool.or_eq_true, anyN_iff, anyN_iff]
  constructor
  · rintro ⟨i, hi, h⟩
    by_cases e : i = n
    · subst e; exact .inr h
    · exact .inl ⟨i, by omega, h⟩
  · rintro (⟨i, hi, h⟩ | h)
    · exact ⟨i, by omega, h⟩
    · exact ⟨n, by omega, h⟩
theorem anyN_0 (q : Nat → Bool) : anyN 0 q = false := rfl
theorem openD_B {D : Dia} {S : Nat → Bool} (i : Nat) : (openD D S).B i = if S i = true then ⟨2, 1, (D.B i).a, 0, 0, 0, 0⟩ else D.B i := rfl
/-- The opened diagram's blocks, while they are listed. -/
structure CcM (W6 w : World) (go : Nat) (D : Dia) (p : Pl) (S : Nat → Bool) (A : Option Addr) (c i : Nat) : Prop where
  ext : Ext W6 w
  old : W6.heap.size = go
  c0 : w.cell? ⟨go, 0, none⟩ = some (.slice p.AI D.ni p.cI)
  c1 : w.cell? ⟨go, 1, none⟩ = some (.slice A i c)
  c2 : w.cell? ⟨go, 2, none⟩ = some (.slice p.AO D.no p.cO)
  fz : w.frozen? ⟨go, 1, none⟩ = false
  own : OwB w (go + 1) A c (openD D S) p i
theorem CcM.lt {W6 w : World} {go : Nat} {D : Dia} {p : Pl} {S : Nat → Bool} {A : Option Addr} {c i : Nat} (h : CcM W6 w go D p S A c i) : go < w.heap.size := World.block_lt_of_cell? w _ h.c0
theorem CcM.step {W6 w wb w' : World} {go g cap : Nat} {D : Dia} {p : Pl} {S : Nat → Bool} {A : Option Addr} {c i : Nat} (h : CcM W6 w go D p S A c i) (e : Ext w wb) (o : OwB w' (go + 1) (some ⟨g, 0, none⟩) cap (openD D S) p (i + 1))
    (hg : wb.grownBy w' (Value.slice A i c).ownBlock) : CcM W6 (w'.setCell ⟨go, 1, none⟩ (.slice (some ⟨g, 0, none⟩) (i + 1) cap)) go D p S (some ⟨g, 0, none⟩) cap (i + 1) ∧ w'.frozen? ⟨go, 1, none⟩ = false ∧ ∀ j v, w.cell? ⟨go, j, none⟩ = some v → w'.cell? ⟨go, j, none⟩ = some v := by
  have hlt := h.lt
  have hob : ∀ k, (Value.slice A i c).ownBlock = some k → go + 1 ≤ k := fun k hk => (h.own.lt k hk).1
  have hne : some go ≠ (Value.slice A i c).ownBlock := fun q => by have := hob go q.symm; omega
  have hb : wb.heap[go]? = w.heap[go]? := e.block go hlt
  have hb2 : w'.heap[go]? = wb.heap[go]? := hg.block go (Nat.lt_of_lt_of_le hlt e.size) hne
  have hcell : ∀ j v, w.cell? ⟨go, j, none⟩ = some v → w'.cell? ⟨go, j, none⟩ = some v := fun j v hv => by
    rw [← hv]; exact World.cell?_of_block (a := ⟨go, j, none⟩) (hb2.trans hb)
  have hfz : w'.frozen? ⟨go, 1, none⟩ = false := by rw [← h.fz]; exact World.frozen?_of_block (a := ⟨go, 1, none⟩) (hb2.trans hb)
  have ext' : Ext W6 w' := growB_ext (h.ext.trans e) (h.own.ext e) (by have := h.old; omega) hg
  refine ⟨⟨ext'.set (show W6.heap.size ≤ go by have := h.old; omega) _, h.old, ?_, World.cell?_setCell_same _ _ _ (hcell 1 _ h.c1), ?_, by rw [World.frozen?_setCell]; exact hfz, o.off (set_gr _ _ _ _) (by omega)⟩, hfz, hcell⟩
  · rw [World.cell?_setCell_other _ _ _ _ (by intro q; injection q with q1 q2; omega)]; exact hcell 0 _ h.c0
  · rw [World.cell?_setCell_other _ _ _ _ (by intro q; injection q with q1 q2; omega)]; exact hcell 2 _ h.c2
theorem CcM.dm {w W6 : World} {go : Nat} {D : Dia} {p : Pl} {S : Nat → Bool} {A : Option Addr} {c : Nat} (h : CcM W6 w go D p S A c D.nb) (d : Dm w D p) (hn : ∀ i, i < D.nb → S i = true → 1 ≤ (D.B i).n) : Dm w (openD D S) { p with AB := A, cB := c } where
  ports := d.ports
  blocks := fun h0 => by
    obtain ⟨g, hA, hg, hc⟩ := h.own.at_ h0
    refine ⟨g, 0, hA, hg, fun i hi => ?_⟩
    rw [Nat.zero_add]
    exact ⟨hc i 0 hi (by omega), hc i 1 hi (by omega), hc i 2 hi (by omega), hc i 3 hi (by omega), hc i 4 hi (by omega), hc i 5 hi (by omega)⟩
  args := fun i hi => by
    obtain ⟨r, hm⟩ := d.args i hi
    rw [openD_B]
    show Ri w (p.AA i) _ _ ∧ _
    cases q : S i with
    | false => rw [if_neg (by decide)]; exact ⟨r, hm⟩
    | true =>
      rw [if_pos rfl]
      have h1 := hn i hi q
      refine ⟨fun _ => ?_, by show 1 ≤ maxLen; unfold maxLen; omega⟩
      obtain ⟨b, o, e, hb, hc⟩ := r (by omega)
      exact ⟨b, o, e, hb, fun k hk => hc k (by have : k < 1 := hk; omega)⟩
  outs := d.outs
  li := d.li
  lb := d.lb
  lo := d.lo
  nA := d.nA
  nO := d.nO
  nI := d.nI

theorem news6 {w : World} {g : Nat} {a0 a1 a2 a3 a4 a5 : Value} {t : TypeId} (hg : g = w.heap.size) (j : Nat) (u : Value) (h : [a0, a1, a2, a3, a4, a5][j]? = some u) : (w.alloc (.cells #[a0, a1, a2, a3, a4, a5] t)).cell? ((⟨g, 0, none⟩ : Addr).add j) = some u := by
  subst hg
  match j, h with
  | 0, h => simp at h; subst h; go_simp
  | 1, h => simp at h; subst h; go_simp
  | 2, h => simp at h; subst h; go_simp
  | 3, h => simp at h; subst h; go_simp
  | 4, h => simp at h; subst h; go_simp
  | 5, h => simp at h; subst h; go_simp
  | k + 6, h => simp at h

set_option maxRecDepth 100000 in
set_option maxHeartbeats 8000000 in
theorem circles_off {w : World} {D : Dia} {p : Pl} (d : Dm w D p) (hT : Tabs w) (h : litB D = false ∨ chk D ≠ 24) : Calls Tryd.prog 8 #[dgv D p] w fun e w' => e = .returned (.bool true) ∧ Ext w w' := by
  obtain ⟨W1, hW1⟩ : ∃ W1, W1 = w.alloc (.cells #[.slice p.AI D.ni p.cI, .slice p.AB D.nb p.cB, .slice p.AO D.no p.cO] 26) := ⟨_, rfl⟩
  have hE : Ext w W1 := by rw [hW1]; exact Ext.alloc _ _
  have hz1 : W1.heap.size = w.heap.size + 1 := by rw [hW1]; simp
  have HZ1 := Lib.hid hz1; clear hz1
  have HBD : Hid (Bd W1 w.heap.size D p) := by show Bd _ _ _ _; rw [hW1]; exact Bd.new _ _ _ _
  have HBX : Hid (∀ w', Ext W1 w' → w'.cell? ⟨w.heap.size, 0, none⟩ = some (.slice p.AI D.ni p.cI) ∧ w'.cell? ⟨w.heap.size, 1, none⟩ = some (.slice p.AB D.nb p.cB) ∧ w'.cell? ⟨w.heap.size, 2, none⟩ = some (.slice p.AO D.no p.cO)) := fun w' e => by
    have a := HBD.out.ext e; exact ⟨a.c0, a.c1, a.c2⟩
  have HA : Hid (∀ w', Ext W1 w' → Calls Tryd.prog 11 #[] w' fun e w'' => e = .returned (.bool true) ∧ Ext w' w'') := fun w' e => awake_any w' (hT.ext (hE.trans e))
  have HL : Hid (∀ w', Ext W1 w' → Calls Tryd.prog 12 #[dgv D p] w' fun e w'' => e = .returned (.bool (litB D)) ∧ Ext w' w'') := fun w' e => light_any (d.ext (hE.trans e))
  have HRC : Hid (∀ w', Ext W1 w' → Calls Tryd.prog 13 #[dgv D p] w' fun e w'' => e = .returned (I (chk D)) ∧ Ext w' w'') := fun w' e => rcheck_any (d.ext (hE.trans e)) (hT.ext (hE.trans e))
  have HC : Hid (∀ w', Ext W1 w' → Calls Tryd.prog 15 #[dgv D p] w' fun e w'' => e = .returned (errv (chk D)) ∧ Ext w' w'') := fun w' e => check_any (d.ext (hE.trans e)) (hT.ext (hE.trans e))
  have HE := Lib.hid hE
  have HDT : Hid (Dm w D p ∧ Tabs w) := ⟨d, hT⟩
  have hx : Ext W1 W1 := Ext.refl _
  obtain ⟨c0, c1, c2⟩ := HBX.out _ hx
  clear d hT hE HBD
  cases hl : litB D with
  | false =>
    rw [hl] at HL
    clear h hl
    rw [hW1] at c0 c1 c2
    go_enter Tryd.func8, Tryd.ntmps8
    go_upto_region 1 with fail
    rw [← hW1] at c0 c1 c2
    rw [← hW1]
    clear hW1
    go_wp2_with (first
      | (go_at_call 11; (with_reducible refine (HA.out _ hx).mono ?_); rintro e1 w1 ⟨rfl, h1⟩; replace hx := hx.trans h1; clear h1 c0 c1 c2; obtain ⟨c0, c1, c2⟩ := HBX.out _ hx)
      | (go_at_call 12; (with_reducible refine (HL.out _ hx).mono ?_); rintro e1 w1 ⟨rfl, h1⟩; replace hx := hx.trans h1; clear h1 c0 c1 c2; obtain ⟨c0, c1, c2⟩ := HBX.out _ hx)
      | (go_at_call 13; (with_reducible refine (HRC.out _ hx).mono ?_); rintro e1 w1 ⟨rfl, h1⟩; replace hx := hx.trans h1; clear h1 c0 c1 c2; obtain ⟨c0, c1, c2⟩ := HBX.out _ hx)
      | (go_at_call 15; (with_reducible refine (HC.out _ hx).mono ?_); rintro e1 w1 ⟨rfl, h1⟩; replace hx := hx.trans h1; clear h1 c0 c1 c2; obtain ⟨c0, c1, c2⟩ := HBX.out _ hx))
    go_ret
    exact ⟨rfl, HE.out.trans hx⟩
  | true =>
    rw [hl] at HL
    have hk : chk D ≠ 24 := by rcases h with h | h; rw [hl] at h; cases h; exact h
    clear h hl
    by_cases h0 : chk D = 0
    · rw [h0, errv_z] at HC
      have HI := Lib.hid (is_nil 24)
      clear hk h0
      rw [hW1] at c0 c1 c2
      go_enter Tryd.func8, Tryd.ntmps8
      go_upto_region 1 with fail
      rw [← hW1] at c0 c1 c2
      rw [← hW1]
      clear hW1
      go_wp2_with (first
        | (go_at_call 11; (with_reducible refine (HA.out _ hx).mono ?_); rintro e1 w1 ⟨rfl, h1⟩; replace hx := hx.trans h1; clear h1 c0 c1 c2; obtain ⟨c0, c1, c2⟩ := HBX.out _ hx)
        | (go_at_call 12; (with_reducible refine (HL.out _ hx).mono ?_); rintro e1 w1 ⟨rfl, h1⟩; replace hx := hx.trans h1; clear h1 c0 c1 c2; obtain ⟨c0, c1, c2⟩ := HBX.out _ hx)
        | (go_at_call 13; (with_reducible refine (HRC.out _ hx).mono ?_); rintro e1 w1 ⟨rfl, h1⟩; replace hx := hx.trans h1; clear h1 c0 c1 c2; obtain ⟨c0, c1, c2⟩ := HBX.out _ hx)
        | (go_at_call 15; (with_reducible refine (HC.out _ hx).mono ?_); rintro e1 w1 ⟨rfl, h1⟩; replace hx := hx.trans h1; clear h1 c0 c1 c2; obtain ⟨c0, c1, c2⟩ := HBX.out _ hx)
        | (go_at_call 26; (with_reducible refine (HI.out _).mono ?_); rintro e1 w1 ⟨rfl, h1⟩; replace hx := hx.trans h1; clear h1 c0 c1 c2; obtain ⟨c0, c1, c2⟩ := HBX.out _ hx))
      go_ret
      exact ⟨rfl, HE.out.trans hx⟩
    · rw [errv_n h0] at HC
      have HI := Lib.hid (is_err (chk D) 24)
      rw [decide_eq_false hk] at HI
      clear hk h0
      generalize chk D = k at *
      rw [hW1] at c0 c1 c2
      go_enter Tryd.func8, Tryd.ntmps8
      go_upto_region 1 with fail
      rw [← hW1] at c0 c1 c2
      rw [← hW1]
      clear hW1
      go_wp2_with (first
        | (go_at_call 11; (with_reducible refine (HA.out _ hx).mono ?_); rintro e1 w1 ⟨rfl, h1⟩; replace hx := hx.trans h1; clear h1 c0 c1 c2; obtain ⟨c0, c1, c2⟩ := HBX.out _ hx)
        | (go_at_call 12; (with_reducible refine (HL.out _ hx).mono ?_); rintro e1 w1 ⟨rfl, h1⟩; replace hx := hx.trans h1; clear h1 c0 c1 c2; obtain ⟨c0, c1, c2⟩ := HBX.out _ hx)
        | (go_at_call 13; (with_reducible refine (HRC.out _ hx).mono ?_); rintro e1 w1 ⟨rfl, h1⟩; replace hx := hx.trans h1; clear h1 c0 c1 c2; obtain ⟨c0, c1, c2⟩ := HBX.out _ hx)
        | (go_at_call 15; (with_reducible refine (HC.out _ hx).mono ?_); rintro e1 w1 ⟨rfl, h1⟩; replace hx := hx.trans h1; clear h1 c0 c1 c2; obtain ⟨c0, c1, c2⟩ := HBX.out _ hx)
        | (go_at_call 26; (with_reducible refine (HI.out _).mono ?_); rintro e1 w1 ⟨rfl, h1⟩; replace hx := hx.trans h1; clear h1 c0 c1 c2; obtain ⟨c0, c1, c2⟩ := HBX.out _ hx))
      go_ret
      exact ⟨rfl, HE.out.trans hx⟩

set_option maxRecDepth 100000 in
set_option maxHeartbeats 16000000 in
theorem circles_on {w : World} {D : Dia} {p : Pl} (d : Dm w D p) (hT : Tabs w) (hcp : CapD D p) (hl : litB D = true) (hk : chk D = 24) : Calls Tryd.prog 8 #[dgv D p] w fun e w' => e = .returned (.bool true) ∧ Ext w w' := by
  obtain ⟨W1, hW1⟩ : ∃ W1, W1 = w.alloc (.cells #[.slice p.AI D.ni p.cI, .slice p.AB D.nb p.cB, .slice p.AO D.no p.cO] 26) := ⟨_, rfl⟩
  have hE : Ext w W1 := by rw [hW1]; exact Ext.alloc _ _
  have hz1 : W1.heap.size = w.heap.size + 1 := by rw [hW1]; simp
  have HZ1 := Lib.hid hz1; clear hz1
  have HBD : Hid (Bd W1 w.heap.size D p) := by show Bd _ _ _ _; rw [hW1]; exact Bd.new _ _ _ _
  have HBX : Hid (∀ w', Ext W1 w' → w'.cell? ⟨w.heap.size, 0, none⟩ = some (.slice p.AI D.ni p.cI) ∧ w'.cell? ⟨w.heap.size, 1, none⟩ = some (.slice p.AB D.nb p.cB) ∧ w'.cell? ⟨w.heap.size, 2, none⟩ = some (.slice p.AO D.no p.cO)) := fun w' e => by
    have a := HBD.out.ext e; exact ⟨a.c0, a.c1, a.c2⟩
  have HA : Hid (∀ w', Ext W1 w' → Calls Tryd.prog 11 #[] w' fun e w'' => e = .returned (.bool true) ∧ Ext w' w'') := fun w' e => awake_any w' (hT.ext (hE.trans e))
  have HL : Hid (∀ w', Ext W1 w' → Calls Tryd.prog 12 #[dgv D p] w' fun e w'' => e = .returned (.bool (litB D)) ∧ Ext w' w'') := fun w' e => light_any (d.ext (hE.trans e))
  have HRC : Hid (∀ w', Ext W1 w' → Calls Tryd.prog 13 #[dgv D p] w' fun e w'' => e = .returned (I (chk D)) ∧ Ext w' w'') := fun w' e => rcheck_any (d.ext (hE.trans e)) (hT.ext (hE.trans e))
  have HC : Hid (∀ w', Ext W1 w' → Calls Tryd.prog 15 #[dgv D p] w' fun e w'' => e = .returned (errv (chk D)) ∧ Ext w' w'') := fun w' e => check_any (d.ext (hE.trans e)) (hT.ext (hE.trans e))
  have HE := Lib.hid hE
  have HDT : Hid (Dm w D p ∧ Tabs w) := ⟨d, hT⟩
  have hx : Ext W1 W1 := Ext.refl _
  obtain ⟨c0, c1, c2⟩ := HBX.out _ hx
  clear d hT hE HBD
  have HCY := Lib.hid (chk_Cyc hk)
  have hnb := HCY.out.nb
  rw [hl] at HL
  rw [hk, errv_n (by omega)] at HC
  have HI := Lib.hid (is_err 24 24)
  rw [show decide ((24 : Int) = 24) = true from rfl] at HI
  have hmk := run_make_row' 55 4 (.bool false) 1 Tryd.underlying55 infoB rfl .i64 .i64 D.nb (by omega) (by omega)
  have HCP := Lib.hid hcp
  have hlit : (0 : Int) ≤ (D.nb : Int) := by omega
  clear hk hl hcp
  rw [hW1] at c0 c1 c2
  go_enter Tryd.func8, Tryd.ntmps8
  go_upto_region 1 with fail
  rw [← hW1] at c0 c1 c2
  rw [← hW1]
  clear hW1
  go_upto_region 3 with (first
    | (go_at_call 11; (with_reducible refine (HA.out _ hx).mono ?_); rintro e1 w1 ⟨rfl, h1⟩; replace hx := hx.trans h1; clear h1 c0 c1 c2; obtain ⟨c0, c1, c2⟩ := HBX.out _ hx)
    | (go_at_call 12; (with_reducible refine (HL.out _ hx).mono ?_); rintro e1 w1 ⟨rfl, h1⟩; replace hx := hx.trans h1; clear h1 c0 c1 c2; obtain ⟨c0, c1, c2⟩ := HBX.out _ hx)
    | (go_at_call 13; (with_reducible refine (HRC.out _ hx).mono ?_); rintro e1 w1 ⟨rfl, h1⟩; replace hx := hx.trans h1; clear h1 c0 c1 c2; obtain ⟨c0, c1, c2⟩ := HBX.out _ hx)
    | (go_at_call 15; (with_reducible refine (HC.out _ hx).mono ?_); rintro e1 w1 ⟨rfl, h1⟩; replace hx := hx.trans h1; clear h1 c0 c1 c2; obtain ⟨c0, c1, c2⟩ := HBX.out _ hx)
    | (go_at_call 26; (with_reducible refine (HI.out _).mono ?_); rintro e1 w5 ⟨rfl, h1⟩; replace hx := hx.trans h1; clear h1 c0 c1 c2; obtain ⟨c0, c1, c2⟩ := HBX.out _ hx))
  have HX5 := Lib.hid hx
  have HDD : Hid (∀ w', Ext w5 w' → Dm w' D p) := fun w' e => HDT.out.1.ext (HE.out.trans (HX5.out.trans e))
  obtain ⟨gm, hgm⟩ : ∃ gm, w5.heap.size = gm := ⟨_, rfl⟩
  have HM0 : Hid (DpM w5 (w5.alloc (.cells (madeCells #[.bool false] D.nb) 4)) gm D.nb (fun _ => false)) := ⟨Ext.alloc _ _, by omega, rowIs_made' w5 (.bool false) D.nb 4 hgm.symm⟩
  have hbx := HBX.out _ (HX5.out.trans HM0.out.ext)
  clear c0 c1 c2
  have c012 := HBX.out _ HX5.out
  obtain ⟨c0, c1, c2⟩ := c012
  have hz5 : w.heap.size < w5.heap.size := World.block_lt_of_cell? w5 _ c0
  have hne : ¬ w.heap.size = gm := by omega
  clear HA HL HC HRC HI hx
  go_upto_region 5 with fail
  obtain ⟨d0, d1, d2⟩ := hbx
  clear c0 c1 c2 hmk hz5
  go_wp2_with fail
  clear d0 d1 d2
  go_loopw [38] (fun s wr => ∃ (i : Nat) (M : Nat → Bool), i ≤ D.nb ∧ s = I i ∧ Hid (DpM w5 wr gm D.nb M) ∧ Hid (∀ x, x < i → M x = !isD D x)) (fun s _ => D.nb - (intOf s).toNat)
  case atStart => exact ⟨0, _, Nat.zero_le _, rfl, HM0, fun x hx => absurd hx (by omega)⟩
  case round =>
    clear HM0
    obtain ⟨i, M, hi, rfl, H, HK⟩ := hrel
    by_cases hlt : i < D.nb
    · have dd := HDD.out wr H.out.ext
      obtain ⟨b, o, ha, hba, hc⟩ := dd.blocks (by omega)
      obtain ⟨x0, x1, x2, x3, x4, x5⟩ := hc i hlt
      have hgl := H.out.row.lt
      have hmi := H.out.row.cell hlt
      have hfz := H.out.row.frozen i
      have hlt' : (i : Int) < (D.nb : Int) := by omega
      have hn2 := (HCY.out.toWF.ns2 hlt).2
      have HAG := Lib.hid (fun j hj => HCY.out.arg i hlt j hj)
      have hcb : cntB D (D.B i) = if (D.B i).k = 0 then (D.ni : Int) else D.nb := rfl
      rw [hcb] at HAG
      have hkd : ((D.B i).k != 2) = !isD D i := rfl
      obtain ⟨M2, hM2⟩ : ∃ M2, M2 = (fun x => if x = i then !isD D i else M x) := ⟨_, rfl⟩
      have HPV := Lib.hid (fun v hv => H.out.putv (M' := M2) i v hv)
      have HK2 : Hid (∀ x, x < i + 1 → (if x = i then !isD D i else M x) = !isD D x) := fun x hx => by
        by_cases e : x = i
        · subst e; rw [if_pos rfl]
        · rw [if_neg e]; exact HK.out x (by omega)
      have HK3 : Hid (∀ x, x < i + 1 → M2 x = !isD D x) := fun x hx => by rw [hM2]; exact HK2.out x hx
      have HM2 : Hid (∀ x, M2 x = if x = i then !isD D i else M x) := fun x => by rw [hM2]
      clear hM2 hc dd hcb HK2
      generalize hkk : (D.B i).k = kk at *
      by_cases hk0 : kk = 0
      · have hi2 : isD D i = false := by show ((D.B i).k == 2) = false; rw [hkk, hk0]; rfl
        subst hk0
        have HP := Lib.hid (HPV.out true (fun x => by rw [HM2.out x, hi2]; rfl))
        clear hi2 hkk hkd HAG
        go_wp2_with fail
        (try rw [← ha])
        go_roundw
        case rel => exact ⟨i + 1, M2, by omega, by go_num, HP.out.to (Ext.alloc _ _), HK3⟩
        case measure => simp [intOf]; omega
      · have g0 : (kk == 0) = false := by simpa using hk0
        rw [if_neg hk0] at HAG
        cases hi2 : isD D i
        all_goals
          rw [hi2] at hkd HM2
          first
            | have HP := Lib.hid (HPV.out true (fun x => HM2.out x))
            | have HP := Lib.hid (HPV.out false (fun x => HM2.out x))
          clear hi2 hkk hk0
          generalize hnn : (D.B i).n = n at *
          go_wp2_with fail
          have HP2 := Lib.hid (HP.out.to (Ext.alloc _ (.cells #[I kk, .slice (p.AA i) n (p.cA i), I (D.B i).vn, I (D.B i).ve, I (D.B i).un, I (D.B i).ue] 53)))
          clear x0 x1 x2 x3 x4 x5 hmi hfz
          go_loopw [8, 55] (fun _ s wz => ∃ j : Nat, j ≤ n ∧ s = I j ∧ Hid (DpM w5 wz gm D.nb M2)) (fun _ s _ => n - (intOf s).toNat)
          case atStart => exact ⟨0, Nat.zero_le _, rfl, HP2⟩
          case round =>
            obtain ⟨j, hj, rfl, H3⟩ := hrel
            by_cases hltj : j < n
            · obtain ⟨b3, o3, ha3, hb3, hc3⟩ := ((HDD.out wr H3.out.ext).args i hlt).1 (by omega)
              have xa := hc3 j (by omega)
              obtain ⟨hA0, hA1⟩ := HAG.out j hltj
              have hA2 : ¬ (D.B i).a j < 0 := by omega
              have hA3 : ¬ (D.nb : Int) ≤ (D.B i).a j := by omega
              obtain ⟨c0, c1, c2⟩ := HBX.out wr (HX5.out.trans H3.out.ext)
              have hltj' : (j : Int) < (n : Int) := by omega
              clear hc3
              generalize (D.B i).a j = av at *
              go_wp2_with fail
              (try rw [← ha3])
              go_roundw
              case rel => (first | exact ⟨j + 1, by omega, by go_num, H3⟩ | (refine ⟨_, _, _, ⟨j + 1, by omega, ?_⟩, rfl, rfl, rfl⟩; go_num))
              case measure => simp [intOf]; omega
            · obtain rfl : j = n := by omega
              go_wp2_with fail
              (try rw [← ha])
              go_roundw
              case rel => exact ⟨i + 1, M2, by omega, by go_num, H3, HK3⟩
              case measure => simp [intOf]; omega
    · obtain rfl : i = D.nb := by omega
      have HL0 := Lib.hid (Lft.start HK.out)
      obtain ⟨c0, c1, c2⟩ := HBX.out wr (HX5.out.trans H.out.ext)
      go_wp2_with fail
      clear c0 c1 c2
      go_loopw [73] (fun s wr => ∃ (r : Nat) (M : Nat → Bool), r ≤ D.nb ∧ s = I r ∧ Hid (DpM w5 wr gm D.nb M) ∧ Hid (Lft D M r)) (fun s _ => D.nb - (intOf s).toNat)
      case atStart => exact ⟨0, M, Nat.zero_le _, rfl, H, HL0⟩
      case round =>
        clear H HK HL0
        obtain ⟨r, M0, hr, rfl, H1, HK1⟩ := hrel
        obtain ⟨c0, c1, c2⟩ := HBX.out wr (HX5.out.trans H1.out.ext)
        by_cases hltr : r < D.nb
        · have hltr' : (r : Int) < (D.nb : Int) := by omega
          go_wp2_with fail
          clear c0 c1 c2
          go_loopw [78] (fun s wr => ∃ (i : Nat) (M : Nat → Bool), i ≤ D.nb ∧ s = I i ∧ Hid (DpM w5 wr gm D.nb M) ∧ Hid (LftI D M0 M i)) (fun s _ => D.nb - (intOf s).toNat)
          case atStart => exact ⟨0, M0, Nat.zero_le _, rfl, H1, HK1.out.go⟩
          case round =>
            obtain ⟨i, M, hi, rfl, H, HK⟩ := hrel
            by_cases hlt : i < D.nb
            · have dd := HDD.out wr H.out.ext
              obtain ⟨b, o, ha, hba, hc⟩ := dd.blocks (by omega)
              obtain ⟨x0, x1, x2, x3, x4, x5⟩ := hc i hlt
              have hgl := H.out.row.lt
              have hmi := H.out.row.cell hlt
              have hfz := H.out.row.frozen i
              have hlt' : (i : Int) < (D.nb : Int) := by omega
              have hn2 := (HCY.out.toWF.ns2 hlt).2
              have HSRC := Lib.hid (fun j (hj : j < ns D i) => HCY.out.toWF.src hlt hj)
              have hns0 : ns D i = if (D.B i).k = 0 then 0 else (D.B i).n := rfl
              obtain ⟨M2, hM2⟩ : ∃ M2, M2 = (fun x => if x = i then M i && anyN (ns D i) (fun j => M (sr D i j)) else M x) := ⟨_, rfl⟩
              have HM2 : Hid (∀ x, M2 x = if x = i then M i && anyN (ns D i) (fun j => M (sr D i j)) else M x) := fun x => by rw [hM2]
              have HNX := Lib.hid (HK.out.next HCY.out.toWF hlt HM2.out)
              clear hM2 hc dd
              generalize (D.B i).k = kk at *
              by_cases hk0 : kk = 0
              · have g0 : (kk != 0) = false := by simp [hk0]
                rw [if_pos hk0] at hns0
                rw [hns0, anyN_0, Bool.and_false] at HM2
                have HP := Lib.hid (H.out.putv i false HM2.out)
                clear hns0 hk0 HSRC
                cases hm : M i
                all_goals
                  rw [hm] at hmi
                  clear hm
                  go_wp2_with fail
                  (try rw [← ha])
                  go_roundw
                  case rel => exact ⟨i + 1, M2, by omega, by go_num, HP.out.to (Ext.alloc _ _), HNX⟩
                  case measure => simp [intOf]; omega
              · have g0 : (kk != 0) = true := by simp [hk0]
                rw [if_neg hk0] at hns0
                rw [hns0] at HM2 HSRC
                clear hns0 hk0
                generalize hnn : (D.B i).n = n at *
                go_wp2_with fail
                have HP2 := Lib.hid (H.out.to (Ext.alloc _ (.cells #[I kk, .slice (p.AA i) n (p.cA i), I (D.B i).vn, I (D.B i).ve, I (D.B i).un, I (D.B i).ue] 53)))
                clear x0 x1 x2 x3 x4 x5 hmi hfz H
                go_loopw [11, 13, 89] (fun l _ s wz => ∃ k : Nat, k ≤ n ∧ l = .bool (anyN k (fun j => M (sr D i j))) ∧ s = I k ∧ Hid (DpM w5 wz gm D.nb M)) (fun _ _ s _ => n - (intOf s).toNat)
                case atStart => exact ⟨0, Nat.zero_le _, rfl, rfl, HP2⟩
                case round =>
                  obtain ⟨k, hk, rfl, rfl, H3⟩ := hrel
                  by_cases hltk : k < n
                  · obtain ⟨b3, o3, ha3, hb3, hc3⟩ := ((HDD.out wr H3.out.ext).args i hlt).1 (by omega)
                    have xa := hc3 k (by omega)
                    obtain ⟨s1, s2, _⟩ := HSRC.out k hltk
                    rw [s1] at xa
                    have hcell := H3.out.row.cell s2
                    have hs2 : ((sr D i k : Nat) : Int) < (D.nb : Int) := by omega
                    have hltk' : (k : Int) < (n : Int) := by omega
                    have HAS : Hid (anyN (k + 1) (fun j => M (sr D i j)) = (anyN k (fun j => M (sr D i j)) || M (sr D i k))) := anyN_s k (fun j => M (sr D i j))
                    clear hc3 s1
                    cases hv : anyN k (fun j => M (sr D i j)) with
                    | true =>
                      rw [hv, Bool.true_or] at HAS
                      clear hv
                      go_wp2_with fail
                      (try rw [← ha3])
                      go_roundw
                      case rel =>
                        (first
                          | exact ⟨k + 1, by omega, by rw [HAS.out], by go_num, H3⟩
                          | (refine ⟨_, _, _, ⟨k + 1, by omega, ?_, ?_⟩, rfl, rfl, rfl⟩; · rw [HAS.out]; · go_num))
                      case measure => simp [intOf]; omega
                    | false =>
                      rw [hv, Bool.false_or] at HAS
                      clear hv
                      generalize M (sr D i k) = mk at *
                      go_wp2_with fail
                      (try rw [← ha3])
                      go_roundw
                      case rel =>
                        (first
                          | exact ⟨k + 1, by omega, by rw [HAS.out], by go_num, H3⟩
                          | (refine ⟨_, _, _, ⟨k + 1, by omega, ?_, ?_⟩, rfl, rfl, rfl⟩; · rw [HAS.out]; · go_num))
                      case measure => simp [intOf]; omega
                  · obtain rfl : k = n := by omega
                    have hmi := H3.out.row.cell hlt
                    have hfz := H3.out.row.frozen i
                    generalize anyN k (fun j => M (sr D i j)) = v at *
                    cases hm : M i
                    all_goals
                      rw [hm] at hmi HM2
                      first
                        | (rw [Bool.true_and] at HM2; have HP := Lib.hid (H3.out.putv i v HM2.out))
                        | (rw [Bool.false_and] at HM2; have HP := Lib.hid (H3.out.putv i false HM2.out))
                      clear hm
                      go_wp2_with fail
                      (try rw [← ha])
                      go_roundw
                      case rel => exact ⟨i + 1, M2, by omega, by go_num, HP, HNX⟩
                      case measure => simp [intOf]; omega
            · obtain rfl : i = D.nb := by omega
              have HK3 := Lib.hid (HK.out.end_ HCY.out.toWF HK1.out)
              go_wp2_with fail
              go_roundw
              case rel => exact ⟨r + 1, M, by omega, by go_num, H, HK3⟩
              case measure => simp [intOf]; omega
        · obtain rfl : r = D.nb := by omega
          have HSO := Lib.hid (left_some HCY.out HK1.out)
          have HOPEN := Lib.hid (open_ok HCY.out HK1.out)
          have HCL := Lib.hid HK1.out.fin
          have hz := H1.out.ext.size
          have hwz : w.heap.size < wr.heap.size := World.block_lt_of_cell? wr _ c0
          have hne2 : ¬ w.heap.size = wr.heap.size := by omega
          have hgl := H1.out.row.lt
          obtain ⟨W6, hW6⟩ : ∃ W6, W6 = wr := ⟨_, rfl⟩
          obtain ⟨go, hgo⟩ : ∃ go, W6.heap.size = go := ⟨_, rfl⟩
          have HC0 : Hid (CcM W6 (W6.alloc (.cells #[.slice p.AI D.ni p.cI, .slice none 0 0, .slice p.AO D.no p.cO] 26)) go D p M0 none 0 0) :=
            ⟨Ext.alloc _ _, hgo, by rw [← hgo]; go_simp, by rw [← hgo]; go_simp, by rw [← hgo]; go_simp, by rw [← hgo]; go_simp, OwB.nil _ _ _ _⟩
          have hcc := HBX.out _ (HX5.out.trans (H1.out.ext.trans (Ext.alloc wr (.cells #[.slice p.AI D.ni p.cI, .slice none 0 0, .slice p.AO D.no p.cO] 26))))
          rw [← hW6] at H1 hcc
          have HR6 := Lib.hid H1.out
          subst hW6
          go_upto_region 33 with fail
          (try rw [hgo])
          obtain ⟨d0, d1, d2⟩ := hcc
          clear c0 c1 c2 hne2 hwz
          go_wp2_with fail
          clear d0 d1 d2
          have HGO := Lib.hid hgo
          go_loopw [4, 121] (fun sm s wz => ∃ (A : Option Addr) (c i : Nat), i ≤ D.nb ∧ sm = .bool (anyN i M0) ∧ s = I i ∧ Hid (CcM W6 wz go D p M0 A c i)) (fun _ s _ => D.nb - (intOf s).toNat)
          case atStart => exact ⟨none, 0, 0, Nat.zero_le _, rfl, rfl, HC0⟩
          case round =>
            clear HC0
            obtain ⟨A, c, i, hi, rfl, rfl, H6⟩ := hrel
            by_cases hlt : i < D.nb
            · have dd := HDD.out wr (HR6.out.ext.trans H6.out.ext)
              obtain ⟨b, o, ha, hba, hc⟩ := dd.blocks (by omega)
              obtain ⟨x0, x1, x2, x3, x4, x5⟩ := hc i hlt
              have hrow := (HR6.out.to H6.out.ext).row
              have hgl6 := hrow.lt
              have hmi := hrow.cell hlt
              have hlt' : (i : Int) < (D.nb : Int) := by omega
              have hgo6 := H6.out.lt
              have hc1 := H6.out.c1
              have HAS : Hid (anyN (i + 1) M0 = (anyN i M0 || M0 i)) := anyN_s i M0
              have hca := HCP.out i hlt
              have hra := (dd.args i hlt).1
              have hN : M0 i = true → 1 ≤ (D.B i).n := fun hs => by
                obtain ⟨_, j, hj, _⟩ := HCL.out i hlt hs
                have := (ns_pos hj).2
                omega
              have HHM := Lib.hid (fun (hm : M0 i = false) => show bc1 (openD D M0) p i = [I (D.B i).k, .slice (p.AA i) (D.B i).n (p.cA i), I (D.B i).vn, I (D.B i).ve, I (D.B i).un, I (D.B i).ue] by unfold bc1; rw [openD_B, hm, if_neg (by decide)])
              have HHT := Lib.hid (fun (hm : M0 i = true) => show bc1 (openD D M0) p i = [I 2, .slice (p.AA i) 1 (p.cA i), I 0, I 0, I 0, I 0] by unfold bc1; rw [openD_B, hm, if_pos rfl])
              clear hc dd hrow hgl hz
              cases hm : M0 i with
              | false =>
                have HBC := Lib.hid (HHM.out hm)
                rw [hm] at hmi
                rw [hm, Bool.or_false] at HAS
                clear HHM HHT hm hN hra hca
                generalize (D.B i).k = kk at *
                generalize (D.B i).n = n at *
                generalize (D.B i).vn = vn at *
                generalize (D.B i).ve = ve at *
                generalize (D.B i).un = un at *
                generalize (D.B i).ue = ue at *
                cases hv : anyN i M0
                all_goals
                  rw [hv] at HAS
                  clear hv
                  go_wp2_with (at_builtin; refine appB rfl _ _ rfl (go + 1) A c (openD D M0) p i rfl (H6.out.own.ext ((Ext.alloc _ _).trans (Ext.alloc _ _))) _ _ rfl (by intro j u hj; rw [HBC.out] at hj; exact news6 (by simp) j u hj) (by omega) (by simp; omega) ?_; intro g cap w2 hown hgrow hat hltg; have ST := Lib.hid (H6.out.step ((Ext.alloc _ _).trans (Ext.alloc _ _)) hown hgrow); have f1 := ST.out.2.1; have f2 := ST.out.2.2 1 _ hc1; clear hown hgrow hat)
                  (try rw [← ha])
                  go_roundw
                  case rel => exact ⟨some ⟨g, 0, none⟩, cap, i + 1, by omega, by rw [HAS.out], by go_num, ST.out.1⟩
                  case measure => simp [intOf]; omega
              | true =>
                have HBC := Lib.hid (HHT.out hm)
                rw [hm] at hmi
                rw [hm, Bool.or_true] at HAS
                have hN1 := hN hm
                obtain ⟨b7, o7, ha7, hb7, hc7⟩ := hra (by omega)
                clear HHM HHT hm hN hra hc7
                obtain ⟨hca0, hca1⟩ := hca
                unfold maxLen at hca1
                rw [ha7] at x1 HBC
                have hca2 : 1 ≤ p.cA i := by omega
                clear hca0 hN1
                generalize p.cA i = cAi at *
                generalize (D.B i).k = kk at *
                generalize (D.B i).n = n at *
                generalize (D.B i).vn = vn at *
                generalize (D.B i).ve = ve at *
                generalize (D.B i).un = un at *
                generalize (D.B i).ue = ue at *
                cases hv : anyN i M0
                all_goals
                  clear hv
                  go_wp2_with (at_builtin; refine appB rfl _ _ rfl (go + 1) A c (openD D M0) p i rfl (H6.out.own.ext ((Ext.alloc _ _).trans (Ext.alloc _ _))) _ _ rfl (by intro j u hj; rw [HBC.out] at hj; exact news6 (by simp) j u hj) (by omega) (by simp; omega) ?_; intro g cap w2 hown hgrow hat hltg; have ST := Lib.hid (H6.out.step ((Ext.alloc _ _).trans (Ext.alloc _ _)) hown hgrow); have f1 := ST.out.2.1; have f2 := ST.out.2.2 1 _ hc1; clear hown hgrow hat)
                  (try rw [← ha])
                  go_roundw
                  case rel => exact ⟨some ⟨g, 0, none⟩, cap, i + 1, by omega, by rw [HAS.out], by go_num, ST.out.1⟩
                  case measure => simp [intOf]; omega
            · obtain rfl : i = D.nb := by omega
              have hany : anyN D.nb M0 = true := anyN_iff.2 HSO.out
              rw [hany]
              have hdm := H6.out.dm (HDD.out wr (HR6.out.ext.trans H6.out.ext)) (fun i hi hs => by
                obtain ⟨_, j, hj, _⟩ := HCL.out i hi hs
                have := (ns_pos hj).2
                omega)
              have HCO : Hid (Calls Tryd.prog 15 #[.agg #[.slice p.AI D.ni p.cI, .slice A D.nb c, .slice p.AO D.no p.cO]] wr fun e w' => e = .returned .nilIface ∧ Ext wr w') := by
                have h := check_any hdm (HDT.out.2.ext (HE.out.trans (HX5.out.trans (HR6.out.ext.trans H6.out.ext))))
                have h24 : errv (chk (openD D M0)) = .nilIface := by rw [HOPEN.out]; rfl
                rw [h24] at h
                exact h
              obtain ⟨c0, c1, c2⟩ : wr.cell? ⟨go, 0, none⟩ = some (.slice p.AI D.ni p.cI) ∧ wr.cell? ⟨go, 1, none⟩ = some (.slice A D.nb c) ∧ wr.cell? ⟨go, 2, none⟩ = some (.slice p.AO D.no p.cO) := ⟨H6.out.c0, H6.out.c1, H6.out.c2⟩
              clear hany hdm
              go_wp2_with (go_at_call 15; (with_reducible refine HCO.out.mono ?_); rintro e1 w9 ⟨rfl, h9⟩)
              go_ret
              exact ⟨rfl, HE.out.trans (HX5.out.trans (HR6.out.ext.trans (H6.out.ext.trans h9)))⟩
theorem circles_any {w : World} {D : Dia} {p : Pl} (d : Dm w D p) (hT : Tabs w) (hcp : CapD D p) : Calls Tryd.prog 8 #[dgv D p] w fun e w' => e = .returned (.bool true) ∧ Ext w w' := by
  by_cases h : litB D = false ∨ chk D ≠ 24
  · exact circles_off d hT h
  · refine circles_on d hT hcp ?_ (Classical.byContradiction fun q => h (.inr q))
    cases q : litB D
    · exact absurd (.inl q) h
    · rfl
end Go.Proofs.YtgajibdmihdkcaaDoor
