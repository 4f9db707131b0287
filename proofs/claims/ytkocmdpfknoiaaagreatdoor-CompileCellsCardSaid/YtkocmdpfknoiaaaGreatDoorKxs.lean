/- The law CompileCells. -/
import Derived.Test.YtkocmdpfknoiaaaGreatDoorKxr
namespace Go.Proofs.YtkocmdpfknoiaaaGreatDoor
open Go Go.RowKit
attribute [local go_sem ↓] Go.wp_at_zero Go.wp_at_succ

/-- The tail of a list of ints. -/
theorem slice_ri {w : World} {A : Option Addr} {n c l : Nat} {F : Nat → Int} (hc : n ≤ c) (r : Ri w A n F) : Ri w (if c = l then A else Option.map (fun x => x.add l) A) (n - l) (fun i => F (l + i)) := fun hn => by
  rw [if_neg (by omega)]
  obtain ⟨b, o, rfl, hb, hcl⟩ := r (by omega)
  refine ⟨b, o + l, by simp [Addr.add], hb, fun i hi => ?_⟩
  have := hcl (l + i) (by omega)
  rw [show o + l + i = o + (l + i) by omega]; exact this
abbrev ppv (D : Dia) (NC NI : Nat) (pp : Pp) : Value := .agg #[.slice pp.AP D.ni pp.cP, .slice pp.AC NC pp.cC, .slice pp.AX NI pp.cX, .slice pp.AO D.no pp.cO]
/-- What the code's functions answer over the program. -/
theorem wr_cd {w : World} {D : Dia} {F : Nat → Int} {pp : Pp} (g : CmG0 D F) (m : Pm w (prD D F) pp) {NC NI M : Nat} (hC : D.nb + ndl D + 2 * ncl D = NC) (hI : cdN D F = NI) (hM : D.nb + ndl D = M) :
    Calls Tryz.prog 31 #[ppv D NC NI pp] w fun e w' => ∃ B k, e = .returned (.tuple #[.slice B M k, .nilIface]) ∧ Ri w' B M (fun i => (i : Int)) ∧ Ext w w' := by
  have h := Writes_ok m (prD_ok g)
  subst hC; subst hI; subst hM
  obtain ⟨l1, l2⟩ := mkL_ini (P := wrB (cdN D F) (cdX D F)) (m := D.nb + ndl D) (fun i => wr_iff g) (D.nb + ndl D + 2 * ncl D) (by omega)
  refine h.mono fun e w' ⟨B, k, h1, h2, h3⟩ => ⟨B, k, ?_, ?_, h3⟩
  · rw [h1]; show Ending.returned (.tuple #[.slice B (mkL (D.nb + ndl D + 2 * ncl D) (wrB (cdN D F) (cdX D F))).length k, .nilIface]) = _; rw [l1]
  · have e1 : (wrL (prD D F)).length = D.nb + ndl D := l1
    rw [e1] at h2
    exact h2.congr fun i hi => by
      show (((mkL (D.nb + ndl D + 2 * ncl D) (wrB (cdN D F) (cdX D F))).getD i 0 : Nat) : Int) = i
      rw [l2 i hi]
theorem run_cd' {w : World} {D : Dia} {F IN : Nat → Int} {pp : Pp} {B : Option Addr} {cB : Nat} (g : CmG0 D F) (m : Pm w (prD D F) pp) (rb : Ri w B D.ni IN) (hin : ∀ i, i < D.ni → (D.P i).lo ≤ IN i ∧ IN i ≤ (D.P i).hi) {NC NI : Nat} (hC : D.nb + ndl D + 2 * ncl D = NC) (hI : cdN D F = NI) :
    Calls Tryz.prog 20 #[ppv D NC NI pp, .slice pp.AC NC pp.cC, .slice B D.ni cB] w fun e w' => ∃ A k B' l ov, e = .returned (.tuple #[.agg #[.slice A NC k, .slice B' D.no l, .bool ov], .nilIface]) ∧ Ri w' A NC (runV IN (ceX D F) (cdL D F)) ∧ NC ≤ k ∧ Ext w w' := by
  have hok := chP_ok (prD_ok g)
  have h := Run_cap (cB := cB) m (prD_ok g) m.init rb m.nC (daE_of (G := prD D F) hok.wd hin)
  subst hC; subst hI
  refine h.mono fun e w' ⟨A, k, B', l, h1, h2, _, _, h3, _, _, _, _, h4⟩ => ⟨A, k, B', l, _, h1, ?_, h3, h4⟩
  have e1 : (runC (prD D F).X IN (prD D F).C (prD D F).ni).1 = runV IN (ceX D F) (cdL D F) := run_cd D F IN (ceX D F)
  rw [e1] at h2; exact h2
abbrev NR (w : World) (g : Nat) : Prop := w.rowIs g 59 3 (b3 (.slice none 0 0) (.slice none 0 0) (.bool false))
theorem nr3 {W W' : World} (h : Ext (W.alloc (.cells #[.slice none 0 0, .slice none 0 0, .bool false] 59)) W') : NR W' W.heap.size :=
  World.rowIs.ext (World.rowIs_alloc W #[.slice none 0 0, .slice none 0 0, .bool false] 59 (b3 (.slice none 0 0) (.slice none 0 0) (.bool false)) (fun i hi => by
    rcases (show i = 0 ∨ i = 1 ∨ i = 2 by simp at hi; omega) with h | h | h <;> subst h <;> rfl)) h
theorem nr3d {W W' : World} (h : Ext ((W.alloc (.cells #[.slice none 0 0, .slice none 0 0, .bool false] 59)).drew) W') : NR W' W.heap.size := nr3 ((Ext.drew _).trans h)
structure RuB (V w : World) (g NC no : Nat) (A : Option Addr) (k : Nat) (B : Option Addr) (l : Nat) (ov : Bool) (U : Nat → Int) : Prop where
  ext : Ext V w
  row : w.rowIs g 59 3 (b3 (.slice A NC k) (.slice B no l) (.bool ov))
  ri : Ri w A NC U
  kc : NC ≤ k
theorem nr_ri {w w' : World} {g : Nat} {A : Option Addr} {n : Nat} {f : Nat → Int} (r : Ri w A n f) (h : Bt g w w') (hr : NR w g) : Ri w' A n f := fun hn => by
  obtain ⟨b, o, rfl, hb, hc⟩ := r hn
  have hne : b ≠ g := fun e => by
    subst e
    have hx := hc 0 hn
    rw [Nat.add_zero] at hx
    by_cases ho : o < 3
    · rw [hr.cell ho] at hx
      have e := Option.some.inj hx
      unfold b3 at e
      rcases (show o = 0 ∨ o = 1 ∨ o = 2 by omega) with h | h | h <;> subst h <;> simp at e
    · obtain ⟨c, h1, h2, _⟩ := hr
      have e : w.cell? ⟨b, o, none⟩ = c[o]? := by simp [World.cell?, h1]
      rw [e, Array.getElem?_eq_none (by omega)] at hx; cases hx
  refine ⟨b, o, rfl, Nat.lt_of_lt_of_le hb h.sz, fun i hi => ?_⟩
  rw [← hc i hi]; unfold World.cell?; rw [h.keep b hne]
theorem rub_a {V w : World} {NC no : Nat} {A : Option Addr} {k : Nat} {B : Option Addr} {l : Nat} {ov : Bool} {U : Nat → Int} (x : Ext V w) (r : Ri w A NC U) (hk : NC ≤ k) :
    RuB V (w.alloc (.cells #[.slice A NC k, .slice B no l, .bool ov] 59)) w.heap.size NC no A k B l ov U := by
  refine ⟨x.trans (Ext.alloc _ _), World.rowIs_alloc w _ 59 _ (fun i hi => ?_), r.ext (Ext.alloc _ _), hk⟩
  rcases (show i = 0 ∨ i = 1 ∨ i = 2 by simp at hi; omega) with h | h | h <;> subst h <;> rfl
theorem rub_b {V w : World} {g NC no : Nat} {A : Option Addr} {k : Nat} {B : Option Addr} {l : Nat} {ov : Bool} {U : Nat → Int} (x : Ext V w) (r : Ri w A NC U) (hk : NC ≤ k) (u : NR w g) (hg : V.heap.size ≤ g) :
    RuB V (((w.setCell ⟨g, 0, none⟩ (.slice A NC k)).setCell ⟨g, 1, none⟩ (.slice B no l)).setCell ⟨g, 2, none⟩ (.bool ov)) g NC no A k B l ov U := by
  have hb : Bt g w (((w.setCell ⟨g, 0, none⟩ (.slice A NC k)).setCell ⟨g, 1, none⟩ (.slice B no l)).setCell ⟨g, 2, none⟩ (.bool ov)) := (((Bt.refl g w).set _ _).set _ _).set _ _
  refine ⟨((x.toSet hg).toSet hg).toSet hg, (((u.set 0 _).set 1 _).set 2 _).congr (fun i hi => ?_), nr_ri r hb u, hk⟩
  rcases (show i = 0 ∨ i = 1 ∨ i = 2 by omega) with h | h | h <;> subst h <;> rfl
set_option maxRecDepth 100000 in
set_option maxHeartbeats 2000000 in
theorem kxc_ok {w : World} {D : Dia} {p : Pl} {Af Ai : Option Addr} {m cf k ci : Nat} {F IN : Nat → Int} (d : Dm w D p) (hT : Tabs w) (hO : TabO w) (hl : litB D = true) (h100 : ¬ 100 < m) (h40 : ¬ 40 < k) (hc : chk D = 0) (r : Ri w Af m F) (ri : Ri w Ai k IN) (he : cmE D m F = 0) :
    Calls Tryz.prog 6 #[dgv D p, .slice Af m cf, .slice Ai k ci] w fun e w' => e = .returned (.bool true) ∧ Ext w w' := by
  obtain ⟨hm, g⟩ := cmE_0 he
  have hnb := g.ok.nb; have hni := g.ok.ni; have hno := g.ok.no
  have hnd := ndc_le D
  have HA : Hid (∀ w', Ext w w' → Calls Tryz.prog 7 #[] w' fun e w'' => e = .returned (.bool true) ∧ Ext w' w'') := fun w' x => kxAwake_any w' (hT.ext x) (hO.ext x)
  have HL : Hid (∀ w', Ext w w' → Calls Tryz.prog 8 #[dgv D p] w' fun e w'' => e = .returned (.bool true) ∧ Ext w' w'') := fun w' x => by have := light_any (d.ext x); rwa [hl] at this
  have HC : Hid (∀ w', Ext w w' → Calls Tryz.prog 10 #[dgv D p] w' fun e w'' => e = .returned (I 0) ∧ Ext w' w'') := fun w' x => by have := rcheck_any (d.ext x) (hT.ext x); rwa [hc] at this
  obtain ⟨NC, hNC⟩ : ∃ NC, D.nb + ndl D + 2 * ncl D = NC := ⟨_, rfl⟩
  obtain ⟨NI, hNI⟩ : ∃ NI, cdN D F = NI := ⟨_, rfl⟩
  obtain ⟨M, hM⟩ : ∃ M, D.nb + ndl D = M := ⟨_, rfl⟩
  obtain ⟨ND, hND⟩ : ∃ ND, ndl D = ND := ⟨_, rfl⟩
  have HCM : Hid (∀ w', Ext w w' → Calls Tryz.prog 9 #[dgv D p, .slice Af m cf] w' (fun e w'' => ∃ pp, e = .returned (.tuple #[ppv D NC NI pp, .nilIface]) ∧ Pm w'' (prD D F) pp ∧ NC ≤ pp.cC ∧ Ext w' w'')) := fun w' x => by
    have := (Compile_any (cf := cf) (d.ext x) (hT.ext x) (hO.ext x) (r.ext x) (by unfold maxLen; omega)).1 he
    refine Calls.mono this fun e w'' ⟨pp, h1, h2, h3, h4⟩ => ⟨pp, ?_, h2, by rw [← hNC]; exact h3, h4⟩
    rw [h1, ← hNC, ← hNI]; rfl
  have HDE : Hid (∀ w', Ext w w' → Calls Tryz.prog 30 #[dgv D p] w' (fun e w'' => ∃ A c, e = .returned (.slice A ND c) ∧ Ri w'' A ND (fun j => ((dlA D j : Nat) : Int)) ∧ Ext w' w'')) := fun w' x => (rdelays_any (d.ext x) (by omega)).mono fun e w'' ⟨A, c, h1, h2, h3⟩ => ⟨A, c, by rw [← hND]; exact h1, by rw [← hND]; exact h2.ri, h3⟩
  have HWR : Hid (∀ w' pp, Pm w' (prD D F) pp → Calls Tryz.prog 31 #[ppv D NC NI pp] w' (fun e w'' => ∃ B k, e = .returned (.tuple #[.slice B M k, .nilIface]) ∧ Ri w'' B M (fun i => (i : Int)) ∧ Ext w' w'')) := fun w' pp q => wr_cd g q hNC hNI hM
  have HIN : Hid (∀ w', Ext w w' → Calls Tryz.prog 19 #[dgv D p, .slice Ai k ci] w' (fun e w'' => ∃ B c, e = .returned (.slice B D.ni c) ∧ Ri w'' B D.ni (inpV D k IN) ∧ Ext w' w'')) := fun w' x => (inputs_any (d.ext x) (by omega) (fun j hj => by
    have := g.ok.pe j hj
    unfold prtE at this
    split at this
    · omega
    · omega) (ri.ext x) (by unfold maxLen; omega)).mono fun e w'' ⟨A, c, h1, h2, h3⟩ => ⟨A, c, h1, h2.ri, h3⟩
  have HRN : Hid (∀ w' pp B cB, Pm w' (prD D F) pp → Ri w' B D.ni (inpV D k IN) → Calls Tryz.prog 20 #[ppv D NC NI pp, .slice pp.AC NC pp.cC, .slice B D.ni cB] w' (fun e w'' => ∃ A k' B' l ov, e = .returned (.tuple #[.agg #[.slice A NC k', .slice B' D.no l, .bool ov], .nilIface]) ∧ Ri w'' A NC (runV (inpV D k IN) (ceX D F) (cdL D F)) ∧ NC ≤ k' ∧ Ext w' w'')) := fun w' pp B cB q rb => run_cd' g q rb (inp_wd g.ok k IN) hNC hNI
  obtain ⟨e1, e2⟩ := run_end (F := F) (IN := inpV D k IN) g (c := ceX D F) (chP_ok (prD_ok g)).wd
  have HE1 : Hid (∀ j, j < ND → runV (inpV D k IN) (ceX D F) (cdL D F) (dlA D j) = runV (inpV D k IN) (ceX D F) (cdL D F) (D.nb + j)) := fun j hj => e1 j (by omega)
  have HE2 : Hid (∀ i, M ≤ i → runV (inpV D k IN) (ceX D F) (cdL D F) i = ceX D F i) := fun i hi => e2 i (by omega)
  have HDB : Hid (∀ j, j < ND → dlA D j < D.nb) := fun j hj => (dl_lt D (by omega)).1
  have HNC := Lib.hid hNC
  have HM : Hid (M = D.nb + ND) := by show _ = _; omega
  have HNCM : Hid (NC = M + 2 * ncl D) := by show _ = _; omega
  have HCN : Hid (ncl D = cnt D.nb (isC D)) := ncl_eq D
  have HDM := Lib.hid d
  generalize runV (inpV D k IN) (ceX D F) (cdL D F) = V at *
  obtain ⟨W1, hW1⟩ : ∃ W1, W1 = w.alloc (.cells #[.slice p.AI D.ni p.cI, .slice p.AB D.nb p.cB, .slice p.AO D.no p.cO] 26) := ⟨_, rfl⟩
  have HBD : Hid (Bd W1 w.heap.size D p) := by rw [hW1]; exact Bd.new _ _ _ _
  have HE : Hid (Ext w W1) := by rw [hW1]; exact Ext.alloc _ _
  have hb1 : decide ((100 : Int) < (m : Int)) = false := decide_eq_false (by omega)
  have hb2 : decide ((40 : Int) < (k : Int)) = false := decide_eq_false (by omega)
  have hND64 : ND ≤ 64 := by omega
  have hM128 : M ≤ 128 := by omega
  clear d hT hO hl hc r ri he h100 h40 hm g e1 e2 hNC hNI hM hND hnd
  obtain ⟨c0, c1, c2⟩ := HBD.out
  go_enter Tryz.func6, Tryz.ntmps6
  go_upto_region 1 with fail
  rw [← hW1]; clear hW1
  go_upto_region 6 with (first
    | (go_at_call 7; (with_reducible refine (HA.out _ HE.out).mono ?_); rintro e1 w1 ⟨rfl, h1⟩; have X1 := Lib.hid h1; clear h1 c0 c1 c2; obtain ⟨c0, c1, c2⟩ := HBD.out.ext X1.out)
    | (go_at_call 8; (with_reducible refine (HL.out _ (HE.out.trans X1.out)).mono ?_); rintro e2 w2 ⟨rfl, h2⟩; have X2 := Lib.hid (X1.out.trans h2); clear h2 c0 c1 c2; obtain ⟨c0, c1, c2⟩ := HBD.out.ext X2.out)
    | (go_at_call 10; (with_reducible refine (HC.out _ (HE.out.trans X2.out)).mono ?_); rintro e3 w3 ⟨rfl, h3⟩; have X3 := Lib.hid (X2.out.trans h3); clear h3 c0 c1 c2; obtain ⟨c0, c1, c2⟩ := HBD.out.ext X3.out)
    | (go_at_call 9; (with_reducible refine (HCM.out _ (HE.out.trans X3.out)).mono ?_); rintro e4 w4 ⟨pp, rfl, hpm, hcc, h4⟩; have X4 := Lib.hid (X3.out.trans h4); have HPM := Lib.hid hpm; have HCC := Lib.hid hcc; clear h4 hpm hcc c0 c1 c2))
  obtain ⟨W5, hW5⟩ : ∃ W5, W5 = w4.alloc (.cells #[.slice pp.AP D.ni pp.cP, .slice pp.AC NC pp.cC, .slice pp.AX NI pp.cX, .slice pp.AO D.no pp.cO] 31) := ⟨_, rfl⟩
  have HPB : Hid (W5.rowIs w4.heap.size 31 4 (b4 (.slice pp.AP D.ni pp.cP) (.slice pp.AC NC pp.cC) (.slice pp.AX NI pp.cX) (.slice pp.AO D.no pp.cO))) := by
    rw [hW5]
    exact World.rowIs_alloc w4 _ 31 _ (fun i hi => by rcases (show i = 0 ∨ i = 1 ∨ i = 2 ∨ i = 3 by simp at hi; omega) with h | h | h | h <;> subst h <;> rfl)
  have X45 : Hid (Ext w4 W5) := by rw [hW5]; exact Ext.alloc _ _
  rw [← hW5]; clear hW5
  have X5 := Lib.hid (X4.out.trans X45.out)
  have HS6 : Hid (∀ w', Ext W5 w' → w'.cell? ⟨w.heap.size, 0, none⟩ = some (.slice p.AI D.ni p.cI) ∧ w'.cell? ⟨w.heap.size, 1, none⟩ = some (.slice p.AB D.nb p.cB) ∧ w'.cell? ⟨w.heap.size, 2, none⟩ = some (.slice p.AO D.no p.cO)) := fun w' x => by
    obtain ⟨a, b, c⟩ := HBD.out.ext (X5.out.trans x)
    exact ⟨a, b, c⟩
  obtain ⟨c0, c1, c2⟩ := HS6.out _ (Ext.refl _)
  go_region_held3 (fun w' => w'.cell? ⟨w.heap.size, 0, none⟩ = some (.slice p.AI D.ni p.cI) ∧ w'.cell? ⟨w.heap.size, 1, none⟩ = some (.slice p.AB D.nb p.cB) ∧ w'.cell? ⟨w.heap.size, 2, none⟩ = some (.slice p.AO D.no p.cO)) (exact HS6.out _ (by (with_reducible (repeat (first | exact Ext.refl _ | assumption | (refine Ext.toSet ?_ (by omega)) | refine Ext.toAlloc ?_ | refine Ext.toDrew ?_ | refine Ext.toDrewN ?_ | refine Ext.trans ?_ (by assumption)))); (first | done | fail "no")))
    ((go_at_call 30; (with_reducible refine (HDE.out _ (HE.out.trans (X5.out.trans (by (with_reducible (repeat (first | exact Ext.refl _ | assumption | (refine Ext.toSet ?_ (by omega)) | refine Ext.toAlloc ?_ | refine Ext.toDrew ?_ | refine Ext.toDrewN ?_ | refine Ext.trans ?_ (by assumption)))); (first | done | fail "no"))))).mono ?_); rintro e6 w6 ⟨Ad, cd, rfl, hrd, h6⟩; have x6 : Ext W5 w6 := (by (with_reducible (repeat (first | exact Ext.refl _ | assumption | (refine Ext.toSet ?_ (by omega)) | refine Ext.toAlloc ?_ | refine Ext.toDrew ?_ | refine Ext.toDrewN ?_ | refine Ext.trans ?_ (by assumption)))); (first | done | fail "no")); have X6 := Lib.hid x6; have HRD := Lib.hid hrd; clear hrd h6))
  have HPB6 := Lib.hid (World.rowIs.ext HPB.out X6.out)
  have HPM6 := Lib.hid (HPM.out.ext (X45.out.trans X6.out))
  obtain ⟨m0, m1, m2, m3, mf⟩ := W4.of HPB6.out
  clear c0 c1 c2
  go_upto_region 8 with (go_at_call 31; (with_reducible refine (HWR.out _ _ HPM6.out).mono ?_); rintro e7 w7 ⟨Bw, kw, rfl, hrw, h7⟩; have X7 := Lib.hid h7; have HRW := Lib.hid hrw; clear hrw h7 m0 m1 m2 m3 mf)
  have HPB7 := Lib.hid (World.rowIs.ext HPB6.out X7.out)
  have HPM7 := Lib.hid (HPM6.out.ext X7.out)
  have X57 := Lib.hid (X5.out.trans (X6.out.trans X7.out))
  have HS8 : Hid (∀ w', Ext w7 w' → w'.cell? ⟨w.heap.size, 0, none⟩ = some (.slice p.AI D.ni p.cI) ∧ w'.cell? ⟨w.heap.size, 1, none⟩ = some (.slice p.AB D.nb p.cB) ∧ w'.cell? ⟨w.heap.size, 2, none⟩ = some (.slice p.AO D.no p.cO) ∧ w'.cell? ⟨w4.heap.size, 0, none⟩ = some (.slice pp.AP D.ni pp.cP) ∧ w'.cell? ⟨w4.heap.size, 1, none⟩ = some (.slice pp.AC NC pp.cC) ∧ w'.cell? ⟨w4.heap.size, 2, none⟩ = some (.slice pp.AX NI pp.cX) ∧ w'.cell? ⟨w4.heap.size, 3, none⟩ = some (.slice pp.AO D.no pp.cO)) := fun w' x => by
    obtain ⟨a, b, c⟩ := HBD.out.ext (X57.out.trans x)
    obtain ⟨s0, s1, s2, s3, sf⟩ := W4.of (World.rowIs.ext HPB7.out x)
    exact ⟨a, b, c, s0, s1, s2, s3⟩
  obtain ⟨c0, c1, c2, m0, m1, m2, m3⟩ := HS8.out _ (Ext.refl _)
  go_cut [13, 14] (fun s13 s14 wx => ∃ g A k' B' l ov, s13 = .pointer (some ⟨g, 0, none⟩) ∧ s14 = .nilIface ∧ Hid (RuB w7 wx g NC D.no A k' B' l ov V))
  case first =>
    go_region_held3 (fun w' => w'.cell? ⟨w.heap.size, 0, none⟩ = some (.slice p.AI D.ni p.cI) ∧ w'.cell? ⟨w.heap.size, 1, none⟩ = some (.slice p.AB D.nb p.cB) ∧ w'.cell? ⟨w.heap.size, 2, none⟩ = some (.slice p.AO D.no p.cO) ∧ w'.cell? ⟨w4.heap.size, 0, none⟩ = some (.slice pp.AP D.ni pp.cP) ∧ w'.cell? ⟨w4.heap.size, 1, none⟩ = some (.slice pp.AC NC pp.cC) ∧ w'.cell? ⟨w4.heap.size, 2, none⟩ = some (.slice pp.AX NI pp.cX) ∧ w'.cell? ⟨w4.heap.size, 3, none⟩ = some (.slice pp.AO D.no pp.cO)) (exact HS8.out _ (by (with_reducible (repeat (first | exact Ext.refl _ | assumption | (refine Ext.toSet ?_ (by omega)) | refine Ext.toAlloc ?_ | refine Ext.toDrew ?_ | refine Ext.toDrewN ?_ | refine Ext.trans ?_ (by assumption)))); (first | done | fail "no")))
      (first
        | (go_at_call 19; (with_reducible refine (HIN.out _ (HE.out.trans (X57.out.trans (by (with_reducible (repeat (first | exact Ext.refl _ | assumption | (refine Ext.toSet ?_ (by omega)) | refine Ext.toAlloc ?_ | refine Ext.toDrew ?_ | refine Ext.toDrewN ?_ | refine Ext.trans ?_ (by assumption)))); (first | done | fail "no"))))).mono ?_); rintro e8 w8 ⟨Bi, ki, rfl, hri, hx8⟩; have x8 : Ext w7 w8 := (by (with_reducible (repeat (first | exact Ext.refl _ | assumption | (refine Ext.toSet ?_ (by omega)) | refine Ext.toAlloc ?_ | refine Ext.toDrew ?_ | refine Ext.toDrewN ?_ | refine Ext.trans ?_ (by assumption)))); (first | done | fail "no")); have X8 := Lib.hid x8; have HRI := Lib.hid hri; have hs8 := x8.size; clear hri; (first | ((with_reducible have u1 := nr3d hx8); have U := Lib.hid u1; clear u1) | ((with_reducible have u1 := nr3 hx8); have U := Lib.hid u1; clear u1) | skip); clear hx8; (first | (have n0 : _ = some (Value.slice none 0 0) := U.out.cell (i := 0) (by omega); have n1 : _ = some (Value.slice none 0 0) := U.out.cell (i := 1) (by omega); have n2 : _ = some (Value.bool false) := U.out.cell (i := 2) (by omega); have nf := U.out.frozen; have nl := U.out.lt) | skip))
        | (go_at_call 20; (with_reducible refine (HRN.out _ _ _ _ (HPM7.out.ext (X8.out.trans (by (with_reducible (repeat (first | exact Ext.refl _ | assumption | (refine Ext.toSet ?_ (by omega)) | refine Ext.toAlloc ?_ | refine Ext.toDrew ?_ | refine Ext.toDrewN ?_ | refine Ext.trans ?_ (by assumption)))); (first | done | fail "no")))) (HRI.out.ext (by (with_reducible (repeat (first | exact Ext.refl _ | assumption | (refine Ext.toSet ?_ (by omega)) | refine Ext.toAlloc ?_ | refine Ext.toDrew ?_ | refine Ext.toDrewN ?_ | refine Ext.trans ?_ (by assumption)))); (first | done | fail "no")))).mono ?_); rintro e9 w9 ⟨Ar, kr, Br, lr, ov, rfl, hrr, hkr, hx9⟩; have X89 := Lib.hid (show Ext w8 w9 from (by (with_reducible (repeat (first | exact Ext.refl _ | assumption | (refine Ext.toSet ?_ (by omega)) | refine Ext.toAlloc ?_ | refine Ext.toDrew ?_ | refine Ext.toDrewN ?_ | refine Ext.trans ?_ (by assumption)))); (first | done | fail "no"))); have x9 : Ext w7 w9 := X8.out.trans X89.out; have X9 := Lib.hid x9; have HRR := Lib.hid hrr; have HKR := Lib.hid hkr; have hs9 := X89.out.size; clear hrr hkr; (first | (have U2 := Lib.hid (World.rowIs.ext U.out X89.out); clear U n0 n1 n2 nf; have U := U2; clear U2) | ((with_reducible have u1 := nr3d hx9); have U := Lib.hid u1; clear u1) | ((with_reducible have u1 := nr3 hx9); have U := Lib.hid u1; clear u1) | skip); clear hx9; (first | (have n0 : _ = some (Value.slice none 0 0) := U.out.cell (i := 0) (by omega); have n1 : _ = some (Value.slice none 0 0) := U.out.cell (i := 1) (by omega); have n2 : _ = some (Value.bool false) := U.out.cell (i := 2) (by omega); have nf := U.out.frozen; have nl' := U.out.lt) | skip)))
    all_goals
      go_wp2_with fail
      go_meet
      first
        | (with_reducible exact ⟨_, Ar, kr, Br, lr, ov, rfl, rfl, Lib.hid (rub_a x9 HRR.out HKR.out)⟩)
        | (with_reducible refine ⟨_, Ar, kr, Br, lr, ov, rfl, rfl, Lib.hid (rub_b x9 HRR.out HKR.out U.out ?_)⟩; omega)
  case rest =>
    obtain ⟨g, Ar, kr, Br, lr, ov, rfl, rfl, HR⟩ := hcut
    have X5c := Lib.hid (X57.out.trans HR.out.ext)
    have hwM : IntKind.i64.wrap ((D.nb : Int) + (ND : Int)) = (M : Int) := by rw [IntWalk.i64_in _ (by omega)]; have := HM.out; omega
    have hMM : ((M : Int) != (M : Int)) = false := by simp
    have hCC : ((NC : Int) != (NC : Int)) = false := by simp
    have hCM : ¬ NC < M := by have := HNCM.out; omega
    have HQ : Hid (∀ w', Ext wc w' → (w'.cell? ⟨g, 0, none⟩ = some (.slice Ar NC kr) ∧ w'.cell? ⟨g, 1, none⟩ = some (.slice Br D.no lr) ∧ w'.cell? ⟨g, 2, none⟩ = some (.bool ov)) ∧ (w'.cell? ⟨w4.heap.size, 0, none⟩ = some (.slice pp.AP D.ni pp.cP) ∧ w'.cell? ⟨w4.heap.size, 1, none⟩ = some (.slice pp.AC NC pp.cC) ∧ w'.cell? ⟨w4.heap.size, 2, none⟩ = some (.slice pp.AX NI pp.cX) ∧ w'.cell? ⟨w4.heap.size, 3, none⟩ = some (.slice pp.AO D.no pp.cO)) ∧
        (w'.cell? ⟨w.heap.size, 0, none⟩ = some (.slice p.AI D.ni p.cI) ∧ w'.cell? ⟨w.heap.size, 1, none⟩ = some (.slice p.AB D.nb p.cB) ∧ w'.cell? ⟨w.heap.size, 2, none⟩ = some (.slice p.AO D.no p.cO))) := fun w' x => by
      have hr := World.rowIs.ext HR.out.row x
      obtain ⟨a, b, c, s0, s1, s2, s3⟩ := HS8.out _ (HR.out.ext.trans x)
      exact ⟨⟨hr.cell (by omega), hr.cell (by omega), hr.cell (by omega)⟩, ⟨s0, s1, s2, s3⟩, a, b, c⟩
    clear c0 c1 c2 m0 m1 m2 m3
    obtain ⟨⟨q0, q1, q2⟩, ⟨m0, m1, m2, m3⟩, c0, c1, c2⟩ := HQ.out _ (Ext.refl _)
    go_upto_region 11 with fail
    clear hMM hCC hCM q0 q1 q2 m0 m1 m2 m3 c0 c1 c2
    go_wp2_with fail
    go_loopw [109] (fun s wr => ∃ (j : Nat), j ≤ M ∧ s = I j ∧ Hid (Ext wc wr)) (fun s _ => M - (intOf s).toNat)
    case atStart => exact ⟨0, Nat.zero_le _, rfl, Ext.refl _⟩
    case round =>
      obtain ⟨j, hj, rfl, H⟩ := hrel
      by_cases hlt : j < M
      · have hlt' : (j : Int) < (M : Int) := by omega
        obtain ⟨bo, oo, ho, hbo, hco⟩ := (HRW.out.ext (HR.out.ext.trans H.out)) (by omega)
        have yo := hco j hlt
        have hne : ((j : Int) != (j : Int)) = false := by simp
        have HO := Lib.hid ho
        clear hco
        go_wp2_with fail
        (try rw [← HO.out])
        go_roundw
        case rel => exact ⟨j + 1, by omega, by go_num, H.out⟩
        case measure => simp [intOf]; omega
      · obtain rfl : M = j := by omega
        obtain ⟨wd, hwd⟩ : ∃ wd, wd = wr := ⟨_, rfl⟩
        rw [← hwd] at H ⊢
        clear hwd hlt hj
        have XC := H
        clear H
        go_wp2_with fail
        go_loopw [120] (fun s wr => ∃ (j : Nat), j ≤ ND ∧ s = I j ∧ Hid (Ext wc wr)) (fun s _ => ND - (intOf s).toNat)
        case atStart => exact ⟨0, Nat.zero_le _, rfl, XC.out⟩
        case round =>
          obtain ⟨j, hj, rfl, H⟩ := hrel
          by_cases hlt : j < ND
          · have hlt' : (j : Int) < (ND : Int) := by omega
            obtain ⟨bo, oo, ho, hbo, hco⟩ := (HRD.out.ext (X7.out.trans (HR.out.ext.trans H.out))) (by omega)
            have yo : wr.cell? ⟨bo, oo + j, none⟩ = some (I ((dlA D j : Nat) : Int)) := hco j hlt
            have hdb := HDB.out j hlt
            have hE1 := HE1.out j hlt
            obtain ⟨i, hi⟩ : ∃ i, dlA D j = i := ⟨_, rfl⟩
            rw [hi] at yo hdb hE1
            have hNC1 := HNCM.out; have hM1 := HM.out
            obtain ⟨ba, oa, hAr, hba, hca⟩ := (HR.out.ri.ext H.out) (by omega)
            have v0 := hca i (by omega)
            have v1 := hca (D.nb + j) (by omega)
            rw [← hE1] at v1
            have hwj : IntKind.i64.wrap ((D.nb : Int) + (j : Int)) = ((D.nb + j : Nat) : Int) := by rw [IntWalk.i64_in _ (by omega)]; omega
            have hi1 : (i : Int) < (NC : Int) := by omega
            have hj1 : ((D.nb + j : Nat) : Int) < (NC : Int) := by omega
            generalize V i = vi at *
            obtain ⟨nj, hnj⟩ : ∃ nj, D.nb + j = nj := ⟨_, rfl⟩
            rw [hnj] at v1 hwj hj1
            have hvv : (vi != vi) = false := by simp
            have HO := Lib.hid ho
            have HAR := Lib.hid hAr
            obtain ⟨⟨q0, q1, q2⟩, _⟩ := HQ.out _ H.out
            rw [hAr] at q0
            have hgl := World.block_lt_of_cell? _ _ q0
            clear hco hca hi hE1 hnj hAr
            go_upto_region 20 with fail
            (try rw [← HO.out])
            clear yo ho hbo
            have hb := Ext.refl wr
            have hL := fun (x : Later _) => (Ext.trans hb x.ext).old.1
            refine wp_region_later (by kernel_rfl) (by kernel_rfl) ?_
            repeat (go_big_quiet_step ((fail)))
            refine wpQuiet_nil ?_
            intro w2 hw2
            replace hb := Ext.trans hb (Later.of hw2)
            clear hw2 hL
            obtain ⟨hc, hf⟩ := hb.old
            go_wp2_with fail
            go_roundw
            case rel => exact ⟨j + 1, by omega, by go_num, H.out.trans hb⟩
            case measure => simp [intOf]; omega
          · obtain rfl : ND = j := by omega
            obtain ⟨we, hwe⟩ : ∃ we, we = wr := ⟨_, rfl⟩
            rw [← hwe] at H ⊢
            clear hwe hlt hj
            have XC2 := H
            clear H XC
            obtain ⟨_, _, c0, c1, c2⟩ := HQ.out _ XC2.out
            go_wp2_with fail
            clear c0 c1 c2
            go_loopw [19, 142] (fun s19 s wr => ∃ (j : Nat), j ≤ D.nb ∧ s = I j ∧ s19 = I ((cnt j (isC D) : Nat) : Int) ∧ Hid (Ext wc wr)) (fun _ s _ => D.nb - (intOf s).toNat)
            case atStart => exact ⟨0, Nat.zero_le _, rfl, rfl, XC2.out⟩
            case round =>
              obtain ⟨j, hj, rfl, rfl, H⟩ := hrel
              by_cases hlt : j < D.nb
              · have hlt' : (j : Int) < (D.nb : Int) := by omega
                obtain ⟨bb, ob, hb, hbb, hcb⟩ := (HDM.out.ext (HE.out.trans (X5c.out.trans H.out))).blocks (by omega)
                obtain ⟨y0, y1, y2, y3, y4, y5⟩ := hcb j hlt
                have HB := Lib.hid hb
                have hcle := cnt_le j (isC D)
                have HCS : Hid (cnt (j + 1) (isC D) = cnt j (isC D) + if isC D j = true then 1 else 0) := rfl
                clear hcb
                generalize hcj : cnt j (isC D) = cj at *
                clear hcj
                cases hq : isC D j with
                | false =>
                  have hk : ((D.B j).k == 11) = false := hq
                  rw [hq] at HCS
                  clear hq
                  go_wp2_with fail
                  (try rw [← HB.out])
                  go_roundw
                  case rel => exact ⟨j + 1, by omega, by go_num, by rw [HCS.out]; rfl, H.out.trans (Ext.alloc _ _)⟩
                  case measure => simp [intOf]; omega
                | true =>
                  have hk : (D.B j).k = 11 := by simpa [isC] using hq
                  rw [hq] at HCS
                  rw [hk] at y0
                  clear hq
                  go_wp2_with fail
                  (try rw [← HB.out])
                  go_roundw
                  case rel => exact ⟨j + 1, by omega, by go_num, by rw [HCS.out]; go_num, H.out.trans (Ext.alloc _ _)⟩
                  case measure => simp [intOf]; omega
              · obtain rfl : j = D.nb := by omega
                obtain ⟨wf, hwf⟩ : ∃ wf, wf = wr := ⟨_, rfl⟩
                rw [← hwf] at H ⊢
                clear hwf hlt hj
                have hcc := HCN.out
                have hNC1 := HNCM.out
                have hccl := cnt_le D.nb (isC D)
                obtain ⟨cc, hcc2⟩ : ∃ cc, cnt D.nb (isC D) = cc := ⟨_, rfl⟩
                rw [hcc2] at hcc hccl ⊢
                have hw5 : IntKind.i64.wrap (2 * (cc : Int)) = 2 * (cc : Int) := IntWalk.i64_in _ (by omega)
                have hw6 : IntKind.i64.wrap ((M : Int) + 2 * (cc : Int)) = (NC : Int) := by rw [IntWalk.i64_in _ (by omega)]; omega
                have hEQ : ((NC : Int) == (NC : Int)) = true := by simp
                have HIT : Hid (∀ w', Ext wf w' → Calls Tryz.prog 32 #[.slice (if kr = M then Ar else Option.map (fun x => x.add M) Ar) (2 * ncl D) (kr - M), .slice (if pp.cC = M then pp.AC else Option.map (fun x => x.add M) pp.AC) (2 * ncl D) (pp.cC - M)] w' fun e w'' => e = .returned (.bool true) ∧ Ext w' w'') := fun w' x => by
                  have r1 := (slice_ri (l := M) HR.out.kc (HR.out.ri.ext (H.out.trans x))).congr (g := fun i => ceX D F (M + i)) (fun i _ => HE2.out _ (by omega))
                  have r2 := slice_ri (l := M) HCC.out (show Ri w' pp.AC NC (ceX D F) by
                    have := (HPM7.out.ext (HR.out.ext.trans (H.out.trans x))).init
                    rw [show (prD D F).nc = NC from HNC.out] at this
                    exact this)
                  rw [show NC - M = 2 * ncl D by omega] at r1 r2
                  exact ints_true (by omega) r1 r2
                obtain ⟨⟨q0, q1, q2⟩, ⟨m0, m1, m2, m3⟩, c0, c1, c2⟩ := HQ.out _ H.out
                have hgl := World.block_lt_of_cell? _ _ q0
                have hpl := World.block_lt_of_cell? _ _ m0
                clear hcc hcc2
                go_upto_region 30 with fail
                have hb := Ext.refl wf
                have hL := fun (x : Later _) => (Ext.trans hb x.ext).old.1
                refine wp_region_later (by kernel_rfl) (by kernel_rfl) ?_
                repeat (go_big_quiet_step ((go_at_call 32; (with_reducible exact Calls.later (HIT.out _ (Later.ext _))))))
                refine wpQuiet_nil ?_
                intro w2 hw2
                replace hb := Ext.trans hb (Later.of hw2)
                clear hw2 hL
                obtain ⟨hc, hf⟩ := hb.old
                go_wp2_with fail
                all_goals
                  go_ret
                  exact ⟨rfl, HE.out.trans (X5c.out.trans (H.out.trans hb))⟩
/-- The law CompileCells. -/
theorem compileCells_any {w : World} {D : Dia} {p : Pl} {Af Ai : Option Addr} {m cf k ci : Nat} {F IN : Nat → Int} (d : Dm w D p) (r : Ri w Af m F) (_hm : m ≤ maxLen) (ri : Ri w Ai k IN) (_hk : k ≤ maxLen) (hT : Tabs w) (hO : TabO w) :
    Calls Tryz.prog 6 #[dgv D p, .slice Af m cf, .slice Ai k ci] w fun e w' => e = .returned (.bool true) ∧ Ext w w' := by
  by_cases h1 : litB D = false ∨ 100 < m ∨ 40 < k ∨ chk D ≠ 0
  · exact kxc_bad d hT hO h1
  · have hl : litB D = true := by cases q : litB D with | true => rfl | false => exact absurd (.inl q) h1
    have hc : chk D = 0 := by
      by_cases q : chk D = 0
      · exact q
      · exact absurd (.inr (.inr (.inr q))) h1
    by_cases h2 : cmE D m F = 0
    · exact kxc_ok d hT hO hl (fun q => h1 (.inr (.inl q))) (fun q => h1 (.inr (.inr (.inl q)))) hc r ri h2
    · exact kxc_err d hT hO hl (fun q => h1 (.inr (.inl q))) (fun q => h1 (.inr (.inr (.inl q)))) hc r h2
end Go.Proofs.YtkocmdpfknoiaaaGreatDoor
