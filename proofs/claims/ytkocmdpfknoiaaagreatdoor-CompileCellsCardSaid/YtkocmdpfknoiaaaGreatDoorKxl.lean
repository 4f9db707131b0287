/- Programs of diagrams: Compile where nothing is wrong. -/
import Derived.Test.YtkocmdpfknoiaaaGreatDoorKxk
import Derived.Test.YtkocmdpfknoiaaaGreatDoorKdf
namespace Go.Proofs.YtkocmdpfknoiaaaGreatDoor
open Go Go.RowKit Go.ChangeShapes Go.WideShapes
attribute [local go_sem ↓] Go.wp_at_zero Go.wp_at_succ

theorem cdN_le (D : Dia) (F : Nat → Int) (hnb : D.nb ≤ 64) : cdN D F ≤ 256 := by
  have h1 := oxL_len D F (ordL D).length
  have h2 := ord_le D
  have h3 : (m1L D F (ndl D)).length = ndl D := fmL_len1 _
  have h4 : (m2L D (ndl D)).length = ndl D := fmL_len1 _
  have h5 := ndc_le D
  show (oxL D F (ordL D).length ++ m1L D F (ndl D) ++ m2L D (ndl D)).length ≤ 256
  rw [List.length_append, List.length_append]; omega
def CmG (D : Dia) (F : Nat → Int) (w : World) (e : Ending) (w' : World) : Prop := ∃ pp : Pp, e = .returned (.tuple #[pgv (prD D F) pp, .nilIface]) ∧ Pm w' (prD D F) pp ∧ (prD D F).nc ≤ pp.cC ∧ Ext w w'
abbrev NB (w : World) (g : Nat) : Prop := w.rowIs g 31 4 (b4 (.slice none 0 0) (.slice none 0 0) (.slice none 0 0) (.slice none 0 0))
theorem nb4 {W W' : World} (h : Ext (W.alloc (.cells #[.slice none 0 0, .slice none 0 0, .slice none 0 0, .slice none 0 0] 31)) W') : NB W' W.heap.size :=
  World.rowIs.ext (World.rowIs_alloc W #[.slice none 0 0, .slice none 0 0, .slice none 0 0, .slice none 0 0] 31 (b4 (.slice none 0 0) (.slice none 0 0) (.slice none 0 0) (.slice none 0 0)) (fun i hi => by
    rcases (show i = 0 ∨ i = 1 ∨ i = 2 ∨ i = 3 by simp at hi; omega) with h | h | h | h <;> subst h <;> rfl)) h
theorem nb4d {W W' : World} (h : Ext ((W.alloc (.cells #[.slice none 0 0, .slice none 0 0, .slice none 0 0, .slice none 0 0] 31)).drew) W') : NB W' W.heap.size := nb4 ((Ext.drew _).trans h)
theorem own_cap {w : World} {base c n : Nat} {A : Option Addr} {F : Nat → Int} (h : OwI w base A c F n) : n ≤ c := by
  obtain ⟨_, ⟨e, hz⟩ | ⟨g, cap, cur, e, hb, hg, hnc, hcm, hcs, ht⟩⟩ := h
  · omega
  · injection e with e1 e2 e3; omega
/-- What region 4 leaves. -/
structure CmS (D : Dia) (F : Nat → Int) (NC NI : Nat) (V w : World) (g : Nat) (pp : Pp) : Prop where
  ext : Ext V w
  row : w.rowIs g 31 4 (b4 (.slice pp.AP D.ni pp.cP) (.slice pp.AC NC pp.cC) (.slice pp.AX NI pp.cX) (.slice pp.AO D.no pp.cO))
  lo : V.heap.size ≤ g
  rp : Rp w pp.AP D.ni D.P
  rc : Ri w pp.AC NC (ceX D F)
  nc : pp.AC = none → pp.cC = 0
  kc : NC ≤ pp.cC
  rx : Rx w pp.AX NI (cdX D F)
  kx : NI ≤ pp.cX
  ro : Ri w pp.AO D.no D.O
/-- The four lists. -/
structure Ct (D : Dia) (F : Nat → Int) (NC NI : Nat) (w : World) (pp : Pp) : Prop where
  rp : Rp w pp.AP D.ni D.P
  rc : Ri w pp.AC NC (ceX D F)
  nc : pp.AC = none → pp.cC = 0
  kc : NC ≤ pp.cC
  rx : Rx w pp.AX NI (cdX D F)
  kx : NI ≤ pp.cX
  ro : Ri w pp.AO D.no D.O
theorem Rp.bt {w w' : World} {g : Nat} {t : TypeId} {A : Option Addr} {n m : Nat} {P : Nat → Prt} (r : Rp w A n P) (h : Bt g w w') (hr : w.rowIs g t m (fun _ => .slice none 0 0)) : Rp w' A n P := fun hn => by
  obtain ⟨b, o, rfl, hb, hc⟩ := r hn
  have hne : b ≠ g := fun e => by
    subst e
    have := row_cell hr (hc 0 hn).1
    cases this
  have q : ∀ j, w'.cell? ⟨b, j, none⟩ = w.cell? ⟨b, j, none⟩ := fun j => by unfold World.cell?; rw [h.keep b hne]
  exact ⟨b, o, rfl, Nat.lt_of_lt_of_le hb h.sz, fun i hi => by simp only [q]; exact hc i hi⟩
theorem Rx.bt {w w' : World} {g : Nat} {t : TypeId} {A : Option Addr} {n m : Nat} {X : Nat → Ins} (r : Rx w A n X) (h : Bt g w w') (hr : w.rowIs g t m (fun _ => .slice none 0 0)) : Rx w' A n X := fun hn => by
  obtain ⟨b, o, rfl, hb, hc⟩ := r hn
  have hne : b ≠ g := fun e => by
    subst e
    have := row_cell hr (hc 0 hn).1
    cases this
  have q : ∀ j, w'.cell? ⟨b, j, none⟩ = w.cell? ⟨b, j, none⟩ := fun j => by unfold World.cell?; rw [h.keep b hne]
  exact ⟨b, o, rfl, Nat.lt_of_lt_of_le hb h.sz, fun i hi => by simp only [q]; exact hc i hi⟩
theorem Ct.bt {D : Dia} {F : Nat → Int} {NC NI : Nat} {w w' : World} {pp : Pp} {g m : Nat} {t : TypeId} (c : Ct D F NC NI w pp) (h : Bt g w w') (hr : w.rowIs g t m (fun _ => .slice none 0 0)) : Ct D F NC NI w' pp :=
  ⟨c.rp.bt h hr, c.rc.bt h hr, c.nc, c.kc, c.rx.bt h hr, c.kx, c.ro.bt h hr⟩
theorem Ct.ext {D : Dia} {F : Nat → Int} {NC NI : Nat} {w w' : World} {pp : Pp} (c : Ct D F NC NI w pp) (h : Ext w w') : Ct D F NC NI w' pp :=
  ⟨c.rp.ext h, c.rc.ext h, c.nc, c.kc, c.rx.ext h, c.kx, c.ro.ext h⟩
theorem nb_const {w : World} {g : Nat} (h : NB w g) : w.rowIs g 31 4 (fun _ => .slice none 0 0) := h.congr fun i hi => by unfold b4; simp only [ite_self]
theorem cms_a {D : Dia} {F : Nat → Int} {NC NI : Nat} {V w : World} {pp : Pp} (x : Ext V w) (c : Ct D F NC NI w pp) : CmS D F NC NI V (w.alloc (.cells #[.slice pp.AP D.ni pp.cP, .slice pp.AC NC pp.cC, .slice pp.AX NI pp.cX, .slice pp.AO D.no pp.cO] 31)) w.heap.size pp := by
  have c' := c.ext (Ext.alloc w (.cells #[.slice pp.AP D.ni pp.cP, .slice pp.AC NC pp.cC, .slice pp.AX NI pp.cX, .slice pp.AO D.no pp.cO] 31))
  refine ⟨x.trans (Ext.alloc _ _), World.rowIs_alloc w _ 31 _ (fun i hi => ?_), x.size, c'.rp, c'.rc, c'.nc, c'.kc, c'.rx, c'.kx, c'.ro⟩
  rcases (show i = 0 ∨ i = 1 ∨ i = 2 ∨ i = 3 by simp at hi; omega) with h | h | h | h <;> subst h <;> rfl
theorem cms_b {D : Dia} {F : Nat → Int} {NC NI : Nat} {V w : World} {g : Nat} {pp : Pp} (x : Ext V w) (c : Ct D F NC NI w pp) (u : NB w g) (hg : V.heap.size ≤ g) :
    CmS D F NC NI V ((((w.setCell ⟨g, 0, none⟩ (.slice pp.AP D.ni pp.cP)).setCell ⟨g, 1, none⟩ (.slice pp.AC NC pp.cC)).setCell ⟨g, 2, none⟩ (.slice pp.AX NI pp.cX)).setCell ⟨g, 3, none⟩ (.slice pp.AO D.no pp.cO)) g pp := by
  have hb : Bt g w ((((w.setCell ⟨g, 0, none⟩ (.slice pp.AP D.ni pp.cP)).setCell ⟨g, 1, none⟩ (.slice pp.AC NC pp.cC)).setCell ⟨g, 2, none⟩ (.slice pp.AX NI pp.cX)).setCell ⟨g, 3, none⟩ (.slice pp.AO D.no pp.cO)) := ((((Bt.refl g w).set _ _).set _ _).set _ _).set _ _
  have c' := c.bt hb (nb_const u)
  refine ⟨set4_ext x hg _ _ _ _, ((((u.set 0 _).set 1 _).set 2 _).set 3 _).congr (fun i hi => ?_), hg, c'.rp, c'.rc, c'.nc, c'.kc, c'.rx, c'.kx, c'.ro⟩
  rcases (show i = 0 ∨ i = 1 ∨ i = 2 ∨ i = 3 by omega) with h | h | h | h <;> subst h <;> rfl
set_option maxRecDepth 100000 in
set_option maxHeartbeats 1000000 in
theorem cm_ok {w : World} {D : Dia} {F : Nat → Int} {p : Pl} {m cf : Nat} {Af : Option Addr} (d : Dm w D p) (ok : OkD D) (hF : ∀ j, j < D.nb → 0 ≤ F j ∧ F j ≤ 30) (hO : TabO w)
    (hp : ∀ w', Ext w w' → Calls Tryz.prog 35 #[dgv D p, .slice Af m cf] w' (fun e w'' => ∃ q, e = .returned (.tuple #[sov D p q, .nilIface]) ∧ SoM w'' D F p q ∧ Ext w' w'')) (hs : allN (cdN D F) (fun i => shE (cdX D F i)) = true) :
    Calls Tryz.prog 9 #[dgv D p, .slice Af m cf] w (CmG D F w) := by
  have HP := Lib.hid hp; clear hp
  have HD := Lib.hid d
  have hni := ok.ni; have hno := ok.no; have hnb := ok.nb
  have HCL : Hid (∀ w' q, Ext w w' → SoM w' D F p q → ∀ w2, Ext w' w2 → Calls Tryz.prog 37 #[sov D p q] w2 (CeR D F w2)) := fun w' q x m w2 x2 => cells_any (m.ext x2) ok.nb
  have HCC : Hid (∀ w' q, Ext w w' → SoM w' D F p q → ∀ w2, Ext w' w2 → Calls Tryz.prog 38 #[sov D p q] w2 (CoR D F w2)) := fun w' q x m w2 x2 => code_any (m.ext x2) ok hF (hO.ext (x.trans x2))
  have HCP : Hid (∀ w', Ext w w' → Calls Tryz.prog 36 #[.slice p.AI D.ni p.cI] w' (CpR D.P D.ni w')) := fun w' x => cloneP_any (d.ext x).ports d.nI (by omega)
  have HCO : Hid (∀ w', Ext w w' → Calls Tryz.prog 39 #[.slice p.AO D.no p.cO] w' (ClR D.O D.no w')) := fun w' x => cloneZ_any (d.ext x).outs d.nO (by omega)
  have HSH := Lib.hid hs
  obtain ⟨NC, hNC⟩ : ∃ NC, D.nb + ndl D + 2 * ncl D = NC := ⟨_, rfl⟩
  obtain ⟨NI, hNI⟩ : ∃ NI, cdN D F = NI := ⟨_, rfl⟩
  have HNC := Lib.hid hNC; have HNI := Lib.hid hNI
  have HNL : Hid (NI ≤ 256) := by rw [← hNI]; exact cdN_le D F hnb
  unfold CeR at HCL
  unfold CoR at HCC
  rw [hNC] at HCL
  rw [hNI] at HCC
  clear d ok hF hO hs hNC hNI
  obtain ⟨W0, hW0⟩ : ∃ W0, W0 = w.alloc (.cells #[.slice p.AI D.ni p.cI, .slice p.AB D.nb p.cB, .slice p.AO D.no p.cO] 26) := ⟨_, rfl⟩
  obtain ⟨W1, hW1⟩ : ∃ W1, W1 = W0.alloc (.cells #[.slice none 0 0, .slice none 0 0, .slice none 0 0, .slice none 0 0] 31) := ⟨_, rfl⟩
  obtain ⟨hbd, hx0, hz0, hx1, hrow⟩ := cm_boxes w D p hW0 hW1
  have HBD := Lib.hid hbd; have HX0 := Lib.hid hx0; have HX1 := Lib.hid hx1; have HROW := Lib.hid hrow
  have hs1 := hx1.size
  clear hbd hx0 hrow hx1
  go_enter Tryz.func9, Tryz.ntmps9
  go_upto_region 1 with fail
  rw [← hW0, ← hW1]; clear hW0 hW1
  obtain ⟨c0, c1, c2⟩ := HBD.out.ext HX1.out
  go_upto_region 2 with (go_at_call 35; (with_reducible refine (HP.out _ (HX0.out.trans HX1.out)).mono ?_); rintro e1 w1 ⟨q, rfl, hm, h1⟩; have XP := Lib.hid h1; have HM := Lib.hid hm; clear hm h1 c0 c1 c2)
  obtain ⟨V, hV⟩ : ∃ V, V = w1.alloc (.cells #[.slice p.AI D.ni p.cI, .slice p.AB D.nb p.cB, .slice p.AO D.no p.cO, .slice q.Ao q.lo q.co, .slice q.Ad q.ld q.cd, .slice q.Ac q.lc q.cc, .slice q.Af D.nb q.cf, .slice q.Ar D.nb q.cr] 85) := ⟨_, rfl⟩
  have HSB : Hid (Sb V w1.heap.size D p q) := by rw [hV]; exact Sb.new w1 D p q
  have XV : Hid (Ext w1 V) := by rw [hV]; exact Ext.alloc _ _
  rw [← hV]; clear hV
  have XWV := Lib.hid (HX0.out.trans (HX1.out.trans (XP.out.trans XV.out)))
  have hsv := XV.out.size
  go_upto_region 4 with fail
  have HS : Hid (∀ w', Ext V w' → w'.cell? ⟨w.heap.size, 0, none⟩ = some (.slice p.AI D.ni p.cI) ∧ w'.cell? ⟨w.heap.size, 2, none⟩ = some (.slice p.AO D.no p.cO) ∧ w'.cell? ⟨w1.heap.size, 0, none⟩ = some (.slice p.AI D.ni p.cI) ∧ w'.cell? ⟨w1.heap.size, 1, none⟩ = some (.slice p.AB D.nb p.cB) ∧ w'.cell? ⟨w1.heap.size, 2, none⟩ = some (.slice p.AO D.no p.cO) ∧ w'.cell? ⟨w1.heap.size, 3, none⟩ = some (.slice q.Ao q.lo q.co) ∧ w'.cell? ⟨w1.heap.size, 4, none⟩ = some (.slice q.Ad q.ld q.cd) ∧ w'.cell? ⟨w1.heap.size, 5, none⟩ = some (.slice q.Ac q.lc q.cc) ∧ w'.cell? ⟨w1.heap.size, 6, none⟩ = some (.slice q.Af D.nb q.cf) ∧ w'.cell? ⟨w1.heap.size, 7, none⟩ = some (.slice q.Ar D.nb q.cr)) := fun w' x => by
    obtain ⟨a0, a1, a2⟩ := HBD.out.ext (HX1.out.trans (XP.out.trans (XV.out.trans x)))
    obtain ⟨b0, b1, b2, b3, b4, b5, b6, b7⟩ := HSB.out.ext x
    exact ⟨a0, a2, b0, b1, b2, b3, b4, b5, b6, b7⟩
  obtain ⟨a0, a2, s0, s1, s2, s3, s4, s5, s6, s7⟩ := HS.out _ (Ext.refl _)
  go_cut [8] (fun s wx => ∃ g pp, s = .pointer (some ⟨g, 0, none⟩) ∧ Hid (CmS D F NC NI V wx g pp))
  case first =>
    go_region_held3 (fun w' => w'.cell? ⟨w.heap.size, 0, none⟩ = some (.slice p.AI D.ni p.cI) ∧ w'.cell? ⟨w.heap.size, 2, none⟩ = some (.slice p.AO D.no p.cO) ∧ w'.cell? ⟨w1.heap.size, 0, none⟩ = some (.slice p.AI D.ni p.cI) ∧ w'.cell? ⟨w1.heap.size, 1, none⟩ = some (.slice p.AB D.nb p.cB) ∧ w'.cell? ⟨w1.heap.size, 2, none⟩ = some (.slice p.AO D.no p.cO) ∧ w'.cell? ⟨w1.heap.size, 3, none⟩ = some (.slice q.Ao q.lo q.co) ∧ w'.cell? ⟨w1.heap.size, 4, none⟩ = some (.slice q.Ad q.ld q.cd) ∧ w'.cell? ⟨w1.heap.size, 5, none⟩ = some (.slice q.Ac q.lc q.cc) ∧ w'.cell? ⟨w1.heap.size, 6, none⟩ = some (.slice q.Af D.nb q.cf) ∧ w'.cell? ⟨w1.heap.size, 7, none⟩ = some (.slice q.Ar D.nb q.cr)) (exact HS.out _ (by (with_reducible (repeat (first | exact Ext.refl _ | assumption | (refine Ext.toSet ?_ (by omega)) | refine Ext.toAlloc ?_ | refine Ext.toDrew ?_ | refine Ext.toDrewN ?_ | refine Ext.trans ?_ (by assumption)))); (first | done | fail "no")))
      (first
        | (go_at_call 36; (with_reducible refine (HCP.out _ (XWV.out.trans (by (with_reducible (repeat (first | exact Ext.refl _ | assumption | (refine Ext.toSet ?_ (by omega)) | refine Ext.toAlloc ?_ | refine Ext.toDrew ?_ | refine Ext.toDrewN ?_ | refine Ext.trans ?_ (by assumption)))); (first | done | fail "no")))).mono ?_); rintro e3 w3 ⟨B3, k3, rfl, hr3, hf3, hx3⟩; have R3 := Lib.hid hr3; have F3 := Lib.hid hf3; have x3 : Ext V w3 := (by (with_reducible (repeat (first | exact Ext.refl _ | assumption | (refine Ext.toSet ?_ (by omega)) | refine Ext.toAlloc ?_ | refine Ext.toDrew ?_ | refine Ext.toDrewN ?_ | refine Ext.trans ?_ (by assumption)))); (first | done | fail "no")); have X3 := Lib.hid x3; have hs3 := X3.out.size; clear hr3 hf3; (first | (have U2 := Lib.hid (World.rowIs.ext U.out (show Ext V w3 from (by (with_reducible (repeat (first | exact Ext.refl _ | assumption | (refine Ext.toSet ?_ (by omega)) | refine Ext.toAlloc ?_ | refine Ext.toDrew ?_ | refine Ext.toDrewN ?_ | refine Ext.trans ?_ (by assumption)))); (first | done | fail "no")))); clear U; have U := U2; clear U2; clear n0 n1 n2 n3 nf; obtain ⟨n0, n1, n2, n3, nf⟩ := W4.of U.out) | ((with_reducible have u1 := nb4d hx3); have U := Lib.hid u1; clear u1; obtain ⟨n0, n1, n2, n3, nf⟩ := W4.of U.out; have nl := U.out.lt) | ((with_reducible have u1 := nb4 hx3); have U := Lib.hid u1; clear u1; obtain ⟨n0, n1, n2, n3, nf⟩ := W4.of U.out; have nl := U.out.lt) | skip); clear hx3)
        | (go_at_call 37; (with_reducible refine (HCL.out w1 q (HX0.out.trans (HX1.out.trans XP.out)) HM.out _ (XV.out.trans (X3.out.trans (by (with_reducible (repeat (first | exact Ext.refl _ | assumption | (refine Ext.toSet ?_ (by omega)) | refine Ext.toAlloc ?_ | refine Ext.toDrew ?_ | refine Ext.toDrewN ?_ | refine Ext.trans ?_ (by assumption)))); (first | done | fail "no"))))).mono ?_); rintro e4 w4 ⟨B4, k4, rfl, hr4, hx4⟩; have R4 := Lib.hid hr4; have X34 := Lib.hid (show Ext w3 w4 from (by (with_reducible (repeat (first | exact Ext.refl _ | assumption | (refine Ext.toSet ?_ (by omega)) | refine Ext.toAlloc ?_ | refine Ext.toDrew ?_ | refine Ext.toDrewN ?_ | refine Ext.trans ?_ (by assumption)))); (first | done | fail "no"))); have x4 := X3.out.trans X34.out; have X4 := Lib.hid x4; have hs4 := X34.out.size; clear hr4; (first | (have U2 := Lib.hid (World.rowIs.ext U.out (show Ext w3 w4 from (by (with_reducible (repeat (first | exact Ext.refl _ | assumption | (refine Ext.toSet ?_ (by omega)) | refine Ext.toAlloc ?_ | refine Ext.toDrew ?_ | refine Ext.toDrewN ?_ | refine Ext.trans ?_ (by assumption)))); (first | done | fail "no")))); clear U; have U := U2; clear U2; clear n0 n1 n2 n3 nf; obtain ⟨n0, n1, n2, n3, nf⟩ := W4.of U.out) | ((with_reducible have u1 := nb4d hx4); have U := Lib.hid u1; clear u1; obtain ⟨n0, n1, n2, n3, nf⟩ := W4.of U.out; have nl := U.out.lt) | ((with_reducible have u1 := nb4 hx4); have U := Lib.hid u1; clear u1; obtain ⟨n0, n1, n2, n3, nf⟩ := W4.of U.out; have nl := U.out.lt) | skip); clear hx4)
        | (go_at_call 38; (with_reducible refine (HCC.out w1 q (HX0.out.trans (HX1.out.trans XP.out)) HM.out _ (XV.out.trans (X4.out.trans (by (with_reducible (repeat (first | exact Ext.refl _ | assumption | (refine Ext.toSet ?_ (by omega)) | refine Ext.toAlloc ?_ | refine Ext.toDrew ?_ | refine Ext.toDrewN ?_ | refine Ext.trans ?_ (by assumption)))); (first | done | fail "no"))))).mono ?_); rintro e5 w5 ⟨B5, k5, rfl, hr5, hx5⟩; have R5 := Lib.hid hr5; have X45 := Lib.hid (show Ext w4 w5 from (by (with_reducible (repeat (first | exact Ext.refl _ | assumption | (refine Ext.toSet ?_ (by omega)) | refine Ext.toAlloc ?_ | refine Ext.toDrew ?_ | refine Ext.toDrewN ?_ | refine Ext.trans ?_ (by assumption)))); (first | done | fail "no"))); have x5 := X4.out.trans X45.out; have X5 := Lib.hid x5; have hs5 := X45.out.size; clear hr5; (first | (have U2 := Lib.hid (World.rowIs.ext U.out (show Ext w4 w5 from (by (with_reducible (repeat (first | exact Ext.refl _ | assumption | (refine Ext.toSet ?_ (by omega)) | refine Ext.toAlloc ?_ | refine Ext.toDrew ?_ | refine Ext.toDrewN ?_ | refine Ext.trans ?_ (by assumption)))); (first | done | fail "no")))); clear U; have U := U2; clear U2; clear n0 n1 n2 n3 nf; obtain ⟨n0, n1, n2, n3, nf⟩ := W4.of U.out) | ((with_reducible have u1 := nb4d hx5); have U := Lib.hid u1; clear u1; obtain ⟨n0, n1, n2, n3, nf⟩ := W4.of U.out; have nl := U.out.lt) | ((with_reducible have u1 := nb4 hx5); have U := Lib.hid u1; clear u1; obtain ⟨n0, n1, n2, n3, nf⟩ := W4.of U.out; have nl := U.out.lt) | skip); clear hx5)
        | (go_at_call 39; (with_reducible refine (HCO.out _ (XWV.out.trans (X5.out.trans (by (with_reducible (repeat (first | exact Ext.refl _ | assumption | (refine Ext.toSet ?_ (by omega)) | refine Ext.toAlloc ?_ | refine Ext.toDrew ?_ | refine Ext.toDrewN ?_ | refine Ext.trans ?_ (by assumption)))); (first | done | fail "no"))))).mono ?_); rintro e6 w6 ⟨B6, k6, rfl, hr6, hx6⟩; have R6 := Lib.hid hr6; have X56 := Lib.hid (show Ext w5 w6 from (by (with_reducible (repeat (first | exact Ext.refl _ | assumption | (refine Ext.toSet ?_ (by omega)) | refine Ext.toAlloc ?_ | refine Ext.toDrew ?_ | refine Ext.toDrewN ?_ | refine Ext.trans ?_ (by assumption)))); (first | done | fail "no"))); have x6 := X5.out.trans X56.out; have X6 := Lib.hid x6; have hs6 := X56.out.size; clear hr6; (first | (have U2 := Lib.hid (World.rowIs.ext U.out (show Ext w5 w6 from (by (with_reducible (repeat (first | exact Ext.refl _ | assumption | (refine Ext.toSet ?_ (by omega)) | refine Ext.toAlloc ?_ | refine Ext.toDrew ?_ | refine Ext.toDrewN ?_ | refine Ext.trans ?_ (by assumption)))); (first | done | fail "no")))); clear U; have U := U2; clear U2; clear n0 n1 n2 n3 nf; obtain ⟨n0, n1, n2, n3, nf⟩ := W4.of U.out) | ((with_reducible have u1 := nb4d hx6); have U := Lib.hid u1; clear u1; obtain ⟨n0, n1, n2, n3, nf⟩ := W4.of U.out; have nl := U.out.lt) | ((with_reducible have u1 := nb4 hx6); have U := Lib.hid u1; clear u1; obtain ⟨n0, n1, n2, n3, nf⟩ := W4.of U.out; have nl := U.out.lt) | skip); clear hx6))
    all_goals
      have HCT : Hid (Ct D F NC NI w6 ⟨B3, k3, B4, k4, B5, k5, B6, k6⟩) := by
        have hx := R5.out.rx
        rw [show (cdL D F).length = NI from HNI.out] at hx
        have hk := R5.out.cap
        rw [show (cdL D F).length = NI from HNI.out] at hk
        exact ⟨R3.out.ext (X34.out.trans (X45.out.trans X56.out)), (R4.out.ri).ext (X45.out.trans X56.out), R4.out.len0, own_cap R4.out, hx.ext X56.out, hk, R6.out.ri⟩
      go_wp2_with fail
      go_meet
      first
        | (with_reducible exact ⟨_, ⟨B3, k3, B4, k4, B5, k5, B6, k6⟩, rfl, Lib.hid (cms_a x6 HCT.out)⟩)
        | (with_reducible refine ⟨_, ⟨B3, k3, B4, k4, B5, k5, B6, k6⟩, rfl, Lib.hid (cms_b x6 HCT.out U.out ?_)⟩; omega)
  case rest =>
    obtain ⟨g, pp, rfl, hcs⟩ := hcut
    have HR := Lib.hid (hcs.out.row)
    have hne1 : ¬ g = w.heap.size + 1 := by have := hcs.out.lo; have := (World.rowIs.ext HROW.out (XP.out.trans XV.out)).lt; omega
    have hne2 : ¬ w.heap.size + 1 = g := fun e => hne1 e.symm
    have HROW6 := Lib.hid ((World.rowIs.ext HROW.out (XP.out.trans (XV.out.trans hcs.out.ext))).congr (g := b4 (.slice none 0 0) (.slice none 0 0) (.slice none 0 0) (.slice none 0 0)) (fun i hi => by unfold b4; simp only [ite_self]))
    have HCX : Hid (∀ w', Ext wc w' → Calls Tryz.prog 40 #[.slice pp.AX NI pp.cX, .func (.func 41) #[] #[]] w' fun e w'' => e = .returned (.bool false) ∧ Ext w' w'') := fun w' x => by
      have := containsX_any pp.AX NI pp.cX (cdX D F) w' (hcs.out.rx.ext x) (by have := HNL.out; omega)
      rw [show allN NI (fun i => shE (cdX D F i)) = true by rw [← HNI.out]; exact HSH.out] at this
      exact this
    obtain ⟨m0, m1, m2, m3, mf⟩ := W4.of HR.out
    obtain ⟨r0, r1, r2, r3, rf⟩ := W4.of HROW6.out
    clear a0 a2 s0 s1 s2 s3 s4 s5 s6 s7
    have HCS := hcs
    clear hcs
    go_wp2_with (go_at_call 40; (with_reducible refine (HCX.out _ (Ext.refl _)).mono ?_); rintro e7 w7 ⟨rfl, h7⟩; have X7 := Lib.hid h7; clear h7 m0 m1 m2 m3 mf r0 r1 r2 r3 rf; obtain ⟨m0, m1, m2, m3, mf⟩ := W4.of (World.rowIs.ext HR.out X7.out); obtain ⟨r0, r1, r2, r3, rf⟩ := W4.of (World.rowIs.ext HROW6.out X7.out))
    obtain ⟨W6, hW6⟩ : ∃ W6, W6 = (((w7.setCell ⟨w.heap.size + 1, 0, none⟩ (.slice pp.AP D.ni pp.cP)).setCell ⟨w.heap.size + 1, 1, none⟩ (.slice pp.AC NC pp.cC)).setCell ⟨w.heap.size + 1, 2, none⟩ (.slice pp.AX NI pp.cX)).setCell ⟨w.heap.size + 1, 3, none⟩ (.slice pp.AO D.no pp.cO) := ⟨_, rfl⟩
    obtain ⟨q0, q1, q2, q3⟩ := ret4 (World.rowIs.ext HROW6.out X7.out) _ _ _ _ hW6
    have hlo := HROW.out.lt
    have HE := Lib.hid (set4_ext (HX1.out.trans (XP.out.trans (XV.out.trans (HCS.out.ext.trans X7.out)))) (g := w.heap.size + 1) (by omega) (.slice pp.AP D.ni pp.cP) (.slice pp.AC NC pp.cC) (.slice pp.AX NI pp.cX) (.slice pp.AO D.no pp.cO))
    have HBT : Hid (Bt (w.heap.size + 1) w7 W6) := by rw [hW6]; exact ((((Bt.refl _ _).set _ _).set _ _).set _ _).set _ _
    rw [← hW6] at HE
    rw [← hW6]; clear hW6 r0 r1 r2 r3 rf m0 m1 m2 m3 mf
    have HC := Lib.hid (((Ct.ext ⟨HCS.out.rp, HCS.out.rc, HCS.out.nc, HCS.out.kc, HCS.out.rx, HCS.out.kx, HCS.out.ro⟩ X7.out : Ct D F NC NI w7 pp)).bt HBT.out (nb_const (World.rowIs.ext HROW6.out X7.out)))
    have hnc1 := HNC.out
    have hni1 := HNI.out
    have hnl := HNL.out
    refine bodyPost_ret (v := .tuple #[.agg #[.slice pp.AP D.ni pp.cP, .slice pp.AC NC pp.cC, .slice pp.AX NI pp.cX, .slice pp.AO D.no pp.cO], .nilIface]) (by simp [results, Tryz.results9, go_sem, q0, q1, q2, q3]) rfl ⟨pp, ?_, ⟨HC.out.rp, ?_, ?_, HC.out.ro, ?_, ?_, ?_, ?_, HC.out.nc, ?_⟩, ?_, HX0.out.trans HE.out⟩
    · show _ = Ending.returned (.tuple #[.agg #[.slice pp.AP D.ni pp.cP, .slice pp.AC (D.nb + ndl D + 2 * ncl D) pp.cC, .slice pp.AX (cdN D F) pp.cX, .slice pp.AO D.no pp.cO], .nilIface])
      rw [hnc1, hni1]
    · show Ri W6 pp.AC (D.nb + ndl D + 2 * ncl D) (ceX D F); rw [hnc1]; exact HC.out.rc
    · show Rx W6 pp.AX (cdN D F) (cdX D F); rw [hni1]; exact HC.out.rx
    · show D.ni ≤ _; unfold maxLen; omega
    · show D.nb + ndl D + 2 * ncl D ≤ _; have := ndc_le D; unfold maxLen; omega
    · show cdN D F ≤ _; rw [hni1]; unfold maxLen; omega
    · show D.no ≤ _; unfold maxLen; omega
    · show cdN D F ≤ _; rw [hni1]; exact HC.out.kx
    · show D.nb + ndl D + 2 * ncl D ≤ _; rw [hnc1]; exact HC.out.kc
set_option maxRecDepth 100000 in
set_option maxHeartbeats 1000000 in
theorem cm_far {w : World} {D : Dia} {F : Nat → Int} {p : Pl} {m cf : Nat} {Af : Option Addr} (d : Dm w D p) (ok : OkD D) (hF : ∀ j, j < D.nb → 0 ≤ F j ∧ F j ≤ 30) (hO : TabO w)
    (hp : ∀ w', Ext w w' → Calls Tryz.prog 35 #[dgv D p, .slice Af m cf] w' (fun e w'' => ∃ q, e = .returned (.tuple #[sov D p q, .nilIface]) ∧ SoM w'' D F p q ∧ Ext w' w'')) (hs : allN (cdN D F) (fun i => shE (cdX D F i)) = false) :
    Calls Tryz.prog 9 #[dgv D p, .slice Af m cf] w (CmE 3 w) := by
  have HP := Lib.hid hp; clear hp
  have HD := Lib.hid d
  have hni := ok.ni; have hno := ok.no; have hnb := ok.nb
  have HCL : Hid (∀ w' q, Ext w w' → SoM w' D F p q → ∀ w2, Ext w' w2 → Calls Tryz.prog 37 #[sov D p q] w2 (CeR D F w2)) := fun w' q x m w2 x2 => cells_any (m.ext x2) ok.nb
  have HCC : Hid (∀ w' q, Ext w w' → SoM w' D F p q → ∀ w2, Ext w' w2 → Calls Tryz.prog 38 #[sov D p q] w2 (CoR D F w2)) := fun w' q x m w2 x2 => code_any (m.ext x2) ok hF (hO.ext (x.trans x2))
  have HCP : Hid (∀ w', Ext w w' → Calls Tryz.prog 36 #[.slice p.AI D.ni p.cI] w' (CpR D.P D.ni w')) := fun w' x => cloneP_any (d.ext x).ports d.nI (by omega)
  have HCO : Hid (∀ w', Ext w w' → Calls Tryz.prog 39 #[.slice p.AO D.no p.cO] w' (ClR D.O D.no w')) := fun w' x => cloneZ_any (d.ext x).outs d.nO (by omega)
  have HSH := Lib.hid hs
  obtain ⟨NC, hNC⟩ : ∃ NC, D.nb + ndl D + 2 * ncl D = NC := ⟨_, rfl⟩
  obtain ⟨NI, hNI⟩ : ∃ NI, cdN D F = NI := ⟨_, rfl⟩
  have HNC := Lib.hid hNC; have HNI := Lib.hid hNI
  have HNL : Hid (NI ≤ 256) := by rw [← hNI]; exact cdN_le D F hnb
  unfold CeR at HCL
  unfold CoR at HCC
  rw [hNC] at HCL
  rw [hNI] at HCC
  clear d ok hF hO hs hNC hNI
  obtain ⟨W0, hW0⟩ : ∃ W0, W0 = w.alloc (.cells #[.slice p.AI D.ni p.cI, .slice p.AB D.nb p.cB, .slice p.AO D.no p.cO] 26) := ⟨_, rfl⟩
  obtain ⟨W1, hW1⟩ : ∃ W1, W1 = W0.alloc (.cells #[.slice none 0 0, .slice none 0 0, .slice none 0 0, .slice none 0 0] 31) := ⟨_, rfl⟩
  obtain ⟨hbd, hx0, hz0, hx1, hrow⟩ := cm_boxes w D p hW0 hW1
  have HBD := Lib.hid hbd; have HX0 := Lib.hid hx0; have HX1 := Lib.hid hx1; have HROW := Lib.hid hrow
  have hs1 := hx1.size
  clear hbd hx0 hrow hx1
  go_enter Tryz.func9, Tryz.ntmps9
  go_upto_region 1 with fail
  rw [← hW0, ← hW1]; clear hW0 hW1
  obtain ⟨c0, c1, c2⟩ := HBD.out.ext HX1.out
  go_upto_region 2 with (go_at_call 35; (with_reducible refine (HP.out _ (HX0.out.trans HX1.out)).mono ?_); rintro e1 w1 ⟨q, rfl, hm, h1⟩; have XP := Lib.hid h1; have HM := Lib.hid hm; clear hm h1 c0 c1 c2)
  obtain ⟨V, hV⟩ : ∃ V, V = w1.alloc (.cells #[.slice p.AI D.ni p.cI, .slice p.AB D.nb p.cB, .slice p.AO D.no p.cO, .slice q.Ao q.lo q.co, .slice q.Ad q.ld q.cd, .slice q.Ac q.lc q.cc, .slice q.Af D.nb q.cf, .slice q.Ar D.nb q.cr] 85) := ⟨_, rfl⟩
  have HSB : Hid (Sb V w1.heap.size D p q) := by rw [hV]; exact Sb.new w1 D p q
  have XV : Hid (Ext w1 V) := by rw [hV]; exact Ext.alloc _ _
  rw [← hV]; clear hV
  have XWV := Lib.hid (HX0.out.trans (HX1.out.trans (XP.out.trans XV.out)))
  have hsv := XV.out.size
  go_upto_region 4 with fail
  have HS : Hid (∀ w', Ext V w' → w'.cell? ⟨w.heap.size, 0, none⟩ = some (.slice p.AI D.ni p.cI) ∧ w'.cell? ⟨w.heap.size, 2, none⟩ = some (.slice p.AO D.no p.cO) ∧ w'.cell? ⟨w1.heap.size, 0, none⟩ = some (.slice p.AI D.ni p.cI) ∧ w'.cell? ⟨w1.heap.size, 1, none⟩ = some (.slice p.AB D.nb p.cB) ∧ w'.cell? ⟨w1.heap.size, 2, none⟩ = some (.slice p.AO D.no p.cO) ∧ w'.cell? ⟨w1.heap.size, 3, none⟩ = some (.slice q.Ao q.lo q.co) ∧ w'.cell? ⟨w1.heap.size, 4, none⟩ = some (.slice q.Ad q.ld q.cd) ∧ w'.cell? ⟨w1.heap.size, 5, none⟩ = some (.slice q.Ac q.lc q.cc) ∧ w'.cell? ⟨w1.heap.size, 6, none⟩ = some (.slice q.Af D.nb q.cf) ∧ w'.cell? ⟨w1.heap.size, 7, none⟩ = some (.slice q.Ar D.nb q.cr)) := fun w' x => by
    obtain ⟨a0, a1, a2⟩ := HBD.out.ext (HX1.out.trans (XP.out.trans (XV.out.trans x)))
    obtain ⟨b0, b1, b2, b3, b4, b5, b6, b7⟩ := HSB.out.ext x
    exact ⟨a0, a2, b0, b1, b2, b3, b4, b5, b6, b7⟩
  obtain ⟨a0, a2, s0, s1, s2, s3, s4, s5, s6, s7⟩ := HS.out _ (Ext.refl _)
  go_cut [8] (fun s wx => ∃ g pp, s = .pointer (some ⟨g, 0, none⟩) ∧ Hid (CmS D F NC NI V wx g pp))
  case first =>
    go_region_held3 (fun w' => w'.cell? ⟨w.heap.size, 0, none⟩ = some (.slice p.AI D.ni p.cI) ∧ w'.cell? ⟨w.heap.size, 2, none⟩ = some (.slice p.AO D.no p.cO) ∧ w'.cell? ⟨w1.heap.size, 0, none⟩ = some (.slice p.AI D.ni p.cI) ∧ w'.cell? ⟨w1.heap.size, 1, none⟩ = some (.slice p.AB D.nb p.cB) ∧ w'.cell? ⟨w1.heap.size, 2, none⟩ = some (.slice p.AO D.no p.cO) ∧ w'.cell? ⟨w1.heap.size, 3, none⟩ = some (.slice q.Ao q.lo q.co) ∧ w'.cell? ⟨w1.heap.size, 4, none⟩ = some (.slice q.Ad q.ld q.cd) ∧ w'.cell? ⟨w1.heap.size, 5, none⟩ = some (.slice q.Ac q.lc q.cc) ∧ w'.cell? ⟨w1.heap.size, 6, none⟩ = some (.slice q.Af D.nb q.cf) ∧ w'.cell? ⟨w1.heap.size, 7, none⟩ = some (.slice q.Ar D.nb q.cr)) (exact HS.out _ (by (with_reducible (repeat (first | exact Ext.refl _ | assumption | (refine Ext.toSet ?_ (by omega)) | refine Ext.toAlloc ?_ | refine Ext.toDrew ?_ | refine Ext.toDrewN ?_ | refine Ext.trans ?_ (by assumption)))); (first | done | fail "no")))
      (first
        | (go_at_call 36; (with_reducible refine (HCP.out _ (XWV.out.trans (by (with_reducible (repeat (first | exact Ext.refl _ | assumption | (refine Ext.toSet ?_ (by omega)) | refine Ext.toAlloc ?_ | refine Ext.toDrew ?_ | refine Ext.toDrewN ?_ | refine Ext.trans ?_ (by assumption)))); (first | done | fail "no")))).mono ?_); rintro e3 w3 ⟨B3, k3, rfl, hr3, hf3, hx3⟩; have R3 := Lib.hid hr3; have F3 := Lib.hid hf3; have x3 : Ext V w3 := (by (with_reducible (repeat (first | exact Ext.refl _ | assumption | (refine Ext.toSet ?_ (by omega)) | refine Ext.toAlloc ?_ | refine Ext.toDrew ?_ | refine Ext.toDrewN ?_ | refine Ext.trans ?_ (by assumption)))); (first | done | fail "no")); have X3 := Lib.hid x3; have hs3 := X3.out.size; clear hr3 hf3; (first | (have U2 := Lib.hid (World.rowIs.ext U.out (show Ext V w3 from (by (with_reducible (repeat (first | exact Ext.refl _ | assumption | (refine Ext.toSet ?_ (by omega)) | refine Ext.toAlloc ?_ | refine Ext.toDrew ?_ | refine Ext.toDrewN ?_ | refine Ext.trans ?_ (by assumption)))); (first | done | fail "no")))); clear U; have U := U2; clear U2; clear n0 n1 n2 n3 nf; obtain ⟨n0, n1, n2, n3, nf⟩ := W4.of U.out) | ((with_reducible have u1 := nb4d hx3); have U := Lib.hid u1; clear u1; obtain ⟨n0, n1, n2, n3, nf⟩ := W4.of U.out; have nl := U.out.lt) | ((with_reducible have u1 := nb4 hx3); have U := Lib.hid u1; clear u1; obtain ⟨n0, n1, n2, n3, nf⟩ := W4.of U.out; have nl := U.out.lt) | skip); clear hx3)
        | (go_at_call 37; (with_reducible refine (HCL.out w1 q (HX0.out.trans (HX1.out.trans XP.out)) HM.out _ (XV.out.trans (X3.out.trans (by (with_reducible (repeat (first | exact Ext.refl _ | assumption | (refine Ext.toSet ?_ (by omega)) | refine Ext.toAlloc ?_ | refine Ext.toDrew ?_ | refine Ext.toDrewN ?_ | refine Ext.trans ?_ (by assumption)))); (first | done | fail "no"))))).mono ?_); rintro e4 w4 ⟨B4, k4, rfl, hr4, hx4⟩; have R4 := Lib.hid hr4; have X34 := Lib.hid (show Ext w3 w4 from (by (with_reducible (repeat (first | exact Ext.refl _ | assumption | (refine Ext.toSet ?_ (by omega)) | refine Ext.toAlloc ?_ | refine Ext.toDrew ?_ | refine Ext.toDrewN ?_ | refine Ext.trans ?_ (by assumption)))); (first | done | fail "no"))); have x4 := X3.out.trans X34.out; have X4 := Lib.hid x4; have hs4 := X34.out.size; clear hr4; (first | (have U2 := Lib.hid (World.rowIs.ext U.out (show Ext w3 w4 from (by (with_reducible (repeat (first | exact Ext.refl _ | assumption | (refine Ext.toSet ?_ (by omega)) | refine Ext.toAlloc ?_ | refine Ext.toDrew ?_ | refine Ext.toDrewN ?_ | refine Ext.trans ?_ (by assumption)))); (first | done | fail "no")))); clear U; have U := U2; clear U2; clear n0 n1 n2 n3 nf; obtain ⟨n0, n1, n2, n3, nf⟩ := W4.of U.out) | ((with_reducible have u1 := nb4d hx4); have U := Lib.hid u1; clear u1; obtain ⟨n0, n1, n2, n3, nf⟩ := W4.of U.out; have nl := U.out.lt) | ((with_reducible have u1 := nb4 hx4); have U := Lib.hid u1; clear u1; obtain ⟨n0, n1, n2, n3, nf⟩ := W4.of U.out; have nl := U.out.lt) | skip); clear hx4)
        | (go_at_call 38; (with_reducible refine (HCC.out w1 q (HX0.out.trans (HX1.out.trans XP.out)) HM.out _ (XV.out.trans (X4.out.trans (by (with_reducible (repeat (first | exact Ext.refl _ | assumption | (refine Ext.toSet ?_ (by omega)) | refine Ext.toAlloc ?_ | refine Ext.toDrew ?_ | refine Ext.toDrewN ?_ | refine Ext.trans ?_ (by assumption)))); (first | done | fail "no"))))).mono ?_); rintro e5 w5 ⟨B5, k5, rfl, hr5, hx5⟩; have R5 := Lib.hid hr5; have X45 := Lib.hid (show Ext w4 w5 from (by (with_reducible (repeat (first | exact Ext.refl _ | assumption | (refine Ext.toSet ?_ (by omega)) | refine Ext.toAlloc ?_ | refine Ext.toDrew ?_ | refine Ext.toDrewN ?_ | refine Ext.trans ?_ (by assumption)))); (first | done | fail "no"))); have x5 := X4.out.trans X45.out; have X5 := Lib.hid x5; have hs5 := X45.out.size; clear hr5; (first | (have U2 := Lib.hid (World.rowIs.ext U.out (show Ext w4 w5 from (by (with_reducible (repeat (first | exact Ext.refl _ | assumption | (refine Ext.toSet ?_ (by omega)) | refine Ext.toAlloc ?_ | refine Ext.toDrew ?_ | refine Ext.toDrewN ?_ | refine Ext.trans ?_ (by assumption)))); (first | done | fail "no")))); clear U; have U := U2; clear U2; clear n0 n1 n2 n3 nf; obtain ⟨n0, n1, n2, n3, nf⟩ := W4.of U.out) | ((with_reducible have u1 := nb4d hx5); have U := Lib.hid u1; clear u1; obtain ⟨n0, n1, n2, n3, nf⟩ := W4.of U.out; have nl := U.out.lt) | ((with_reducible have u1 := nb4 hx5); have U := Lib.hid u1; clear u1; obtain ⟨n0, n1, n2, n3, nf⟩ := W4.of U.out; have nl := U.out.lt) | skip); clear hx5)
        | (go_at_call 39; (with_reducible refine (HCO.out _ (XWV.out.trans (X5.out.trans (by (with_reducible (repeat (first | exact Ext.refl _ | assumption | (refine Ext.toSet ?_ (by omega)) | refine Ext.toAlloc ?_ | refine Ext.toDrew ?_ | refine Ext.toDrewN ?_ | refine Ext.trans ?_ (by assumption)))); (first | done | fail "no"))))).mono ?_); rintro e6 w6 ⟨B6, k6, rfl, hr6, hx6⟩; have R6 := Lib.hid hr6; have X56 := Lib.hid (show Ext w5 w6 from (by (with_reducible (repeat (first | exact Ext.refl _ | assumption | (refine Ext.toSet ?_ (by omega)) | refine Ext.toAlloc ?_ | refine Ext.toDrew ?_ | refine Ext.toDrewN ?_ | refine Ext.trans ?_ (by assumption)))); (first | done | fail "no"))); have x6 := X5.out.trans X56.out; have X6 := Lib.hid x6; have hs6 := X56.out.size; clear hr6; (first | (have U2 := Lib.hid (World.rowIs.ext U.out (show Ext w5 w6 from (by (with_reducible (repeat (first | exact Ext.refl _ | assumption | (refine Ext.toSet ?_ (by omega)) | refine Ext.toAlloc ?_ | refine Ext.toDrew ?_ | refine Ext.toDrewN ?_ | refine Ext.trans ?_ (by assumption)))); (first | done | fail "no")))); clear U; have U := U2; clear U2; clear n0 n1 n2 n3 nf; obtain ⟨n0, n1, n2, n3, nf⟩ := W4.of U.out) | ((with_reducible have u1 := nb4d hx6); have U := Lib.hid u1; clear u1; obtain ⟨n0, n1, n2, n3, nf⟩ := W4.of U.out; have nl := U.out.lt) | ((with_reducible have u1 := nb4 hx6); have U := Lib.hid u1; clear u1; obtain ⟨n0, n1, n2, n3, nf⟩ := W4.of U.out; have nl := U.out.lt) | skip); clear hx6))
    all_goals
      have HCT : Hid (Ct D F NC NI w6 ⟨B3, k3, B4, k4, B5, k5, B6, k6⟩) := by
        have hx := R5.out.rx
        rw [show (cdL D F).length = NI from HNI.out] at hx
        have hk := R5.out.cap
        rw [show (cdL D F).length = NI from HNI.out] at hk
        exact ⟨R3.out.ext (X34.out.trans (X45.out.trans X56.out)), (R4.out.ri).ext (X45.out.trans X56.out), R4.out.len0, own_cap R4.out, hx.ext X56.out, hk, R6.out.ri⟩
      go_wp2_with fail
      go_meet
      first
        | (with_reducible exact ⟨_, ⟨B3, k3, B4, k4, B5, k5, B6, k6⟩, rfl, Lib.hid (cms_a x6 HCT.out)⟩)
        | (with_reducible refine ⟨_, ⟨B3, k3, B4, k4, B5, k5, B6, k6⟩, rfl, Lib.hid (cms_b x6 HCT.out U.out ?_)⟩; omega)
  case rest =>
    obtain ⟨g, pp, rfl, hcs⟩ := hcut
    have HR := Lib.hid (hcs.out.row)
    have hne1 : ¬ g = w.heap.size + 1 := by have := hcs.out.lo; have := (World.rowIs.ext HROW.out (XP.out.trans XV.out)).lt; omega
    have hne2 : ¬ w.heap.size + 1 = g := fun e => hne1 e.symm
    have HROW6 := Lib.hid ((World.rowIs.ext HROW.out (XP.out.trans (XV.out.trans hcs.out.ext))).congr (g := b4 (.slice none 0 0) (.slice none 0 0) (.slice none 0 0) (.slice none 0 0)) (fun i hi => by unfold b4; simp only [ite_self]))
    have HCX : Hid (∀ w', Ext wc w' → Calls Tryz.prog 40 #[.slice pp.AX NI pp.cX, .func (.func 41) #[] #[]] w' fun e w'' => e = .returned (.bool true) ∧ Ext w' w'') := fun w' x => by
      have := containsX_any pp.AX NI pp.cX (cdX D F) w' (hcs.out.rx.ext x) (by have := HNL.out; omega)
      rw [show allN NI (fun i => shE (cdX D F i)) = false by rw [← HNI.out]; exact HSH.out] at this
      exact this
    obtain ⟨m0, m1, m2, m3, mf⟩ := W4.of HR.out
    obtain ⟨r0, r1, r2, r3, rf⟩ := W4.of HROW6.out
    clear a0 a2 s0 s1 s2 s3 s4 s5 s6 s7
    have HCS := hcs
    clear hcs
    go_wp2_with (go_at_call 40; (with_reducible refine (HCX.out _ (Ext.refl _)).mono ?_); rintro e7 w7 ⟨rfl, h7⟩; have X7 := Lib.hid h7; clear h7 m0 m1 m2 m3 mf r0 r1 r2 r3 rf; obtain ⟨m0, m1, m2, m3, mf⟩ := W4.of (World.rowIs.ext HR.out X7.out); obtain ⟨r0, r1, r2, r3, rf⟩ := W4.of (World.rowIs.ext HROW6.out X7.out))
    obtain ⟨W6, hW6⟩ : ∃ W6, W6 = (((w7.setCell ⟨w.heap.size + 1, 0, none⟩ (.slice none 0 0)).setCell ⟨w.heap.size + 1, 1, none⟩ (.slice none 0 0)).setCell ⟨w.heap.size + 1, 2, none⟩ (.slice none 0 0)).setCell ⟨w.heap.size + 1, 3, none⟩ (.slice none 0 0) := ⟨_, rfl⟩
    obtain ⟨q0, q1, q2, q3⟩ := ret4 (World.rowIs.ext HROW6.out X7.out) _ _ _ _ hW6
    have hlo := HROW.out.lt
    have HE := Lib.hid (set4_ext (HX1.out.trans (XP.out.trans (XV.out.trans (HCS.out.ext.trans X7.out)))) (g := w.heap.size + 1) (by omega) (.slice none 0 0) (.slice none 0 0) (.slice none 0 0) (.slice none 0 0))
    rw [← hW6] at HE
    rw [← hW6]; clear hW6 r0 r1 r2 r3 rf m0 m1 m2 m3 mf
    exact bodyPost_ret (v := .tuple #[.agg #[.slice none 0 0, .slice none 0 0, .slice none 0 0, .slice none 0 0], .iface 94 (I 3)]) (by simp [results, Tryz.results9, go_sem, q0, q1, q2, q3]) rfl ⟨rfl, HX0.out.trans HE.out⟩
/-- All of Compile. -/
theorem Compile_any {w : World} {D : Dia} {F : Nat → Int} {p : Pl} {m cf : Nat} {Af : Option Addr} (d : Dm w D p) (hT : Tabs w) (hO : TabO w) (r : Ri w Af m F) (hm : m ≤ maxLen) :
    (cmE D m F = 0 → Calls Tryz.prog 9 #[dgv D p, .slice Af m cf] w (CmG D F w)) ∧ (cmE D m F ≠ 0 → Calls Tryz.prog 9 #[dgv D p, .slice Af m cf] w (CmE (cmE D m F) w)) := by
  by_cases h1 : chk D ≠ 0
  · have e : cmE D m F = chk D := by unfold cmE; rw [if_pos h1]
    rw [e]
    exact ⟨fun h => absurd h h1, fun _ => cm_err fun w' x => prep_chk (d.ext x) (hT.ext x) h1⟩
  by_cases h2 : m ≠ D.nb
  · have e : cmE D m F = 11 := by unfold cmE; rw [if_neg h1, if_pos h2]
    rw [e]
    exact ⟨fun h => by omega, fun _ => cm_err fun w' x => prep_shape (d.ext x) (hT.ext x) (by omega) h2⟩
  by_cases h3 : allN m (fun i => scB (F i)) = false
  · have e : cmE D m F = 3 := by unfold cmE; rw [if_neg h1, if_neg h2, if_pos h3]
    rw [e]
    exact ⟨fun h => by omega, fun _ => cm_err fun w' x => prep_scale (d.ext x) (hT.ext x) (by omega) (by omega) (r.ext x) hm h3⟩
  have h3' : allN m (fun i => scB (F i)) = true := by simpa using h3
  by_cases h4 : rwsE D F ≠ 0
  · have e : cmE D m F = rwsE D F := by unfold cmE; rw [if_neg h1, if_neg h2, if_neg h3, if_pos h4]
    rw [e]
    exact ⟨fun h => absurd h h4, fun _ => cm_err fun w' x => prep_raw (d.ext x) (hT.ext x) h4 (by omega) (by omega) (r.ext x) h3'⟩
  have hF : ∀ j, j < D.nb → 0 ≤ F j ∧ F j ≤ 30 := fun j hj => scB_iff.1 (allN_iff.1 h3' j (by omega))
  by_cases h5 : allN (cdN D F) (fun i => shE (cdX D F i)) = false
  · have e : cmE D m F = 3 := by unfold cmE; rw [if_neg h1, if_neg h2, if_neg h3, if_neg h4, if_pos h5]
    rw [e]
    exact ⟨fun h => by omega, fun _ => cm_far d (chk_ok (by omega)) hF hO (fun w' x => prep_ok (d.ext x) (hT.ext x) (by omega) (by omega) (by omega) (r.ext x) h3') h5⟩
  · have e : cmE D m F = 0 := by unfold cmE; rw [if_neg h1, if_neg h2, if_neg h3, if_neg h4, if_neg h5]
    rw [e]
    exact ⟨fun _ => cm_ok d (chk_ok (by omega)) hF hO (fun w' x => prep_ok (d.ext x) (hT.ext x) (by omega) (by omega) (by omega) (r.ext x) h3') (by simpa using h5), fun h => absurd rfl h⟩
end Go.Proofs.YtkocmdpfknoiaaaGreatDoor
