/- Package exact: the value of an input and of a clip; of any block. -/
import Derived.Test.YtcdkkohklhmpgaaGreatDoorEyf
namespace Go.Proofs.YtcdkkohklhmpgaaGreatDoor

/-! ### Eyg -/
section
open Go Go.RowKit
theorem cell_far3 {w : World} {g h : Nat} {u0 u1 u2 : Value} (hne : h ≠ g) (k : Nat) : (((w.setCell ⟨g, 0, none⟩ u0).setCell ⟨g, 1, none⟩ u1).setCell ⟨g, 2, none⟩ u2).cell? ⟨h, k, none⟩ = w.cell? ⟨h, k, none⟩ := by
  rw [World.cell?_setCell_other _ _ _ _ (by intro q; injection q with q1 q2; omega), World.cell?_setCell_other _ _ _ _ (by intro q; injection q with q1 q2; omega), World.cell?_setCell_other _ _ _ _ (by intro q; injection q with q1 q2; omega)]


set_option maxRecDepth 100000 in
set_option maxHeartbeats 1000000 in
theorem value_input {w : World} {D : Dia} {p : Pl} {Ao Ad A Ai : Option Addr} {lo co ld cd i c ci : Nat} {R : Nat → RN} {V : Nat → DV} {IN : Nat → Int} (d : Dm w D p) (ok : OkD D) (hT : Tabs w) (hi : i < D.nb) (hk : (D.B i).k = 0) (l : Ln w A D.nb R V) (r : Ri w Ai D.ni IN) (hr : ∀ j, j < D.ni → (D.P j).lo ≤ IN j ∧ IN j ≤ (D.P j).hi) :
    Calls Tryz.prog 217 #[evv D p Ao lo co Ad ld cd, bkv (D.B i).k (p.AA i) (D.B i).n (p.cA i) (D.B i).vn (D.B i).ve (D.B i).un (D.B i).ue, .slice A D.nb c, .slice Ai D.ni ci] w (DyRes (bval D IN V i) w) := by
  have hmf : ∀ (fn : Fn) (first cap : Array Value) (w : World), (Instr.makeFunc fn first cap).run Tryz.prog w = .ok (.func fn first cap) w := fun _ _ _ _ => rfl
  have hbv : bval D IN V i = prtV (D.P (sr D i 0)) (IN (sr D i 0)) := by unfold bval; rw [hk]; rfl
  rw [hbv]; clear hbv
  obtain ⟨W1, hW1⟩ : ∃ W1, W1 = vaW w D p Ao lo co Ad ld cd i A c 132 100 62 24 := ⟨_, rfl⟩
  have hM : VaM w W1 D p Ao lo co Ad ld cd i A c := by rw [hW1]; exact VaM.new _ _ _ _ _ _ _ _ _ _ _ _ _ _ _ _
  have hz := hM.sz
  have HM := Lib.hid hM
  have hl0 := l
  clear hl0
  have har : (D.B i).n = 1 := by
    have h := ok.ar i hi
    have : arity (D.B i).k = 1 := by rw [hk]; decide
    omega
  have hag := ok.arg i hi 0 (by omega)
  have hcb : cntB D (D.B i) = D.ni := by unfold cntB; rw [if_pos hk]
  rw [hcb] at hag
  obtain ⟨x, hx0⟩ : ∃ x, sr D i 0 = x := ⟨_, rfl⟩
  have hxa : (D.B i).a 0 = (x : Int) := by rw [← hx0]; unfold sr; omega
  have hxn : x < D.ni := by omega
  rw [hx0]
  clear hx0
  obtain ⟨ba, oa, ha, hba, hca⟩ := (d.args i hi).1 (by omega)
  have xa := (hM.ext.old.1 _ _ hba).trans (hca 0 (by omega))
  rw [Nat.add_zero, hxa] at xa
  obtain ⟨bi, oi, rfl, hbi, hci⟩ := r (by omega)
  obtain ⟨bp, op, hp, hbp, hcp⟩ := d.ports (by omega)
  have hpe := ok.pe x hxn
  have hfr : 0 ≤ (D.P x).fr ∧ (D.P x).fr ≤ 30 ∧ -2147483648 ≤ (D.P x).lo ∧ (D.P x).hi < 2147483648 := by
    unfold prtE at hpe
    by_cases q : -2147483648 ≤ (D.P x).lo ∧ (D.P x).lo ≤ (D.P x).hi ∧ (D.P x).hi < 2147483648 ∧ 0 ≤ (D.P x).fr ∧ (D.P x).fr ≤ 30
    · omega
    · rw [if_neg q] at hpe; omega
  have hin := hr x hxn
  have HS : Hid (∀ w', Ext W1 w' → w'.cell? ⟨bi, oi + x, none⟩ = some (I (IN x)) ∧ w'.cell? ⟨w.heap.size, 0, none⟩ = some (.slice (some ⟨bp, op, none⟩) D.ni p.cI) ∧ w'.cell? ⟨bp, op + x * 3 + 2, none⟩ = some (I (D.P x).fr)) := fun w' e =>
    ⟨((hM.ext.trans e).old.1 _ _ hbi).trans (hci x hxn), by rw [← hp]; exact (hM.b5.ext e).1, ((hM.ext.trans e).old.1 _ _ hbp).trans (hcp x hxn).2.2⟩
  obtain ⟨y, hy⟩ : ∃ y, IN x = y := ⟨_, rfl⟩
  obtain ⟨f, hf⟩ : ∃ f, (D.P x).fr = f := ⟨_, rfl⟩
  obtain ⟨d', hd'⟩ : ∃ d', prtV (D.P x) (IN x) = d' := ⟨_, rfl⟩
  rw [hd']
  rw [hf, hy] at HS
  have HD' : Hid (shiftD (ofI y 0) (-f) = d') := by show _ = _; rw [← hd']; unfold prtV; rw [hf, hy]
  rw [hf] at hfr
  rw [hy] at hin
  have hlo : len (ofI y 0).m ≤ 16777216 ∧ len (nmS y (-f)).m ≤ 16777216 := ⟨Nat.le_trans (len_mk _ _ _) (Nat.le_trans (len_abs (by omega) (by omega)) (by omega)), Nat.le_trans (nmS_len' (by omega) (by omega) (by omega)) (by omega)⟩
  have HL := Lib.hid hlo
  have HW := Lib.hid (ofI_ok y 0)
  obtain ⟨g, hg⟩ : ∃ g, -f = g := ⟨_, rfl⟩
  have hng : IntKind.i64.wrap (-f) = g := by rw [← hg]; exact IntWalk.i64_in _ (by omega)
  have hgb : -30 ≤ g ∧ g ≤ 0 := by omega
  rw [hg] at HD' HL hlo
  have HOF : Hid (∀ w', Ext W1 w' → Calls Tryz.prog 65 #[I y] w' (DyRes (ofI y 0) w')) := fun w' e => of_any y w' (hT.ext (hM.ext.trans e)) (by omega) (by omega)
  have k1 := hM.k1
  rw [ha, har] at k1
  obtain ⟨c0, c1, c2⟩ := HS.out W1 (Ext.refl _)
  have hxn' : (x : Int) < (D.ni : Int) := by omega
  have n1 : ¬ bi = w.heap.size + 1 + 1 + 1 := by omega
  have n2 : ¬ w.heap.size + 1 + 1 + 1 = bi := by omega
  have n3 : ¬ bp = w.heap.size + 1 + 1 + 1 := by omega
  have n4 : ¬ w.heap.size + 1 + 1 + 1 = bp := by omega
  have n5 : ¬ w.heap.size = w.heap.size + 1 + 1 + 1 := by omega
  have n6 : ¬ w.heap.size + 1 + 1 + 1 = w.heap.size := by omega
  have HMZ := Lib.hid hz
  clear hd' hy hf hag hxa hca hci hcp hpe hin r hr hcb hlo hfr hg
  have HTT := Lib.hid (hT.ext hM.ext)
  have k0 := hM.k0
  rw [hk] at k0
  clear d ok hT hi l hM ha hp har
  rw [hk]
  unfold vaW at hW1
  rw [hk] at hW1
  clear hk
  go_enter Tryz.func217, Tryz.ntmps217
  go_upto_region 2 with fail
  rw [← hW1]; clear hW1
  have hx : Ext W1 W1 := Ext.refl _
  go_upto_region 5 with fail
  go_region_held3 (fun w' => w'.cell? ⟨bi, oi + x, none⟩ = some (I y) ∧ w'.cell? ⟨w.heap.size, 0, none⟩ = some (.slice (some ⟨bp, op, none⟩) D.ni p.cI) ∧ w'.cell? ⟨bp, op + x * 3 + 2, none⟩ = some (I f)) (go_keep)
    (first
      | (go_at_call 65; (with_reducible refine (HOF.out _ (hx.trans (Ext.drew _))).mono ?_); rintro e5 w5 ⟨A5, c5, rfl, hon5, hx5⟩; obtain ⟨q0, q1, q2⟩ := HS.out w5 ((Ext.drew _).trans hx5); have HDN := Lib.hid (dy_of_on hon5 HW.out HL.out.1 (Ext.refl _)); clear hon5)
      | (go_at_call 212; refine (shift_any g HDN.out (HTT.out.ext ((Ext.drew _).trans hx5)) (by omega) (by omega)).mono ?_; rw [HD'.out]; rintro e1 w1 ⟨A2, c2, rfl, hon, hx2⟩; have HO := Lib.hid hon; have HX2 := Lib.hid (((Ext.drew W1).trans hx5).trans hx2); obtain ⟨p0, p1, p2⟩ := HS.out w1 HX2.out; obtain ⟨⟨r0, r1, r2⟩, rf⟩ := HM.out.rs.ext HX2.out; have f0 := rf 0; have f1 := rf 1; have f2 := rf 2; have hsz := ((Ext.drew W1).trans hx5).size; clear rf hon))
  all_goals
    go_wp2_with fail
    exact bodyPost_ret (v := dv d'.neg A2 (len d'.m) c2 d'.den) (by simp [results, Tryz.results217, go_sem, r0, r1, r2]) rfl (DyRes.end3 rfl HO.out (HM.out.ext.trans HX2.out) (by omega) (by omega) (by omega))


set_option maxRecDepth 100000 in
set_option maxHeartbeats 1000000 in
theorem value_clip {w : World} {D : Dia} {p : Pl} {Ao Ad A Ai : Option Addr} {lo co ld cd i c ci : Nat} {R : Nat → RN} {V : Nat → DV} {IN : Nat → Int} (d : Dm w D p) (ok : OkD D) (hT : Tabs w) (hi : i < D.nb) (hk : (D.B i).k = 11) (l : Ln w A D.nb R V) :
    Calls Tryz.prog 217 #[evv D p Ao lo co Ad ld cd, bkv (D.B i).k (p.AA i) (D.B i).n (p.cA i) (D.B i).vn (D.B i).ve (D.B i).un (D.B i).ue, .slice A D.nb c, .slice Ai D.ni ci] w (DyRes (bval D IN V i) w) := by
  have hmf : ∀ (fn : Fn) (first cap : Array Value) (w : World), (Instr.makeFunc fn first cap).run Tryz.prog w = .ok (.func fn first cap) w := fun _ _ _ _ => rfl
  have hbv : bval D IN V i = maxD (nmS (D.B i).vn (D.B i).ve) (minD (V (sr D i 0)) (nmS (D.B i).un (D.B i).ue)) := by unfold bval fv; rw [hk]; rfl
  rw [hbv]; clear hbv
  obtain ⟨W1, hW1⟩ : ∃ W1, W1 = vaW w D p Ao lo co Ad ld cd i A c 132 100 62 24 := ⟨_, rfl⟩
  have hM : VaM w W1 D p Ao lo co Ad ld cd i A c := by rw [hW1]; exact VaM.new _ _ _ _ _ _ _ _ _ _ _ _ _ _ _ _
  have hz := hM.sz
  have HM := Lib.hid hM
  have hns : Hid (ns D i = (D.B i).n ∧ ((D.B i).n : Int) = arity (D.B i).k) := ⟨by unfold ns; rw [if_neg (by omega)], ok.ar i hi⟩
  have hn0 : 0 < ns D i := by
    have a := hns.out
    have b : arity (D.B i).k = 1 := by rw [hk]; decide
    omega
  have HA0 : Hid (∀ w', Ext W1 w' → Calls Tryz.prog 238 #[I 0, .pointer (some ⟨w.heap.size + 1 + 1, 0, none⟩), .pointer (some ⟨w.heap.size + 1, 0, none⟩)] w' (fun x w'' => x = .returned (R (sr D i 0)).v ∧ Ext w' w'')) := fun w' e => hM.arg d ok.toWF hi l 0 hn0 w' e
  have HC0 : Hid (∀ w', Ext W1 w' → Cn w' (R (sr D i 0)) (V (sr D i 0))) := fun w' e => (l.el _ (ok.src hi hn0).2.1).ext (hM.ext.trans e)
  have HNV : Hid (∀ w', Ext W1 w' → Calls Tryz.prog 172 #[.agg #[I (D.B i).vn, I (D.B i).ve]] w' (DyRes (nmS (D.B i).vn (D.B i).ve) w')) := fun w' e => by
    have hv := ok.val hi (by unfold usesV; rw [hk]; decide)
    exact enumber_any _ _ _ (hT.ext (hM.ext.trans e)) hv.1 hv.2.1 hv.2.2.1 hv.2.2.2
  have HLV : Hid (len (nmS (D.B i).vn (D.B i).ve).m ≤ 16777216) := by
    have hv := ok.val hi (by unfold usesV; rw [hk]; decide)
    exact (nmS_len hv.1 hv.2.1 hv.2.2.2).2
  have HNU : Hid (∀ w', Ext W1 w' → Calls Tryz.prog 172 #[.agg #[I (D.B i).un, I (D.B i).ue]] w' (DyRes (nmS (D.B i).un (D.B i).ue) w')) := fun w' e => by
    have hv := ok.upp hi hk
    exact enumber_any _ _ _ (hT.ext (hM.ext.trans e)) hv.1 hv.2.1 hv.2.2.1 hv.2.2.2
  have HLU : Hid (len (nmS (D.B i).un (D.B i).ue).m ≤ 16777216) := by
    have hv := ok.upp hi hk
    exact (nmS_len hv.1 hv.2.1 hv.2.2.2).2
  have HS : Hid (∀ w', Ext W1 w' → w'.cell? ⟨w.heap.size + 1, 2, none⟩ = some (I (D.B i).vn) ∧ w'.cell? ⟨w.heap.size + 1, 3, none⟩ = some (I (D.B i).ve) ∧ w'.cell? ⟨w.heap.size + 1, 4, none⟩ = some (I (D.B i).un) ∧ w'.cell? ⟨w.heap.size + 1, 5, none⟩ = some (I (D.B i).ue)) := fun w' e =>
    ⟨(e.old.1 _ _ (by omega)).trans hM.k2, (e.old.1 _ _ (by omega)).trans hM.k3, (e.old.1 _ _ (by omega)).trans hM.k4, (e.old.1 _ _ (by omega)).trans hM.k5⟩
  have HSV : Hid (nmS (D.B i).vn (D.B i).ve).ok := nmS_ok _ _
  have HSU : Hid (nmS (D.B i).un (D.B i).ue).ok := nmS_ok _ _
  obtain ⟨d', hd'⟩ : ∃ d', maxD (nmS (D.B i).vn (D.B i).ve) (minD (V (sr D i 0)) (nmS (D.B i).un (D.B i).ue)) = d' := ⟨_, rfl⟩
  rw [hd']
  have HD' := Lib.hid hd'
  clear hd' hn0
  obtain ⟨q0, q1, q2, q3⟩ := HS.out W1 (Ext.refl _)
  have n5 : ¬ w.heap.size + 1 = w.heap.size + 1 + 1 + 1 := by omega
  have n6 : ¬ w.heap.size + 1 + 1 + 1 = w.heap.size + 1 := by omega
  have HTT := Lib.hid (hT.ext hM.ext)
  have k0 := hM.k0
  rw [hk] at k0
  clear d ok hT hi l hM
  rw [hk]
  unfold vaW at hW1
  rw [hk] at hW1
  clear hk
  go_enter Tryz.func217, Tryz.ntmps217
  go_upto_region 2 with fail
  rw [← hW1]; clear hW1
  have hx : Ext W1 W1 := Ext.refl _
  generalize hlo : nmS (D.B i).vn (D.B i).ve = lv at *
  generalize hup : nmS (D.B i).un (D.B i).ue = uv at *
  clear hlo hup
  generalize (D.B i).vn = vn at *
  generalize (D.B i).ve = ve at *
  generalize (D.B i).un = un at *
  generalize (D.B i).ue = ue at *
  generalize R (sr D i 0) = rr at *
  generalize V (sr D i 0) = xv at *
  have HMO : Hid ((minD xv uv).ok ∧ len (minD xv uv).m ≤ 16777216) := by
    have cx := HC0.out W1 (Ext.refl _)
    refine ⟨minD_ok cx.ok HSU.out, ?_⟩
    have h1 := HLU.out; have h2 := cx.lim
    unfold minD; split
    · exact h1
    · exact h2
  go_upto_region 24 with fail
  go_region_held3 (fun w' => w'.cell? ⟨w.heap.size + 1, 2, none⟩ = some (I vn) ∧ w'.cell? ⟨w.heap.size + 1, 3, none⟩ = some (I ve) ∧ w'.cell? ⟨w.heap.size + 1, 4, none⟩ = some (I un) ∧ w'.cell? ⟨w.heap.size + 1, 5, none⟩ = some (I ue)) (first | go_keep | (refine ⟨?_, ?_, ?_, ?_⟩ <;> (rw [cell_far3 (by omega)]; assumption)))
    (first
      | (go_at_call 172; (with_reducible refine (HNV.out _ (by (with_reducible (repeat (first | exact Ext.refl _ | assumption | (refine Ext.toSet ?_ (by omega)) | refine Ext.toAlloc ?_ | refine Ext.toDrew ?_ | refine Ext.toDrewN ?_ | refine Ext.trans ?_ (by assumption)))); (first | done | fail "no"))).mono ?_); rintro e1 w2 hr0; obtain ⟨A0, y0, rfl, cn0, _, hx0⟩ := hr0.cn HSV.out HLV.out; have HX2 := Lib.hid (show Ext W1 w2 from (by (with_reducible (repeat (first | exact Ext.refl _ | assumption | (refine Ext.toSet ?_ (by omega)) | refine Ext.toAlloc ?_ | refine Ext.toDrew ?_ | refine Ext.toDrewN ?_ | refine Ext.trans ?_ (by assumption)))); (first | done | fail "no"))); have CN0 := Lib.hid cn0; obtain ⟨s0, s1, s2, s3⟩ := HS.out w2 HX2.out; clear hr0 cn0)
      | (go_at_call 238; (with_reducible refine (HA0.out _ HX2.out).mono ?_); rintro e1 w3 ⟨rfl, h3⟩; have HX3 := Lib.hid (HX2.out.trans h3); have CN3 := Lib.hid (CN0.out.ext h3); obtain ⟨t0, t1, t2, t3⟩ := HS.out w3 HX3.out)
      | (go_at_call 172; (with_reducible refine (HNU.out _ HX3.out).mono ?_); rintro e1 w4 hr0; obtain ⟨A4, y4, rfl, cn4, _, hx4⟩ := hr0.cn HSU.out HLU.out; have HX4 := Lib.hid (HX3.out.trans hx4); have CN4 := Lib.hid (CN3.out.ext hx4); have CU4 := Lib.hid cn4; obtain ⟨u0, u1, u2, u3⟩ := HS.out w4 HX4.out; clear hr0 cn4)
      | (go_at_call 69; (with_reducible refine (min_any (HC0.out w4 HX4.out).dy CU4.out.dy (HTT.out.ext HX4.out)).mono ?_); rintro e1 w5 hr0; obtain ⟨A5, y5, rfl, cn5, _, hx5⟩ := hr0.cn HMO.out.1 HMO.out.2; have HX5 := Lib.hid (HX4.out.trans hx5); have CN5 := Lib.hid (CN4.out.ext hx5); have CM5 := Lib.hid cn5; obtain ⟨v0, v1, v2, v3⟩ := HS.out w5 HX5.out; clear hr0 cn5)
      | (go_at_call 68; (with_reducible refine (max_any CN5.out.dy CM5.out.dy (HTT.out.ext HX5.out)).mono ?_); rw [HD'.out]; rintro e1 w6 ⟨A2, c2, rfl, hon, hx2⟩; have HO := Lib.hid hon; have HX6 := Lib.hid (HX5.out.trans hx2); obtain ⟨p0, p1, p2, p3⟩ := HS.out w6 HX6.out; obtain ⟨⟨r0, r1, r2⟩, rf⟩ := HM.out.rs.ext HX6.out; have f0 := rf 0; have f1 := rf 1; have f2 := rf 2; have hsz := HX5.out.size; clear rf hon))
  all_goals
    go_wp2_with fail
    exact bodyPost_ret (v := dv d'.neg A2 (len d'.m) c2 d'.den) (by simp [results, Tryz.results217, go_sem, r0, r1, r2]) rfl (DyRes.end3 rfl HO.out (HM.out.ext.trans HX6.out) (by omega) (by omega) (by omega))

theorem evalue_any {w : World} {D : Dia} {p : Pl} {Ao Ad A Ai : Option Addr} {lo co ld cd i c ci : Nat} {R : Nat → RN} {V : Nat → DV} {IN : Nat → Int} (d : Dm w D p) (ok : OkD D) (hT : Tabs w) (hi : i < D.nb) (hd : isD D i = false) (l : Ln w A D.nb R V)
    (r : Ri w Ai D.ni IN) (hr : ∀ j, j < D.ni → (D.P j).lo ≤ IN j ∧ IN j ≤ (D.P j).hi) :
    Calls Tryz.prog 217 #[evv D p Ao lo co Ad ld cd, bkv (D.B i).k (p.AA i) (D.B i).n (p.cA i) (D.B i).vn (D.B i).ve (D.B i).un (D.B i).ue, .slice A D.nb c, .slice Ai D.ni ci] w (DyRes (bval D IN V i) w) := by
  have h := ok.k0 i hi
  have h2 : (D.B i).k ≠ 2 := fun e => by unfold isD at hd; rw [e] at hd; cases hd
  have h3 : (D.B i).k = 0 ∨ (D.B i).k = 1 ∨ (D.B i).k = 3 ∨ (D.B i).k = 4 ∨ (D.B i).k = 5 ∨ (D.B i).k = 6 ∨ (D.B i).k = 7 ∨ (D.B i).k = 8 ∨ (D.B i).k = 9 ∨ (D.B i).k = 10 ∨ (D.B i).k = 11 := by omega
  rcases h3 with hk | hk | hk | hk | hk | hk | hk | hk | hk | hk | hk
  · exact value_input d ok hT hi hk l r hr
  · exact value_const d ok hT hi hk l
  · exact value_add d ok hT hi hk l
  · exact value_sub d ok hT hi hk l
  · exact value_neg d ok hT hi hk l
  · exact value_gain d ok hT hi hk l
  · exact value_mul d ok hT hi hk l
  · exact value_min d ok hT hi hk l
  · exact value_max d ok hT hi hk l
  · exact value_abs d ok hT hi hk l
  · exact value_clip d ok hT hi hk l
end

/-! ### Eyh -/
section
open Go Go.RowKit

/-- The struct counts as the number d; b: it is a number in normal form. -/
structure El (w : World) (r : RN) (d : DV) (b : Bool) : Prop where
  vc : ∀ w', Ext w w' → Calls Tryz.prog 178 #[r.v] w' (VldRes b w')
  cn : b = true → Cn w r d
theorem El.ext {w w' : World} {r : RN} {d : DV} {b : Bool} (h : El w r d b) (e : Ext w w') : El w' r d b := ⟨fun w'' e' => h.vc w'' (e.trans e'), fun q => (h.cn q).ext e⟩
theorem El.of {w : World} {r : RN} {d : DV} (h : Cn w r d) : El w r d true := ⟨fun w' e => by
  have := valid_any r.neg r.A r.n r.c r.den (dg d.m) w' (by rw [h.n]; exact h.rd.ext e) (fun i _ => dg_lt _ _) (by rw [h.n]; have := h.lim; omega)
  rw [h.neg, h.n, h.den, vld_ok h.ok] at this
  show Calls _ _ #[dv r.neg r.A r.n r.c r.den] _ _
  rw [h.neg, h.n, h.den]
  exact this, fun _ => h⟩
/-- What is wrong with a state and inputs, but for what is too long. -/
def chE (D : Dia) (n : Nat) (b : Nat → Bool) (m : Nat) (IN : Nat → Int) : Int :=
  if n ≠ (delL D).length then 11 else if allN n b = false then 2 else if m ≠ D.ni then 11 else if inR D IN = false then 3 else 0
theorem stE_ch {D : Dia} {n m : Nat} {b : Nat → Bool} {S : Nat → DV} {IN : Nat → Int} : stE D n b S m IN = if chE D n b m IN ≠ 0 then chE D n b m IN else if tkG D S IN = false then 4 else 0 := by
  unfold stE chE
  by_cases h1 : n ≠ (delL D).length
  · rw [if_pos h1, if_pos h1, if_pos (by decide)]
  rw [if_neg h1, if_neg h1]
  by_cases h2 : allN n b = false
  · rw [if_pos h2, if_pos h2, if_pos (by decide)]
  rw [if_neg h2, if_neg h2]
  by_cases h3 : m ≠ D.ni
  · rw [if_pos h3, if_pos h3, if_pos (by decide)]
  rw [if_neg h3, if_neg h3]
  by_cases h4 : inR D IN = false
  · rw [if_pos h4, if_pos h4, if_pos (by decide)]
  rw [if_neg h4, if_neg h4, if_neg (show ¬ (0 : Int) ≠ 0 by decide)]
abbrev evW (w : World) (D : Dia) (p : Pl) (Ao : Option Addr) (lo co : Nat) (Ad : Option Addr) (ld cd : Nat) (t : TypeId) : World := w.alloc (.cells #[.slice p.AI D.ni p.cI, .slice p.AB D.nb p.cB, .slice p.AO D.no p.cO, .slice Ao lo co, .slice Ad ld cd] t)

set_option maxRecDepth 100000 in
set_option maxHeartbeats 1000000 in
theorem echeck_shape {w : World} {D : Dia} {p : Pl} {Ao Ad As Ai : Option Addr} {lo ld co cd n cs m ci : Nat} (hn : n ≠ ld) :
    Calls Tryz.prog 173 #[evv D p Ao lo co Ad ld cd, .slice As n cs, .slice Ai m ci] w fun e w' => e = .returned (errv 11) ∧ Ext w w' := by
  have g0 : ((n : Int) != (ld : Int)) = true := by simp; omega
  have g1 : (!((n : Int) == (ld : Int))) = true := by simp; omega
  go_enter Tryz.func173, Tryz.ntmps173
  go_wp2_with fail
  go_ret
  exact ⟨rfl, (by repeat (first | exact Ext.refl _ | assumption | exact Ext.alloc _ _ | refine Ext.trans ?_ (by assumption) | refine Ext.trans ?_ (Ext.alloc _ _) | refine Ext.trans ?_ (Ext.drewN _ _) | refine Ext.trans ?_ (Ext.drew _)))⟩
set_option maxRecDepth 100000 in
set_option maxHeartbeats 1000000 in
theorem echeck_any {w : World} {D : Dia} {p : Pl} {Ao Ad As Ai : Option Addr} {lo ld co cd n cs m ci : Nat} {R : Nat → RN} {S : Nat → DV} {b : Nat → Bool} {IN : Nat → Int} (d : Dm w D p) (hld : (delL D).length = ld) (hl2 : ld ≤ 1000)
    (rs : Rn w As n R) (el : ∀ k, k < n → El w (R k) (S k) (b k)) (r : Ri w Ai m IN) (hm : m ≤ maxLen) :
    Calls Tryz.prog 173 #[evv D p Ao lo co Ad ld cd, .slice As n cs, .slice Ai m ci] w fun e w' => e = .returned (errv (chE D n b m IN)) ∧ Ext w w' := by
  by_cases hnl : n ≠ ld
  · have : chE D n b m IN = 11 := by unfold chE; rw [if_pos (by omega)]
    rw [this]; exact echeck_shape hnl
  obtain rfl : n = ld := by omega
  clear hnl
  obtain ⟨W1, hW1⟩ : ∃ W1, W1 = evW w D p Ao lo co Ad n cd 132 := ⟨_, rfl⟩
  unfold evW at hW1
  have hE : Ext w W1 := by rw [hW1]; exact Ext.alloc _ _
  have HB : Hid (B5 W1 w.heap.size D p Ao lo co Ad n cd) := by show B5 _ _ _ _ _ _ _ _ _ _; rw [hW1]; exact B5.new _ _ _ _ _ _ _ _ _ _
  obtain ⟨c0, c1, c2, c3, c4⟩ := HB.out
  have HR := Lib.hid (rs.ext hE)
  have HL : Hid (∀ k, k < n → El W1 (R k) (S k) (b k)) := fun k hk => (el k hk).ext hE
  have HI := Lib.hid (r.ext hE); have HD := Lib.hid (d.ext hE); have HE := Lib.hid hE
  have HLD := Lib.hid hld
  have hli := d.li
  unfold maxLen at hm hli
  have h0 : ((n : Int) != (n : Int)) = false := by simp
  obtain ⟨v, hv⟩ : ∃ v, chE D n b m IN = v := ⟨_, rfl⟩
  have HV := Lib.hid hv
  rw [hv]
  clear rs el r d hE hld hv
  go_enter Tryz.func173, Tryz.ntmps173
  go_upto_region 1 with fail
  rw [← hW1]; clear hW1
  go_wp2_with fail
  clear c0 c1 c2 c3 c4
  go_loopw [20] (fun s wr => ∃ j : Nat, j ≤ n ∧ s = I j ∧ Ext W1 wr ∧ Hid (∀ k, k < j → b k = true)) (fun s _ => n - (intOf s).toNat)
  case atStart => exact ⟨0, Nat.zero_le _, rfl, Ext.refl _, fun k hk => absurd hk (by omega)⟩
  case round =>
    obtain ⟨j, hj, rfl, hx, HG⟩ := hrel
    by_cases hlt : j < n
    · obtain ⟨bs, os, rfl, hbs, hcs⟩ := HR.out.ext hx (by omega)
      obtain ⟨x0, x1, x2⟩ := hcs j hlt
      have HVC := Lib.hid ((HL.out j hlt).vc)
      have hlt' : (j : Int) < (n : Int) := by omega
      clear hcs
      cases hb : b j with
      | true =>
        have HG2 : Hid (∀ k, k < j + 1 → b k = true) := fun k hk => by
          by_cases h : k = j
          · subst h; exact hb
          · exact HG.out k (by omega)
        rw [hb] at HVC
        clear hb
        generalize R j = rj at *
        go_wp2_with (go_at_call 178; (with_reducible refine (HVC.out _ (hx.trans (Ext.alloc _ _))).mono ?_); rintro e1 w1 ⟨rfl, h1⟩; replace hx := (hx.trans (Ext.alloc _ _)).trans h1; clear h1)
        go_roundw
        case rel => exact ⟨j + 1, by omega, by go_num, hx, HG2⟩
        case measure => simp [intOf]; omega
      | false =>
        obtain rfl : v = 2 := by
          rw [← HV.out]; unfold chE
          rw [if_neg (by have := HLD.out; omega), if_pos (allN_false.2 ⟨j, hlt, hb⟩)]
        rw [hb] at HVC
        clear hb
        generalize R j = rj at *
        go_wp2_with (go_at_call 178; (with_reducible refine (HVC.out _ (hx.trans (Ext.alloc _ _))).mono ?_); rintro e1 w1 ⟨rfl, h1⟩; replace hx := (hx.trans (Ext.alloc _ _)).trans h1; clear h1)
        go_ret
        exact ⟨rfl, HE.out.trans hx⟩
    · obtain rfl : j = n := by omega
      obtain ⟨c0, c1, c2, c3, c4⟩ := HB.out.ext hx
      have HA : Hid (allN j b = true) := allN_iff.2 HG.out
      by_cases hmi : m ≠ D.ni
      · obtain rfl : v = 11 := by
          rw [← HV.out]; unfold chE
          rw [if_neg (by have := HLD.out; omega), if_neg (by rw [HA.out]; decide), if_pos hmi]
        have g0 : ((m : Int) != (D.ni : Int)) = true := by simp; omega
        clear hmi
        go_wp2_with fail
        go_ret
        exact ⟨rfl, HE.out.trans hx⟩
      · obtain rfl : m = D.ni := by omega
        have g0 : ((D.ni : Int) != (D.ni : Int)) = false := by simp
        clear hmi
        have HX := Lib.hid hx
        go_wp2_with fail
        clear c0 c1 c2 c3 c4
        go_loopw [41] (fun s wr => ∃ i : Nat, i ≤ D.ni ∧ s = I i ∧ Ext W1 wr ∧ Hid (∀ k, k < i → (D.P k).lo ≤ IN k ∧ IN k ≤ (D.P k).hi)) (fun s _ => D.ni - (intOf s).toNat)
        case atStart => exact ⟨0, Nat.zero_le _, rfl, hx, fun k hk => absurd hk (by omega)⟩
        case round =>
          clear hx
          obtain ⟨i, hi, rfl, hx, HP⟩ := hrel
          by_cases hli2 : i < D.ni
          · obtain ⟨bi, oi, rfl, hbi, hci⟩ := HI.out.ext hx (by omega)
            have xi := hci i hli2
            obtain ⟨bp, op, hp, hbp, hcp⟩ := (HD.out.ext hx).ports (by omega)
            obtain ⟨y0, y1, y2⟩ := hcp i hli2
            have hlt' : (i : Int) < (D.ni : Int) := by omega
            obtain ⟨Wc, hWc⟩ : ∃ Wc, Wc = wr.alloc (.cells #[I (D.P i).lo, I (D.P i).hi, I (D.P i).fr] 55) := ⟨_, rfl⟩
            have hEc : Ext wr Wc := by rw [hWc]; exact Ext.alloc _ _
            have hBc : Bx Wc wr.heap.size (I (D.P i).lo) (I (D.P i).hi) (I (D.P i).fr) := by rw [hWc]; exact Bx.new _ _ _ _ _
            have HXX := Lib.hid (hx.trans hEc)
            have zi := (hEc.old.1 _ _ hbi).trans xi
            have hzc : wr.heap.size < Wc.heap.size := hBc.lt
            have hbi2 : bi < Wc.heap.size := Nat.lt_of_lt_of_le hbi hEc.size
            obtain ⟨⟨z0, z1, z2⟩, _⟩ := hBc
            have hb : Ext Wc Wc := Ext.refl _
            clear hci hcp hx hEc
            by_cases q1 : IN i < (D.P i).lo
            · obtain rfl : v = 3 := by
                rw [← HV.out]; unfold chE
                rw [if_neg (by have := HLD.out; omega), if_neg (by rw [HA.out]; decide), if_neg (by omega), if_pos]
                exact allN_false.2 ⟨i, hli2, by simp; omega⟩
              have g1 : decide (IN i < (D.P i).lo) = true := decide_eq_true q1
              go_upto_region 14 with fail
              rw [← hWc]; clear hWc
              have hL := fun (x : Later _) => (Ext.trans hb x.ext).old.1
              refine wp_region_later (by kernel_rfl) (by kernel_rfl) ?_
              repeat (go_big_quiet_step ((fail)))
              refine wpQuiet_nil ?_
              intro w2 hw2
              replace hb := Ext.trans hb (Later.of hw2)
              clear hw2 hL
              obtain ⟨hc, hf⟩ := hb.old
              have HBB := Lib.hid hb; clear hb
              go_wp2_with fail
              go_ret
              exact ⟨rfl, (HE.out.trans HXX.out).trans HBB.out⟩
            · have g1 : decide (IN i < (D.P i).lo) = false := decide_eq_false q1
              by_cases q2 : (D.P i).hi < IN i
              · obtain rfl : v = 3 := by
                  rw [← HV.out]; unfold chE
                  rw [if_neg (by have := HLD.out; omega), if_neg (by rw [HA.out]; decide), if_neg (by omega), if_pos]
                  exact allN_false.2 ⟨i, hli2, by simp; omega⟩
                have g2 : decide ((D.P i).hi < IN i) = true := decide_eq_true q2
                go_upto_region 14 with fail
                rw [← hWc]; clear hWc
                have hL := fun (x : Later _) => (Ext.trans hb x.ext).old.1
                refine wp_region_later (by kernel_rfl) (by kernel_rfl) ?_
                repeat (go_big_quiet_step ((fail)))
                refine wpQuiet_nil ?_
                intro w2 hw2
                replace hb := Ext.trans hb (Later.of hw2)
                clear hw2 hL
                obtain ⟨hc, hf⟩ := hb.old
                have HBB := Lib.hid hb; clear hb
                go_wp2_with fail
                go_ret
                exact ⟨rfl, (HE.out.trans HXX.out).trans HBB.out⟩
              · have g2 : decide ((D.P i).hi < IN i) = false := decide_eq_false q2
                have HP2 : Hid (∀ k, k < i + 1 → (D.P k).lo ≤ IN k ∧ IN k ≤ (D.P k).hi) := fun k hk => by
                  by_cases h : k = i
                  · subst h; omega
                  · exact HP.out k (by omega)
                go_upto_region 14 with fail
                rw [← hWc]; clear hWc
                have hL := fun (x : Later _) => (Ext.trans hb x.ext).old.1
                refine wp_region_later (by kernel_rfl) (by kernel_rfl) ?_
                repeat (go_big_quiet_step ((fail)))
                refine wpQuiet_nil ?_
                intro w2 hw2
                replace hb := Ext.trans hb (Later.of hw2)
                clear hw2 hL
                obtain ⟨hc, hf⟩ := hb.old
                have HBB := Lib.hid hb; clear hb
                go_wp2_with fail
                go_roundw
                case rel => exact ⟨i + 1, by omega, by go_num, HXX.out.trans HBB.out, HP2⟩
                case measure => simp [intOf]; omega
          · obtain rfl : i = D.ni := by omega
            obtain rfl : v = 0 := by
              rw [← HV.out]; unfold chE
              rw [if_neg (by have := HLD.out; omega), if_neg (by rw [HA.out]; decide), if_neg (by omega), if_neg]
              have : inR D IN = true := allN_iff.2 fun k hk => by simp [HP.out k hk]
              rw [this]; decide
            go_wp2_with fail
            go_ret
            exact ⟨rfl, HE.out.trans hx⟩
end

end Go.Proofs.YtcdkkohklhmpgaaGreatDoor
