/- Package exact: the values of a tick. -/
import Derived.Test.YtcdkkohklhmpgaaGreatDoorEygh
import Derived.Test.YtcdkkohklhmpgaaGreatDoorDgab
import Derived.Deep.RegionWith
namespace Go.Proofs.YtcdkkohklhmpgaaGreatDoor
open Go Go.RowKit

/-! ### The places of the delays -/
theorem mkL_get' {n x : Nat} {p : Nat → Bool} (hx : x < n) (hp : p x = true) : (mkL n p)[cnt x p]? = some x := by
  induction n with
  | zero => omega
  | succ n ih =>
    show (mkL n p ++ if p n = true then [n] else [])[cnt x p]? = some x
    by_cases e : x = n
    · subst e
      rw [if_pos hp, List.getElem?_append_right (by rw [mkL_len]; exact Nat.le_refl _), mkL_len]; simp
    · have h := ih (by omega)
      rw [List.getElem?_append_left ?_]
      · exact h
      · rcases Nat.lt_or_ge (cnt x p) (mkL n p).length with a | a
        · exact a
        · rw [List.getElem?_eq_none a] at h; cases h
theorem plc_get {D : Dia} {j : Nat} (hj : j < (delL D).length) : plc D ((delL D).getD j 0) = j := by
  obtain ⟨hx, hp⟩ := del_at hj
  generalize hxe : (delL D).getD j 0 = x at *
  have h1 : (delL D)[cnt x (isD D)]? = some x := mkL_get' hx hp
  have h2 : (delL D)[j]? = some x := by
    rw [List.getElem?_eq_getElem hj]; rw [List.getD_eq_getElem?_getD, List.getElem?_eq_getElem hj] at hxe; simpa using hxe
  have hs := mkL_sorted D.nb (isD D)
  obtain ⟨hc, e1⟩ := List.getElem?_eq_some_iff.1 h1
  obtain ⟨_, e2⟩ := List.getElem?_eq_some_iff.1 h2
  have hp := List.pairwise_iff_getElem.1 hs
  show cnt x (isD D) = j
  rcases Nat.lt_trichotomy (cnt x (isD D)) j with q | q | q
  · have := hp _ _ hc hj q
    have a : (delL D)[cnt x (isD D)] < (delL D)[j] := this
    rw [e1, e2] at a; omega
  · exact q
  · have := hp _ _ hj hc q
    have a : (delL D)[j] < (delL D)[cnt x (isD D)] := this
    rw [e1, e2] at a; omega
theorem plc_lt {D : Dia} {i : Nat} (hi : i < D.nb) (hd : isD D i = true) : plc D i < (delL D).length ∧ (delL D).getD (plc D i) 0 = i := by
  have h1 : (delL D)[plc D i]? = some i := mkL_get' hi hd
  obtain ⟨hc, e⟩ := List.getElem?_eq_some_iff.1 h1
  exact ⟨hc, by rw [List.getD_eq_getElem?_getD, h1]; rfl⟩
/-- The delays before place j have their values. -/
def v1 (D : Dia) (S : Nat → DV) (j : Nat) : Nat → DV := fun i => if isD D i = true ∧ plc D i < j then S (plc D i) else DV.zero
theorem v1_put {D : Dia} (S : Nat → DV) {j i : Nat} (hj : j < (delL D).length) (hi : i < D.nb) : putD (v1 D S j) ((delL D).getD j 0) (S j) i = v1 D S (j + 1) i := by
  have hp := plc_get hj
  have hd := del_at hj
  unfold putD v1
  by_cases e : i = (delL D).getD j 0
  · rw [if_pos e, e, if_pos ⟨hd.2, by omega⟩, hp]
  · rw [if_neg e]
    by_cases q : isD D i = true
    · by_cases q2 : plc D i < j
      · rw [if_pos ⟨q, q2⟩, if_pos ⟨q, by omega⟩]
      · have q3 : ¬ plc D i < j + 1 := fun h => by
          have : plc D i = j := by omega
          have h2 := (plc_lt hi q).2
          rw [this] at h2; exact e h2.symm
        rw [if_neg (fun h => q2 h.2), if_neg (fun h => q3 h.2)]
    · rw [if_neg (fun h => q h.1), if_neg (fun h => q h.1)]
theorem v1_end {D : Dia} (S : Nat → DV) {i : Nat} (hi : i < D.nb) : v1 D S (delL D).length i = v0 D S i := by
  unfold v1 v0
  by_cases q : isD D i = true
  · rw [if_pos ⟨q, (plc_lt hi q).1⟩, if_pos q]
  · rw [if_neg (fun h => q h.1), if_neg q]
theorem v1_zero (D : Dia) (S : Nat → DV) (i : Nat) : v1 D S 0 i = DV.zero := if_neg fun h => by omega
theorem tkG_del {D : Dia} {S : Nat → DV} {IN : Nat → Int} {j : Nat} (hj : j < (delL D).length) (h : lng (S j) = true) : tkG D S IN = false := by
  have hd := del_at hj
  refine allN_false.2 ⟨_, hd.1, ?_⟩
  rw [tk_del S IN hd.2, plc_get hj, h]; rfl
theorem tkG_ord {D : Dia} {S : Nat → DV} {IN : Nat → Int} {k : Nat} (hk : k < (ordL D).length) (h : lng (tkV D S IN ((ordL D).getD k 0)) = true) : tkG D S IN = false :=
  allN_false.2 ⟨_, (ord_rdy hk).1, by rw [h]; rfl⟩
theorem tkG_all {D : Dia} (ok : OkD D) {S : Nat → DV} {IN : Nat → Int} (h1 : ∀ j, j < (delL D).length → lng (S j) = false) (h2 : ∀ k, k < (ordL D).length → lng (tkV D S IN ((ordL D).getD k 0)) = false) : tkG D S IN = true := by
  refine allN_iff.2 fun i hi => ?_
  cases hd : isD D i with
  | true =>
    have := plc_lt hi hd
    rw [tk_del S IN hd, h1 _ this.1]; rfl
  | false =>
    obtain ⟨t, h3, _, h5, _⟩ := posP_yes ok hi hd
    have := h2 t h3
    rw [h5] at this; rw [this]; rfl
theorem OkD.shr {D : Dia} (ok : OkD D) {i : Nat} (hi : i < D.nb) : Shr (nmS (D.B i).vn (D.B i).ve) ∧ Shr (nmS (D.B i).un (D.B i).ue) := by
  have key : ∀ u n e, scE u n e = 0 → Shr (nmS n e) := fun u n e h => by
    cases u with
    | true => have := scE_rng h; exact Shr.nm (by omega) (by omega) (by omega) (by omega)
    | false =>
      unfold scE at h
      rw [if_neg (by decide)] at h
      by_cases q : n = 0 ∧ e = 0
      · rw [q.1, q.2]; exact Shr.nm (by omega) (by omega) (by omega) (by omega)
      · rw [if_neg q] at h; omega
  exact ⟨key _ _ _ (ok.scal hi).1, key _ _ _ (ok.scal hi).2.1⟩
theorem OkD.port {D : Dia} (ok : OkD D) {x : Nat} (hx : x < D.ni) : 0 ≤ (D.P x).fr ∧ (D.P x).fr ≤ 30 ∧ -2147483648 ≤ (D.P x).lo ∧ (D.P x).lo ≤ (D.P x).hi ∧ (D.P x).hi < 2147483648 := by
  have hpe := ok.pe x hx
  unfold prtE at hpe
  by_cases q : -2147483648 ≤ (D.P x).lo ∧ (D.P x).lo ≤ (D.P x).hi ∧ (D.P x).hi < 2147483648 ∧ 0 ≤ (D.P x).fr ∧ (D.P x).fr ≤ 30
  · omega
  · rw [if_neg q] at hpe; omega
theorem OkD.inp {D : Dia} (ok : OkD D) {i : Nat} (hi : i < D.nb) (hk : (D.B i).k = 0) : sr D i 0 < D.ni ∧ (D.B i).n = 1 ∧ (D.B i).a 0 = (sr D i 0 : Nat) := by
  have h := ok.ar i hi
  have ha : arity (D.B i).k = 1 := by rw [hk]; decide
  have hag := ok.arg i hi 0 (by omega)
  have hcb : cntB D (D.B i) = D.ni := by unfold cntB; rw [if_pos hk]
  rw [hcb] at hag
  unfold sr; omega
/-- A block whose arguments are short has a value that can be computed. -/
theorem bval_bd {D : Dia} (ok : OkD D) {IN : Nat → Int} (hr : ∀ j, j < D.ni → (D.P j).lo ≤ IN j ∧ IN j ≤ (D.P j).hi) {V : Nat → DV} {i : Nat} (hi : i < D.nb) (h : ∀ j, j < ns D i → Shr (V (sr D i j))) : (bval D IN V i).ok ∧ len (bval D IN V i).m ≤ 1401 := by
  unfold bval
  by_cases e : (D.B i).k = 0
  · rw [if_pos e]
    obtain ⟨hx, _, _⟩ := ok.inp hi e
    have hp := ok.port hx
    have hi := hr _ hx
    rw [prtV_eq]
    exact ⟨nmS_ok _ _, by have := nmS_len' (n := IN (sr D i 0)) (e := -(D.P (sr D i 0)).fr) (by omega) (by omega) (by omega); omega⟩
  · rw [if_neg e]
    have hn : ns D i = (D.B i).n := by unfold ns; rw [if_neg e]
    have ha := ok.ar i hi
    have e1 : fv (D.B i) (V (sr D i 0)) (V (sr D i 1)) = fv (D.B i) (if 0 < ns D i then V (sr D i 0) else DV.zero) (if 1 < ns D i then V (sr D i 1) else DV.zero) :=
      fv_congr (fun q => by rw [if_pos (by omega)]) (fun q => by rw [if_pos (by omega)])
    rw [e1]
    have hs := ok.shr hi
    have h0 : Shr (if 0 < ns D i then V (sr D i 0) else DV.zero) := by
      by_cases q : 0 < ns D i
      · rw [if_pos q]; exact h 0 q
      · rw [if_neg q]; exact Shr.zero
    have h1 : Shr (if 1 < ns D i then V (sr D i 1) else DV.zero) := by
      by_cases q : 1 < ns D i
      · rw [if_pos q]; exact h 1 q
      · rw [if_neg q]; exact Shr.zero
    have := len_fv h0 h1 hs.1 hs.2
    exact ⟨this.2, this.1⟩
/-- What the values of a tick are, or that one is too long. -/
def VlP (D : Dia) (S : Nat → DV) (IN : Nat → Int) (w : World) (e : Ending) (w' : World) : Prop :=
  (tkG D S IN = true ∧ LvR D.nb (tkV D S IN) w e w') ∨ (tkG D S IN = false ∧ e = .panicked tlC ∧ Ext w w')

theorem cell_farg {w : World} {g h : Nat} {u0 u1 u2 : Value} {i0 i1 i2 k : Nat} (hne : h ≠ g) : (((w.setCell ⟨g, i0, none⟩ u0).setCell ⟨g, i1, none⟩ u1).setCell ⟨g, i2, none⟩ u2).cell? ⟨h, k, none⟩ = w.cell? ⟨h, k, none⟩ := by
  rw [World.cell?_setCell_other _ _ _ _ (by intro q; injection q with q1 q2; omega), World.cell?_setCell_other _ _ _ _ (by intro q; injection q with q1 q2; omega), World.cell?_setCell_other _ _ _ _ (by intro q; injection q with q1 q2; omega)]
set_option maxRecDepth 100000 in
set_option maxHeartbeats 4000000 in
theorem evalues_any {w : World} {D : Dia} {p : Pl} {Ao Ad As Ai : Option Addr} {lo ld co cd cs ci : Nat} {R : Nat → RN} {S : Nat → DV} {IN : Nat → Int} (d : Dm w D p) (ok : OkD D) (hT : Tabs w) (hld : (delL D).length = ld) (hlo : (ordL D).length = lo)
    (rd : Rl w Ad cd (delL D)) (ro : Rl w Ao co (ordL D)) (l : Ln w As ld R S) (r : Ri w Ai D.ni IN) (hr : ∀ j, j < D.ni → (D.P j).lo ≤ IN j ∧ IN j ≤ (D.P j).hi) :
    Calls Tryz.prog 175 #[evv D p Ao lo co Ad ld cd, .slice As ld cs, .slice Ai D.ni ci] w (VlP D S IN w) := by
  have hdl := del_le D
  have hol := ord_le D
  have hnb := ok.nb
  have hmk := fun w => run_makeN w D.nb (by omega)
  obtain ⟨W1, hW1⟩ : ∃ W1, W1 = evW w D p Ao lo co Ad ld cd 132 := ⟨_, rfl⟩
  unfold evW at hW1
  have hE : Ext w W1 := by rw [hW1]; exact Ext.alloc _ _
  have HB : Hid (B5 W1 w.heap.size D p Ao lo co Ad ld cd) := by show B5 _ _ _ _ _ _ _ _ _ _; rw [hW1]; exact B5.new _ _ _ _ _ _ _ _ _ _
  obtain ⟨g, hg⟩ : ∃ g, W1.heap.size = g := ⟨_, rfl⟩
  have HM0 : Hid (BuM w (W1.alloc (.cells (madeCells #[.bool false, .slice none 0 0, I 0] (D.nb * 3)) 24)) g D.nb (fun _ => RN.z) (v1 D S 0) ∧ Ext W1 (W1.alloc (.cells (madeCells #[.bool false, .slice none 0 0, I 0] (D.nb * 3)) 24))) :=
    ⟨(BuM.new _ hE hg.symm).congr fun i _ => (v1_zero D S i).symm, Ext.alloc _ _⟩
  have HD := Lib.hid (d.ext hE); have HT := Lib.hid (hT.ext hE); have HRD := Lib.hid (rd.ext hE); have HRO := Lib.hid (ro.ext hE); have HL := Lib.hid (l.ext hE); have HI := Lib.hid (r.ext hE); have HRG := Lib.hid hr
  have OK := Lib.hid ok; have HE := Lib.hid hE; have HLD := Lib.hid hld; have HLO := Lib.hid hlo
  obtain ⟨c0, c1, c2, c3, c4⟩ := HB.out
  have hz1 : W1.heap.size = w.heap.size + 1 := by rw [hW1]; simp
  have hne1 : ¬ w.heap.size = g := by omega
  have hne2 : ¬ g = w.heap.size := by omega
  have hne3 : w.heap.size < W1.heap.size := by omega
  have hne4 : w.heap.size < g := by omega
  have hne5 : ¬ w.heap.size = W1.heap.size := by omega
  have HZ := Lib.hid hz1
  rw [hld] at hdl
  rw [hlo] at hol
  clear d ok hT rd ro l r hr hE hz1 hld hlo
  go_enter Tryz.func175, Tryz.ntmps175
  go_upto_region 1 with fail
  rw [← hW1]; clear hW1
  go_wp2_with fail
  (try rw [hg])
  clear hmk c0 c1 c2 c3 c4
  have HG := Lib.hid hg; clear hg
  go_loopw [20] (fun s wr => ∃ (j : Nat) (R' : Nat → RN), j ≤ ld ∧ s = I j ∧ Hid (BuM w wr g D.nb R' (v1 D S j) ∧ Ext W1 wr ∧ ∀ k, k < j → lng (S k) = false)) (fun s _ => ld - (intOf s).toNat)
  case atStart => exact ⟨0, _, Nat.zero_le _, rfl, HM0.out.1, HM0.out.2, fun k hk => absurd hk (by omega)⟩
  case round =>
    clear HM0
    obtain ⟨j, R', hj, rfl, H⟩ := hrel
    by_cases hlt : j < ld
    · have hj' : j < (delL D).length := by rw [HLD.out]; exact hlt
      obtain ⟨bd, od, hbd, hbld, hcd⟩ := (HRD.out.ext H.out.2.1).1 (by omega)
      have xd := hcd j hj'
      obtain ⟨x, hxd⟩ : ∃ x, (delL D).getD j 0 = x := ⟨_, rfl⟩
      have hx := del_at hj'
      simp only [hxd] at xd hx
      obtain ⟨bs, os, hbs, hbls, hcs⟩ := HL.out.rn.ext H.out.2.1 (by omega)
      obtain ⟨s0, s1, s2⟩ := hcs j hlt
      have cn := (HL.out.el j hlt).ext H.out.2.1
      have HUP : Hid (∀ i, i < D.nb → putD (v1 D S j) x (S j) i = v1 D S (j + 1) i) := fun i hi => by rw [← hxd]; exact v1_put S hj' hi
      have hlt' : (j : Int) < (ld : Int) := by omega
      have hxl : (x : Int) < (D.nb : Int) := by omega
      have hxn := hx.1
      cases hlg : lng (S j) with
      | true =>
        have HBAD : Hid (tkG D S IN = false) := tkG_del hj' hlg
        have HSH : Hid (∀ w', Ext wr w' → Calls Tryz.prog 216 #[(R j).v] w' fun e w'' => e = .panicked tlC ∧ Ext w' w'') := fun w' e => short_long (cn.ext e) hlg
        clear hcd hcs hx hj' cn hlg
        generalize R j = rj at *
        go_wp2_with (go_at_call 216; (with_reducible refine (HSH.out _ (Ext.refl _)).mono ?_); rintro e1 w1 ⟨rfl, h1⟩; have HX1 := Lib.hid h1; clear h1)
        exact ⟨rfl, .inr ⟨HBAD.out, rfl, HE.out.trans (H.out.2.1.trans HX1.out)⟩⟩
      | false =>
        have HSH : Hid (∀ w', Ext wr w' → Calls Tryz.prog 216 #[(R j).v] w' fun e w'' => e = .returned (R j).v ∧ Ext w' w'') := fun w' e => short_ok (cn.ext e) hlg
        have HFR : Hid (∀ w', Ext wr w' → Calls Tryz.prog 177 #[(R j).v] w' (DyRes (S j) w')) := fun w' e => efresh_any (cn.dy.ext e) (HT.out.ext (H.out.2.1.trans e))
        have HCN := Lib.hid (And.intro cn.ok cn.lim)
        have HGD : Hid (∀ k, k < j + 1 → lng (S k) = false) := fun k hk => by
          by_cases h : k = j
          · subst h; exact hlg
          · exact H.out.2.2 k (by omega)
        clear hcd hcs hx hj' cn hlg
        generalize R j = rj at *
        go_wp2_with (first
          | (go_at_call 216; (with_reducible refine (HSH.out _ (Ext.refl _)).mono ?_); rintro e1 w1 ⟨rfl, h1⟩; have HX1 := Lib.hid h1; clear h1)
          | (go_at_call 177; (with_reducible refine (HFR.out _ HX1.out).mono ?_); rintro e1 w2 hr; obtain ⟨A1, y1, rfl, cn1, hA1, hx1⟩ := hr.cn HCN.out.1 HCN.out.2; have hx2 := HX1.out.trans hx1; have fz := (H.out.1.to hx2).lv.frozen; have f0 := fz (x * 3); have f1 := fz (x * 3 + 1); have f2 := fz (x * 3 + 2); obtain ⟨d0, d1, d2⟩ := (H.out.1.to hx2).lv.cells hxn; have HP := Lib.hid (H.out.1.put hx2 x _ A1 y1 cn1 (fun a ha => Nat.le_trans HX1.out.size (hA1 a ha))); have HXX : Hid (Ext W1 _) := st3_ext g x (cnR (S j) A1 y1) (H.out.2.1.trans hx2) (by rw [HG.out]; exact Nat.le_refl _); clear hr fz cn1 hA1 hx1 hx2))
        (try rw [← hbs])
        (try rw [← hbd])
        go_roundw
        case rel => exact ⟨j + 1, _, by omega, by go_num, HP.out.congr HUP.out, HXX.out, HGD.out⟩
        case measure => simp [intOf]; omega
    · obtain rfl : j = ld := by omega
      have HM1 : Hid (BuM w wr g D.nb R' (vk D S IN 0) ∧ Ext W1 wr) := ⟨H.out.1.congr fun i hi => by rw [← HLD.out]; exact v1_end S hi, H.out.2.1⟩
      have HSH : Hid (∀ k, k < j → lng (S k) = false) := H.out.2.2
      obtain ⟨c0, c1, c2, c3, c4⟩ := HB.out.ext H.out.2.1
      clear H
      go_wp2_with fail
      clear c0 c1 c2 c3 c4
      go_loopw [38] (fun s wq => ∃ (k : Nat) (R' : Nat → RN), k ≤ lo ∧ s = I k ∧ Hid (BuM w wq g D.nb R' (vk D S IN k) ∧ Ext W1 wq ∧ ∀ m, m < k → lng (tkV D S IN ((ordL D).getD m 0)) = false)) (fun s _ => lo - (intOf s).toNat)
      case atStart => exact ⟨0, _, Nat.zero_le _, rfl, HM1.out.1, HM1.out.2, fun k hk => absurd hk (by omega)⟩
      case round =>
        clear HM1
        obtain ⟨k, R2, hk, rfl, H⟩ := hrel
        by_cases hlt2 : k < lo
        · have hk' : k < (ordL D).length := by rw [HLO.out]; exact hlt2
          obtain ⟨bo, oo, hbo, hblo, hco⟩ := (HRO.out.ext H.out.2.1).1 (by omega)
          have xo := hco k hk'
          have hrd := ord_rdy hk'
          have hnd : isD D ((ordL D).getD k 0) = false := (rdy_iff.1 hrd.2.1).2.1
          have htk := tk_ord OK.out S IN hk'
          have hbd := bval_bd OK.out (V := vk D S IN k) HRG.out hrd.1 fun q hq => by
            have hs := OK.out.src hrd.1 hq
            have hoff := src_off OK.out hk' hq
            refine Shr.of ?_ (H.out.1.lv.el _ hs.2.1).ok
            rw [vk_done S IN hoff]
            rcases (rdy_iff.1 hrd.2.1).2.2 q hq with h | h
            · obtain ⟨t, ht, htl, et⟩ := inL_take.1 h
              rw [← et]; exact H.out.2.2 t ht
            · have := plc_lt hs.2.1 h
              rw [tk_del S IN h]; exact HSH.out _ (by rw [← HLD.out]; exact this.1)
          rw [htk.1] at hbd
          have HUP : Hid (∀ i, i < D.nb → putD (vk D S IN k) ((ordL D).getD k 0) (tkV D S IN ((ordL D).getD k 0)) i = vk D S IN (k + 1) i) := fun i _ => by
            rw [vk_succ D S IN hk', htk.1]; rfl
          obtain ⟨x, hxd⟩ : ∃ x, (ordL D).getD k 0 = x := ⟨_, rfl⟩
          have HVA : Hid (∀ w', Ext wr w' → Calls Tryz.prog 217 #[evv D p Ao lo co Ad j cd, bkv (D.B x).k (p.AA x) (D.B x).n (p.cA x) (D.B x).vn (D.B x).ve (D.B x).un (D.B x).ue, .slice (some ⟨g, 0, none⟩) D.nb D.nb, .slice Ai D.ni ci] w' (DyRes (tkV D S IN x) w')) := fun w' e => by
            rw [← hxd, ← htk.1]
            exact evalue_any (HD.out.ext (H.out.2.1.trans e)) OK.out (HT.out.ext (H.out.2.1.trans e)) hrd.1 hnd (H.out.1.lv.ln.ext e) (HI.out.ext (H.out.2.1.trans e)) HRG.out
          have HBAD : Hid (lng (tkV D S IN x) = true → tkG D S IN = false) := fun h => tkG_ord hk' (by rw [hxd]; exact h)
          have HGD : Hid (lng (tkV D S IN x) = false → ∀ m, m < k + 1 → lng (tkV D S IN ((ordL D).getD m 0)) = false) := fun h m hm => by
            by_cases q : m = k
            · rw [q, hxd]; exact h
            · exact H.out.2.2 m (by omega)
          have hxn := hrd.1
          simp only [hxd] at xo hbd HUP hxn
          obtain ⟨b, o, hb, hbl, hc⟩ := (HD.out.ext H.out.2.1).blocks (by omega)
          obtain ⟨x0, x1, x2, x3, x4, x5⟩ := hc x hxn
          obtain ⟨k0, k1, k2, k3, k4⟩ := HB.out.ext H.out.2.1
          have k1' := k1
          rw [hb] at k1'
          have k3' := k3
          rw [hbo] at k3'
          have HS : Hid (∀ w', Ext wr w' → (w'.cell? ⟨w.heap.size, 0, none⟩ = some (.slice p.AI D.ni p.cI) ∧ w'.cell? ⟨w.heap.size, 1, none⟩ = some (.slice (some ⟨b, o, none⟩) D.nb p.cB) ∧ w'.cell? ⟨w.heap.size, 2, none⟩ = some (.slice p.AO D.no p.cO) ∧ w'.cell? ⟨w.heap.size, 3, none⟩ = some (.slice (some ⟨bo, oo, none⟩) lo co) ∧ w'.cell? ⟨w.heap.size, 4, none⟩ = some (.slice Ad j cd)) ∧
              (w'.cell? ⟨b, o + x * 6, none⟩ = some (I (D.B x).k) ∧ w'.cell? ⟨b, o + x * 6 + 1, none⟩ = some (.slice (p.AA x) (D.B x).n (p.cA x)) ∧ w'.cell? ⟨b, o + x * 6 + 2, none⟩ = some (I (D.B x).vn) ∧ w'.cell? ⟨b, o + x * 6 + 3, none⟩ = some (I (D.B x).ve) ∧ w'.cell? ⟨b, o + x * 6 + 4, none⟩ = some (I (D.B x).un) ∧ w'.cell? ⟨b, o + x * 6 + 5, none⟩ = some (I (D.B x).ue))) := fun w' e => by
            have l0 : w.heap.size < wr.heap.size := (HB.out.ext H.out.2.1).lt
            exact ⟨⟨(e.old.1 _ _ l0).trans k0, (e.old.1 _ _ l0).trans k1', (e.old.1 _ _ l0).trans k2, (e.old.1 _ _ l0).trans k3', (e.old.1 _ _ l0).trans k4⟩, (e.old.1 _ _ hbl).trans x0, (e.old.1 _ _ hbl).trans x1, (e.old.1 _ _ hbl).trans x2, (e.old.1 _ _ hbl).trans x3, (e.old.1 _ _ hbl).trans x4, (e.old.1 _ _ hbl).trans x5⟩
          have hbg : ¬ b = g := by
            have h1 := (HD.out.blocks (by omega))
            obtain ⟨b', o', e', hb', _⟩ := h1
            rw [hb] at e'; injection e' with e'; injection e' with e1 e2
            have := HG.out; omega
          have hgb : ¬ g = b := fun q => hbg q.symm
          have HEV : Hid (evv D p Ao lo co Ad j cd = .agg #[.slice p.AI D.ni p.cI, .slice (some ⟨b, o, none⟩) D.nb p.cB, .slice p.AO D.no p.cO, .slice (some ⟨bo, oo, none⟩) lo co, .slice Ad j cd]) := by show _ = _; unfold evv; rw [hb, hbo]
          rw [HEV.out] at HVA
          have HCN := Lib.hid hbd
          have HBX := Lib.hid hb
          have hxl : (x : Int) < (D.nb : Int) := by omega
          have hlt2' : (k : Int) < (lo : Int) := by omega
          clear hco hc hbd hrd hnd htk hk' hb
          obtain ⟨⟨y0, y1, y2, y3, y4⟩, y5, y6, y7, y8, y9, y10⟩ := HS.out wr (Ext.refl _)
          clear k0 k1 k1' k2 k3 k3' k4 x0 x1 x2 x3 x4 x5
          generalize tkV D S IN x = yv at *
          cases hlg : lng yv with
          | true =>
            have HB2 := Lib.hid (HBAD.out hlg)
            clear HGD
            go_upto_region 10 with fail
            refine wp_region_held_drew (S := (fun w' => (w'.cell? ⟨w.heap.size, 0, none⟩ = some (.slice p.AI D.ni p.cI) ∧ w'.cell? ⟨w.heap.size, 1, none⟩ = some (.slice (some ⟨b, o, none⟩) D.nb p.cB) ∧ w'.cell? ⟨w.heap.size, 2, none⟩ = some (.slice p.AO D.no p.cO) ∧ w'.cell? ⟨w.heap.size, 3, none⟩ = some (.slice (some ⟨bo, oo, none⟩) lo co) ∧ w'.cell? ⟨w.heap.size, 4, none⟩ = some (.slice Ad j cd)) ∧
              (w'.cell? ⟨b, o + x * 6, none⟩ = some (I (D.B x).k) ∧ w'.cell? ⟨b, o + x * 6 + 1, none⟩ = some (.slice (p.AA x) (D.B x).n (p.cA x)) ∧ w'.cell? ⟨b, o + x * 6 + 2, none⟩ = some (I (D.B x).vn) ∧ w'.cell? ⟨b, o + x * 6 + 3, none⟩ = some (I (D.B x).ve) ∧ w'.cell? ⟨b, o + x * 6 + 4, none⟩ = some (I (D.B x).un) ∧ w'.cell? ⟨b, o + x * 6 + 5, none⟩ = some (I (D.B x).ue)))) (by kernel_rfl) (HS.out _ (Ext.drew _)) (fun hHeld => ?_)
            refine wpAnyH_take (i := 0) (oi := { dst := some 42, op := Op.move (Operand.tmp 7), type := 62, pos := "exact.go:135", after := #[], guard := none }) (v := ?_) rfl (by kernel_rfl) (by kernel_rfl) (by kernel_rfl) (fun _ _ _ h => h) (Or.inl ⟨by rfl, ?hy⟩) hHeld ?_
            case hy => ((intro w' hSw; (try dsimp only at hSw); go_simp); (try with_reducible rfl))
            (try simp only [Act.put, List.setIfInBounds_toArray, List.set_cons_zero, List.set_cons_succ])
            refine wpAnyH_take (i := 1) (oi := { dst := some 43, op := Op.move (Operand.tmp 11), type := 3, pos := "exact.go:135", after := #[], guard := none }) (v := ?_) rfl (by kernel_rfl) (by kernel_rfl) (by kernel_rfl) (fun _ _ _ h => h) (Or.inl ⟨by rfl, ?hy⟩) hHeld ?_
            case hy => ((intro w' hSw; (try dsimp only at hSw); go_simp); (try with_reducible rfl))
            (try simp only [Act.put, List.setIfInBounds_toArray, List.set_cons_zero, List.set_cons_succ])
            refine wpAnyH_take (i := 2) (oi := { dst := some 44, op := Op.load 132 (Operand.tmp 3), type := 132, pos := "exact.go:135", after := #[], guard := none }) (v := ?_) rfl (by kernel_rfl) (by kernel_rfl) (by kernel_rfl) (fun _ _ _ h => h) (Or.inl ⟨by rfl, ?hy⟩) hHeld ?_
            case hy => ((intro w' hSw; (try dsimp only at hSw); go_simp); (try with_reducible rfl))
            (try simp only [Act.put, List.setIfInBounds_toArray, List.set_cons_zero, List.set_cons_succ])
            refine wpAnyH_take (i := 3) (oi := { dst := some 45, op := Op.fieldAddr 132 (Operand.tmp 3) 0, type := 0, pos := "exact.go:135", after := #[], guard := none }) (v := ?_) rfl (by kernel_rfl) (by kernel_rfl) (by kernel_rfl) (fun _ _ _ h => h) (Or.inl ⟨by rfl, ?hy⟩) hHeld ?_
            case hy => ((intro w' hSw; (try dsimp only at hSw); go_simp); (try with_reducible rfl))
            (try simp only [Act.put, List.setIfInBounds_toArray, List.set_cons_zero, List.set_cons_succ])
            refine wpAnyH_take (i := 4) (oi := { dst := some 46, op := Op.fieldAddr 48 (Operand.tmp 45) 1, type := 0, pos := "exact.go:135", after := #[{ on := 3, ground := Ground.data }], guard := none }) (v := ?_) rfl (by kernel_rfl) (by kernel_rfl) (by kernel_rfl) (fun _ _ _ h => h) (Or.inl ⟨by rfl, ?hy⟩) hHeld ?_
            case hy => ((intro w' hSw; (try dsimp only at hSw); go_simp); (try with_reducible rfl))
            (try simp only [Act.put, List.setIfInBounds_toArray, List.set_cons_zero, List.set_cons_succ])
            refine wpAnyH_take (i := 5) (oi := { dst := some 47, op := Op.load 45 (Operand.tmp 46), type := 45, pos := "exact.go:135", after := #[{ on := 4, ground := Ground.data }], guard := none }) (v := ?_) rfl (by kernel_rfl) (by kernel_rfl) (by kernel_rfl) (fun _ _ _ h => h) (Or.inl ⟨by rfl, ?hy⟩) hHeld ?_
            case hy => ((intro w' hSw; (try dsimp only at hSw); go_simp); (try with_reducible rfl))
            (try simp only [Act.put, List.setIfInBounds_toArray, List.set_cons_zero, List.set_cons_succ])
            refine wpAnyH_take (i := 6) (oi := { dst := some 48, op := Op.move (Operand.tmp 11), type := 3, pos := "exact.go:135", after := #[], guard := none }) (v := ?_) rfl (by kernel_rfl) (by kernel_rfl) (by kernel_rfl) (fun _ _ _ h => h) (Or.inl ⟨by rfl, ?hy⟩) hHeld ?_
            case hy => ((intro w' hSw; (try dsimp only at hSw); go_simp); (try with_reducible rfl))
            (try simp only [Act.put, List.setIfInBounds_toArray, List.set_cons_zero, List.set_cons_succ])
            refine wpAnyH_take (i := 7) (oi := { dst := some 49, op := Op.indexAddr 45 (Operand.tmp 47) (Operand.tmp 48), type := 0, pos := "exact.go:135", after := #[{ on := 5, ground := Ground.data }, { on := 6, ground := Ground.data }], guard := none }) (v := ?_) rfl (by kernel_rfl) (by kernel_rfl) (by kernel_rfl) (fun _ _ _ h => h) (Or.inl ⟨by rfl, ?hy⟩) hHeld ?_
            case hy => ((intro w' hSw; (try dsimp only at hSw); go_simp); (try with_reducible rfl))
            (try simp only [Act.put, List.setIfInBounds_toArray, List.set_cons_zero, List.set_cons_succ])
            refine wpAnyH_take (i := 8) (oi := { dst := some 50, op := Op.load 100 (Operand.tmp 49), type := 100, pos := "exact.go:135", after := #[{ on := 7, ground := Ground.data }], guard := none }) (v := ?_) rfl (by kernel_rfl) (by kernel_rfl) (by kernel_rfl) (fun _ _ _ h => h) (Or.inl ⟨by rfl, ?hy⟩) hHeld ?_
            case hy => ((intro w' hSw; (try dsimp only at hSw); go_simp); (try with_reducible rfl))
            (try simp only [Act.put, List.setIfInBounds_toArray, List.set_cons_zero, List.set_cons_succ])
            refine wpAnyH_take (i := 9) (oi := { dst := some 51, op := Op.move (Operand.tmp 7), type := 62, pos := "exact.go:135", after := #[], guard := none }) (v := ?_) rfl (by kernel_rfl) (by kernel_rfl) (by kernel_rfl) (fun _ _ _ h => h) (Or.inl ⟨by rfl, ?hy⟩) hHeld ?_
            case hy => ((intro w' hSw; (try dsimp only at hSw); go_simp); (try with_reducible rfl))
            (try simp only [Act.put, List.setIfInBounds_toArray, List.set_cons_zero, List.set_cons_succ])
            refine wpAnyH_take (i := 10) (oi := { dst := some 52, op := Op.move (Operand.tmp 2), type := 46, pos := "exact.go:135", after := #[], guard := none }) (v := ?_) rfl (by kernel_rfl) (by kernel_rfl) (by kernel_rfl) (fun _ _ _ h => h) (Or.inl ⟨by rfl, ?hy⟩) hHeld ?_
            case hy => ((intro w' hSw; (try dsimp only at hSw); go_simp); (try with_reducible rfl))
            (try simp only [Act.put, List.setIfInBounds_toArray, List.set_cons_zero, List.set_cons_succ])
            refine wpAnyH_ready (rs := [11]) (by kernel_rfl) (by simp) ?_
            refine AllReadyH.cons (o := { dst := some 53, op := Op.call { callee := Callee.value (Operand.func 217), args := #[Operand.tmp 44, Operand.tmp 50, Operand.tmp 51, Operand.tmp 52], argTypes := #[132, 100, 62, 46] }, type := 24, pos := "exact.go:135", after := #[{ on := 2, ground := Ground.data }, { on := 8, ground := Ground.data }, { on := 9, ground := Ground.data }, { on := 10, ground := Ground.data }], guard := none }) rfl (fun K hK => ?_) AllReadyH.nil
            go_simp
            (go_at_call 217; (with_reducible refine (HVA.out _ (by (with_reducible (repeat (first | exact Ext.refl _ | assumption | (refine Ext.toSet ?_ (by omega)) | refine Ext.toAlloc ?_ | refine Ext.toDrew ?_ | refine Ext.toDrewN ?_ | refine Ext.trans ?_ (by assumption)))); (first | done | fail "no"))).mono ?_); rintro e1 w2 hr; obtain ⟨A1, z1, rfl, cn1, hA1, hx1⟩ := hr.cn HCN.out.1 (Nat.le_trans HCN.out.2 (by omega)); have CN2 := Lib.hid cn1; have HX2 := Lib.hid (show Ext wr w2 from (by (with_reducible (repeat (first | exact Ext.refl _ | assumption | (refine Ext.toSet ?_ (by omega)) | refine Ext.toAlloc ?_ | refine Ext.toDrew ?_ | refine Ext.toDrewN ?_ | refine Ext.trans ?_ (by assumption)))); (first | done | fail "no"))); clear hr cn1 hA1)
            (try go_wp2_with fail)
            refine hK.out _ _ (HS.out _ HX2.out) (fun hHeld' => ?_)
            clear hK K hHeld
            have hHeld := hHeld'
            clear hHeld'
            (try simp only [Act.put, List.setIfInBounds_toArray, List.set_cons_zero, List.set_cons_succ])
            refine wpAnyH_ready (rs := [12]) (by kernel_rfl) (by simp) ?_
            refine AllReadyH.cons (o := { dst := some 54, op := Op.call { callee := Callee.value (Operand.func 216), args := #[Operand.tmp 53], argTypes := #[24] }, type := 24, pos := "exact.go:135", after := #[{ on := 11, ground := Ground.data }, { on := 11, ground := Ground.chain }], guard := none }) rfl (fun K hK => ?_) AllReadyH.nil
            go_simp
            (go_at_call 216; (with_reducible refine (short_long CN2.out hlg).mono ?_); rintro e1 w3 ⟨rfl, h3⟩)
            show bodyPost Tryz.prog Tryz.f175 (VlP D S IN w) (Exit.panic tlC) _ w3
            exact ⟨rfl, .inr ⟨HB2.out, rfl, HE.out.trans (H.out.2.1.trans (HX2.out.trans h3))⟩⟩
          | false =>
            have HG2 := Lib.hid (HGD.out hlg)
            clear HBAD HGD
            go_upto_region 10 with fail
            go_region_held3 (fun w' => (w'.cell? ⟨w.heap.size, 0, none⟩ = some (.slice p.AI D.ni p.cI) ∧ w'.cell? ⟨w.heap.size, 1, none⟩ = some (.slice (some ⟨b, o, none⟩) D.nb p.cB) ∧ w'.cell? ⟨w.heap.size, 2, none⟩ = some (.slice p.AO D.no p.cO) ∧ w'.cell? ⟨w.heap.size, 3, none⟩ = some (.slice (some ⟨bo, oo, none⟩) lo co) ∧ w'.cell? ⟨w.heap.size, 4, none⟩ = some (.slice Ad j cd)) ∧
              (w'.cell? ⟨b, o + x * 6, none⟩ = some (I (D.B x).k) ∧ w'.cell? ⟨b, o + x * 6 + 1, none⟩ = some (.slice (p.AA x) (D.B x).n (p.cA x)) ∧ w'.cell? ⟨b, o + x * 6 + 2, none⟩ = some (I (D.B x).vn) ∧ w'.cell? ⟨b, o + x * 6 + 3, none⟩ = some (I (D.B x).ve) ∧ w'.cell? ⟨b, o + x * 6 + 4, none⟩ = some (I (D.B x).un) ∧ w'.cell? ⟨b, o + x * 6 + 5, none⟩ = some (I (D.B x).ue))) (first | exact HS.out _ (by (with_reducible (repeat (first | exact Ext.refl _ | assumption | (refine Ext.toSet ?_ (by omega)) | refine Ext.toAlloc ?_ | refine Ext.toDrew ?_ | refine Ext.toDrewN ?_ | refine Ext.trans ?_ (by assumption)))); (first | done | fail "no")) | (refine ⟨⟨?_, ?_, ?_, ?_, ?_⟩, ?_, ?_, ?_, ?_, ?_, ?_⟩ <;> (rw [cell_farg (by omega)]; assumption)))
              (first
              | (go_at_call 217; (with_reducible refine (HVA.out _ (by (with_reducible (repeat (first | exact Ext.refl _ | assumption | (refine Ext.toSet ?_ (by omega)) | refine Ext.toAlloc ?_ | refine Ext.toDrew ?_ | refine Ext.toDrewN ?_ | refine Ext.trans ?_ (by assumption)))); (first | done | fail "no"))).mono ?_); rintro e1 w2 hr; obtain ⟨A1, z1, rfl, cn1, hA1, hx1⟩ := hr.cn HCN.out.1 (Nat.le_trans HCN.out.2 (by omega)); have CN2 := Lib.hid cn1; have HX2 := Lib.hid (show Ext wr w2 from (by (with_reducible (repeat (first | exact Ext.refl _ | assumption | (refine Ext.toSet ?_ (by omega)) | refine Ext.toAlloc ?_ | refine Ext.toDrew ?_ | refine Ext.toDrewN ?_ | refine Ext.trans ?_ (by assumption)))); (first | done | fail "no"))); have HA1 := Lib.hid hA1; clear hr cn1 hA1)
              | (go_at_call 216; (with_reducible refine (short_ok CN2.out hlg).mono ?_); rintro e1 w3 ⟨rfl, h3⟩; have hx3 := HX2.out.trans h3; obtain ⟨⟨t0, t1, t2, t3, t4⟩, t5, t6, t7, t8, t9, t10⟩ := HS.out w3 hx3; have fz := (H.out.1.to hx3).lv.frozen; have f0 := fz (x * 3); have f1 := fz (x * 3 + 1); have f2 := fz (x * 3 + 2); obtain ⟨d0, d1, d2⟩ := (H.out.1.to hx3).lv.cells hxn; have HP := Lib.hid (H.out.1.put hx3 x _ A1 z1 (CN2.out.ext h3) HA1.out); have HXX : Hid (Ext W1 _) := st3_ext g x (cnR yv A1 z1) (H.out.2.1.trans hx3) (by rw [HG.out]; exact Nat.le_refl _); clear fz))
            all_goals
              go_wp2_with fail
              (try rw [← hbo])
              go_roundw
              case rel => exact ⟨k + 1, _, by omega, by go_num, HP.out.congr HUP.out, HXX.out, HG2.out⟩
              case measure => simp [intOf]; omega
        · obtain rfl : k = lo := by omega
          have HG1 : Hid (tkG D S IN = true) := tkG_all OK.out (fun q hq => HSH.out q (by rw [← HLD.out]; exact hq)) (fun q hq => H.out.2.2 q (by rw [← HLO.out]; exact hq))
          have HV1 : Hid (∀ i, i < D.nb → vk D S IN k i = tkV D S IN i) := fun i _ => by rw [← HLO.out, vk_end]
          go_wp2_with fail
          go_ret
          exact .inl ⟨HG1.out, g, R2, rfl, H.out.1.lv.congr HV1.out, H.out.1.old, H.out.1.nw, H.out.1.ext⟩
end Go.Proofs.YtcdkkohklhmpgaaGreatDoor
