/- Package exact: its small functions. -/
import Derived.Test.YtcdkkohklhmpgaaGreatDoorEyab
import Derived.Test.YtcdkkohklhmpgaaGreatDoorDgsm
import Derived.Deep.DrawnRows
import Derived.WalkSmall
namespace Go.Proofs.YtcdkkohklhmpgaaGreatDoor

/-! ### Eyc -/
section
open Go Go.RowKit

set_option maxRecDepth 100000 in
set_option maxHeartbeats 1000000 in
theorem enumber_any (n e : Int) (w : World) (hT : Tabs w) (h1 : -2147483648 < n) (h2 : n < 2147483648) (h3 : -62 ≤ e) (h4 : e ≤ 30) :
    Calls Tryz.prog 172 #[.agg #[I n, I e]] w (DyRes (nmS n e) w) := by
  have HT := Lib.hid hT; clear hT
  obtain ⟨X0, X2, XE⟩ := num_boxes w (I n) (I e) (.bool false) (.slice none 0 0) (I 0) 98 24
  have HX0 := Lib.hid X0; have HX2 := Lib.hid X2; have HXE := Lib.hid XE; have XE2 := Lib.hid (XE.trans (Ext.drew _))
  clear X0 X2 XE
  obtain ⟨⟨k0, k1⟩, kf⟩ := HX0.out
  obtain ⟨d', hd'⟩ : ∃ d', nmS n e = d' := ⟨_, rfl⟩
  obtain ⟨l1, l2⟩ := nmS_len h1 h2 h4
  have wf' := nmS_ok n e
  rw [hd'] at l2 wf' ⊢
  have HL := Lib.hid l1; have HL2 := Lib.hid l2; have HW := Lib.hid (ofI_ok n 0); have HW2 := Lib.hid wf'
  have HD' := Lib.hid hd'
  clear hd' l1 l2 wf'
  have hn2 : ¬ w.heap.size + 1 = w.heap.size := by omega
  have hn3 : ¬ w.heap.size = w.heap.size + 1 := by omega
  go_enter Tryz.func172, Tryz.ntmps172
  go_upto_region 1 with fail
  go_region_held3 (fun w' => w'.cell? ⟨w.heap.size, 0, none⟩ = some (I n) ∧ w'.cell? ⟨w.heap.size, 1, none⟩ = some (I e)) (go_keep)
    (first
      | (go_at_call 65; refine (of_any n _ (HT.out.ext (HXE.out.trans (Ext.drew _))) (by omega) (by omega)).mono ?_; rintro e5 w5 ⟨A5, c5, rfl, hon5, hx5⟩; obtain ⟨⟨q0, q1⟩, _⟩ := HX0.out.ext (w' := w5) ((Ext.drew _).trans hx5); have HDN := Lib.hid (dy_of_on hon5 HW.out HL.out (Ext.refl _)); clear hon5)
      | (go_at_call 212; refine (shift_any e HDN.out (HT.out.ext ((HXE.out.trans (Ext.drew _)).trans hx5)) (by omega) (by omega)).mono ?_; rw [show shiftD (ofI n 0) e = d' from HD'.out]; rintro e6 w6 ⟨A6, c6, rfl, hon6, hx6⟩; obtain ⟨⟨p0, p1⟩, _⟩ := HX0.out.ext (w' := w6) (((Ext.drew _).trans hx5).trans hx6); have gz := (HX2.out.ext (w' := w6) (((Ext.drew _).trans hx5).trans hx6)).2; obtain ⟨z0, z1, z2⟩ := (HX2.out.ext (w' := w6) (((Ext.drew _).trans hx5).trans hx6)).1; have HO6 := Lib.hid hon6; clear hon6))
  all_goals
    have HXF := Lib.hid (((HXE.out.trans (Ext.drew _)).trans hx5).trans hx6)
    have hsz5 := (XE2.out.trans hx5).size
    have hlt := (HX2.out.ext (w' := w5) ((Ext.drew _).trans hx5)).lt
    go_wp2_with fail
    refine bodyPost_ret (v := dv d'.neg A6 (len d'.m) c6 d'.den) (by simp [results, Tryz.results172, go_sem, z0, z1, z2]) rfl ⟨A6, c6, rfl, ?_, ?_⟩
    · exact (HO6.out.set3 hlt _ _ _).mono hsz5
    · exact ext_set3 HXF.out (by omega) _ _ _

theorem shift0 {d : DV} (h : d.ok) : shiftD d 0 = d := by
  unfold shiftD
  rw [if_neg (by unfold clampN; omega), show (clampN 0).toNat = 0 by decide, Nat.pow_zero, Nat.mul_one, mkD_small h.2.1, nrm_of_ok h]
theorem DyRes.cn {d : DV} {w : World} {e : Ending} {w' : World} (h : DyRes d w e w') (ok : d.ok) (hl : len d.m ≤ 16777216) : ∃ A c, e = .returned (cnR d A c).v ∧ Cn w' (cnR d A c) d ∧ (∀ a, A = some a → w.heap.size ≤ a.block) ∧ Ext w w' := by
  obtain ⟨A, c, he, hon, hx⟩ := h
  refine ⟨A, c, he, Cn.on hon ok hl, fun a ha => ?_, hx⟩
  obtain ⟨e, _⟩ | ⟨g', e, hr⟩ := hon.cases
  · rw [e] at ha; cases ha
  · rw [e] at ha; injection ha with ha; subst ha; exact hr.lt.1
set_option maxRecDepth 100000 in
set_option maxHeartbeats 1000000 in
theorem efresh_any {w : World} {neg : Bool} {A A' : Option Addr} {n c c' : Nat} {den : Int} {d : DV} (h : Dy w neg A n c den d A' c') (hT : Tabs w) : Calls Tryz.prog 177 #[dv neg A n c den] w (DyRes d w) := by
  have H := Lib.hid h; have HT := Lib.hid hT; clear h hT
  obtain ⟨W1, hW1⟩ : ∃ W1, W1 = (w.alloc (.cells #[.bool neg, .slice A n c, I den] 24)).alloc (.cells #[.bool false, .slice none 0 0, I 0] 24) := ⟨_, rfl⟩
  have hE : Ext w W1 := by rw [hW1]; exact (Ext.alloc _ _).trans (Ext.alloc _ _)
  have HS : Hid (∀ w', Ext W1 w' → Calls Tryz.prog 212 #[dv neg A n c den, I 0] w' (DyRes d w')) := fun w' e => by
    have := shift_any 0 (H.out.ext (hE.trans e)) (HT.out.ext (hE.trans e)) (by omega) (by omega)
    rw [shift0 H.out.wf] at this; exact this
  have hb1 : Bx W1 (w.heap.size + 1) (.bool false) (.slice none 0 0) (I 0) := by
    rw [hW1]; have := Bx.new (w.alloc (.cells #[.bool neg, .slice A n c, I den] 24)) (.bool false) (.slice none 0 0) (I 0) 24
    rwa [show (w.alloc (.cells #[.bool neg, .slice A n c, I den] 24)).heap.size = w.heap.size + 1 by simp] at this
  have hb0 : Bx W1 w.heap.size (.bool neg) (.slice A n c) (I den) := by
    rw [hW1]; exact (Bx.new w (.bool neg) (.slice A n c) (I den) 24).ext (Ext.alloc _ _)
  have HB1 := Lib.hid hb1; have HB0 := Lib.hid hb0; have HE := Lib.hid hE
  have hz1 : W1.heap.size = w.heap.size + 1 + 1 := by rw [hW1]; simp
  obtain ⟨⟨k0, k1, k2⟩, _⟩ := HB0.out
  have HZ := Lib.hid hz1
  clear hb1 hb0 hE hz1 H HT
  go_enter Tryz.func177, Tryz.ntmps177
  go_upto_region 1 with fail
  rw [← hW1]; clear hW1
  go_wp2_with (go_at_call 212; (with_reducible refine (HS.out _ (Ext.refl _)).mono ?_); rintro e1 w1 ⟨A2, c2, rfl, hon, hx⟩; have HX := Lib.hid hx; have HO := Lib.hid hon; obtain ⟨⟨r0, r1, r2⟩, rf⟩ := HB1.out.ext hx; clear hx hon)
  exact bodyPost_ret (v := dv d.neg A2 (len d.m) c2 d.den) (by simp [results, Tryz.results177, go_sem, r0, r1, r2]) rfl (DyRes.end3 rfl HO.out (HE.out.trans HX.out) (by have := HZ.out; omega) (by omega) (by have := HZ.out; omega))
end

/-! ### Eyd -/
section
open Go Go.RowKit

/-- A list that is being built: its row is newer than W, so are its numbers. -/
structure BuM (W w : World) (g m : Nat) (R : Nat → RN) (V : Nat → DV) : Prop where
  ext : Ext W w
  old : W.heap.size ≤ g
  lv : LvM w g m R V
  nw : ∀ i, i < m → ∀ a, (R i).A = some a → W.heap.size ≤ a.block
theorem BuM.to {W w w' : World} {g m : Nat} {R : Nat → RN} {V : Nat → DV} (h : BuM W w g m R V) (e : Ext w w') : BuM W w' g m R V := ⟨h.ext.trans e, h.old, h.lv.ext e, h.nw⟩
theorem BuM.congr {W w : World} {g m : Nat} {R : Nat → RN} {V V' : Nat → DV} (h : BuM W w g m R V) (e : ∀ i, i < m → V i = V' i) : BuM W w g m R V' := ⟨h.ext, h.old, h.lv.congr e, h.nw⟩
theorem BuM.new {W w : World} (m : Nat) {g : Nat} (e : Ext W w) (hg : g = w.heap.size) : BuM W (w.alloc (.cells (madeCells #[.bool false, .slice none 0 0, I 0] (m * 3)) 24)) g m (fun _ => RN.z) (fun _ => DV.zero) :=
  ⟨e.trans (Ext.alloc _ _), by rw [hg]; exact e.size, LvM.new w m hg, fun _ _ a h => by cases h⟩
theorem BuM.put {W w w1 : World} {g m : Nat} {R : Nat → RN} {V : Nat → DV} (h : BuM W w g m R V) (e : Ext w w1) (i : Nat) (d : DV) (A : Option Addr) (c : Nat) (cn : Cn w1 (cnR d A c) d) (hA : ∀ a, A = some a → w.heap.size ≤ a.block) :
    BuM W (st3 w1 g i (cnR d A c)) g m (putR R i (cnR d A c)) (putD V i d) := by
  have hgl := h.lv.row.lt
  have hsz := h.ext.size
  refine ⟨st3_ext g i _ (h.ext.trans e) h.old, h.old, (h.lv.ext e).put i _ d cn fun _ a ha => ?_, fun j hj a ha => ?_⟩
  · have := hA a ha; omega
  · unfold putR at ha
    by_cases q : j = i
    · rw [if_pos q] at ha; have := hA a ha; omega
    · rw [if_neg q] at ha; exact h.nw j hj a ha
def upto (F : Nat → DV) (j : Nat) : Nat → DV := fun k => if k < j then F k else DV.zero
theorem upto_put (F : Nat → DV) (j : Nat) (i : Nat) : putD (upto F j) j (F j) i = upto F (j + 1) i := by
  unfold putD upto
  by_cases e : i = j
  · subst e; rw [if_pos rfl, if_pos (by omega)]
  · rw [if_neg e]
    by_cases q : i < j
    · rw [if_pos q, if_pos (by omega)]
    · rw [if_neg q, if_neg (by omega)]
theorem upto_end {F : Nat → DV} {m i : Nat} (h : i < m) : upto F m i = F i := if_pos h
theorem BuM.lvr {W w : World} {g m : Nat} {R : Nat → RN} {F : Nat → DV} (h : BuM W w g m R (upto F m)) : LvR m F W (.returned (.slice (some ⟨g, 0, none⟩) m m)) w :=
  ⟨g, R, rfl, h.lv.congr fun _ hi => upto_end hi, h.old, h.nw, h.ext⟩

set_option maxRecDepth 100000 in
set_option maxHeartbeats 1000000 in
theorem chosen_any {w : World} {A B : Option Addr} {n c m cb : Nat} {R : Nat → RN} {V : Nat → DV} {f : Nat → Int} (l : Ln w A n R V) (r : Ri w B m f) (hf : ∀ k, k < m → 0 ≤ f k ∧ f k < n) (hm : m ≤ 1000) (hT : Tabs w) :
    Calls Tryz.prog 105 #[.slice A n c, .slice B m cb] w (LvR m (fun k => V (f k).toNat) w) := by
  have hmk := fun w => run_makeN w m (by omega)
  obtain ⟨g, hg⟩ : ∃ g, w.heap.size = g := ⟨_, rfl⟩
  have HM0 : Hid (BuM w (w.alloc (.cells (madeCells #[.bool false, .slice none 0 0, I 0] (m * 3)) 24)) g m (fun _ => RN.z) (upto (fun k => V (f k).toNat) 0)) := by
    have := BuM.new m (Ext.refl w) hg.symm
    exact this
  have L := Lib.hid l; have RR := Lib.hid r; have HF := Lib.hid hf; have HT := Lib.hid hT
  clear l r hf hT
  go_enter Tryz.func105, Tryz.ntmps105
  go_wp2_with fail
  (try rw [hg])
  clear hmk
  have HG := Lib.hid hg
  go_loopw [13] (fun s wr => ∃ (j : Nat) (R' : Nat → RN), j ≤ m ∧ s = I j ∧ Hid (BuM w wr g m R' (upto (fun k => V (f k).toNat) j))) (fun s _ => m - (intOf s).toNat)
  case atStart => exact ⟨0, _, Nat.zero_le _, rfl, HM0⟩
  case round =>
    clear HM0
    obtain ⟨j, R', hj, rfl, H⟩ := hrel
    by_cases hlt : j < m
    · obtain ⟨b, o, hb, hbl, hc⟩ := RR.out.ext H.out.ext (by omega)
      have xa := hc j hlt
      obtain ⟨h0, h1⟩ := HF.out j hlt
      have hfe : f j = ((f j).toNat : Int) := by omega
      have hxn : (f j).toNat < n := by omega
      obtain ⟨b2, o2, hb2, hbl2, hc2⟩ := L.out.rn.ext H.out.ext (by omega)
      obtain ⟨c0, c1, c2⟩ := hc2 _ hxn
      have cn := (L.out.el _ hxn).ext H.out.ext
      have HFR : Hid (∀ w', Ext wr w' → Calls Tryz.prog 177 #[(R (f j).toNat).v] w' (DyRes (V (f j).toNat) w')) := fun w' e => efresh_any (cn.dy.ext e) (HT.out.ext (H.out.ext.trans e))
      have HCN := Lib.hid (And.intro cn.ok cn.lim)
      have HUP : Hid (∀ i, putD (upto (fun k => V (f k).toNat) j) j (V (f j).toNat) i = upto (fun k => V (f k).toNat) (j + 1) i) := upto_put (fun k => V (f k).toNat) j
      rw [hfe] at xa
      have hlt' : (j : Int) < (m : Int) := by omega
      have hxn' : ((f j).toNat : Int) < (n : Int) := by omega
      clear hc hc2 h0 h1 hfe cn
      generalize (f j).toNat = x at *
      go_wp2_with (go_at_call 177; (with_reducible refine (HFR.out _ (Ext.refl _)).mono ?_); rintro e1 w1 hr; obtain ⟨A1, k1, rfl, cn1, hA1, hx1⟩ := hr.cn HCN.out.1 HCN.out.2; have fz := (H.out.to hx1).lv.frozen; have f0 := fz (j * 3); have f1 := fz (j * 3 + 1); have f2 := fz (j * 3 + 2); obtain ⟨d0, d1, d2⟩ := (H.out.to hx1).lv.cells hlt; have HP := Lib.hid (H.out.put hx1 j _ A1 k1 cn1 hA1); clear hr fz cn1 hA1 hx1)
      (try rw [← hb])
      (try rw [← hb2])
      go_roundw
      case rel => exact ⟨j + 1, _, by omega, by go_num, HP.out.congr fun i _ => HUP.out i⟩
      case measure => simp [intOf]; omega
    · obtain rfl : j = m := by omega
      go_wp2_with fail
      go_ret
      exact H.out.lvr

theorem OkD.scal {D : Dia} (ok : OkD D) {i : Nat} (hi : i < D.nb) : scE (usesV (D.B i).k) (D.B i).vn (D.B i).ve = 0 ∧ scE ((D.B i).k == 11) (D.B i).un (D.B i).ue = 0 ∧ ((D.B i).k = 11 → gtS (D.B i).vn (D.B i).ve (D.B i).un (D.B i).ue = false) := by
  have h := ok.be i hi
  unfold blkE at h
  by_cases h1 : (D.B i).k < 0 ∨ 11 < (D.B i).k
  · rw [if_pos h1] at h; omega
  rw [if_neg h1] at h
  by_cases h2 : ((D.B i).n : Int) ≠ arity (D.B i).k
  · rw [if_pos h2] at h; omega
  rw [if_neg h2] at h
  by_cases h3 : fstE (D.B i).n (fun j => inE (cntB D (D.B i)) ((D.B i).a j)) ≠ 0
  · rw [if_pos h3] at h; exact absurd h h3
  rw [if_neg h3] at h
  by_cases h4 : scE (usesV (D.B i).k) (D.B i).vn (D.B i).ve ≠ 0
  · rw [if_pos h4] at h; exact absurd h h4
  rw [if_neg h4] at h
  by_cases h5 : scE ((D.B i).k == 11) (D.B i).un (D.B i).ue ≠ 0
  · rw [if_pos h5] at h; exact absurd h h5
  rw [if_neg h5] at h
  refine ⟨by omega, by omega, fun hk => ?_⟩
  cases hg : gtS (D.B i).vn (D.B i).ve (D.B i).un (D.B i).ue with
  | false => rfl
  | true => rw [if_pos ⟨hk, hg⟩] at h; omega
theorem scE_rng {n e : Int} (h : scE true n e = 0) : -2147483648 < n ∧ n < 2147483648 ∧ -62 ≤ e ∧ e ≤ 30 := by
  unfold scE at h
  rw [if_pos rfl] at h
  by_cases q : n ≤ -2147483648 ∨ 2147483648 ≤ n ∨ e < -62 ∨ 30 < e
  · rw [if_pos q] at h; omega
  · omega
theorem OkD.val {D : Dia} (ok : OkD D) {i : Nat} (hi : i < D.nb) (hu : usesV (D.B i).k = true) : -2147483648 < (D.B i).vn ∧ (D.B i).vn < 2147483648 ∧ -62 ≤ (D.B i).ve ∧ (D.B i).ve ≤ 30 := by
  have := (ok.scal hi).1; rw [hu] at this; exact scE_rng this
theorem OkD.upp {D : Dia} (ok : OkD D) {i : Nat} (hi : i < D.nb) (hu : (D.B i).k = 11) : -2147483648 < (D.B i).un ∧ (D.B i).un < 2147483648 ∧ -62 ≤ (D.B i).ue ∧ (D.B i).ue ≤ 30 := by
  have := (ok.scal hi).2.1; rw [hu] at this; exact scE_rng this
/-- The struct of an evaluation. -/
abbrev evv (D : Dia) (p : Pl) (Ao : Option Addr) (lo co : Nat) (Ad : Option Addr) (ld cd : Nat) : Value := .agg #[.slice p.AI D.ni p.cI, .slice p.AB D.nb p.cB, .slice p.AO D.no p.cO, .slice Ao lo co, .slice Ad ld cd]
/-- Its box. -/
def B5 (w : World) (g : Nat) (D : Dia) (p : Pl) (Ao : Option Addr) (lo co : Nat) (Ad : Option Addr) (ld cd : Nat) : Prop :=
  w.cell? ⟨g, 0, none⟩ = some (.slice p.AI D.ni p.cI) ∧ w.cell? ⟨g, 1, none⟩ = some (.slice p.AB D.nb p.cB) ∧ w.cell? ⟨g, 2, none⟩ = some (.slice p.AO D.no p.cO) ∧ w.cell? ⟨g, 3, none⟩ = some (.slice Ao lo co) ∧ w.cell? ⟨g, 4, none⟩ = some (.slice Ad ld cd)
theorem B5.lt {w : World} {g : Nat} {D : Dia} {p : Pl} {Ao Ad : Option Addr} {lo ld co cd : Nat} (h : B5 w g D p Ao lo co Ad ld cd) : g < w.heap.size := World.block_lt_of_cell? w _ h.1
theorem B5.ext {w w' : World} {g : Nat} {D : Dia} {p : Pl} {Ao Ad : Option Addr} {lo ld co cd : Nat} (h : B5 w g D p Ao lo co Ad ld cd) (e : Ext w w') : B5 w' g D p Ao lo co Ad ld cd :=
  ⟨(e.old.1 _ _ h.lt).trans h.1, (e.old.1 _ _ h.lt).trans h.2.1, (e.old.1 _ _ h.lt).trans h.2.2.1, (e.old.1 _ _ h.lt).trans h.2.2.2.1, (e.old.1 _ _ h.lt).trans h.2.2.2.2⟩
theorem B5.new (w : World) (D : Dia) (p : Pl) (Ao : Option Addr) (lo co : Nat) (Ad : Option Addr) (ld cd : Nat) (t : TypeId) :
    B5 (w.alloc (.cells #[.slice p.AI D.ni p.cI, .slice p.AB D.nb p.cB, .slice p.AO D.no p.cO, .slice Ao lo co, .slice Ad ld cd] t)) w.heap.size D p Ao lo co Ad ld cd := ⟨by go_simp, by go_simp, by go_simp, by go_simp, by go_simp⟩
set_option maxRecDepth 100000 in
set_option maxHeartbeats 1000000 in
theorem start_any {w : World} {D : Dia} {p : Pl} {Ao Ad : Option Addr} {lo ld co cd : Nat} (d : Dm w D p) (ok : OkD D) (hld : (delL D).length = ld) (rd : Rl w Ad cd (delL D)) (hT : Tabs w) :
    Calls Tryz.prog 103 #[evv D p Ao lo co Ad ld cd] w (LvR ld (s0S D) w) := by
  have hdl := del_le D
  rw [hld] at hdl
  have hnb := ok.nb
  have hmk := fun w => run_makeN w ld (by omega)
  obtain ⟨W1, hW1⟩ : ∃ W1, W1 = w.alloc (.cells #[.slice p.AI D.ni p.cI, .slice p.AB D.nb p.cB, .slice p.AO D.no p.cO, .slice Ao lo co, .slice Ad ld cd] 132) := ⟨_, rfl⟩
  have hE : Ext w W1 := by rw [hW1]; exact Ext.alloc _ _
  have hB : B5 W1 w.heap.size D p Ao lo co Ad ld cd := by rw [hW1]; exact B5.new _ _ _ _ _ _ _ _ _ _
  obtain ⟨g, hg⟩ : ∃ g, W1.heap.size = g := ⟨_, rfl⟩
  have HM0 : Hid (BuM w (W1.alloc (.cells (madeCells #[.bool false, .slice none 0 0, I 0] (ld * 3)) 24)) g ld (fun _ => RN.z) (upto (s0S D) 0) ∧ Ext W1 (W1.alloc (.cells (madeCells #[.bool false, .slice none 0 0, I 0] (ld * 3)) 24))) := ⟨BuM.new _ hE hg.symm, Ext.alloc _ _⟩
  have HB := Lib.hid hB; have HD := Lib.hid (d.ext hE); have HT := Lib.hid (hT.ext hE); have HR := Lib.hid (rd.ext hE); have OK := Lib.hid ok; have HE := Lib.hid hE
  obtain ⟨c0, c1, c2, c3, c4⟩ := hB
  have hz1 : W1.heap.size = w.heap.size + 1 := by rw [hW1]; simp
  have hne1 : ¬ w.heap.size = g := by omega
  have hne2 : ¬ g = w.heap.size := by omega
  have hne3 : w.heap.size < W1.heap.size := by omega
  have hne4 : w.heap.size < g := by omega
  have hne5 : ¬ w.heap.size = W1.heap.size := by omega
  have HZ := Lib.hid hz1
  clear d ok rd hT hE hz1
  have HND := Lib.hid hld; clear hld
  go_enter Tryz.func103, Tryz.ntmps103
  go_upto_region 1 with fail
  rw [← hW1]; clear hW1
  go_wp2_with fail
  (try rw [hg])
  clear hmk c0 c1 c2 c3 c4
  have HG := Lib.hid hg; clear hg
  go_loopw [13] (fun s wr => ∃ (j : Nat) (R' : Nat → RN), j ≤ ld ∧ s = I j ∧ Hid (BuM w wr g ld R' (upto (s0S D) j) ∧ Ext W1 wr)) (fun s _ => ld - (intOf s).toNat)
  case atStart => exact ⟨0, _, Nat.zero_le _, rfl, HM0⟩
  case round =>
    clear HM0
    obtain ⟨j, R', hj, rfl, H⟩ := hrel
    by_cases hlt : j < ld
    · have hj' : j < (delL D).length := by rw [HND.out]; exact hlt
      obtain ⟨bd, od, hbd, hbld, hcd⟩ := (HR.out.ext H.out.2).1 (by omega)
      have xd := hcd j hj'
      obtain ⟨x, hxd⟩ : ∃ x, (delL D).getD j 0 = x := ⟨_, rfl⟩
      have hx := del_at hj'
      simp only [hxd] at xd hx
      obtain ⟨b, o, hb, hbl, hc⟩ := (HD.out.ext H.out.2).blocks (by omega)
      obtain ⟨x0, x1, x2, x3, x4, x5⟩ := hc x hx.1
      obtain ⟨k0, k1, k2, k3, k4⟩ := HB.out.ext H.out.2
      have hv := OK.out.val hx.1 (by have := hx.2; unfold isD at this; unfold usesV; simp at this; simp [this])
      have HNB : Hid (∀ w', Ext wr w' → Calls Tryz.prog 172 #[.agg #[I (D.B x).vn, I (D.B x).ve]] w' (DyRes (s0S D j) w')) := fun w' e => by
        have := enumber_any (D.B x).vn (D.B x).ve w' (HT.out.ext (H.out.2.trans e)) hv.1 hv.2.1 hv.2.2.1 hv.2.2.2
        unfold s0S; rw [hxd]; exact this
      have HOK : Hid ((s0S D j).ok ∧ len (s0S D j).m ≤ 16777216) := by
        have := nmS_len (n := (D.B x).vn) (e := (D.B x).ve) hv.1 hv.2.1 hv.2.2.2
        unfold s0S; rw [hxd]; exact ⟨nmS_ok _ _, this.2⟩
      have HUP : Hid (∀ i, putD (upto (s0S D) j) j (s0S D j) i = upto (s0S D) (j + 1) i) := upto_put (s0S D) j
      have hlt' : (j : Int) < (ld : Int) := by omega
      have hxl : (x : Int) < (D.nb : Int) := by omega
      clear hc hcd hx hv hj'
      go_wp2_with (go_at_call 172; (with_reducible refine (HNB.out _ (Ext.refl _)).mono ?_); rintro e1 w1 hr; obtain ⟨A1, y1, rfl, cn1, hA1, hx1⟩ := hr.cn HOK.out.1 HOK.out.2; have fz := (H.out.1.to hx1).lv.frozen; have f0 := fz (j * 3); have f1 := fz (j * 3 + 1); have f2 := fz (j * 3 + 2); obtain ⟨d0, d1, d2⟩ := (H.out.1.to hx1).lv.cells hlt; have HP := Lib.hid (H.out.1.put hx1 j _ A1 y1 cn1 hA1); have HX1 : Hid (Ext W1 _) := st3_ext g j (cnR (s0S D j) A1 y1) (H.out.2.trans hx1) (by rw [HG.out]; exact Nat.le_refl _); clear hr fz cn1 hA1 hx1)
      (try rw [← hb])
      (try rw [← hbd])
      go_roundw
      case rel => exact ⟨j + 1, _, by omega, by go_num, HP.out.congr fun i _ => HUP.out i, HX1.out⟩
      case measure => simp [intOf]; omega
    · obtain rfl : j = ld := by omega
      go_wp2_with fail
      go_ret
      exact H.out.1.lvr

/-! ### The arguments of the delays -/
structure SoM (W w : World) (g n : Nat) (F : Nat → Int) : Prop where
  ext : Ext W w
  old : W.heap.size ≤ g
  row : w.rowIs g 3 n (fun i => I (F i))
theorem SoM.putv {W w : World} {g n : Nat} {F F' : Nat → Int} (h : SoM W w g n F) (x : Nat) (v : Int) (hF : ∀ i, F' i = if i = x then v else F i) : SoM W (w.setCell ⟨g, x, none⟩ (I v)) g n F' :=
  ⟨h.ext.set h.old _, h.old, (h.row.set x (I v)).congr fun i _ => by rw [hF i]; by_cases q : i = x <;> simp [q]⟩
theorem SoM.ri {W w : World} {g n : Nat} {F : Nat → Int} (h : SoM W w g n F) : Ri w (some ⟨g, 0, none⟩) n F := fun hn => ⟨g, 0, rfl, h.row.lt, fun i hi => by rw [Nat.zero_add]; exact h.row.cell hi⟩
def uptI (F : Nat → Int) (j : Nat) : Nat → Int := fun k => if k < j then F k else 0
theorem uptI_succ (F : Nat → Int) (j : Nat) (i : Nat) : uptI F (j + 1) i = if i = j then F j else uptI F j i := by
  unfold uptI
  by_cases e : i = j
  · subst e; rw [if_pos rfl, if_pos (by omega)]
  · rw [if_neg e]
    by_cases q : i < j
    · rw [if_pos q, if_pos (by omega)]
    · rw [if_neg q, if_neg (by omega)]
def SoR (n : Nat) (F : Nat → Int) (w : World) (e : Ending) (w' : World) : Prop := ∃ g, e = .returned (.slice (some ⟨g, 0, none⟩) n n) ∧ w.heap.size ≤ g ∧ Ri w' (some ⟨g, 0, none⟩) n F ∧ Ext w w'
def srcs (D : Dia) (k : Nat) : Int := (sr D ((delL D).getD k 0) 0 : Nat)
set_option maxRecDepth 100000 in
set_option maxHeartbeats 1000000 in
theorem esources_any {w : World} {D : Dia} {p : Pl} {Ao Ad : Option Addr} {lo ld co cd : Nat} (d : Dm w D p) (ok : OkD D) (hld : (delL D).length = ld) (rd : Rl w Ad cd (delL D)) :
    Calls Tryz.prog 176 #[evv D p Ao lo co Ad ld cd] w (SoR ld (srcs D) w) := by
  have hdl := del_le D
  rw [hld] at hdl
  have hnb := ok.nb
  have hmk := run_make_row' 46 3 (I 0) 8 Tryz.underlying46 infoI rfl .i64 .i64 ld (by omega) (by omega)
  obtain ⟨W1, hW1⟩ : ∃ W1, W1 = w.alloc (.cells #[.slice p.AI D.ni p.cI, .slice p.AB D.nb p.cB, .slice p.AO D.no p.cO, .slice Ao lo co, .slice Ad ld cd] 132) := ⟨_, rfl⟩
  have hE : Ext w W1 := by rw [hW1]; exact Ext.alloc _ _
  have hB : B5 W1 w.heap.size D p Ao lo co Ad ld cd := by rw [hW1]; exact B5.new _ _ _ _ _ _ _ _ _ _
  obtain ⟨g, hg⟩ : ∃ g, W1.heap.size = g := ⟨_, rfl⟩
  have HM0 : Hid (SoM w (W1.alloc (.cells (madeCells #[I 0] ld) 3)) g ld (uptI (srcs D) 0) ∧ Ext W1 (W1.alloc (.cells (madeCells #[I 0] ld) 3))) :=
    ⟨⟨hE.trans (Ext.alloc _ _), by rw [← hg]; exact hE.size, (rowIs_made' W1 (I 0) ld 3 hg.symm).congr fun i _ => rfl⟩, Ext.alloc _ _⟩
  have HB := Lib.hid hB; have HD := Lib.hid (d.ext hE); have HR := Lib.hid (rd.ext hE); have OK := Lib.hid ok; have HE := Lib.hid hE
  obtain ⟨c0, c1, c2, c3, c4⟩ := hB
  have hz1 : W1.heap.size = w.heap.size + 1 := by rw [hW1]; simp
  have hne1 : ¬ w.heap.size = g := by omega
  have hne2 : ¬ g = w.heap.size := by omega
  have hne3 : w.heap.size < W1.heap.size := by omega
  have hne4 : w.heap.size < g := by omega
  have hne5 : ¬ w.heap.size = W1.heap.size := by omega
  have HZ := Lib.hid hz1
  clear d ok rd hE hz1
  have HND := Lib.hid hld; clear hld
  go_enter Tryz.func176, Tryz.ntmps176
  go_upto_region 1 with fail
  rw [← hW1]; clear hW1
  go_wp2_with fail
  (try rw [hg])
  clear hmk c0 c1 c2 c3 c4
  have HG := Lib.hid hg; clear hg
  go_loopw [13] (fun s wr => ∃ j : Nat, j ≤ ld ∧ s = I j ∧ Hid (SoM w wr g ld (uptI (srcs D) j) ∧ Ext W1 wr)) (fun s _ => ld - (intOf s).toNat)
  case atStart => exact ⟨0, Nat.zero_le _, rfl, HM0⟩
  case round =>
    clear HM0
    obtain ⟨j, hj, rfl, H⟩ := hrel
    by_cases hlt : j < ld
    · have hj' : j < (delL D).length := by rw [HND.out]; exact hlt
      obtain ⟨bd, od, hbd, hbld, hcd⟩ := (HR.out.ext H.out.2).1 (by omega)
      have xd := hcd j hj'
      obtain ⟨x, hxd⟩ : ∃ x, (delL D).getD j 0 = x := ⟨_, rfl⟩
      have hx := del_at hj'
      simp only [hxd] at xd hx
      obtain ⟨b, o, hb, hbl, hc⟩ := (HD.out.ext H.out.2).blocks (by omega)
      obtain ⟨x0, x1, x2, x3, x4, x5⟩ := hc x hx.1
      obtain ⟨k0, k1, k2, k3, k4⟩ := HB.out.ext H.out.2
      have hk2 : (D.B x).k = 2 := by have := hx.2; unfold isD at this; simpa using this
      have hns : ns D x = 1 ∧ (D.B x).n = 1 := by
        have h := OK.out.ar x hx.1
        have : arity (D.B x).k = 1 := by rw [hk2]; decide
        unfold ns; rw [if_neg (by omega)]; omega
      obtain ⟨ba, oa, hba, hbla, hca⟩ := ((HD.out.ext H.out.2).args x hx.1).1 (by omega)
      have xa := hca 0 (by omega)
      rw [Nat.add_zero] at xa
      have hsa := (OK.out.src hx.1 (j := 0) (by omega)).1
      rw [hsa] at xa
      rw [hba, hns.2] at x1
      have hF : Hid (((sr D x 0 : Nat) : Int) = srcs D j) := by show _ = _; unfold srcs; rw [hxd]
      rw [hF.out] at xa
      have HRK : Hid (∀ i, uptI (srcs D) (j + 1) i = if i = j then srcs D j else uptI (srcs D) j i) := uptI_succ (srcs D) j
      have hlt' : (j : Int) < (ld : Int) := by omega
      have hxl : (x : Int) < (D.nb : Int) := by omega
      have hcell := H.out.1.row.cell hlt
      have hfz := H.out.1.row.frozen j
      have HP := Lib.hid (H.out.1.putv j _ HRK.out)
      have HX1 : Hid (Ext W1 (wr.setCell ⟨g, j, none⟩ (I (srcs D j)))) := H.out.2.set (by rw [HG.out]; exact Nat.le_refl _) _
      clear hc hcd hx hj' hca hsa hns hk2
      go_wp2_with fail
      (try rw [← hb])
      (try rw [← hbd])
      go_roundw
      case rel => exact ⟨j + 1, by omega, by go_num, HP.out, HX1.out⟩
      case measure => simp [intOf]; omega
    · obtain rfl : j = ld := by omega
      go_wp2_with fail
      go_ret
      exact ⟨g, rfl, H.out.1.old, H.out.1.ri.congr fun i hi => if_pos hi, H.out.1.ext⟩
end

/-! ### Eye -/
section
open Go Go.RowKit

/-- A tick panics with this. -/
def tlC : List PanicEntry := [{ v := .iface 184 (.agg #[]), recovered := false }]
theorem lng_max (d : DV) (x y : Int) (hx : (bitsN d.m : Int) = x) (hy : (d.den : Int) = y) : decide (4096 < max x y) = lng d := by
  unfold lng
  subst hx; subst hy
  rw [Bool.eq_iff_iff]
  simp only [decide_eq_true_eq]
  omega
set_option maxRecDepth 100000 in
set_option maxHeartbeats 1000000 in
theorem short_ok {w : World} {r : RN} {d : DV} (h : Cn w r d) (hl : lng d = false) : Calls Tryz.prog 216 #[r.v] w fun e w' => e = .returned r.v ∧ Ext w w' := by
  obtain ⟨neg, A, n, c, den⟩ := r
  show Calls _ _ #[dv neg A n c den] _ (fun e w' => e = .returned (dv neg A n c den) ∧ Ext w w')
  have hden : den = d.den := h.den
  obtain ⟨W1, hW1⟩ : ∃ W1, W1 = (w.alloc (.cells #[.bool neg, .slice A n c, I den] 24)).alloc (.cells #[.bool false, .slice none 0 0, I 0] 24) := ⟨_, rfl⟩
  have hE : Ext w W1 := by rw [hW1]; exact (Ext.alloc _ _).trans (Ext.alloc _ _)
  obtain ⟨y, hy⟩ : ∃ y : Int, (bitsN d.m : Int) = y := ⟨_, rfl⟩
  have hdy := h.dy
  have HBT : Hid (∀ w', Ext W1 w' → Calls Tryz.prog 222 #[dv neg A n c den] w' fun e w'' => e = .returned (I y) ∧ Ext w' w'') := fun w' e => by
    rw [← hy]; exact bits_any (hdy.ext (hE.trans e))
  have hb1 : Bx W1 (w.heap.size + 1) (.bool false) (.slice none 0 0) (I 0) := by
    rw [hW1]; have := Bx.new (w.alloc (.cells #[.bool neg, .slice A n c, I den] 24)) (.bool false) (.slice none 0 0) (I 0) 24
    rwa [show (w.alloc (.cells #[.bool neg, .slice A n c, I den] 24)).heap.size = w.heap.size + 1 by simp] at this
  have hb0 : Bx W1 w.heap.size (.bool neg) (.slice A n c) (I den) := by
    rw [hW1]; exact (Bx.new w (.bool neg) (.slice A n c) (I den) 24).ext (Ext.alloc _ _)
  have HB1 := Lib.hid hb1; have HB0 := Lib.hid hb0; have HE := Lib.hid hE
  obtain ⟨⟨k0, k1, k2⟩, _⟩ := HB0.out
  have hlt0 := hb0.lt
  have hmx : decide (4096 < max y den) = false := (lng_max d y den hy hden.symm).trans hl
  have hy0 : 0 ≤ y := by omega
  have hd0 : 0 ≤ den := by omega
  have hb : Ext W1 W1 := Ext.refl _
  clear hb1 hb0 hE hy h hl hdy hden
  go_enter Tryz.func216, Tryz.ntmps216
  go_upto_region 1 with fail
  rw [← hW1]; clear hW1
  have hL := fun (x : Later _) => (Ext.trans hb x.ext).old.1
  refine wp_region_later (by kernel_rfl) (by kernel_rfl) ?_
  repeat (go_big_quiet_step (((go_at_call 222; exact Calls.later (HBT.out _ (Later.ext _))))))
  refine wpQuiet_nil ?_
  intro w2 hw2
  replace hb := Ext.trans hb (Later.of hw2)
  clear hw2 hL
  obtain ⟨hc, hf⟩ := hb.old
  have HBB := Lib.hid hb
  obtain ⟨⟨q0, q1, q2⟩, _⟩ := HB0.out.ext hb
  obtain ⟨⟨r0, r1, r2⟩, rf⟩ := HB1.out.ext hb
  have f0 := rf 0; have f1 := rf 1; have f2 := rf 2
  clear hb rf
  go_wp2_with fail
  refine bodyPost_ret (v := dv neg A n c den) (by simp [results, Tryz.results216, go_sem, r0, r1, r2]) rfl ⟨rfl, ?_⟩
  exact ext_set3 (HE.out.trans HBB.out) (by omega) _ _ _
set_option maxRecDepth 100000 in
set_option maxHeartbeats 1000000 in
theorem short_long {w : World} {r : RN} {d : DV} (h : Cn w r d) (hl : lng d = true) : Calls Tryz.prog 216 #[r.v] w fun e w' => e = .panicked tlC ∧ Ext w w' := by
  obtain ⟨neg, A, n, c, den⟩ := r
  show Calls _ _ #[dv neg A n c den] _ _
  have hden : den = d.den := h.den
  obtain ⟨W1, hW1⟩ : ∃ W1, W1 = (w.alloc (.cells #[.bool neg, .slice A n c, I den] 24)).alloc (.cells #[.bool false, .slice none 0 0, I 0] 24) := ⟨_, rfl⟩
  have hE : Ext w W1 := by rw [hW1]; exact (Ext.alloc _ _).trans (Ext.alloc _ _)
  obtain ⟨y, hy⟩ : ∃ y : Int, (bitsN d.m : Int) = y := ⟨_, rfl⟩
  have hdy := h.dy
  have HBT : Hid (∀ w', Ext W1 w' → Calls Tryz.prog 222 #[dv neg A n c den] w' fun e w'' => e = .returned (I y) ∧ Ext w' w'') := fun w' e => by
    rw [← hy]; exact bits_any (hdy.ext (hE.trans e))
  have hb0 : Bx W1 w.heap.size (.bool neg) (.slice A n c) (I den) := by
    rw [hW1]; exact (Bx.new w (.bool neg) (.slice A n c) (I den) 24).ext (Ext.alloc _ _)
  have HB0 := Lib.hid hb0; have HE := Lib.hid hE
  obtain ⟨⟨k0, k1, k2⟩, _⟩ := HB0.out
  have hlt0 := hb0.lt
  have hmx : decide (4096 < max y den) = true := (lng_max d y den hy hden.symm).trans hl
  have hy0 : 0 ≤ y := by omega
  have hd0 : 0 ≤ den := by omega
  have hb : Ext W1 W1 := Ext.refl _
  clear hb0 hE hy h hl hdy hden
  go_enter Tryz.func216, Tryz.ntmps216
  go_upto_region 1 with fail
  rw [← hW1]; clear hW1
  have hL := fun (x : Later _) => (Ext.trans hb x.ext).old.1
  refine wp_region_later (by kernel_rfl) (by kernel_rfl) ?_
  repeat (go_big_quiet_step (((go_at_call 222; exact Calls.later (HBT.out _ (Later.ext _))))))
  refine wpQuiet_nil ?_
  intro w2 hw2
  replace hb := Ext.trans hb (Later.of hw2)
  clear hw2 hL
  obtain ⟨hc, hf⟩ := hb.old
  have HBB := Lib.hid hb
  clear hb
  go_wp2_with fail
  exact ⟨rfl, rfl, HE.out.trans HBB.out⟩

/-! ### The closure that reads an argument -/
set_option maxRecDepth 100000 in
set_option maxHeartbeats 1000000 in
theorem arg_any {w : World} {g5 g6 b o nb m c ca : Nat} {ba oa x : Nat} {R : Nat → RN} (j : Nat)
    (h6 : w.cell? ⟨g6, 0, none⟩ = some (.slice (some ⟨b, o, none⟩) nb c)) (h5 : w.cell? ⟨g5, 1, none⟩ = some (.slice (some ⟨ba, oa, none⟩) m ca))
    (hj : j < m) (ha : w.cell? ⟨ba, oa + j, none⟩ = some (I x)) (hx : x < nb)
    (hv : w.cell? ⟨b, o + x * 3, none⟩ = some (.bool (R x).neg) ∧ w.cell? ⟨b, o + x * 3 + 1, none⟩ = some (.slice (R x).A (R x).n (R x).c) ∧ w.cell? ⟨b, o + x * 3 + 2, none⟩ = some (I (R x).den))
    (l6 : g6 < w.heap.size) (l5 : g5 < w.heap.size) (lb : b < w.heap.size) (la : ba < w.heap.size) :
    Calls Tryz.prog 238 #[I j, .pointer (some ⟨g6, 0, none⟩), .pointer (some ⟨g5, 0, none⟩)] w fun e w' => e = .returned (R x).v ∧ Ext w w' := by
  obtain ⟨v0, v1, v2⟩ := hv
  generalize R x = r at *
  obtain ⟨neg, A, n, c', den⟩ := r
  show Calls _ _ _ _ (fun e w' => e = .returned (dv neg A n c' den) ∧ Ext w w')
  simp only at v0 v1 v2
  obtain ⟨W1, hW1⟩ : ∃ W1, W1 = w.alloc (.cells #[.bool false, .slice none 0 0, I 0] 24) := ⟨_, rfl⟩
  have hE : Ext w W1 := by rw [hW1]; exact Ext.alloc _ _
  have hB0 : Bx W1 w.heap.size (.bool false) (.slice none 0 0) (I 0) := by rw [hW1]; exact Bx.new w _ _ _ _
  have HB0 := Lib.hid hB0; have HE := Lib.hid hE
  have e6 := (hE.old.1 _ _ l6).trans h6
  have e5 := (hE.old.1 _ _ l5).trans h5
  have ea := (hE.old.1 _ _ la).trans ha
  have e0 := (hE.old.1 _ _ lb).trans v0
  have e1 := (hE.old.1 _ _ lb).trans v1
  have e2 := (hE.old.1 _ _ lb).trans v2
  obtain ⟨⟨r0, r1, r2⟩, rf⟩ := HB0.out
  have f0 := rf 0; have f1 := rf 1; have f2 := rf 2
  have hj' : (j : Int) < (m : Int) := by omega
  have hx' : (x : Int) < (nb : Int) := by omega
  clear h6 h5 ha v0 v1 v2 hE hB0 rf
  go_enter Tryz.func238, Tryz.ntmps238
  go_upto_region 1 with fail
  rw [← hW1]; clear hW1
  go_region
  go_wp2_with fail
  refine bodyPost_ret (v := dv neg A n c' den) (by simp [results, Tryz.results238, go_sem, r0, r1, r2]) rfl ⟨rfl, ?_⟩
  exact (ext_set3 HE.out (Nat.le_refl _) _ _ _).trans (Ext.drew _)
end

end Go.Proofs.YtcdkkohklhmpgaaGreatDoor
