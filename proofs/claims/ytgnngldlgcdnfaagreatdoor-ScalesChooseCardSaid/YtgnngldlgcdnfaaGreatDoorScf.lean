/- Package scales: Shifts. -/
import Derived.Test.YtgnngldlgcdnfaaGreatDoorSce
namespace Go.Proofs.YtgnngldlgcdnfaaGreatDoor
open Go Go.RowKit
attribute [local go_sem ↓] Go.wp_at_zero Go.wp_at_succ

set_option maxRecDepth 100000 in
set_option maxHeartbeats 1000000 in
theorem scaleOf_in {w : World} {D : Dia} {p : Pl} {B : Option Addr} {m e : Nat} (d : Dm w D p) {x : Nat} (hx : x < D.ni) : Calls Tryz.prog 113 #[dgv D p, .slice B m e, I 0, I x] w fun e w' => e = .returned (I (D.P x).fr) ∧ Ext w w' := by
  obtain ⟨W1, hW1⟩ : ∃ W1, W1 = w.alloc (.cells #[.slice p.AI D.ni p.cI, .slice p.AB D.nb p.cB, .slice p.AO D.no p.cO] 26) := ⟨_, rfl⟩
  have hE : Ext w W1 := by rw [hW1]; exact Ext.alloc _ _
  have hbd : Bd W1 w.heap.size D p := by rw [hW1]; exact Bd.new _ _ _ _
  obtain ⟨bp, op, hp, hbp, hcp⟩ := (d.ext hE).ports (by omega)
  obtain ⟨y0, y1, y2⟩ := hcp x hx
  obtain ⟨c0, c1, c2⟩ := hbd
  have HE := Lib.hid hE
  have hlt' : (x : Int) < (D.ni : Int) := by omega
  rw [hp] at c0 hW1
  clear d hcp hE
  generalize (D.P x).fr = fr at *
  show Calls _ _ #[.agg #[.slice p.AI D.ni p.cI, .slice p.AB D.nb p.cB, .slice p.AO D.no p.cO], .slice B m e, I 0, I x] _ _
  rw [hp]
  clear hp
  go_enter Tryz.func113, Tryz.ntmps113
  go_upto_region 1 with fail
  rw [← hW1]; clear hW1
  go_wp2_with fail
  go_ret
  exact ⟨rfl, HE.out⟩
set_option maxRecDepth 100000 in
set_option maxHeartbeats 1000000 in
theorem scaleOf_blk {w : World} {D : Dia} {p : Pl} {B : Option Addr} {m e : Nat} {F : Nat → Int} {k : Int} (hk : k ≠ 0) (r : Ri w B m F) {x : Nat} (hx : x < m) : Calls Tryz.prog 113 #[dgv D p, .slice B m e, I k, I x] w fun e w' => e = .returned (I (F x)) ∧ Ext w w' := by
  obtain ⟨W1, hW1⟩ : ∃ W1, W1 = w.alloc (.cells #[.slice p.AI D.ni p.cI, .slice p.AB D.nb p.cB, .slice p.AO D.no p.cO] 26) := ⟨_, rfl⟩
  have hE : Ext w W1 := by rw [hW1]; exact Ext.alloc _ _
  obtain ⟨bf, of, rfl, hbl, hcf⟩ := r.ext hE (by omega)
  have xf := hcf x hx
  have HE := Lib.hid hE
  have hlt' : (x : Int) < (m : Int) := by omega
  have hk' : (k == 0) = false := by simpa using hk
  clear r hcf hE hk
  generalize F x = fx at *
  go_enter Tryz.func113, Tryz.ntmps113
  go_upto_region 1 with fail
  rw [← hW1]; clear hW1
  go_wp2_with fail
  go_ret
  exact ⟨rfl, HE.out⟩
theorem scaleOf_any {w : World} {D : Dia} {p : Pl} {B : Option Addr} {m e : Nat} {F : Nat → Int} (d : Dm w D p) (ok : OkD D) (r : Ri w B m F) (hm : m = D.nb) {i j : Nat} (hi : i < D.nb) (hj : j < (D.B i).n) :
    Calls Tryz.prog 113 #[dgv D p, .slice B m e, I (D.B i).k, I ((D.B i).a j)] w fun e w' => e = .returned (I (asc D F i j)) ∧ Ext w w' := by
  have ha := ok.arg i hi j hj
  have hs : ((D.B i).a j) = (sr D i j : Nat) := by unfold sr; omega
  unfold asc
  rw [hs]
  by_cases hk : (D.B i).k = 0
  · rw [if_pos hk, hk]
    unfold cntB at ha
    rw [if_pos hk] at ha
    exact scaleOf_in d (by omega)
  · rw [if_neg hk]
    unfold cntB at ha
    rw [if_neg hk] at ha
    exact scaleOf_blk hk r (by omega)

/-- What is wrong with scales whose shifts are counted. -/
def shX (D : Dia) (m : Nat) : Int := if chk D ≠ 0 then chk D else if m ≠ D.nb then 11 else 0
def ShP (D : Dia) (F : Nat → Int) (m : Nat) (w : World) (e : Ending) (w' : World) : Prop :=
  (shX D m ≠ 0 ∧ e = .returned (.tuple #[I 0, .iface 48 (I (shX D m))]) ∧ Ext w w') ∨ (shX D m = 0 ∧ e = .returned (.tuple #[I (shN D F D.nb : Nat), .nilIface]) ∧ Ext w w')
set_option maxRecDepth 100000 in
set_option maxHeartbeats 4000000 in
theorem Shifts_any {w : World} {D : Dia} {p : Pl} {B : Option Addr} {m e : Nat} {F : Nat → Int} (d : Dm w D p) (hT : Tabs w) (hm : m ≤ maxLen) (rf : Ri w B m F) : Calls Tryz.prog 49 #[dgv D p, .slice B m e] w (ShP D F m w) := by
  unfold maxLen at hm
  obtain ⟨W1, hW1⟩ : ∃ W1, W1 = w.alloc (.cells #[.slice p.AI D.ni p.cI, .slice p.AB D.nb p.cB, .slice p.AO D.no p.cO] 26) := ⟨_, rfl⟩
  have hE : Ext w W1 := by rw [hW1]; exact Ext.alloc _ _
  have hbd : Bd W1 w.heap.size D p := by rw [hW1]; exact Bd.new _ _ _ _
  have HBX : Hid (∀ w', Ext W1 w' → w'.cell? ⟨w.heap.size, 0, none⟩ = some (.slice p.AI D.ni p.cI) ∧ w'.cell? ⟨w.heap.size, 1, none⟩ = some (.slice p.AB D.nb p.cB) ∧ w'.cell? ⟨w.heap.size, 2, none⟩ = some (.slice p.AO D.no p.cO)) := fun w' e => by
    have a := hbd.ext e; exact ⟨a.c0, a.c1, a.c2⟩
  have hl0 : w.heap.size < W1.heap.size := by rw [hW1]; simp
  have HCK : Hid (∀ w', Ext W1 w' → Calls Tryz.prog 21 #[dgv D p] w' fun e w'' => e = .returned (errv (chk D)) ∧ Ext w' w'') := fun w' e => check_any (d.ext (hE.trans e)) (hT.ext (hE.trans e))
  have HRF := Lib.hid (rf.ext hE); have HD := Lib.hid (d.ext hE)
  have HE := Lib.hid hE
  have lb := d.lb
  unfold maxLen at lb
  obtain ⟨c0, c1, c2⟩ := HBX.out _ (Ext.refl _)
  clear d hT rf hE hbd
  by_cases hk : chk D ≠ 0
  · have HR : Hid (shX D m = chk D) := by show _ = _; unfold shX; rw [if_pos hk]
    rw [errv_n hk] at HCK
    have HK := Lib.hid hk
    clear hk
    generalize chk D = k at *
    go_enter Tryz.func49, Tryz.ntmps49
    go_upto_region 1 with fail
    rw [← hW1]; clear hW1
    go_wp2_with (go_at_call 21; (with_reducible refine (HCK.out _ (Ext.refl _)).mono ?_); rintro e1 w1 ⟨rfl, h1⟩)
    go_ret2
    exact .inl ⟨by rw [HR.out]; exact HK.out, by rw [HR.out]; rfl, HE.out.trans h1⟩
  have hk0 : chk D = 0 := by omega
  have OK := Lib.hid (chk_ok hk0)
  have HX0 : Hid (shX D m = if m ≠ D.nb then 11 else 0) := by show _ = _; unfold shX; rw [if_neg hk]
  rw [hk0, errv_z] at HCK
  clear hk hk0
  by_cases hmn : m ≠ D.nb
  · have HR : Hid (shX D m = 11) := by show _ = _; rw [HX0.out, if_pos hmn]
    have hq1 : ((m : Int) != (D.nb : Int)) = true := by simp; omega
    clear hmn
    go_enter Tryz.func49, Tryz.ntmps49
    go_upto_region 1 with fail
    rw [← hW1]; clear hW1
    go_wp2_with (go_at_call 21; (with_reducible refine (HCK.out _ (Ext.refl _)).mono ?_); rintro e1 w1 ⟨rfl, h1⟩; clear c0 c1 c2; obtain ⟨c0, c1, c2⟩ := HBX.out _ h1)
    go_ret2
    exact .inl ⟨by rw [HR.out]; decide, by rw [HR.out]; rfl, HE.out.trans h1⟩
  have hq1 : ((m : Int) != (D.nb : Int)) = false := by simp; omega
  have HR0 : Hid (shX D m = 0) := by show _ = _; rw [HX0.out, if_neg hmn]
  have hmn2 : m = D.nb := by omega
  have HMN := Lib.hid hmn2
  have hnb := OK.out.nb
  clear hmn hmn2
  go_enter Tryz.func49, Tryz.ntmps49
  go_upto_region 1 with fail
  rw [← hW1]; clear hW1
  go_upto_region 6 with (go_at_call 21; (with_reducible refine (HCK.out _ (Ext.refl _)).mono ?_); rintro e1 w1 ⟨rfl, h1⟩; clear c0 c1 c2; obtain ⟨c0, c1, c2⟩ := HBX.out _ h1)
  have HX1 := Lib.hid h1
  clear hq1 h1
  go_wp2_with fail
  clear c0 c1 c2
  go_loopw [7, 27] (fun s7 s wr => ∃ (i c : Nat), i ≤ D.nb ∧ s = I i ∧ s7 = I c ∧ Hid (shN D F i = c) ∧ Hid (Ext W1 wr)) (fun _ s _ => D.nb - (intOf s).toNat)
  case atStart => exact ⟨0, 0, Nat.zero_le _, rfl, rfl, rfl, HX1⟩
  case round =>
    obtain ⟨i, c, hi, rfl, rfl, HC, H⟩ := hrel
    by_cases hlt : i < D.nb
    · have dd := HD.out.ext H.out
      obtain ⟨bb, ob, hab, hbb, hcb⟩ := dd.blocks (by omega)
      obtain ⟨x0, x1, x2, x3, x4, x5⟩ := hcb i hlt
      have hn2 := (OK.out.toWF.ns2 hlt).2
      have hlt' : (i : Int) < (D.nb : Int) := by omega
      have hc2 : c ≤ 2 * i := by rw [← HC.out]; exact shN_le OK.out.toWF F i (by omega)
      clear hcb dd
      obtain ⟨wo, hwo⟩ : ∃ wo, wo = wr := ⟨_, rfl⟩
      subst hwo
      obtain ⟨W2, hW2⟩ : ∃ W2, W2 = wo.alloc (.cells #[I (D.B i).k, .slice (p.AA i) (D.B i).n (p.cA i), I (D.B i).vn, I (D.B i).ve, I (D.B i).un, I (D.B i).ue] 79) := ⟨_, rfl⟩
      have hE2 : Ext wo W2 := by rw [hW2]; exact Ext.alloc _ _
      have hb2 : B6 W2 wo.heap.size (I (D.B i).k) (.slice (p.AA i) (D.B i).n (p.cA i)) (I (D.B i).vn) (I (D.B i).ve) (I (D.B i).un) (I (D.B i).ue) := by rw [hW2]; exact B6.new _ _ _ _ _ _ _ _
      have HB2 := Lib.hid hb2
      have hl2 := hb2.lt
      obtain ⟨⟨k0, k1, k2, k3, k4, k5⟩, _⟩ := hb2
      have HX2 := Lib.hid (H.out.trans hE2)
      have HSC : Hid (∀ w' j, Ext W2 w' → j < (D.B i).n → Calls Tryz.prog 113 #[dgv D p, .slice B m e, I (D.B i).k, I ((D.B i).a j)] w' fun e w'' => e = .returned (I (asc D F i j)) ∧ Ext w' w'') := fun w' j e hj => scaleOf_any (HD.out.ext (HX2.out.trans e)) OK.out (HRF.out.ext (HX2.out.trans e)) HMN.out hlt hj
      have HAR := Lib.hid (((HD.out.ext HX2.out).args i hlt).1)
      have him : i < m := by have := HMN.out; omega
      have HDF : Hid (∀ j, dif D F i j = !(asc D F i j == F i)) := fun j => rfl
      have HCN : Hid (shN D F (i + 1) = c + cnt (D.B i).n (dif D F i)) := by show _ = _; rw [← HC.out]; rfl
      have hmi : (i : Int) < (m : Int) := by omega
      have HRF2 := Lib.hid (HRF.out.ext HX2.out)
      clear hE2
      generalize (D.B i).k = bk at *
      generalize (D.B i).vn = bvn at *
      generalize (D.B i).ve = bve at *
      generalize (D.B i).un = bun at *
      generalize (D.B i).ue = bue at *
      generalize (D.B i).n = bn at *
      generalize (D.B i).a = ba at *
      go_upto_region 10 with fail
      rw [← hW2]; clear hW2 x0 x1 x2 x3 x4 x5
      have HAB := Lib.hid hab; clear hab
      go_wp2_with fail
      clear k0 k1 k2 k3 k4 k5
      go_loopw [7, 35] (fun s7 s wr => ∃ (j q : Nat), j ≤ bn ∧ s = I j ∧ s7 = I (c + q : Nat) ∧ q ≤ j ∧ Hid (cnt j (dif D F i) = q) ∧ Hid (Ext W2 wr)) (fun _ s _ => bn - (intOf s).toNat)
      case atStart => exact ⟨0, 0, Nat.zero_le _, rfl, rfl, Nat.le_refl _, rfl, Ext.refl _⟩
      case round =>
        obtain ⟨j, q, hj, rfl, rfl, hqj, HQ, HW⟩ := hrel
        by_cases hjl : j < bn
        · obtain ⟨bA, oA, hA, hbA, hcA⟩ := HAR.out.ext HW.out (by omega)
          have xa := hcA j hjl
          obtain ⟨bf, of, hbf, hbl, hcf⟩ := HRF2.out.ext HW.out (by omega)
          have xf := hcf i him
          obtain ⟨⟨k0, k1, k2, k3, k4, k5⟩, _⟩ := HB2.out.ext HW.out
          obtain ⟨c0, c1, c2⟩ := HBX.out _ (HX2.out.trans HW.out)
          have hjl' : (j : Int) < (bn : Int) := by omega
          have hz0 : w.heap.size < wr.heap.size := by have := HX2.out.size; have := HW.out.size; omega
          have hz1 : wo.heap.size < wr.heap.size := by have := HW.out.size; omega
          have HS2 := Lib.hid (fun w' (e : Ext wr w') => HSC.out w' j (HW.out.trans e) hjl)
          have HDJ := Lib.hid (HDF.out j)
          have HQ2 : Hid (cnt (j + 1) (dif D F i) = q + if dif D F i j = true then 1 else 0) := by show _ = _; rw [← HQ.out]; rfl
          have hb : Ext wr wr := Ext.refl _
          clear hcA hcf
          rw [hA] at *
          rw [hbf] at *
          generalize asc D F i j = av at *
          generalize F i = fi at *
          generalize ba j = aj at *
          by_cases hne : av = fi
          · have hne1 : (av != fi) = false := by simp [hne]
            have HQ3 : Hid (cnt (j + 1) (dif D F i) = q) := by show _ = _; rw [HQ2.out, HDJ.out]; simp [hne]
            clear hne HQ2 HDJ
            go_upto_region 13 with fail
            have hL := fun (x : Later _) => (Ext.trans hb x.ext).old.1
            refine wp_region_later (by kernel_rfl) (by kernel_rfl) ?_
            repeat (go_big_quiet_step ((go_at_call 113; with_reducible exact Calls.later (HS2.out _ (Later.ext _)))))
            refine wpQuiet_nil ?_
            intro w2 hw2
            replace hb := Ext.trans hb (Later.of hw2)
            clear hw2 hL
            obtain ⟨hc, hf⟩ := hb.old
            go_wp2_with fail
            (try rw [← hA])
            (try rw [← hbf])
            go_roundw
            case rel => exact ⟨j + 1, q, by omega, by go_num, rfl, by omega, HQ3, HW.out.trans hb⟩
            case measure => simp [intOf]; omega
          · have hne1 : (av != fi) = true := by simp [hne]
            have HQ3 : Hid (cnt (j + 1) (dif D F i) = q + 1) := by show _ = _; rw [HQ2.out, HDJ.out]; simp [hne]
            clear hne HQ2 HDJ
            go_upto_region 13 with fail
            have hL := fun (x : Later _) => (Ext.trans hb x.ext).old.1
            refine wp_region_later (by kernel_rfl) (by kernel_rfl) ?_
            repeat (go_big_quiet_step ((go_at_call 113; with_reducible exact Calls.later (HS2.out _ (Later.ext _)))))
            refine wpQuiet_nil ?_
            intro w2 hw2
            replace hb := Ext.trans hb (Later.of hw2)
            clear hw2 hL
            obtain ⟨hc, hf⟩ := hb.old
            go_wp2_with fail
            (try rw [← hA])
            (try rw [← hbf])
            go_roundw
            case rel => exact ⟨j + 1, q + 1, by omega, by go_num, by go_num, by omega, HQ3, HW.out.trans hb⟩
            case measure => simp [intOf]; omega
        · obtain rfl : j = bn := by omega
          have HC2 : Hid (shN D F (i + 1) = c + q) := by show _ = _; rw [HCN.out, HQ.out]
          go_wp2_with fail
          (try rw [← HAB.out])
          go_roundw
          case rel => exact ⟨i + 1, c + q, by omega, by go_num, rfl, HC2, HX2.out.trans HW.out⟩
          case measure => simp [intOf]; omega
    · obtain rfl : i = D.nb := by omega
      go_wp2_with fail
      go_ret2
      exact .inr ⟨HR0.out, by rw [HC.out]; rfl, HE.out.trans H.out⟩
end Go.Proofs.YtgnngldlgcdnfaaGreatDoor
