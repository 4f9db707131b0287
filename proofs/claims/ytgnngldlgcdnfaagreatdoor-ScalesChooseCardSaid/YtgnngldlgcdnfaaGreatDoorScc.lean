/- Package scales: magnitudes, Choose. -/
import Derived.Test.YtgnngldlgcdnfaaGreatDoorScb
import Derived.Test.YtgnngldlgcdnfaaGreatDoorEli
import Derived.Test.YtgnngldlgcdnfaaGreatDoorDgsq
namespace Go.Proofs.YtgnngldlgcdnfaaGreatDoor
open Go Go.RowKit
attribute [local go_sem ↓] Go.wp_at_zero Go.wp_at_succ

/-- What is wrong with a diagram and ranges. -/
def mgE (D : Dia) (n : Nat) (b : Nat → Bool) : Int := if chk D ≠ 0 then chk D else rgE D.nb n b
def MgP (D : Dia) (n : Nat) (b : Nat → Bool) (S : Nat → IV) (w : World) (e : Ending) (w' : World) : Prop :=
  (mgE D n b ≠ 0 ∧ e = .returned (.tuple #[.slice none 0 0, .iface 48 (I (mgE D n b))]) ∧ Ext w w') ∨
  (mgE D n b = 0 ∧ ∃ g R, e = .returned (.tuple #[.slice (some ⟨g, 0, none⟩) n n, .nilIface]) ∧ BuM w w' g n R (fun i => mgD (S i)))
theorem mgE_hit {D : Dia} {n : Nat} {b : Nat → Bool} {S : Nat → IV} {v : Int} (h : mgE D n b = v) (hv : v ≠ 0) {w w' : World} {e : Ending} (he : e = .returned (.tuple #[.slice none 0 0, .iface 48 (I v)])) (hx : Ext w w') : MgP D n b S w e w' :=
  .inl ⟨by rw [h]; exact hv, by rw [h]; exact he, hx⟩
theorem mgE_z {D : Dia} {n : Nat} {b : Nat → Bool} (h : mgE D n b = 0) : chk D = 0 ∧ rgE D.nb n b = 0 := by
  unfold mgE at h
  by_cases q : chk D ≠ 0
  · rw [if_pos q] at h; exact absurd h q
  · rw [if_neg q] at h; exact ⟨by omega, h⟩
theorem mgE_r {D : Dia} {n : Nat} {b : Nat → Bool} (h : chk D = 0) : mgE D n b = rgE D.nb n b := by unfold mgE; rw [if_neg (by omega)]
theorem mgD_sz {x : IV} (h1 : End x.lo) (h2 : End x.hi) : (mgD x).ok ∧ len (mgD x).m ≤ 1048576 := by
  have e : End (mgD x) := end_max' (end_abs' h1) (end_abs' h2)
  exact ⟨e.1, e.2⟩
set_option maxRecDepth 100000 in
set_option maxHeartbeats 4000000 in
theorem magnitudes_any {w : World} {D : Dia} {p : Pl} {A : Option Addr} {n c : Nat} {R : Nat → RI} {S : Nat → IV} {b : Nat → Bool} (d : Dm w D p) (hT : Tabs w) (hn : n ≤ 1000000) (rs : RnI w A n R) (el : ∀ k, k < n → ElI w (R k) (S k) (b k)) :
    Calls Tryz.prog 106 #[dgv D p, .slice A n c] w (MgP D n b S w) := by
  have lb := d.lb
  unfold maxLen at lb
  obtain ⟨W1, hW1⟩ : ∃ W1, W1 = w.alloc (.cells #[.slice p.AI D.ni p.cI, .slice p.AB D.nb p.cB, .slice p.AO D.no p.cO] 26) := ⟨_, rfl⟩
  have hE : Ext w W1 := by rw [hW1]; exact Ext.alloc _ _
  have hbd : Bd W1 w.heap.size D p := by rw [hW1]; exact Bd.new _ _ _ _
  have HBX : Hid (∀ w', Ext W1 w' → w'.cell? ⟨w.heap.size, 0, none⟩ = some (.slice p.AI D.ni p.cI) ∧ w'.cell? ⟨w.heap.size, 1, none⟩ = some (.slice p.AB D.nb p.cB) ∧ w'.cell? ⟨w.heap.size, 2, none⟩ = some (.slice p.AO D.no p.cO)) := fun w' e => by
    have a := hbd.ext e; exact ⟨a.c0, a.c1, a.c2⟩
  have HCK : Hid (∀ w', Ext W1 w' → Calls Tryz.prog 21 #[dgv D p] w' fun e w'' => e = .returned (errv (chk D)) ∧ Ext w' w'') := fun w' e => check_any (d.ext (hE.trans e)) (hT.ext (hE.trans e))
  have HRS := Lib.hid (rs.ext hE)
  have HEL : Hid (∀ k, k < n → ElI W1 (R k) (S k) (b k)) := fun k hk => (el k hk).ext hE
  have HT := Lib.hid (hT.ext hE)
  have HE := Lib.hid hE
  obtain ⟨v, hv⟩ : ∃ v, mgE D n b = v := ⟨_, rfl⟩
  have HV := Lib.hid hv
  obtain ⟨c0, c1, c2⟩ := HBX.out _ (Ext.refl _)
  clear d hT rs el hE hbd hv
  by_cases hk : chk D ≠ 0
  · have HR : Hid (mgE D n b = chk D) := by show _ = _; unfold mgE; rw [if_pos hk]
    rw [errv_n hk] at HCK
    have HK := Lib.hid hk
    clear hk
    generalize chk D = k at *
    go_enter Tryz.func106, Tryz.ntmps106
    go_upto_region 1 with fail
    rw [← hW1]; clear hW1
    go_wp2_with (go_at_call 21; (with_reducible refine (HCK.out _ (Ext.refl _)).mono ?_); rintro e1 w1 ⟨rfl, h1⟩)
    go_ret2
    exact mgE_hit HR.out HK.out rfl (HE.out.trans h1)
  have hk0 : chk D = 0 := by omega
  have HK0 := Lib.hid hk0
  rw [hk0, errv_z] at HCK
  clear hk hk0
  by_cases hq : n ≠ D.nb
  · have HR : Hid (mgE D n b = 11) := by show _ = _; rw [mgE_r HK0.out, rgE_shape hq]
    have hq1 : ((n : Int) != (D.nb : Int)) = true := by simp; omega
    clear hq
    go_enter Tryz.func106, Tryz.ntmps106
    go_upto_region 1 with fail
    rw [← hW1]; clear hW1
    go_wp2_with (go_at_call 21; (with_reducible refine (HCK.out _ (Ext.refl _)).mono ?_); rintro e1 w1 ⟨rfl, h1⟩; clear c0 c1 c2; obtain ⟨c0, c1, c2⟩ := HBX.out _ h1)
    go_ret2
    exact mgE_hit HR.out (by decide) rfl (HE.out.trans h1)
  have hnb : n = D.nb := by omega
  have HNB := Lib.hid hnb
  have hq1 : ((n : Int) != (D.nb : Int)) = false := by simp; omega
  have hn2 : n ≤ 64 := by have := (chk_ok HK0.out).nb; omega
  have hmk := fun w => run_makeN w n (by omega)
  clear hnb hq
  go_enter Tryz.func106, Tryz.ntmps106
  go_upto_region 1 with fail
  rw [← hW1]; clear hW1
  go_upto_region 6 with (go_at_call 21; (with_reducible refine (HCK.out _ (Ext.refl _)).mono ?_); rintro e1 w1 ⟨rfl, h1⟩; clear c0 c1 c2; obtain ⟨c0, c1, c2⟩ := HBX.out _ h1)
  clear hq1 c0 c1 c2
  obtain ⟨g, hg⟩ : ∃ g, w1.heap.size = g := ⟨_, rfl⟩
  have HX1 := Lib.hid h1
  have HM0 : Hid (BuM W1 (w1.alloc (.cells (madeCells #[.bool false, .slice none 0 0, I 0] (n * 3)) 56)) g n (fun _ => RN.z) (upto (fun i => mgD (S i)) 0)) := by
    have := BuM.new n h1 hg.symm
    exact this
  clear h1
  go_wp2_with fail
  (try rw [hg])
  clear hmk
  have HG := Lib.hid hg
  clear hg
  go_loopw [27] (fun s wr => ∃ (j : Nat) (R' : Nat → RN), j ≤ n ∧ s = I j ∧ Hid (∀ i, i < j → b i = true) ∧ Hid (BuM W1 wr g n R' (upto (fun i => mgD (S i)) j))) (fun s _ => n - (intOf s).toNat)
  case atStart => exact ⟨0, _, Nat.zero_le _, rfl, fun i hi => absurd hi (by omega), HM0⟩
  case round =>
    clear HM0
    obtain ⟨j, R', hj, rfl, HB, H⟩ := hrel
    by_cases hlt : j < n
    · obtain ⟨bb, oo, hba, hbb, hc⟩ := HRS.out.ext H.out.ext (by omega)
      obtain ⟨x0, x1, x2, x3, x4, x5⟩ := hc j hlt
      have EL := Lib.hid ((HEL.out j hlt).ext H.out.ext)
      have hlt' : (j : Int) < (n : Int) := by omega
      have hfz := H.out.lv.frozen
      clear hc
      cases hbj : b j with
      | false =>
        have HR : Hid (mgE D n b = 2) := by show _ = _; rw [mgE_r HK0.out, rgE_form HNB.out hlt hbj]
        rw [hbj] at EL
        have HVC := Lib.hid EL.out.vc
        clear hbj EL
        generalize R j = rj at *
        obtain ⟨⟨n1, A1, l1, e1', d1⟩, ⟨n2, A2, l2, e2', d2⟩⟩ := rj
        go_wp2_with (go_at_call 116; (with_reducible refine (HVC.out _ (by (with_reducible (repeat (first | exact Ext.refl _ | assumption | (refine Ext.toSet ?_ (by omega)) | refine Ext.toAlloc ?_ | refine Ext.toDrew ?_ | refine Ext.toDrewN ?_ | refine Ext.trans ?_ (by assumption)))); (first | done | fail "no"))).mono ?_); rintro e2 w2 ⟨rfl, h2⟩)
        go_ret2
        exact mgE_hit HR.out (by decide) rfl (HE.out.trans (H.out.ext.trans (by (with_reducible (repeat (first | exact Ext.refl _ | assumption | (refine Ext.toSet ?_ (by omega)) | refine Ext.toAlloc ?_ | refine Ext.toDrew ?_ | refine Ext.toDrewN ?_ | refine Ext.trans ?_ (by assumption)))); (first | done | fail "no"))))
      | true =>
        have HB2 : Hid (∀ i, i < j + 1 → b i = true) := fun i hi => by
          by_cases e : i = j
          · subst e; exact hbj
          · exact HB.out i (by omega)
        rw [hbj] at EL
        have HVC := Lib.hid EL.out.vc
        have cn := EL.out.cn rfl
        have SZ := Lib.hid (mgD_sz (x := S j) ⟨cn.lo.ok, cn.el⟩ ⟨cn.hi.ok, cn.eh⟩)
        have HMG : Hid (∀ w', Ext wr w' → Calls Tryz.prog 137 #[(R j).v] w' (DyRes (mgD (S j)) w')) := fun w' e => imag_any (cn.ext e).iw (HT.out.ext (H.out.ext.trans e))
        have HUP : Hid (∀ i, putD (upto (fun i => mgD (S i)) j) j (mgD (S j)) i = upto (fun i => mgD (S i)) (j + 1) i) := upto_put (fun i => mgD (S i)) j
        clear hbj EL cn
        generalize mgD (S j) = mj at *
        generalize R j = rj at *
        obtain ⟨⟨n1, A1, l1, e1', d1⟩, ⟨n2, A2, l2, e2', d2⟩⟩ := rj
        have S0 := Lib.hid (B6.new wr (.bool n1) (.slice A1 l1 e1') (I d1) (.bool n2) (.slice A2 l2 e2') (I d2) 58)
        go_wp2_with (first
          | (go_at_call 116; (with_reducible refine (HVC.out _ (by (with_reducible (repeat (first | exact Ext.refl _ | assumption | (refine Ext.toSet ?_ (by omega)) | refine Ext.toAlloc ?_ | refine Ext.toDrew ?_ | refine Ext.toDrewN ?_ | refine Ext.trans ?_ (by assumption)))); (first | done | fail "no"))).mono ?_); rintro e2 w2 ⟨rfl, h2⟩; obtain ⟨⟨k0, k1, k2, k3, k4, k5⟩, _⟩ := S0.out.ext (w' := w2) (by (with_reducible (repeat (first | exact Ext.refl _ | assumption | (refine Ext.toSet ?_ (by omega)) | refine Ext.toAlloc ?_ | refine Ext.toDrew ?_ | refine Ext.toDrewN ?_ | refine Ext.trans ?_ (by assumption)))); (first | done | fail "no")))
          | (go_at_call 137; (with_reducible refine (HMG.out _ (by (with_reducible (repeat (first | exact Ext.refl _ | assumption | (refine Ext.toSet ?_ (by omega)) | refine Ext.toAlloc ?_ | refine Ext.toDrew ?_ | refine Ext.toDrewN ?_ | refine Ext.trans ?_ (by assumption)))); (first | done | fail "no"))).mono ?_); rintro e3 w3 hr; obtain ⟨A3, k3', rfl, cn3, hA3, hx3⟩ := hr.cn SZ.out.1 (Nat.le_trans SZ.out.2 (by decide)); have hX3 : Ext wr w3 := (by (with_reducible (repeat (first | exact Ext.refl _ | assumption | (refine Ext.toSet ?_ (by omega)) | refine Ext.toAlloc ?_ | refine Ext.toDrew ?_ | refine Ext.toDrewN ?_ | refine Ext.trans ?_ (by assumption)))); (first | done | fail "no")); have hs2 := Ext.size (show Ext wr w2 from (by (with_reducible (repeat (first | exact Ext.refl _ | assumption | (refine Ext.toSet ?_ (by omega)) | refine Ext.toAlloc ?_ | refine Ext.toDrew ?_ | refine Ext.toDrewN ?_ | refine Ext.trans ?_ (by assumption)))); (first | done | fail "no"))); have fz := (H.out.to hX3).lv.frozen; have f0 := fz (j * 3); have f1 := fz (j * 3 + 1); have f2 := fz (j * 3 + 2); obtain ⟨d0, d1', d2'⟩ := (H.out.to hX3).lv.cells hlt; have HP := Lib.hid (H.out.put hX3 j _ A3 k3' cn3 (fun a ha => Nat.le_trans hs2 (hA3 a ha))); clear hr fz cn3 hA3 hx3 hX3))
        (try rw [← hba])
        go_roundw
        case rel => exact ⟨j + 1, _, by omega, by go_num, HB2, HP.out.congr fun i _ => HUP.out i⟩
        case measure => simp [intOf]; omega
    · obtain rfl : j = n := by omega
      have HR : Hid (mgE D j b = 0) := by show _ = _; rw [mgE_r HK0.out, rgE_ok HNB.out HB.out]
      go_wp2_with fail
      go_ret2
      have h := H.out
      exact .inr ⟨HR.out, g, R', rfl, HE.out.trans h.ext, Nat.le_trans HE.out.size h.old, h.lv.congr fun _ hi => upto_end hi, fun i hi a ha => Nat.le_trans HE.out.size (h.nw i hi a ha)⟩
end Go.Proofs.YtgnngldlgcdnfaaGreatDoor
