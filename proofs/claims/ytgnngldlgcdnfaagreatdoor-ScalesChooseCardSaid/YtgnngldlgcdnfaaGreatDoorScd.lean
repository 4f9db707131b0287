/- Package scales: Choose. -/
import Derived.Test.YtgnngldlgcdnfaaGreatDoorScc
namespace Go.Proofs.YtgnngldlgcdnfaaGreatDoor
open Go Go.RowKit
attribute [local go_sem ↓] Go.wp_at_zero Go.wp_at_succ

/-- What is wrong with a choice of scales. -/
def chX (D : Dia) (n : Nat) (b : Nat → Bool) (S : Nat → IV) : Int := if chk D ≠ 0 then chk D else chE D.nb n b S
def ChP (D : Dia) (n : Nat) (b : Nat → Bool) (S : Nat → IV) (w : World) (e : Ending) (w' : World) : Prop :=
  (chX D n b S ≠ 0 ∧ e = .returned (.tuple #[.slice none 0 0, .iface 48 (I (chX D n b S))]) ∧ Ext w w') ∨
  (chX D n b S = 0 ∧ ∃ g, e = .returned (.tuple #[.slice (some ⟨g, 0, none⟩) n n, .nilIface]) ∧ RnM w w' g n (fun i => chS (S i)))
theorem chX_hit {D : Dia} {n : Nat} {b : Nat → Bool} {S : Nat → IV} {v : Int} (h : chX D n b S = v) (hv : v ≠ 0) {w w' : World} {e : Ending} (he : e = .returned (.tuple #[.slice none 0 0, .iface 48 (I v)])) (hx : Ext w w') : ChP D n b S w e w' :=
  .inl ⟨by rw [h]; exact hv, by rw [h]; exact he, hx⟩
theorem chX_m {D : Dia} {n : Nat} {b : Nat → Bool} {S : Nat → IV} (h : mgE D n b ≠ 0) : chX D n b S = mgE D n b := by
  unfold chX mgE at *
  by_cases q : chk D ≠ 0
  · rw [if_pos q, if_pos q]
  · rw [if_neg q] at h ⊢; rw [if_neg q]; exact chE_r h
theorem chX_z {D : Dia} {n : Nat} {b : Nat → Bool} {S : Nat → IV} (h : mgE D n b = 0) : chX D n b S = chE D.nb n b S := by
  unfold chX; rw [if_neg (by have := (mgE_z h).1; omega)]
set_option maxRecDepth 100000 in
set_option maxHeartbeats 4000000 in
theorem Choose_any {w : World} {D : Dia} {p : Pl} {A : Option Addr} {n c : Nat} {R : Nat → RI} {S : Nat → IV} {b : Nat → Bool} (d : Dm w D p) (hT : Tabs w) (hn : n ≤ 1000000) (rs : RnI w A n R) (el : ∀ k, k < n → ElI w (R k) (S k) (b k)) :
    Calls Tryz.prog 43 #[dgv D p, .slice A n c] w (ChP D n b S w) := by
  obtain ⟨W1, hW1⟩ : ∃ W1, W1 = w.alloc (.cells #[.slice p.AI D.ni p.cI, .slice p.AB D.nb p.cB, .slice p.AO D.no p.cO] 26) := ⟨_, rfl⟩
  have hE : Ext w W1 := by rw [hW1]; exact Ext.alloc _ _
  have hbd : Bd W1 w.heap.size D p := by rw [hW1]; exact Bd.new _ _ _ _
  have HM : Hid (∀ w', Ext W1 w' → Calls Tryz.prog 106 #[dgv D p, .slice A n c] w' (MgP D n b S w')) := fun w' e => magnitudes_any (d.ext (hE.trans e)) (hT.ext (hE.trans e)) hn (rs.ext (hE.trans e)) fun k hk => (el k hk).ext (hE.trans e)
  have HT := Lib.hid (hT.ext hE)
  have HE := Lib.hid hE
  have HEE : Hid (∀ k, k < n → b k = true → End (S k).lo ∧ End (S k).hi) := fun k hk hb => by have cn := (el k hk).cn hb; exact ⟨⟨cn.lo.ok, cn.el⟩, cn.hi.ok, cn.eh⟩
  obtain ⟨c0, c1, c2⟩ := hbd
  clear d hT rs el hE
  by_cases hk : mgE D n b ≠ 0
  · have HM2 : Hid (∀ w', Ext W1 w' → Calls Tryz.prog 106 #[dgv D p, .slice A n c] w' fun e w'' => e = .returned (.tuple #[.slice none 0 0, .iface 48 (I (mgE D n b))]) ∧ Ext w' w'') := fun w' e => (HM.out w' e).mono fun e w'' hh => by
      rcases hh with ⟨_, h2⟩ | ⟨h1, _⟩
      · exact h2
      · exact absurd h1 hk
    have HR : Hid (chX D n b S = mgE D n b) := chX_m hk
    have HK := Lib.hid hk
    clear hk HM
    generalize mgE D n b = k at *
    go_enter Tryz.func43, Tryz.ntmps43
    go_upto_region 1 with fail
    rw [← hW1]; clear hW1
    go_wp2_with (go_at_call 106; (with_reducible refine (HM2.out _ (Ext.refl _)).mono ?_); rintro e1 w1 ⟨rfl, h1⟩)
    go_ret2
    exact chX_hit HR.out HK.out rfl (HE.out.trans h1)
  have hk0 : mgE D n b = 0 := by omega
  have HM2 : Hid (∀ w', Ext W1 w' → Calls Tryz.prog 106 #[dgv D p, .slice A n c] w' fun e w'' => ∃ g R, e = .returned (.tuple #[.slice (some ⟨g, 0, none⟩) n n, .nilIface]) ∧ BuM w' w'' g n R (fun i => mgD (S i))) := fun w' e => (HM.out w' e).mono fun e w'' hh => by
    rcases hh with ⟨h1, _⟩ | ⟨_, h2⟩
    · exact absurd hk0 h1
    · exact h2
  obtain ⟨hn1, hbt⟩ := rgE_z (mgE_z hk0).2
  have hnb : n ≤ 64 := by have := (chk_ok (mgE_z hk0).1).nb; omega
  have HRG := Lib.hid (mgE_z hk0).2
  have HXZ : Hid (chX D n b S = chE D.nb n b S) := chX_z hk0
  have HSZ : Hid (∀ k, k < n → (mgD (S k)).ok ∧ len (mgD (S k)).m ≤ 1048576) := fun k hk => mgD_sz (HEE.out k hk (hbt k hk)).1 (HEE.out k hk (hbt k hk)).2
  have hmk := run_make_row' 24 3 (I 0) 8 Tryz.underlying24 infoI rfl .i64 .i64 n (by omega) (by omega)
  clear hk hk0 HM HEE hn1 hbt
  go_enter Tryz.func43, Tryz.ntmps43
  go_upto_region 1 with fail
  rw [← hW1]; clear hW1
  go_upto_region 4 with (go_at_call 106; (with_reducible refine (HM2.out _ (Ext.refl _)).mono ?_); rintro e1 w1 ⟨gm, Rm, rfl, hm⟩; have HMM := Lib.hid hm; clear hm)
  clear c0 c1 c2
  obtain ⟨g, hg⟩ : ∃ g, w1.heap.size = g := ⟨_, rfl⟩
  have HM0 : Hid (RnM w1 (w1.alloc (.cells (madeCells #[I 0] n) 3)) g n (uptoZ (fun i => chS (S i)) 0)) := RnM.new n (Ext.refl _) hg.symm _
  go_wp2_with fail
  (try rw [hg])
  clear hmk
  have HG := Lib.hid hg
  clear hg
  go_loopw [27] (fun s wr => ∃ (j : Nat), j ≤ n ∧ s = I j ∧ Hid (∀ i, i < j → 0 ≤ chS (S i)) ∧ Hid (RnM w1 wr g n (uptoZ (fun i => chS (S i)) j))) (fun s _ => n - (intOf s).toNat)
  case atStart => exact ⟨0, Nat.zero_le _, rfl, fun i hi => absurd hi (by omega), HM0⟩
  case round =>
    clear HM0
    obtain ⟨j, hj, rfl, HB, H⟩ := hrel
    by_cases hlt : j < n
    · have lv := HMM.out.lv.ext H.out.ext
      obtain ⟨x0, x1, x2⟩ := lv.cells hlt
      have cn := lv.el j hlt
      have HGS : Hid (∀ w', Ext wr w' → Calls Tryz.prog 107 #[(Rm j).v] w' (GsP (chS (S j)) w')) := fun w' e => greatestScale_any (cn.ext e) (Nat.le_trans (HSZ.out j hlt).2 (by decide)) (HT.out.ext (HMM.out.ext.trans (H.out.ext.trans e)))
      have hlt' : (j : Int) < (n : Int) := by omega
      have hgm := lv.row.lt
      clear lv cn
      have HUP : Hid (∀ i, uptoZ (fun i => chS (S i)) (j + 1) i = if i = j then chS (S j) else uptoZ (fun i => chS (S i)) j i) := uptoZ_put (fun i => chS (S i)) j
      by_cases hc : 0 ≤ chS (S j)
      · have HB2 : Hid (∀ i, i < j + 1 → 0 ≤ chS (S i)) := fun i hi => by
          by_cases e : i = j
          · subst e; exact hc
          · exact HB.out i (by omega)
        have HGS2 : Hid (∀ w', Ext wr w' → Calls Tryz.prog 107 #[(Rm j).v] w' fun e w'' => e = .returned (.tuple #[I (chS (S j)), .bool true]) ∧ Ext w' w'') := fun w' e => (HGS.out w' e).mono fun e w'' hh => by
          rcases hh with ⟨_, h2⟩ | ⟨h1, _⟩
          · exact h2
          · omega
        clear HGS hc
        generalize chS (S j) = v at *
        generalize Rm j = rj at *
        obtain ⟨n1, A1, l1, e1', d1⟩ := rj
        go_wp2_with (go_at_call 107; (with_reducible refine (HGS2.out _ (by (with_reducible (repeat (first | exact Ext.refl _ | assumption | (refine Ext.toSet ?_ (by omega)) | refine Ext.toAlloc ?_ | refine Ext.toDrew ?_ | refine Ext.toDrewN ?_ | refine Ext.trans ?_ (by assumption)))); (first | done | fail "no"))).mono ?_); rintro e2 w2 ⟨rfl, h2⟩; have hX2 : Ext wr w2 := (by (with_reducible (repeat (first | exact Ext.refl _ | assumption | (refine Ext.toSet ?_ (by omega)) | refine Ext.toAlloc ?_ | refine Ext.toDrew ?_ | refine Ext.toDrewN ?_ | refine Ext.trans ?_ (by assumption)))); (first | done | fail "no")); have hcell := (H.out.to hX2).row.cell hlt; have hfz := (H.out.to hX2).row.frozen j; have HP := Lib.hid ((H.out.to hX2).putv j _ HUP.out); clear hX2)
        go_roundw
        case rel => exact ⟨j + 1, by omega, by go_num, HB2, HP⟩
        case measure => simp [intOf]; omega
      · have HGS2 : Hid (∀ w', Ext wr w' → Calls Tryz.prog 107 #[(Rm j).v] w' fun e w'' => e = .returned (.tuple #[I 0, .bool false]) ∧ Ext w' w'') := fun w' e => (HGS.out w' e).mono fun e w'' hh => by
          rcases hh with ⟨h1, _⟩ | ⟨_, h2⟩
          · omega
          · exact h2
        have HR : Hid (chX D n b S = 4) := by show _ = _; rw [HXZ.out, chE_large HRG.out hlt (by omega)]
        clear HGS hc HUP
        generalize Rm j = rj at *
        obtain ⟨n1, A1, l1, e1', d1⟩ := rj
        go_wp2_with (go_at_call 107; (with_reducible refine (HGS2.out _ (by (with_reducible (repeat (first | exact Ext.refl _ | assumption | (refine Ext.toSet ?_ (by omega)) | refine Ext.toAlloc ?_ | refine Ext.toDrew ?_ | refine Ext.toDrewN ?_ | refine Ext.trans ?_ (by assumption)))); (first | done | fail "no"))).mono ?_); rintro e2 w2 ⟨rfl, h2⟩)
        go_ret2
        exact chX_hit HR.out (by decide) rfl (HE.out.trans (HMM.out.ext.trans (H.out.ext.trans (by (with_reducible (repeat (first | exact Ext.refl _ | assumption | (refine Ext.toSet ?_ (by omega)) | refine Ext.toAlloc ?_ | refine Ext.toDrew ?_ | refine Ext.toDrewN ?_ | refine Ext.trans ?_ (by assumption)))); (first | done | fail "no")))))
    · obtain rfl : j = n := by omega
      have HR : Hid (chX D j b S = 0) := by show _ = _; rw [HXZ.out, chE_ok HRG.out HB.out]
      go_wp2_with fail
      go_ret2
      have h := H.out
      have x := HE.out.trans HMM.out.ext
      exact .inr ⟨HR.out, g, rfl, x.trans h.ext, Nat.le_trans x.size h.old, h.row.congr fun i hi => by rw [uptoZ_end hi]⟩
end Go.Proofs.YtgnngldlgcdnfaaGreatDoor
