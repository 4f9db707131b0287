/- The reference of layer 11: Step, with a state or inputs that are refused. -/
import Derived.Test.YtgnaljnmjphleaaGreatDoorExc
namespace Go.Proofs.YtgnaljnmjphleaaGreatDoor
open Go Go.RowKit

/-- The struct counts as the number d, by the reference; b: it is a number in normal form. -/
structure Er (w : World) (r : RN) (d : DV) (b : Bool) : Prop where
  vc : ∀ w', Ext w w' → Calls Tryz.prog 40 #[r.v] w' (VldRes b w')
  cn : b = true → Cn w r d
theorem Er.ext {w w' : World} {r : RN} {d : DV} {b : Bool} (h : Er w r d b) (e : Ext w w') : Er w' r d b := ⟨fun w'' e' => h.vc w'' (e.trans e'), fun q => (h.cn q).ext e⟩
theorem Er.of {w : World} {r : RN} {d : DV} (h : Cn w r d) : Er w r d true := ⟨fun w' e => by
  have := rvalid_any r.neg r.A r.n r.c r.den (dg d.m) w' (by rw [h.n]; exact h.rd.ext e) (fun i _ => dg_lt _ _) (by rw [h.n]; have := h.lim; omega)
  rw [h.neg, h.n, h.den, vld_ok h.ok] at this
  show Calls _ _ #[dv r.neg r.A r.n r.c r.den] _ _
  rw [h.neg, h.n, h.den]
  exact this, fun _ => h⟩
/-- What the reference's tick returns; where the words of its numbers lie. -/
def RsP (Q : Nat → Prop) (D : Dia) (n : Nat) (b : Nat → Bool) (S : Nat → DV) (m : Nat) (IN : Nat → Int) (w : World) (e : Ending) (w' : World) : Prop :=
  (stE D n b S m IN ≠ 0 ∧ e = .returned (.tuple #[.slice none 0 0, .slice none 0 0, I (stE D n b S m IN)]) ∧ Ext w w') ∨
  (stE D n b S m IN = 0 ∧ ∃ A c R g R', e = .returned (.tuple #[.slice A n c, .slice (some ⟨g, 0, none⟩) D.nb D.nb, I 0]) ∧ Ln w' A n R (nxS D (tkV D S IN)) ∧ Ln w' (some ⟨g, 0, none⟩) D.nb R' (tkV D S IN) ∧
    (0 < n → ∀ a, A = some a → Q a.block) ∧ (∀ i, i < n → 0 < len (nxS D (tkV D S IN) i).m → ∀ a, (R i).A = some a → Q a.block) ∧ (∀ i, i < D.nb → 0 < len (tkV D S IN i).m → ∀ a, (R' i).A = some a → Q a.block) ∧ Ext w w')
set_option maxRecDepth 100000 in
set_option maxHeartbeats 1000000 in
theorem rstep_bad {w : World} {D : Dia} {p : Pl} {As Ai : Option Addr} {n cs m ci : Nat} {R : Nat → RN} {S : Nat → DV} {b : Nat → Bool} {IN : Nat → Int} (d : Dm w D p) (ok : OkD D)
    (rs : Rn w As n R) (el : ∀ k, k < n → Er w (R k) (S k) (b k)) (r : Ri w Ai m IN) (hm : m ≤ maxLen) (hn : n ≤ maxLen) (hbad : chE D n b m IN ≠ 0) :
    Calls Tryz.prog 15 #[dgv D p, .slice As n cs, .slice Ai m ci] w fun e w' => e = .returned (.tuple #[.slice none 0 0, .slice none 0 0, I (chE D n b m IN)]) ∧ Ext w w' := by
  have hdl := del_le D
  have hnb := ok.nb
  obtain ⟨W1, hW1⟩ : ∃ W1, W1 = w.alloc (.cells #[.slice p.AI D.ni p.cI, .slice p.AB D.nb p.cB, .slice p.AO D.no p.cO] 26) := ⟨_, rfl⟩
  have hE : Ext w W1 := by rw [hW1]; exact Ext.alloc _ _
  have hbd : Bd W1 w.heap.size D p := by rw [hW1]; exact Bd.new _ _ _ _
  have HDL : Hid (∀ w', Ext W1 w' → Calls Tryz.prog 21 #[dgv D p] w' (LsR (delL D) w')) := fun w' e => rdelays_any (d.ext (hE.trans e)) (by omega)
  have HB := Lib.hid hbd; have HD := Lib.hid (d.ext hE); have HE := Lib.hid hE
  have HR := Lib.hid (rs.ext hE)
  have HL : Hid (∀ k, k < n → Er W1 (R k) (S k) (b k)) := fun k hk => (el k hk).ext hE
  have HI := Lib.hid (r.ext hE)
  obtain ⟨c0, c1, c2⟩ := hbd
  obtain ⟨ld, hld⟩ : ∃ ld, (delL D).length = ld := ⟨_, rfl⟩
  have HLD := Lib.hid hld
  have hli := d.li
  unfold maxLen at hm hli hn
  obtain ⟨v, hv⟩ : ∃ v, chE D n b m IN = v := ⟨_, rfl⟩
  have HV := Lib.hid hv
  have HBAD : Hid (v ≠ 0) := by show v ≠ 0; rw [← hv]; exact hbad
  rw [hv]
  rw [hld] at hdl
  clear rs el r d hE ok hv hbad
  by_cases hnl : n ≠ ld
  · obtain rfl : v = 11 := by
      rw [← HV.out]; unfold chE; rw [if_pos (by have := HLD.out; omega)]
    have g0 : ((n : Int) != (ld : Int)) = true := by simp; omega
    clear hnl
    go_enter Tryz.func15, Tryz.ntmps15
    go_upto_region 1 with fail
    rw [← hW1]; clear hW1
    go_wp2_with (go_at_call 21; (with_reducible refine (HDL.out _ (Ext.refl _)).mono ?_); rintro e1 w1 hq; obtain ⟨Ad, cd, he, o1, h1⟩ := hq; rw [hld] at he; subst he; have HX1 := Lib.hid h1; clear h1 o1)
    refine bodyPost_ret (v := .tuple #[.slice none 0 0, .slice none 0 0, I 11]) (by simp [results, Tryz.results15, go_sem]) rfl ⟨rfl, HE.out.trans HX1.out⟩
  obtain rfl : n = ld := by omega
  clear hnl
  have h0 : ((n : Int) != (n : Int)) = false := by simp
  go_enter Tryz.func15, Tryz.ntmps15
  go_upto_region 1 with fail
  rw [← hW1]; clear hW1
  go_wp2_with (go_at_call 21; (with_reducible refine (HDL.out _ (Ext.refl _)).mono ?_); rintro e1 w1 hq; obtain ⟨Ad, cd, he, o1, h1⟩ := hq; rw [hld] at he; subst he; have HX1 := Lib.hid h1; clear h1 o1)
  clear hld c0 c1 c2
  go_loopw [37] (fun s wr => ∃ j : Nat, j ≤ n ∧ s = I j ∧ Ext W1 wr ∧ Hid (∀ k, k < j → b k = true)) (fun s _ => n - (intOf s).toNat)
  case atStart => exact ⟨0, Nat.zero_le _, rfl, HX1.out, fun k hk => absurd hk (by omega)⟩
  case round =>
    obtain ⟨j, hj, rfl, hx, HG⟩ := hrel
    by_cases hlt : j < n
    · obtain ⟨bs, os, rfl, hbs, hcs⟩ := HR.out.ext hx (by omega)
      obtain ⟨x0, x1, x2⟩ := hcs j hlt
      have HVC := Lib.hid ((HL.out j hlt).vc)
      have hlt' : (j : Int) < (n : Int) := by omega
      clear hcs
      cases hb : b j with
      | true =>
        have HG2 : Hid (∀ k, k < j + 1 → b k = true) := fun k hk => by
          by_cases h : k = j
          · subst h; exact hb
          · exact HG.out k (by omega)
        rw [hb] at HVC
        clear hb
        generalize R j = rj at *
        go_wp2_with (go_at_call 40; (with_reducible refine (HVC.out _ (hx.trans (Ext.alloc _ _))).mono ?_); rintro e1 w1 ⟨rfl, h1⟩; replace hx := (hx.trans (Ext.alloc _ _)).trans h1; clear h1)
        go_roundw
        case rel => exact ⟨j + 1, by omega, by go_num, hx, HG2⟩
        case measure => simp [intOf]; omega
      | false =>
        obtain rfl : v = 2 := by
          rw [← HV.out]; unfold chE
          rw [if_neg (by have := HLD.out; omega), if_pos (allN_false.2 ⟨j, hlt, hb⟩)]
        rw [hb] at HVC
        clear hb
        generalize R j = rj at *
        go_wp2_with (go_at_call 40; (with_reducible refine (HVC.out _ (hx.trans (Ext.alloc _ _))).mono ?_); rintro e1 w1 ⟨rfl, h1⟩; replace hx := (hx.trans (Ext.alloc _ _)).trans h1; clear h1)
        refine bodyPost_ret (v := .tuple #[.slice none 0 0, .slice none 0 0, I 2]) (by simp [results, Tryz.results15, go_sem]) rfl ⟨rfl, HE.out.trans hx⟩
    · obtain rfl : j = n := by omega
      obtain ⟨c0, c1, c2⟩ := HB.out.ext hx
      have HA : Hid (allN j b = true) := allN_iff.2 HG.out
      by_cases hmi : m ≠ D.ni
      · obtain rfl : v = 11 := by
          rw [← HV.out]; unfold chE
          rw [if_neg (by have := HLD.out; omega), if_neg (by rw [HA.out]; decide), if_pos hmi]
        have g0 : ((m : Int) != (D.ni : Int)) = true := by simp; omega
        clear hmi
        go_wp2_with fail
        refine bodyPost_ret (v := .tuple #[.slice none 0 0, .slice none 0 0, I 11]) (by simp [results, Tryz.results15, go_sem]) rfl ⟨rfl, HE.out.trans hx⟩
      · obtain rfl : m = D.ni := by omega
        have g0 : ((D.ni : Int) != (D.ni : Int)) = false := by simp
        clear hmi
        have HX := Lib.hid hx
        go_wp2_with fail
        clear c0 c1 c2
        go_loopw [54] (fun s wr => ∃ i : Nat, i ≤ D.ni ∧ s = I i ∧ Ext W1 wr ∧ Hid (∀ k, k < i → (D.P k).lo ≤ IN k ∧ IN k ≤ (D.P k).hi)) (fun s _ => D.ni - (intOf s).toNat)
        case atStart => exact ⟨0, Nat.zero_le _, rfl, hx, fun k hk => absurd hk (by omega)⟩
        case round =>
          clear hx
          obtain ⟨i, hi, rfl, hx, HP⟩ := hrel
          by_cases hli2 : i < D.ni
          · obtain ⟨bi, oi, rfl, hbi, hci⟩ := HI.out.ext hx (by omega)
            have xi := hci i hli2
            obtain ⟨bp, op, hp, hbp, hcp⟩ := (HD.out.ext hx).ports (by omega)
            obtain ⟨y0, y1, y2⟩ := hcp i hli2
            have hlt' : (i : Int) < (D.ni : Int) := by omega
            obtain ⟨Wc, hWc⟩ : ∃ Wc, Wc = wr.alloc (.cells #[I (D.P i).lo, I (D.P i).hi, I (D.P i).fr] 64) := ⟨_, rfl⟩
            have hEc : Ext wr Wc := by rw [hWc]; exact Ext.alloc _ _
            have hBc : Bx Wc wr.heap.size (I (D.P i).lo) (I (D.P i).hi) (I (D.P i).fr) := by rw [hWc]; exact Bx.new _ _ _ _ _
            have HXX := Lib.hid (hx.trans hEc)
            have zi := (hEc.old.1 _ _ hbi).trans xi
            have hzc : wr.heap.size < Wc.heap.size := hBc.lt
            have hbi2 : bi < Wc.heap.size := Nat.lt_of_lt_of_le hbi hEc.size
            obtain ⟨⟨z0, z1, z2⟩, _⟩ := hBc
            have hb : Ext Wc Wc := Ext.refl _
            clear hci hcp hx hEc
            by_cases q1 : IN i < (D.P i).lo
            · obtain rfl : v = 3 := by
                rw [← HV.out]; unfold chE
                rw [if_neg (by have := HLD.out; omega), if_neg (by rw [HA.out]; decide), if_neg (by omega), if_pos]
                exact allN_false.2 ⟨i, hli2, by simp; omega⟩
              have g1 : decide (IN i < (D.P i).lo) = true := decide_eq_true q1
              go_upto_region 15 with fail
              rw [← hWc]; clear hWc
              have hL := fun (x : Later _) => (Ext.trans hb x.ext).old.1
              refine wp_region_later (by kernel_rfl) (by kernel_rfl) ?_
              repeat (go_big_quiet_step ((fail)))
              refine wpQuiet_nil ?_
              intro w2 hw2
              replace hb := Ext.trans hb (Later.of hw2)
              clear hw2 hL
              obtain ⟨hc, hf⟩ := hb.old
              have HBB := Lib.hid hb; clear hb
              go_wp2_with fail
              refine bodyPost_ret (v := .tuple #[.slice none 0 0, .slice none 0 0, I 3]) (by simp [results, Tryz.results15, go_sem]) rfl ⟨rfl, (HE.out.trans HXX.out).trans HBB.out⟩
            · have g1 : decide (IN i < (D.P i).lo) = false := decide_eq_false q1
              by_cases q2 : (D.P i).hi < IN i
              · obtain rfl : v = 3 := by
                  rw [← HV.out]; unfold chE
                  rw [if_neg (by have := HLD.out; omega), if_neg (by rw [HA.out]; decide), if_neg (by omega), if_pos]
                  exact allN_false.2 ⟨i, hli2, by simp; omega⟩
                have g2 : decide ((D.P i).hi < IN i) = true := decide_eq_true q2
                go_upto_region 15 with fail
                rw [← hWc]; clear hWc
                have hL := fun (x : Later _) => (Ext.trans hb x.ext).old.1
                refine wp_region_later (by kernel_rfl) (by kernel_rfl) ?_
                repeat (go_big_quiet_step ((fail)))
                refine wpQuiet_nil ?_
                intro w2 hw2
                replace hb := Ext.trans hb (Later.of hw2)
                clear hw2 hL
                obtain ⟨hc, hf⟩ := hb.old
                have HBB := Lib.hid hb; clear hb
                go_wp2_with fail
                refine bodyPost_ret (v := .tuple #[.slice none 0 0, .slice none 0 0, I 3]) (by simp [results, Tryz.results15, go_sem]) rfl ⟨rfl, (HE.out.trans HXX.out).trans HBB.out⟩
              · have g2 : decide ((D.P i).hi < IN i) = false := decide_eq_false q2
                have HP2 : Hid (∀ k, k < i + 1 → (D.P k).lo ≤ IN k ∧ IN k ≤ (D.P k).hi) := fun k hk => by
                  by_cases h : k = i
                  · subst h; omega
                  · exact HP.out k (by omega)
                go_upto_region 15 with fail
                rw [← hWc]; clear hWc
                have hL := fun (x : Later _) => (Ext.trans hb x.ext).old.1
                refine wp_region_later (by kernel_rfl) (by kernel_rfl) ?_
                repeat (go_big_quiet_step ((fail)))
                refine wpQuiet_nil ?_
                intro w2 hw2
                replace hb := Ext.trans hb (Later.of hw2)
                clear hw2 hL
                obtain ⟨hc, hf⟩ := hb.old
                have HBB := Lib.hid (HXX.out.trans hb); clear hb
                go_wp2_with fail
                (try rw [← hp])
                go_roundw
                case rel => exact ⟨i + 1, by omega, by go_num, HBB.out, HP2⟩
                case measure => simp [intOf]; omega
          · obtain rfl : i = D.ni := by omega
            exfalso
            refine HBAD.out ?_
            rw [← HV.out]; unfold chE
            rw [if_neg (by have := HLD.out; omega), if_neg (by rw [HA.out]; decide), if_neg (by omega), if_neg]
            have : inR D IN = true := allN_iff.2 fun k hk => by simp; exact HP.out k hk
            rw [this]; decide
end Go.Proofs.YtgnaljnmjphleaaGreatDoor
