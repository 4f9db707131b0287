/- The reference of layer 11: Step. -/
import Derived.Test.YtgnaljnmjphleaaGreatDoorExd
import Derived.Deep.RegionHeld3
namespace Go.Proofs.YtgnaljnmjphleaaGreatDoor
open Go Go.RowKit

/-- A list of numbers that is being filled; its numbers may lie in old memory. -/
structure RuM (Q : Nat → Prop) (W w : World) (g m : Nat) (R : Nat → RN) (V : Nat → DV) : Prop where
  ext : Ext W w
  old : W.heap.size ≤ g
  lv : LvM w g m R V
  nw : ∀ i, i < m → 0 < len (V i).m → ∀ a, (R i).A = some a → Q a.block
theorem RuM.to {Q : Nat → Prop} {W w w' : World} {g m : Nat} {R : Nat → RN} {V : Nat → DV} (h : RuM Q W w g m R V) (e : Ext w w') : RuM Q W w' g m R V := ⟨h.ext.trans e, h.old, h.lv.ext e, h.nw⟩
theorem RuM.congr {Q : Nat → Prop} {W w : World} {g m : Nat} {R : Nat → RN} {V V' : Nat → DV} (h : RuM Q W w g m R V) (e : ∀ i, i < m → V i = V' i) : RuM Q W w g m R V' := ⟨h.ext, h.old, h.lv.congr e, fun i hi => by rw [← e i hi]; exact h.nw i hi⟩
theorem RuM.new {Q : Nat → Prop} {W w : World} (m : Nat) {g : Nat} (e : Ext W w) (hg : g = w.heap.size) : RuM Q W (w.alloc (.cells (madeCells #[.bool false, .slice none 0 0, I 0] (m * 3)) 61)) g m (fun _ => RN.z) (fun _ => DV.zero) :=
  ⟨e.trans (Ext.alloc _ _), by rw [hg]; exact e.size, LvM.new w m hg, fun i hi h => by rw [zero_len] at h; omega⟩
theorem RuM.put {Q : Nat → Prop} {W w w1 : World} {g m : Nat} {R : Nat → RN} {V : Nat → DV} (h : RuM Q W w g m R V) (e : Ext w w1) (i : Nat) (r : RN) (d : DV) (cn : Cn w1 r d) (hne : 0 < len d.m → ∀ a, r.A = some a → a.block ≠ g) (hq : 0 < len d.m → ∀ a, r.A = some a → Q a.block) :
    RuM Q W (st3 w1 g i r) g m (putR R i r) (putD V i d) := ⟨st3_ext g i r (h.ext.trans e) h.old, h.old, (h.lv.ext e).put i r d cn hne, fun j hj => by
  unfold putR putD
  by_cases q : j = i
  · rw [if_pos q, if_pos q]; exact hq
  · rw [if_neg q, if_neg q]; exact h.nw j hj⟩
theorem bq6 {w w' : World} {a0 a1 a2 a3 a4 a5 : Value} {t : TypeId} (e : Ext (w.alloc (.cells #[a0, a1, a2, a3, a4, a5] t)) w') : w'.cell? ⟨w.heap.size, 0, none⟩ = some a0 ∧ w'.cell? ⟨w.heap.size, 1, none⟩ = some a1 ∧ w'.cell? ⟨w.heap.size, 2, none⟩ = some a2 ∧ w'.cell? ⟨w.heap.size, 3, none⟩ = some a3 ∧
    w'.cell? ⟨w.heap.size, 4, none⟩ = some a4 ∧ w'.cell? ⟨w.heap.size, 5, none⟩ = some a5 ∧ w'.frozen? ⟨w.heap.size, 1, none⟩ = false ∧ w.heap.size < w'.heap.size := by
  have hs := e.size
  have hs' : w.heap.size + 1 ≤ w'.heap.size := by simpa using hs
  have hb := e.block w.heap.size (by simp)
  refine ⟨?_, ?_, ?_, ?_, ?_, ?_, ?_, by omega⟩
  · exact (World.cell?_of_block (a := ⟨w.heap.size, 0, none⟩) hb).trans (by go_simp)
  · exact (World.cell?_of_block (a := ⟨w.heap.size, 1, none⟩) hb).trans (by go_simp)
  · exact (World.cell?_of_block (a := ⟨w.heap.size, 2, none⟩) hb).trans (by go_simp)
  · exact (World.cell?_of_block (a := ⟨w.heap.size, 3, none⟩) hb).trans (by go_simp)
  · exact (World.cell?_of_block (a := ⟨w.heap.size, 4, none⟩) hb).trans (by go_simp)
  · exact (World.cell?_of_block (a := ⟨w.heap.size, 5, none⟩) hb).trans (by go_simp)
  · exact (World.frozen?_of_block (a := ⟨w.heap.size, 1, none⟩) hb).trans (by go_simp)
def BXC (w : World) (g : Nat) (b : Blk) (A : Option Addr) (c : Nat) : Prop :=
  w.cell? ⟨g, 0, none⟩ = some (I b.k) ∧ w.cell? ⟨g, 1, none⟩ = some (.slice A b.n c) ∧ w.cell? ⟨g, 2, none⟩ = some (I b.vn) ∧ w.cell? ⟨g, 3, none⟩ = some (I b.ve) ∧ w.cell? ⟨g, 4, none⟩ = some (I b.un) ∧ w.cell? ⟨g, 5, none⟩ = some (I b.ue)
theorem nxt_end {D : Dia} {V : Nat → DV} {n i : Nat} (hi : i < n) : upto (nxS D V) n i = nxS D V i := upto_end hi
set_option maxRecDepth 100000 in
set_option maxHeartbeats 8000000 in
theorem rstep_good {Q : Nat → Prop} {w : World} {D : Dia} {p : Pl} {As Ai : Option Addr} {n cs ci : Nat} {R : Nat → RN} {S : Nat → DV} {b : Nat → Bool} {IN : Nat → Int} (d : Dm w D p) (ok : OkD D)
    (rs : Rn w As n R) (el : ∀ k, k < n → Er w (R k) (S k) (b k)) (r : Ri w Ai D.ni IN) (hld : (delL D).length = n) (hbt : ∀ k, k < n → b k = true) (hr : ∀ j, j < D.ni → (D.P j).lo ≤ IN j ∧ IN j ≤ (D.P j).hi)
    (hQ0 : ∀ b, w.heap.size ≤ b → Q b) (hQs : ∀ k, k < n → 0 < len (S k).m → ∀ a, (R k).A = some a → Q a.block) :
    Calls Tryz.prog 15 #[dgv D p, .slice As n cs, .slice Ai D.ni ci] w (RsP Q D n b S D.ni IN w) := by
  have hdl := del_le D
  have hol := ord_le D
  have hnb := ok.nb
  have hmk := fun w => run_makeN w D.nb (by omega)
  obtain ⟨W1, hW1⟩ : ∃ W1, W1 = w.alloc (.cells #[.slice p.AI D.ni p.cI, .slice p.AB D.nb p.cB, .slice p.AO D.no p.cO] 26) := ⟨_, rfl⟩
  have hE : Ext w W1 := by rw [hW1]; exact Ext.alloc _ _
  have hbd : Bd W1 w.heap.size D p := by rw [hW1]; exact Bd.new _ _ _ _
  have HDL : Hid (∀ w', Ext W1 w' → Calls Tryz.prog 21 #[dgv D p] w' (LsR (delL D) w')) := fun w' e => rdelays_any (d.ext (hE.trans e)) (by omega)
  have HOR : Hid (∀ w', Ext W1 w' → Calls Tryz.prog 39 #[dgv D p] w' (LsR (ordL D) w')) := fun w' e => rorder_any (d.ext (hE.trans e)) ok.toWF
  have HB := Lib.hid hbd; have HD := Lib.hid (d.ext hE); have HE := Lib.hid hE; have OK := Lib.hid ok; have HRG := Lib.hid hr
  have HR := Lib.hid (rs.ext hE)
  have HL : Hid (∀ k, k < n → Er W1 (R k) (S k) true) := fun k hk => by have := (el k hk).ext hE; rwa [hbt k hk] at this
  have HI := Lib.hid (r.ext hE)
  have HGS : Hid (stE D n b S D.ni IN = if tkG D S IN = false then 4 else 0) := by
    show _ = _
    have hc : chE D n b D.ni IN = 0 := by
      unfold chE
      rw [if_neg (by omega), if_neg (by rw [allN_iff.2 hbt]; decide), if_neg (by omega), if_neg]
      rw [show inR D IN = true from allN_iff.2 fun k hk => by simp; exact hr k hk]; decide
    rw [stE_ch, if_neg (by omega)]
  obtain ⟨c0, c1, c2⟩ := hbd
  obtain ⟨lo, hlo⟩ : ∃ lo, (ordL D).length = lo := ⟨_, rfl⟩
  have HLD := Lib.hid hld; have HLO := Lib.hid hlo
  have hli : D.ni ≤ 16 := ok.toWF.ni
  have hsz1 : W1.heap.size = w.heap.size + 1 := by rw [hW1]; simp
  have HZ1 := Lib.hid hsz1
  have HQ0 := Lib.hid hQ0; have HQS := Lib.hid hQs
  rw [hld] at hdl
  rw [hlo] at hol
  clear rs el r d hE ok hbt hr hsz1 hQ0 hQs
  have h0 : ((n : Int) != (n : Int)) = false := by simp
  have h00 : ((D.ni : Int) != (D.ni : Int)) = false := by simp
  go_enter Tryz.func15, Tryz.ntmps15
  go_upto_region 1 with fail
  rw [← hW1]; clear hW1
  go_wp2_with (go_at_call 21; (with_reducible refine (HDL.out _ (Ext.refl _)).mono ?_); rintro e1 w1 hq; obtain ⟨Ad, cd, he, o1, h1⟩ := hq; rw [hld] at he; subst he; have HX1 := Lib.hid h1; have HO1 := Lib.hid o1.rl; clear h1 o1)
  clear hld c0 c1 c2
  go_loopw [37] (fun s wr => ∃ j : Nat, j ≤ n ∧ s = I j ∧ Ext w1 wr) (fun s _ => n - (intOf s).toNat)
  case atStart => exact ⟨0, Nat.zero_le _, rfl, Ext.refl _⟩
  case round =>
    obtain ⟨j, hj, rfl, hx⟩ := hrel
    by_cases hlt : j < n
    · obtain ⟨bs, os, rfl, hbs, hcs⟩ := HR.out.ext (HX1.out.trans hx) (by omega)
      obtain ⟨x0, x1, x2⟩ := hcs j hlt
      have HVC := Lib.hid ((HL.out j hlt).vc)
      have hlt' : (j : Int) < (n : Int) := by omega
      clear hcs
      generalize R j = rj at *
      go_wp2_with (go_at_call 40; (with_reducible refine (HVC.out _ (HX1.out.trans (hx.trans (Ext.alloc _ _)))).mono ?_); rintro e1 w1 ⟨rfl, h1⟩; replace hx := (hx.trans (Ext.alloc _ _)).trans h1; clear h1)
      go_roundw
      case rel => exact ⟨j + 1, by omega, by go_num, hx⟩
      case measure => simp [intOf]; omega
    · obtain rfl : j = n := by omega
      obtain ⟨c0, c1, c2⟩ := HB.out.ext (HX1.out.trans hx)
      have HX := Lib.hid hx
      go_wp2_with fail
      clear c0 c1 c2
      go_loopw [54] (fun s wr => ∃ i : Nat, i ≤ D.ni ∧ s = I i ∧ Ext w1 wr) (fun s _ => D.ni - (intOf s).toNat)
      case atStart => exact ⟨0, Nat.zero_le _, rfl, hx⟩
      case round =>
        clear hx
        obtain ⟨i, hi, rfl, hx⟩ := hrel
        by_cases hli2 : i < D.ni
        · obtain ⟨bi, oi, rfl, hbi, hci⟩ := HI.out.ext (HX1.out.trans hx) (by omega)
          have xi := hci i hli2
          obtain ⟨bp, op, hp, hbp, hcp⟩ := (HD.out.ext (HX1.out.trans hx)).ports (by omega)
          obtain ⟨y0, y1, y2⟩ := hcp i hli2
          have hlt' : (i : Int) < (D.ni : Int) := by omega
          obtain ⟨Wc, hWc⟩ : ∃ Wc, Wc = wr.alloc (.cells #[I (D.P i).lo, I (D.P i).hi, I (D.P i).fr] 64) := ⟨_, rfl⟩
          have hEc : Ext wr Wc := by rw [hWc]; exact Ext.alloc _ _
          have hBc : Bx Wc wr.heap.size (I (D.P i).lo) (I (D.P i).hi) (I (D.P i).fr) := by rw [hWc]; exact Bx.new _ _ _ _ _
          have HXX := Lib.hid (hx.trans hEc)
          have zi := (hEc.old.1 _ _ hbi).trans xi
          have hzc : wr.heap.size < Wc.heap.size := hBc.lt
          have hbi2 : bi < Wc.heap.size := Nat.lt_of_lt_of_le hbi hEc.size
          obtain ⟨⟨z0, z1, z2⟩, _⟩ := hBc
          have hb : Ext Wc Wc := Ext.refl _
          have hrg := HRG.out i hli2
          clear hci hcp hx hEc
          have g1 : decide (IN i < (D.P i).lo) = false := decide_eq_false (by omega)
          have g2 : decide ((D.P i).hi < IN i) = false := decide_eq_false (by omega)
          clear hrg
          go_upto_region 15 with fail
          rw [← hWc]; clear hWc
          have hL := fun (x : Later _) => (Ext.trans hb x.ext).old.1
          refine wp_region_later (by kernel_rfl) (by kernel_rfl) ?_
          repeat (go_big_quiet_step ((fail)))
          refine wpQuiet_nil ?_
          intro w2 hw2
          replace hb := Ext.trans hb (Later.of hw2)
          clear hw2 hL
          obtain ⟨hc, hf⟩ := hb.old
          have HBB := Lib.hid (HXX.out.trans hb); clear hb
          go_wp2_with fail
          (try rw [← hp])
          go_roundw
          case rel => exact ⟨i + 1, by omega, by go_num, HBB.out⟩
          case measure => simp [intOf]; omega
        · obtain rfl : i = D.ni := by omega
          obtain ⟨g, hg⟩ : ∃ g, wr.heap.size = g := ⟨_, rfl⟩
          have HM0 : Hid (RuM Q W1 (wr.alloc (.cells (madeCells #[.bool false, .slice none 0 0, I 0] (D.nb * 3)) 61)) g D.nb (fun _ => RN.z) (v1 D S 0) ∧ Ext w1 (wr.alloc (.cells (madeCells #[.bool false, .slice none 0 0, I 0] (D.nb * 3)) 61))) :=
            ⟨(RuM.new _ (HX1.out.trans hx) hg.symm).congr fun i _ => (v1_zero D S i).symm, hx.trans (Ext.alloc _ _)⟩
          have HG1 : Hid (w1.heap.size ≤ g) := by show _ ≤ _; rw [← hg]; exact hx.size
          obtain ⟨c0, c1, c2⟩ := HB.out.ext (HX1.out.trans hx)
          go_wp2_with fail
          (try rw [hg])
          clear hmk c0 c1 c2 hx HX
          have HG := Lib.hid hg; clear hg
          go_loopw [82] (fun s wr => ∃ (q : Nat) (R' : Nat → RN), q ≤ j ∧ s = I q ∧ Hid (RuM Q W1 wr g D.nb R' (v1 D S q) ∧ Ext w1 wr)) (fun s _ => j - (intOf s).toNat)
          case atStart => exact ⟨0, _, Nat.zero_le _, rfl, HM0.out⟩
          case round =>
            clear HM0
            obtain ⟨q, R', hq, rfl, H⟩ := hrel
            by_cases hlt3 : q < j
            · have hq' : q < (delL D).length := by rw [HLD.out]; exact hlt3
              obtain ⟨bd, od, hbd, hbld, hcd⟩ := (HO1.out.ext H.out.2).1 (by omega)
              have xd := hcd q hq'
              obtain ⟨x, hxd⟩ : ∃ x, (delL D).getD q 0 = x := ⟨_, rfl⟩
              have hx := del_at hq'
              simp only [hxd] at xd hx
              obtain ⟨bs, os, hbs, hbls, hcs⟩ := HR.out.ext H.out.1.ext (by omega)
              obtain ⟨s0, s1, s2⟩ := hcs q hlt3
              have cn1 := (HL.out q hlt3).cn rfl
              have HP := Lib.hid (H.out.1.put (Ext.refl _) x (R q) (S q) (cn1.ext H.out.1.ext) (fun hl a ha => by have h1 := cn1.blk hl a ha; have h2 := H.out.1.old; omega) (HQS.out q hlt3))
              have HUP : Hid (∀ i, i < D.nb → putD (v1 D S q) x (S q) i = v1 D S (q + 1) i) := fun i hi => by rw [← hxd]; exact v1_put S hq' hi
              have HXX : Hid (Ext w1 (st3 _ g x (R q))) := st3_ext g x (R q) H.out.2 HG1.out
              obtain ⟨d0, d1, d2⟩ := H.out.1.lv.cells hx.1
              have fz := H.out.1.lv.frozen
              have f0 := fz (x * 3); have f1 := fz (x * 3 + 1); have f2 := fz (x * 3 + 2)
              have hlt' : (q : Int) < (j : Int) := by omega
              have hxl : (x : Int) < (D.nb : Int) := by omega
              have hxn := hx.1
              clear hcd hcs hx hq' cn1 fz
              generalize R q = rj at *
              go_wp2_with fail
              (try rw [← hbs])
              (try rw [← hbd])
              go_roundw
              case rel => exact ⟨q + 1, _, by omega, by go_num, HP.out.congr HUP.out, HXX.out⟩
              case measure => simp [intOf]; omega
            · obtain rfl : q = j := by omega
              have HM1 : Hid (RuM Q W1 wr g D.nb R' (vk D S IN 0) ∧ Ext w1 wr) := ⟨H.out.1.congr fun i hi => by rw [← HLD.out]; exact v1_end S hi, H.out.2⟩
              obtain ⟨c0, c1, c2⟩ := HB.out.ext H.out.1.ext
              clear H
              go_wp2_with (go_at_call 39; (with_reducible refine (HOR.out _ HM1.out.1.ext).mono ?_); rintro e1 w2 hq; obtain ⟨Ao, co, he, o2, h2⟩ := hq; rw [hlo] at he; subst he; have HX2 := Lib.hid h2; have HO2 := Lib.hid o2.rl; have HNO : Hid (∀ b o, Ao = some ⟨b, o, none⟩ → b ≠ g) := (fun b o q => by have h1 := o2.ne b o q; have h2 := HM1.out.1.lv.row.lt; omega); clear h2 o2)
              clear hlo c0 c1 c2
              go_loopw [98] (fun s wq => ∃ (k : Nat) (R' : Nat → RN), k ≤ lo ∧ s = I k ∧ Hid (RuM Q W1 wq g D.nb R' (vk D S IN k) ∧ Ext w1 wq ∧ Rl wq Ao co (ordL D))) (fun s _ => lo - (intOf s).toNat)
              case atStart => exact ⟨0, _, Nat.zero_le _, rfl, HM1.out.1.to HX2.out, HM1.out.2.trans HX2.out, HO2.out⟩
              case round =>
                obtain ⟨k, R2, hk, rfl, H⟩ := hrel
                obtain ⟨wo, hwo⟩ : ∃ wo, wo = wr := ⟨_, rfl⟩
                subst hwo
                clear HM1
                by_cases hlt4 : k < lo
                · have hk' : k < (ordL D).length := by rw [HLO.out]; exact hlt4
                  obtain ⟨bo, oo, hbo, hblo, hco⟩ := H.out.2.2.1 (by omega)
                  have xo := hco k hk'
                  have hrd := ord_rdy hk'
                  have hnd : isD D ((ordL D).getD k 0) = false := (rdy_iff.1 hrd.2.1).2.1
                  have htk := (tk_ord OK.out S IN hk').1
                  have hsrc := fun j (hj : j < ns D ((ordL D).getD k 0)) => src_off OK.out hk' hj
                  have HUP : Hid (∀ i, i < D.nb → putD (vk D S IN k) ((ordL D).getD k 0) (tkV D S IN ((ordL D).getD k 0)) i = vk D S IN (k + 1) i) := fun i _ => by
                    rw [vk_succ D S IN hk', htk]; rfl
                  obtain ⟨x, hxd⟩ : ∃ x, (ordL D).getD k 0 = x := ⟨_, rfl⟩
                  have hxn := hrd.1
                  simp only [hxd] at xo htk hnd hsrc HUP hxn
                  have hk2 : (D.B x).k ≠ 2 := fun q => by unfold isD at hnd; rw [q] at hnd; cases hnd
                  have dd := HD.out.ext H.out.1.ext
                  obtain ⟨b1, o1, hb1, hbl1, hc1⟩ := dd.blocks (by omega)
                  obtain ⟨x0, x1, x2, x3, x4, x5⟩ := hc1 x hxn
                  obtain ⟨c0, c1, c2⟩ := HB.out.ext H.out.1.ext
                  have hxl : (x : Int) < (D.nb : Int) := by omega
                  have hltk : (k : Int) < (lo : Int) := by omega
                  obtain ⟨W2, hW2⟩ : ∃ W2, W2 = wo.alloc (.cells #[I (D.B x).k, .slice (p.AA x) (D.B x).n (p.cA x), I (D.B x).vn, I (D.B x).ve, I (D.B x).un, I (D.B x).ue] 58) := ⟨_, rfl⟩
                  have hE2 : Ext wo W2 := by rw [hW2]; exact Ext.alloc _ _
                  have HBX : Hid (∀ w', Ext W2 w' → w'.cell? ⟨wo.heap.size, 0, none⟩ = some (I (D.B x).k) ∧ w'.cell? ⟨wo.heap.size, 1, none⟩ = some (.slice (p.AA x) (D.B x).n (p.cA x)) ∧ w'.cell? ⟨wo.heap.size, 2, none⟩ = some (I (D.B x).vn) ∧ w'.cell? ⟨wo.heap.size, 3, none⟩ = some (I (D.B x).ve) ∧ w'.cell? ⟨wo.heap.size, 4, none⟩ = some (I (D.B x).un) ∧ w'.cell? ⟨wo.heap.size, 5, none⟩ = some (I (D.B x).ue)) := fun w' e => by
                    rw [hW2] at e
                    obtain ⟨z0, z1, z2, z3, z4, z5, _, _⟩ := bq6 e
                    exact ⟨z0, z1, z2, z3, z4, z5⟩
                  have hgl : g < wo.heap.size := H.out.1.lv.row.lt
                  have HE2 := Lib.hid hE2
                  have hzz : W2.heap.size = wo.heap.size + 1 := by rw [hW2]; simp
                  clear hco hrd hk' hc1 dd
                  by_cases hk0 : (D.B x).k = 0
                  · have g0 : ((D.B x).k == 0) = true := by simpa using hk0
                    obtain ⟨hq, hn1, ha0⟩ := OK.out.inp hxn hk0
                    obtain ⟨hpb, hpb2⟩ := bval_bd OK.out (V := vk D S IN k) HRG.out hxn (fun j hj => by unfold ns at hj; rw [if_pos hk0] at hj; omega)
                    rw [htk] at hpb hpb2
                    have hval : tkV D S IN x = prtV (D.P (sr D x 0)) (IN (sr D x 0)) := by rw [← htk]; unfold bval; rw [if_pos hk0]
                    obtain ⟨y, hy⟩ : ∃ y, sr D x 0 = y := ⟨_, rfl⟩
                    rw [hy] at hq ha0 hval
                    have hpo := OK.out.port hq
                    have hin := HRG.out y hq
                    have HPO : Hid (∀ w', Calls Tryz.prog 24 #[.agg #[I (D.P y).lo, I (D.P y).hi, I (D.P y).fr], I (IN y)] w' (DyRes (tkV D S IN x) w')) := fun w' => by
                      rw [hval]; exact rport_any (D.P y) (IN y) w' (by omega) (by omega) hpo.1 hpo.2.1
                    have HCN := Lib.hid (And.intro hpb hpb2)
                    have hX1q := H.out.1.ext
                    obtain ⟨ba, oa, hba, hbla, hca⟩ := (HD.out.args x hxn).1 (by omega)
                    have a0 := hca 0 (by omega)
                    rw [ha0, Nat.add_zero] at a0
                    obtain ⟨bp, op, hbp, hblp, hcp⟩ := HD.out.ports (by omega)
                    obtain ⟨p0, p1, p2⟩ := hcp y hq
                    obtain ⟨bi, oi, rfl, hbli, hci⟩ := HI.out (by omega)
                    have i0 := hci y hq
                    have hold := H.out.1.old
                    have l0 : w.heap.size < W1.heap.size := by have := HZ1.out; omega
                    have HNE : Hid (w.heap.size ≠ g ∧ wo.heap.size ≠ g ∧ ba ≠ g ∧ bp ≠ g ∧ bi ≠ g) := ⟨by omega, by omega, by omega, by omega, by omega⟩
                    have HS : Hid (∀ w', Ext W2 w' → (w'.cell? ⟨w.heap.size, 0, none⟩ = some (.slice (some ⟨bp, op, none⟩) D.ni p.cI) ∧ w'.cell? ⟨wo.heap.size, 1, none⟩ = some (.slice (some ⟨ba, oa, none⟩) 1 (p.cA x)) ∧ w'.cell? ⟨ba, oa, none⟩ = some (I y)) ∧
                        (w'.cell? ⟨bp, op + y * 3, none⟩ = some (I (D.P y).lo) ∧ w'.cell? ⟨bp, op + y * 3 + 1, none⟩ = some (I (D.P y).hi) ∧ w'.cell? ⟨bp, op + y * 3 + 2, none⟩ = some (I (D.P y).fr)) ∧ w'.cell? ⟨bi, oi + y, none⟩ = some (I (IN y))) := fun w' e => by
                      have e' := hX1q.trans (HE2.out.trans e)
                      have z1 := (HBX.out w' e).2.1
                      rw [hn1, hba] at z1
                      have c0' := HB.out.c0
                      rw [hbp] at c0'
                      exact ⟨⟨(e'.old.1 _ _ l0).trans c0', z1, (e'.old.1 _ _ hbla).trans a0⟩, ⟨(e'.old.1 _ _ hblp).trans p0, (e'.old.1 _ _ hblp).trans p1, (e'.old.1 _ _ hblp).trans p2⟩, (e'.old.1 _ _ hbli).trans i0⟩
                    have hyl : (y : Int) < (D.ni : Int) := by omega
                    clear hca hcp hci hpo hin hval htk hsrc hpb hpb2 hX1q ha0
                    have HBS := Lib.hid (And.intro hba (And.intro hn1 hbp))
                    clear hba hn1 hbp hk0
                    generalize tkV D S IN x = yv at *
                    generalize (D.P y).lo = plo at *
                    generalize (D.P y).hi = phi at *
                    generalize (D.P y).fr = pfr at *
                    generalize IN y = iy at *
                    go_upto_region 29 with fail
                    rw [← hW2]; clear hW2
                    clear c0 c1 c2 x0 x1 x2 x3 x4 x5 a0 p0 p1 p2 i0
                    obtain ⟨⟨s0, s1, s2⟩, ⟨s3, s4, s5⟩, s6⟩ := HS.out W2 (Ext.refl _)
                    have hng : ¬ g = W2.heap.size := by omega
                    have hgw : g < W2.heap.size := by omega
                    go_region_held3 (fun w' => (w'.cell? ⟨w.heap.size, 0, none⟩ = some (.slice (some ⟨bp, op, none⟩) D.ni p.cI) ∧ w'.cell? ⟨wo.heap.size, 1, none⟩ = some (.slice (some ⟨ba, oa, none⟩) 1 (p.cA x)) ∧ w'.cell? ⟨ba, oa, none⟩ = some (I y)) ∧
                        (w'.cell? ⟨bp, op + y * 3, none⟩ = some (I plo) ∧ w'.cell? ⟨bp, op + y * 3 + 1, none⟩ = some (I phi) ∧ w'.cell? ⟨bp, op + y * 3 + 2, none⟩ = some (I pfr)) ∧ w'.cell? ⟨bi, oi + y, none⟩ = some (I iy)) (first | exact HS.out _ (by (with_reducible (repeat (first | exact Ext.refl _ | assumption | (refine Ext.toSet ?_ (by omega)) | refine Ext.toAlloc ?_ | refine Ext.toDrew ?_ | refine Ext.toDrewN ?_ | refine Ext.trans ?_ (by assumption)))); (first | done | fail "no")) | (refine ⟨⟨?_, ?_, ?_⟩, ⟨?_, ?_, ?_⟩, ?_⟩ <;> (rw [cell_farg (by first | exact HNE.out.1 | exact HNE.out.2.1 | exact HNE.out.2.2.1 | exact HNE.out.2.2.2.1 | exact HNE.out.2.2.2.2)]; assumption)))
                      (first | (go_at_call 24; (with_reducible refine (HPO.out _).mono ?_); rintro e1 w3 hr; obtain ⟨A1, z1, rfl, cn1, hA1, hx1⟩ := hr.cn HCN.out.1 (Nat.le_trans HCN.out.2 (by omega)); have CN1 := Lib.hid cn1; have HX3 := Lib.hid (show Ext W2 w3 from (by (with_reducible (repeat (first | exact Ext.refl _ | assumption | (refine Ext.toSet ?_ (by omega)) | refine Ext.toAlloc ?_ | refine Ext.toDrew ?_ | refine Ext.toDrewN ?_ | refine Ext.trans ?_ (by assumption)))); (first | done | fail "no"))); have hx3 := HE2.out.trans HX3.out; obtain ⟨d0, d1, d2⟩ := (H.out.1.to hx3).lv.cells hxn; have fz := (H.out.1.to hx3).lv.frozen; have f0 := fz (x * 3); have f1 := fz (x * 3 + 1); have f2 := fz (x * 3 + 2); obtain ⟨⟨t0, t1, t2⟩, ⟨t3, t4, t5⟩, t6⟩ := HS.out _ HX3.out; have hA1' : ∀ a, A1 = some a → g < a.block := (fun a ha => by have h1 := hA1 a ha; have h2 := hx1.size; (first | omega | (simp at h1; omega) | (have h3 := HX3.out.size; omega))); have HP := Lib.hid (H.out.1.put hx3 x (cnR yv A1 z1) yv cn1 (fun _ a ha => by have := hA1' a ha; omega) (fun _ a ha => HQ0.out _ (by have := hA1' a ha; have := H.out.1.old; have := HZ1.out; omega))); have HXX : Hid (Ext w1 _ ∧ Rl _ Ao co (ordL D)) := ⟨st3_ext g x (cnR yv A1 z1) (H.out.2.1.trans hx3) HG1.out, (H.out.2.2.ext hx3).gr (st3_fr _ g x (cnR yv A1 z1)) HNO.out⟩; clear hr fz cn1 hA1 hA1' hx3))
                    all_goals
                      go_wp2_with fail
                      (try rw [← hbo])
                      (try rw [← hb1])
                      go_roundw
                      case rel => exact ⟨k + 1, _, by omega, by go_num, HP.out.congr HUP.out, HXX.out⟩
                      case measure => simp [intOf]; omega
                  · have g0 : ((D.B x).k == 0) = false := by simpa using hk0
                    have hns : ns D x = (D.B x).n := by unfold ns; rw [if_neg hk0]
                    have hn2 := (OK.out.toWF.ns2 hxn).2
                    have har := OK.out.ar x hxn
                    obtain ⟨F, hF⟩ : ∃ F : Nat → DV, F = fun j => vk D S IN k (sr D x j) := ⟨_, rfl⟩
                    have HF : Hid (∀ j, F j = vk D S IN k (sr D x j)) := fun j => by rw [hF]
                    have HFT : Hid (∀ j, j < (D.B x).n → lng (F j) = true → tkG D S IN = false) := fun j hj h => by
                      have hs := OK.out.toWF.src hxn (j := j) (by omega)
                      refine allN_false.2 ⟨_, hs.2.1, ?_⟩
                      rw [HF.out, vk_done S IN (hsrc j (by omega))] at h
                      rw [h]; rfl
                    have HVX : Hid ((∀ j, j < (D.B x).n → lng (F j) = false) → (tkV D S IN x).ok ∧ len (tkV D S IN x).m ≤ 1401 ∧ fv (D.B x) (upto F (D.B x).n 0) (upto F (D.B x).n 1) = tkV D S IN x ∧ ∀ j, j < (D.B x).n → Shr (upto F (D.B x).n j)) := fun h => by
                      have hsh : ∀ j, j < (D.B x).n → Shr (F j) := fun j hj => by
                        have hs := OK.out.toWF.src hxn (j := j) (by omega)
                        exact Shr.of (h j hj) (by rw [HF.out]; exact (H.out.1.lv.el _ hs.2.1).ok)
                      have hpb := bval_bd OK.out (V := vk D S IN k) HRG.out hxn (fun j hj => by have := hsh j (by omega); rw [HF.out] at this; exact this)
                      rw [htk] at hpb
                      refine ⟨hpb.1, hpb.2, ?_, fun j hj => by rw [upto_end hj]; exact hsh j hj⟩
                      rw [← htk]; unfold bval; rw [if_neg hk0]
                      exact fv_congr (fun q => by rw [upto_end (by omega), HF.out]) (fun q => by rw [upto_end (by omega), HF.out])
                    have HVX2 : Hid ((∀ j, j < (D.B x).n → lng (F j) = false) → (tkV D S IN x).ok ∧ len (tkV D S IN x).m ≤ 1401) := fun h => ⟨(HVX.out h).1, (HVX.out h).2.1⟩
                    have HBK : Hid (∀ w' A c R5, Ext W2 w' → Ln w' A (D.B x).n R5 (upto F (D.B x).n) → (∀ j, j < (D.B x).n → lng (F j) = false) → Calls Tryz.prog 26 #[bkv (D.B x).k (p.AA x) (D.B x).n (p.cA x) (D.B x).vn (D.B x).ve (D.B x).un (D.B x).ue, .slice A (D.B x).n c] w' (DyRes (tkV D S IN x) w')) := fun w' A c R5 e l h => by
                      have hv := HVX.out h
                      rw [← hv.2.2.1]
                      exact rblock_val OK.out hxn hk0 hk2 l (Nat.le_refl _) hv.2.2.2
                    have HSR : Hid (∀ j, j < (D.B x).n → (D.B x).a j = (sr D x j : Nat) ∧ sr D x j < D.nb) := fun j hj => by
                      have hs := OK.out.toWF.src hxn (j := j) (by omega)
                      exact ⟨hs.1, hs.2.1⟩
                    have HC0 : Hid (∀ w', Ext W2 w' → BXC w' wo.heap.size (D.B x) (p.AA x) (p.cA x)) := fun w' e => HBX.out w' e
                    have hcell := HBX.out W2 (Ext.refl _)
                    obtain ⟨z0, z1, z2, z3, z4, z5⟩ := hcell
                    clear HVX htk hsrc hF hns har hk0
                    go_upto_region 30 with fail
                    rw [← hW2]; clear hW2
                    clear c0 c1 c2 x0 x1 x2 x3 x4 x5
                    have HK2 := Lib.hid hk2; clear hk2
                    go_wp2_with fail
                    clear z0 z1 z2 z3 z4 z5
                    (try rw [← hbo])
                    (try rw [← hb1])
                    clear hbo hb1 xo
                    have HN0 : Hid (NwM W2 W2 W2.heap.size none 0 (fun _ => RN.z) (upto F 0) 0) := NwM.nil (Ext.refl _) (Nat.le_refl _) (Nat.le_refl _) _ _
                    go_loopw [20, 132] (fun s20 s wy => ∃ (q : Nat) (A : Option Addr) (c : Nat) (R5 : Nat → RN), q ≤ (D.B x).n ∧ s = I q ∧ s20 = .slice A q c ∧ Hid (NwM W2 wy W2.heap.size A c R5 (upto F q) q ∧ ∀ j, j < q → lng (F j) = false)) (fun _ s _ => (D.B x).n - (intOf s).toNat)
                    case atStart => exact ⟨0, none, 0, _, Nat.zero_le _, rfl, rfl, HN0.out, fun j hj => absurd hj (by omega)⟩
                    case round =>
                      clear HN0
                      obtain ⟨q5, A5, c5, R5, hq5, rfl, rfl, HW⟩ := hrel
                      by_cases hlt5 : q5 < (D.B x).n
                      · have hX5 := HE2.out.trans HW.out.1.ext
                        obtain ⟨ba, oa, hba, hbla, hca⟩ := ((HD.out.ext (H.out.1.ext.trans hX5)).args x hxn).1 (by omega)
                        have a0 := hca q5 hlt5
                        have hsr := HSR.out q5 hlt5
                        rw [hsr.1] at a0
                        obtain ⟨y, hy⟩ : ∃ y, sr D x q5 = y := ⟨_, rfl⟩
                        rw [hy] at a0 hsr
                        have hyn := hsr.2
                        have HFY : Hid (vk D S IN k y = F q5) := by show _ = _; rw [HF.out, hy]
                        have hcy := H.out.1.lv.el y hyn
                        rw [HFY.out] at hcy
                        have HCY := Lib.hid hcy
                        have HLC : Hid (∀ w', Ext wo w' → w'.cell? ⟨g, y * 3, none⟩ = some (.bool (R2 y).neg) ∧ w'.cell? ⟨g, y * 3 + 1, none⟩ = some (.slice (R2 y).A (R2 y).n (R2 y).c) ∧ w'.cell? ⟨g, y * 3 + 2, none⟩ = some (I (R2 y).den)) := fun w' e => (H.out.1.to e).lv.cells hyn
                        have HLG : Hid (∀ w', Ext wo w' → Calls Tryz.prog 41 #[(R2 y).v] w' fun e w'' => e = .returned (.bool (lng (F q5))) ∧ Ext w' w'') := fun w' e => rlong_any (hcy.ext e)
                        have HBR : Hid (0 < len (F q5).m → ∀ a, (R2 y).A = some a → a.block < wo.heap.size) := hcy.blk
                        have HUP5 : Hid (∀ i, putD (upto F q5) q5 (F q5) i = upto F (q5 + 1) i) := upto_put F q5
                        have HX5 := Lib.hid hX5
                        have hlt' : (q5 : Int) < ((D.B x).n : Int) := by omega
                        have hyl : (y : Int) < (D.nb : Int) := by omega
                        have hblt := HW.out.1.blt
                        have hn5 : (D.B x).n ≤ 2 := hn2
                        clear hca hsr hcy hX5 hy
                        generalize R2 y = ry at *
                        obtain ⟨d0, d1, d2⟩ := HLC.out _ HX5.out
                        go_upto_region 34 with fail
                        go_upto_region 35 with (at_builtin; refine appN rfl _ _ rfl W2.heap.size A5 c5 (putR R5 q5 ry) q5 rfl (HW.out.1.own' (Ext.alloc _ _) _) _ _ rfl (news3 rfl R5 q5) (by omega) (by simp; omega) ?_; intro g5 cap w3 hown hgrow hat hltg; have HN := Lib.hid (HW.out.1.step (Ext.alloc _ _) ry (F q5) (HCY.out.ext (HX5.out.trans (Ext.alloc _ _))) (fun hl a ha q => by have h1 := HBR.out hl a ha; have h2 := (HW.out.1.own.lt a.block q.symm).1; omega) hown hgrow hat); obtain ⟨e0, e1, e2⟩ := HLC.out _ (HE2.out.trans HN.out.ext); clear hown hgrow hat hltg)
                        cases hlg : lng (F q5) with
                        | true =>
                          rw [hlg] at HLG
                          have hbad := HFT.out q5 hlt5 hlg
                          have HS4 : Hid (stE D q b S D.ni IN = 4) := by show _ = _; rw [HGS.out, if_pos hbad]
                          clear hlg hbad
                          go_wp2_with (go_at_call 41; (with_reducible refine (HLG.out _ (HE2.out.trans HN.out.ext)).mono ?_); rintro e1 w4 ⟨rfl, h4⟩; have HX4 := Lib.hid (HN.out.ext.trans h4); clear h4)
                          refine bodyPost_ret (v := .tuple #[.slice none 0 0, .slice none 0 0, I 4]) (by simp [results, Tryz.results15, go_sem]) rfl (.inl ⟨by rw [HS4.out]; decide, by rw [HS4.out], HE.out.trans (H.out.1.ext.trans (HE2.out.trans HX4.out))⟩)
                        | false =>
                          rw [hlg] at HLG
                          have HG5 : Hid (∀ j, j < q5 + 1 → lng (F j) = false) := fun j hj => by
                            by_cases h : j = q5
                            · subst h; exact hlg
                            · exact HW.out.2 j (by omega)
                          clear hlg
                          go_wp2_with (go_at_call 41; (with_reducible refine (HLG.out _ (HE2.out.trans HN.out.ext)).mono ?_); rintro e1 w4 ⟨rfl, h4⟩; have HX4 := Lib.hid (HN.out.to h4); clear h4)
                          (try rw [← hba])
                          go_roundw
                          case rel => exact ⟨q5 + 1, _, _, _, by omega, by go_num, rfl, HX4.out.congr (fun i _ => HUP5.out i), HG5.out⟩
                          case measure => simp [intOf]; omega
                      · obtain hq6 : q5 = (D.B x).n := by omega
                        have hW := HW.out.1.ext
                        obtain ⟨z0, z1, z2, z3, z4, z5⟩ := HBX.out _ hW
                        have HL5 : Hid (Ln wr A5 (D.B x).n R5 (upto F (D.B x).n) ∧ ∀ j, j < (D.B x).n → lng (F j) = false) := by rw [← hq6]; exact ⟨HW.out.1.ln, HW.out.2⟩
                        have hv := HVX2.out HL5.out.2
                        have HCN := Lib.hid hv
                        have HBB : Hid (∀ w', Ext wr w' → Calls Tryz.prog 26 #[bkv (D.B x).k (p.AA x) (D.B x).n (p.cA x) (D.B x).vn (D.B x).ve (D.B x).un (D.B x).ue, .slice A5 q5 c5] w' (DyRes (tkV D S IN x) w')) := fun w' e => by
                          rw [hq6]; exact HBK.out _ _ _ _ (hW.trans e) (HL5.out.1.ext e) HL5.out.2
                        have hltf : ¬ (q5 : Int) < ((D.B x).n : Int) := by omega
                        have HXo := Lib.hid (HE2.out.trans hW)
                        have hgW : g < wr.heap.size := Nat.lt_of_lt_of_le hgl (HE2.out.trans hW).size
                        clear hv hq6 hW
                        generalize tkV D S IN x = yv at *
                        go_wp2_with (go_at_call 26; (with_reducible refine (HBB.out _ (Ext.refl _)).mono ?_); rintro e1 w3 hr; obtain ⟨A1, y1, rfl, cn1, hA1, hx1⟩ := hr.cn HCN.out.1 (Nat.le_trans HCN.out.2 (by omega)); have CN1 := Lib.hid cn1; have hx3 := HXo.out.trans hx1; obtain ⟨d0, d1, d2⟩ := (H.out.1.to hx3).lv.cells hxn; have fz := (H.out.1.to hx3).lv.frozen; have f0 := fz (x * 3); have f1 := fz (x * 3 + 1); have f2 := fz (x * 3 + 2); have HP := Lib.hid (H.out.1.put hx3 x (cnR yv A1 y1) yv cn1 (fun _ a ha => by have h1 := hA1 a ha; omega) (fun _ a ha => HQ0.out _ (by have := hA1 a ha; have := H.out.1.old; have := HZ1.out; omega))); have HXX : Hid (Ext w1 _ ∧ Rl _ Ao co (ordL D)) := ⟨st3_ext g x (cnR yv A1 y1) (H.out.2.1.trans hx3) HG1.out, (H.out.2.2.ext hx3).gr (st3_fr _ g x (cnR yv A1 y1)) HNO.out⟩; clear hr fz cn1 hA1 hx1 hx3)
                        go_roundw
                        case rel => exact ⟨k + 1, _, by omega, by go_num, HP.out.congr HUP.out, HXX.out⟩
                        case measure => simp [intOf]; omega
                · obtain rfl : k = lo := by omega
                  have HV1 : Hid (RuM Q W1 wo g D.nb R2 (tkV D S IN) ∧ Ext w1 wo) := ⟨H.out.1.congr fun i _ => by rw [← HLO.out, vk_end], H.out.2.1⟩
                  clear H
                  go_wp2_with fail
                  go_loopw [158] (fun s wy => ∃ i : Nat, i ≤ D.nb ∧ s = I i ∧ Hid (Ext wo wy ∧ ∀ j, j < i → lng (tkV D S IN j) = false)) (fun s _ => D.nb - (intOf s).toNat)
                  case atStart => exact ⟨0, Nat.zero_le _, rfl, Ext.refl _, fun j hj => absurd hj (by omega)⟩
                  case round =>
                    obtain ⟨i, hi, rfl, HY⟩ := hrel
                    by_cases hli2 : i < D.nb
                    · have hd := (HV1.out.1.to HY.out.1).lv
                      obtain ⟨d0, d1, d2⟩ := hd.cells hli2
                      have hcy := hd.el i hli2
                      have HLG : Hid (∀ w', Ext wr w' → Calls Tryz.prog 41 #[(R2 i).v] w' fun e w'' => e = .returned (.bool (lng (tkV D S IN i))) ∧ Ext w' w'') := fun w' e => rlong_any (hcy.ext e)
                      have hlt' : (i : Int) < (D.nb : Int) := by omega
                      clear hd hcy
                      generalize R2 i = ry at *
                      have HB4 : lng (tkV D S IN i) = true → Hid (stE D q b S D.ni IN = 4) := fun h => by
                        show _ = _; rw [HGS.out, if_pos (show tkG D S IN = false from allN_false.2 ⟨i, hli2, by rw [h]; rfl⟩)]
                      cases hlg : lng (tkV D S IN i) with
                      | true =>
                        rw [hlg] at HLG
                        have HS4 : Hid (stE D q b S D.ni IN = 4) := HB4 hlg
                        clear hlg HB4
                        go_wp2_with (go_at_call 41; (with_reducible refine (HLG.out _ (Ext.alloc _ _)).mono ?_); rintro e1 w4 ⟨rfl, h4⟩; have HX4 := Lib.hid ((Ext.alloc _ _).trans h4); clear h4)
                        refine bodyPost_ret (v := .tuple #[.slice none 0 0, .slice none 0 0, I 4]) (by simp [results, Tryz.results15, go_sem]) rfl (.inl ⟨by rw [HS4.out]; decide, by rw [HS4.out], HE.out.trans (HV1.out.1.ext.trans (HY.out.1.trans HX4.out))⟩)
                      | false =>
                        rw [hlg] at HLG
                        have HG5 : Hid (∀ j, j < i + 1 → lng (tkV D S IN j) = false) := fun j hj => by
                          by_cases h : j = i
                          · subst h; exact hlg
                          · exact HY.out.2 j (by omega)
                        clear hlg HB4
                        go_wp2_with (go_at_call 41; (with_reducible refine (HLG.out _ (Ext.alloc _ _)).mono ?_); rintro e1 w4 ⟨rfl, h4⟩; have HX4 := Lib.hid (HY.out.1.trans ((Ext.alloc _ _).trans h4)); clear h4)
                        go_roundw
                        case rel => exact ⟨i + 1, by omega, by go_num, HX4.out, HG5.out⟩
                        case measure => simp [intOf]; omega
                    · obtain rfl : i = D.nb := by omega
                      have HS0 : Hid (stE D q b S D.ni IN = 0) := by
                        show _ = _
                        have : tkG D S IN = true := allN_iff.2 fun j hj => by rw [HY.out.2 j hj]; rfl
                        rw [HGS.out, if_neg (by rw [this]; decide)]
                      have HV2 : Hid (RuM Q W1 wr g D.nb R2 (tkV D S IN) ∧ Ext w1 wr) := ⟨HV1.out.1.to HY.out.1, HV1.out.2.trans HY.out.1⟩
                      clear HY HV1
                      obtain ⟨w6, hw6⟩ : ∃ w6, w6 = wr := ⟨_, rfl⟩
                      subst hw6
                      go_wp2_with fail
                      have HN0 : Hid (NwM w6 w6 w6.heap.size none 0 (fun _ => RN.z) (upto (nxS D (tkV D S IN)) 0) 0) := NwM.nil (Ext.refl _) (Nat.le_refl _) (Nat.le_refl _) _ _
                      go_loopw [25, 167] (fun s25 s wz => ∃ (j : Nat) (A : Option Addr) (c : Nat) (R5 : Nat → RN), j ≤ q ∧ s = I j ∧ s25 = .slice A j c ∧ Hid (NwM w6 wz w6.heap.size A c R5 (upto (nxS D (tkV D S IN)) j) j ∧ ∀ i, i < j → 0 < len (nxS D (tkV D S IN) i).m → ∀ a, (R5 i).A = some a → Q a.block)) (fun _ s _ => q - (intOf s).toNat)
                      case atStart => exact ⟨0, none, 0, _, Nat.zero_le _, rfl, rfl, HN0.out, fun i hi => absurd hi (by omega)⟩
                      case round =>
                        clear HN0
                        obtain ⟨j, A5, c5, R5, hj, rfl, rfl, HW⟩ := hrel
                        by_cases hlt7 : j < q
                        · have hq' : j < (delL D).length := by rw [HLD.out]; exact hlt7
                          obtain ⟨bd, od, hbd, hbld, hcd⟩ := (HO1.out.ext (HV2.out.2.trans HW.out.1.ext)).1 (by omega)
                          have xd := hcd j hq'
                          obtain ⟨x, hxd⟩ : ∃ x, (delL D).getD j 0 = x := ⟨_, rfl⟩
                          have hx := del_at hq'
                          simp only [hxd] at xd hx
                          have hxn := hx.1
                          have hk2 : (D.B x).k = 2 := by have := hx.2; unfold isD at this; simpa using this
                          have har := OK.out.ar x hxn
                          have hn1 : (D.B x).n = 1 := by
                            have : arity (D.B x).k = 1 := by rw [hk2]; decide
                            omega
                          have hns : ns D x = 1 := by unfold ns; rw [if_neg (by omega), hn1]
                          have hsr := OK.out.toWF.src hxn (j := 0) (by omega)
                          obtain ⟨y, hy⟩ : ∃ y, sr D x 0 = y := ⟨_, rfl⟩
                          rw [hy] at hsr
                          have hyn := hsr.2.1
                          have dd := HD.out.ext (HV2.out.1.ext.trans HW.out.1.ext)
                          obtain ⟨b1, o1, hb1, hbl1, hc1⟩ := dd.blocks (by omega)
                          obtain ⟨_, x1, _⟩ := hc1 x hxn
                          obtain ⟨c0, c1, c2⟩ := HB.out.ext (HV2.out.1.ext.trans HW.out.1.ext)
                          obtain ⟨ba, oa, hba, hbla, hca⟩ := (dd.args x hxn).1 (by omega)
                          have a0 := hca 0 (by omega)
                          rw [hsr.1, Nat.add_zero] at a0
                          rw [hn1] at x1
                          have hNX : nxS D (tkV D S IN) j = tkV D S IN y := by unfold nxS; rw [hxd, hy]
                          have hcy := (HV2.out.1.lv.el y hyn)
                          rw [← hNX] at hcy
                          have HCY := Lib.hid hcy
                          have hq9 := HV2.out.1.nw y hyn
                          rw [← hNX] at hq9
                          have HQ9 : Hid (∀ i, i < j + 1 → 0 < len (nxS D (tkV D S IN) i).m → ∀ a, (putR R5 j (R2 y) i).A = some a → Q a.block) := fun i hi => by
                            unfold putR
                            by_cases h : i = j
                            · rw [if_pos h, h]; exact hq9
                            · rw [if_neg h]; exact HW.out.2 i (by omega)
                          have HBR : Hid (0 < len (nxS D (tkV D S IN) j).m → ∀ a, (R2 y).A = some a → a.block < w6.heap.size) := hcy.blk
                          have HUP5 : Hid (∀ i, putD (upto (nxS D (tkV D S IN)) j) j (nxS D (tkV D S IN) j) i = upto (nxS D (tkV D S IN)) (j + 1) i) := upto_put _ j
                          obtain ⟨d0, d1, d2⟩ := (HV2.out.1.to HW.out.1.ext).lv.cells hyn
                          have hlt' : (j : Int) < (q : Int) := by omega
                          have hxl : (x : Int) < (D.nb : Int) := by omega
                          have hyl : (y : Int) < (D.nb : Int) := by omega
                          have hblt := HW.out.1.blt
                          clear hcd hx hq' hk2 har hn1 hns hsr dd hc1 hca hNX hcy hy hq9
                          generalize R2 y = ry at *
                          go_wp2_with (at_builtin; refine appN rfl _ _ rfl w6.heap.size A5 c5 (putR R5 j ry) j rfl (HW.out.1.own' (Ext.alloc _ _) _) _ _ rfl (news3 rfl R5 j) (by omega) (by simp; omega) ?_; intro g5 cap w3 hown hgrow hat hltg; have HN := Lib.hid (HW.out.1.step (Ext.alloc _ _) ry (nxS D (tkV D S IN) j) (HCY.out.ext (HW.out.1.ext.trans (Ext.alloc _ _))) (fun hl a ha q => by have h1 := HBR.out hl a ha; have h2 := (HW.out.1.own.lt a.block q.symm).1; omega) hown hgrow hat); clear hown hgrow hat hltg)
                          (try rw [← hba])
                          (try rw [← hbd])
                          (try rw [← hb1])
                          go_roundw
                          case rel => exact ⟨j + 1, _, _, _, by omega, by go_num, rfl, HN.out.congr (fun i _ => HUP5.out i), HQ9.out⟩
                          case measure => simp [intOf]; omega
                        · obtain rfl : j = q := by omega
                          go_wp2_with fail
                          refine bodyPost_ret (v := .tuple #[.slice A5 j c5, .slice (some ⟨g, 0, none⟩) D.nb D.nb, I 0]) (by simp [results, Tryz.results15, go_sem]) rfl (.inr ⟨HS0.out, A5, c5, R5, g, R2, rfl, HW.out.1.ln.congr fun i hi => upto_end hi, (HV2.out.1.to HW.out.1.ext).lv.ln, (fun _ a ha => HQ0.out _ (by have h1 := (HW.out.1.own.lt a.block (by rw [ha]; rfl)).1; have h2 := HV2.out.1.ext.size; have h3 := HZ1.out; omega)), HW.out.2, HV2.out.1.nw, HE.out.trans (HV2.out.1.ext.trans HW.out.1.ext)⟩)
theorem rstep_any {Q : Nat → Prop} {w : World} {D : Dia} {p : Pl} {As Ai : Option Addr} {n cs m ci : Nat} {R : Nat → RN} {S : Nat → DV} {b : Nat → Bool} {IN : Nat → Int} (d : Dm w D p) (ok : OkD D)
    (rs : Rn w As n R) (el : ∀ k, k < n → Er w (R k) (S k) (b k)) (r : Ri w Ai m IN) (hm : m ≤ maxLen) (hn : n ≤ maxLen)
    (hQ0 : ∀ b, w.heap.size ≤ b → Q b) (hQs : ∀ k, k < n → 0 < len (S k).m → ∀ a, (R k).A = some a → Q a.block) :
    Calls Tryz.prog 15 #[dgv D p, .slice As n cs, .slice Ai m ci] w (RsP Q D n b S m IN w) := by
  by_cases hc : chE D n b m IN = 0
  · have hchk : n = (delL D).length ∧ (∀ k, k < n → b k = true) ∧ m = D.ni ∧ ∀ j, j < D.ni → (D.P j).lo ≤ IN j ∧ IN j ≤ (D.P j).hi := by
      unfold chE at hc
      by_cases h1 : n ≠ (delL D).length
      · rw [if_pos h1] at hc; omega
      rw [if_neg h1] at hc
      by_cases h2 : allN n b = false
      · rw [if_pos h2] at hc; omega
      rw [if_neg h2] at hc
      by_cases h3 : m ≠ D.ni
      · rw [if_pos h3] at hc; omega
      rw [if_neg h3] at hc
      by_cases h4 : inR D IN = false
      · rw [if_pos h4] at hc; omega
      refine ⟨by omega, allN_iff.1 (by simpa using h2), by omega, fun j hj => ?_⟩
      have := allN_iff.1 (show inR D IN = true by simpa using h4) j hj
      simpa using this
    obtain ⟨h1, h2, rfl, h4⟩ := hchk
    exact rstep_good d ok rs el r h1.symm h2 h4 hQ0 hQs
  · have hs : stE D n b S m IN = chE D n b m IN := by rw [stE_ch, if_pos hc]
    refine (rstep_bad d ok rs el r hm hn hc).mono fun e w' h => .inl ?_
    rw [hs]; exact ⟨hc, h.1, h.2⟩
end Go.Proofs.YtgnaljnmjphleaaGreatDoor
