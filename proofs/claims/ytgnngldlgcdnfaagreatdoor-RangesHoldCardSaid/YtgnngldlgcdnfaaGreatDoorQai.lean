import Derived.Test.YtgnngldlgcdnfaaGreatDoorQah
import Derived.Maps.AppendAt
import Derived.Laws.AppendOwnNone
namespace Go.Proofs.YtgnngldlgcdnfaaGreatDoor
section
section
open Go Go.RowKit
theorem prtE_3 {p : Prt} (h : prtE p ≠ 0) : prtE p = 3 := by
 unfold prtE at h ⊢
 split
 ·rename_i q; rw [if_pos q] at h; exact absurd rfl h
 ·rfl
section
variable {D : Dia}
theorem chk_large (h : 16 < D.ni ∨ 64 < D.nb ∨ 16 < D.no) : chk D = 4 := by unfold chk; rw [if_pos h]
theorem chk_port {j : Nat} (h0 : ¬ (16 < D.ni ∨ 64 < D.nb ∨ 16 < D.no)) (h : ∀ i, i < j → prtE (D.P i) = 0) (hj : j < D.ni) (he : prtE (D.P j) ≠ 0) : chk D = 3 := by
 unfold chk
 have := fstE_hit (f := fun i => prtE (D.P i)) h hj he
 rw [if_neg h0, this, if_pos he, prtE_3 he]
theorem chk_blk {j : Nat} (h0 : ¬ (16 < D.ni ∨ 64 < D.nb ∨ 16 < D.no)) (h1 : ∀ i, i < D.ni → prtE (D.P i) = 0) (h : ∀ i, i < j → blkE D (D.B i) = 0) (hj : j < D.nb) (he : blkE D (D.B j) ≠ 0) : chk D = blkE D (D.B j) := by
 unfold chk
 have := fstE_hit (f := fun i => blkE D (D.B i)) h hj he
 have h2 := fstE_none (f := fun i => prtE (D.P i)) h1
 rw [if_neg h0, if_neg (by rw [h2]; decide), this, if_pos he]
theorem chk_out (h0 : ¬ (16 < D.ni ∨ 64 < D.nb ∨ 16 < D.no)) (h1 : ∀ i, i < D.ni → prtE (D.P i) = 0) (h2 : ∀ i, i < D.nb → blkE D (D.B i) = 0) (he : fstE D.no (fun i => inE D.nb (D.O i)) ≠ 0) : chk D = 10 := by
 unfold chk
 have h3 := fstE_none (f := fun i => prtE (D.P i)) h1
 have h4 := fstE_none (f := fun i => blkE D (D.B i)) h2
 rw [if_neg h0, if_neg (by rw [h3]; decide), if_neg (by rw [h4]; decide), if_pos he, idx_10 he]
theorem chk_cyc (h0 : ¬ (16 < D.ni ∨ 64 < D.nb ∨ 16 < D.no)) (h1 : ∀ i, i < D.ni → prtE (D.P i) = 0) (h2 : ∀ i, i < D.nb → blkE D (D.B i) = 0) (he : fstE D.no (fun i => inE D.nb (D.O i)) = 0) :
  chk D = if (ordL D).length + (delL D).length < D.nb then 24 else 0 := by
 unfold chk
 have h3 := fstE_none (f := fun i => prtE (D.P i)) h1
 have h4 := fstE_none (f := fun i => blkE D (D.B i)) h2
 rw [if_neg h0, if_neg (by rw [h3]; decide), if_neg (by rw [h4]; decide), if_neg (by rw [he]; decide)]
theorem wf_of (h0 : ¬ (16 < D.ni ∨ 64 < D.nb ∨ 16 < D.no)) (h2 : ∀ i, i < D.nb → blkE D (D.B i) = 0) : WF D := chk_wf (by omega) (by omega) (by omega) (fstE_none (f := fun i => blkE D (D.B i)) h2)
end
theorem ord_le (D : Dia) : (ordL D).length ≤ D.nb := (ord_end D).1.le
theorem del_le (D : Dia) : (delL D).length ≤ D.nb := by unfold delL; rw [mkL_len]; exact cnt_le _ _
set_option maxRecDepth 100000 in
set_option maxHeartbeats 1000000 in
theorem check_large {w : World} {D : Dia} {p : Pl} (h : 16 < D.ni ∨ 64 < D.nb ∨ 16 < D.no) (l1 : D.ni ≤ maxLen) (l2 : D.nb ≤ maxLen) (l3 : D.no ≤ maxLen) : Calls Tryz.prog 21 #[dgv D p] w fun e w' => e = .returned (.iface 48 (I 4)) ∧ Ext w w' := by
 unfold maxLen at l1 l2 l3
 by_cases h1 : 16 < D.ni
 ·have h1' : (16 : Int) < (D.ni : Int) := by omega
  clear h
  go_enter Tryz.func21, Tryz.ntmps21
  go_wp2_with fail
  go_ret
  exact ⟨rfl, ext3⟩
 ·have h1' : ¬ (16 : Int) < (D.ni : Int) := by omega
  by_cases h2 : 64 < D.nb
  ·have h2' : (64 : Int) < (D.nb : Int) := by omega
   clear h
   go_enter Tryz.func21, Tryz.ntmps21
   go_wp2_with fail
   go_ret
   exact ⟨rfl, ext3⟩
  ·have h2' : ¬ (64 : Int) < (D.nb : Int) := by omega
   have h3' : (16 : Int) < (D.no : Int) := by omega
   clear h
   go_enter Tryz.func21, Tryz.ntmps21
   go_wp2_with fail
   go_ret
   exact ⟨rfl, ext3⟩
set_option maxRecDepth 100000 in
set_option maxHeartbeats 1000000 in
theorem check_in {w : World} {D : Dia} {p : Pl} (d : Dm w D p) (hT : Tabs w) (h0 : ¬ (16 < D.ni ∨ 64 < D.nb ∨ 16 < D.no)) : Calls Tryz.prog 21 #[dgv D p] w fun e w' => e = .returned (errv (chk D)) ∧ Ext w w' := by
 have n1 : D.ni ≤ 16 := by omega
 have n2 : D.nb ≤ 64 := by omega
 have n3 : D.no ≤ 16 := by omega
 have H0 := Lib.hid h0
 have m1 : ¬ (16 : Int) < (D.ni : Int) := by omega
 have m2 : ¬ (64 : Int) < (D.nb : Int) := by omega
 have m3 : ¬ (16 : Int) < (D.no : Int) := by omega
 clear h0
 have HBD := Lib.hid (Bd.new w D p 26)
 obtain ⟨W1, hW1⟩ : ∃ W1, W1 = w.alloc (.cells #[.slice p.AI D.ni p.cI, .slice p.AB D.nb p.cB, .slice p.AO D.no p.cO] 26) := ⟨_, rfl⟩
 have hE : Ext w W1 := by rw [hW1]; exact Ext.alloc _ _
 have hz1 : W1.heap.size = w.heap.size + 1 := by rw [hW1]; simp
 rw [← hW1] at HBD
 have HD := Lib.hid d
 have HT := Lib.hid hT
 have HE := Lib.hid hE
 have HW1 := Lib.hid hW1
 have c012 := HBD.out
 rw [hW1] at c012
 obtain ⟨c0, c1, c2⟩ := c012
 clear d hE hW1 hT
 go_enter Tryz.func21, Tryz.ntmps21
 go_wp2_with fail
 clear c0 c1 c2
 go_loopw [28] (fun s wr => ∃ j : Nat, j ≤ D.ni ∧ s = I j ∧ Hid (Ext W1 wr) ∧ Hid (∀ i, i < j → prtE (D.P i) = 0)) (fun s _ => D.ni - (intOf s).toNat)
 case atStart => exact ⟨0, Nat.zero_le _, rfl, by rw [HW1.out]; exact Ext.refl _, fun i hi => absurd hi (by omega)⟩
 case round =>
  obtain ⟨j, hj, rfl, HX, HG⟩ := hrel
  by_cases hlt : j < D.ni
  ·obtain ⟨b, o, ha, hba, hc⟩ := (HD.out.ext (HE.out.trans HX.out)).ports (by omega)
   obtain ⟨x0, x1, x2⟩ := hc j hlt
   have HP := Lib.hid (isPort_any (D.P j))
   clear hc
   have hlt' : (j : Int) < (D.ni : Int) := by omega
   by_cases hq : prtE (D.P j) = 0
   ·have HG2 : Hid (∀ i, i < j + 1 → prtE (D.P i) = 0) := fun i hi => by
     by_cases h : i = j
     ·subst h; exact hq
     ·exact HG.out i (by omega)
    rw [show (prtE (D.P j) == 0) = true by simpa using hq] at HP
    clear hq
    go_wp2_with (go_at_call 64; (with_reducible refine (HP.out _).mono ?_); rintro e w1 ⟨rfl, hb1⟩)
    rw [← ha]
    go_roundw
    case rel => exact ⟨j + 1, by omega, by go_num, HX.out.trans ((Ext.alloc _ _).trans hb1), HG2⟩
    case measure => simp [intOf]; omega
   ·have HC := Lib.hid (chk_port H0.out HG.out hlt hq)
    rw [show (prtE (D.P j) == 0) = false by simpa using hq] at HP
    clear hq
    go_wp2_with (go_at_call 64; (with_reducible refine (HP.out _).mono ?_); rintro e w1 ⟨rfl, hb1⟩)
    go_ret
    exact ⟨by rw [HC.out]; rfl, HE.out.trans (HX.out.trans ((Ext.alloc _ _).trans hb1))⟩
  ·obtain rfl : j = D.ni := by omega
   have HXa := HX
   have HPo := HG
   clear HX HG
   obtain ⟨c0, c1, c2⟩ := HBD.out.ext HXa.out
   go_wp2_with fail
   clear c0 c1 c2
   go_loopw [40] (fun s wr => ∃ j : Nat, j ≤ D.nb ∧ s = I j ∧ Hid (Ext W1 wr) ∧ Hid (∀ i, i < j → blkE D (D.B i) = 0)) (fun s _ => D.nb - (intOf s).toNat)
   case atStart => exact ⟨0, Nat.zero_le _, rfl, HXa, fun i hi => absurd hi (by omega)⟩
   case round =>
    obtain ⟨j, hj, rfl, HX, HG⟩ := hrel
    by_cases hlt : j < D.nb
    ·have dd := HD.out.ext (HE.out.trans HX.out)
     obtain ⟨b, o, ha, hba, hc⟩ := dd.blocks (by omega)
     obtain ⟨x0, x1, x2, x3, x4, x5⟩ := hc j hlt
     have HB : Hid (∀ w', Ext wr w' → Calls Tryz.prog 65 #[.agg #[.slice p.AI D.ni p.cI, .slice (some ⟨b, o, none⟩) D.nb p.cB, .slice p.AO D.no p.cO], bkv (D.B j).k (p.AA j) (D.B j).n (p.cA j) (D.B j).vn (D.B j).ve (D.B j).un (D.B j).ue] w' fun e w'' => e = .returned (errv (blkE D (D.B j))) ∧ Ext w' w'') :=
      fun w' e => by rw [← ha]; exact checkBlock_any (p := p) (HT.out.ext (HE.out.trans (HX.out.trans e))) ((dd.ext e).args j hlt).1 ((dd.ext e).args j hlt).2
     have hsz := HX.out.size
     obtain ⟨c0, c1, c2⟩ := HBD.out.ext HX.out
     have hz2 : w.heap.size < wr.heap.size := by omega
     clear hc dd
     have hlt' : (j : Int) < (D.nb : Int) := by omega
     by_cases hq : blkE D (D.B j) = 0
     ·have HG2 : Hid (∀ i, i < j + 1 → blkE D (D.B i) = 0) := fun i hi => by
       by_cases h : i = j
       ·subst h; exact hq
       ·exact HG.out i (by omega)
      rw [hq, errv_z] at HB
      clear hq
      go_wp2_with (go_at_call 65; (with_reducible refine (HB.out _ (Ext.alloc _ _)).mono ?_); rintro e w1 ⟨rfl, hb1⟩)
      rw [← ha]
      go_roundw
      case rel => exact ⟨j + 1, by omega, by go_num, HX.out.trans ((Ext.alloc _ _).trans hb1), HG2⟩
      case measure => simp [intOf]; omega
     ·have HC := Lib.hid (chk_blk H0.out HPo.out HG.out hlt hq)
      rw [errv_n hq] at HB
      have HC2 := Lib.hid (errv_n (k := chk D) (by rw [HC.out]; exact hq))
      clear hq
      generalize blkE D (D.B j) = eb at *
      go_wp2_with (go_at_call 65; (with_reducible refine (HB.out _ (Ext.alloc _ _)).mono ?_); rintro e w1 ⟨rfl, hb1⟩)
      go_ret
      exact ⟨by rw [HC2.out, HC.out]; rfl, HE.out.trans (HX.out.trans ((Ext.alloc _ _).trans hb1))⟩
    ·obtain rfl : j = D.nb := by omega
     have HXb := HX
     have HBl := HG
     clear HX HG HXa
     obtain ⟨c0, c1, c2⟩ := HBD.out.ext HXb.out
     have HWF := Lib.hid (wf_of H0.out HBl.out)
     have HAI := Lib.hid (areIndices_any (c := p.cO) (D.nb : Int) (HD.out.ext (HE.out.trans HXb.out)).outs (HD.out.lo))
     by_cases hq : fstE D.no (fun i => inE D.nb (D.O i)) = 0
     ·have HC := Lib.hid (chk_cyc H0.out HPo.out HBl.out hq)
      rw [show (fstE D.no (fun i => inE D.nb (D.O i)) == 0) = true by simpa using hq] at HAI
      clear hq
      have ho := ord_le D
      have hd := del_le D
      have HO : Hid (∀ w', Ext W1 w' → Calls Tryz.prog 67 #[dgv D p] w' (LsR (ordL D) w')) := fun w' e => order_any (HD.out.ext (HE.out.trans e)) HWF.out
      have HL : Hid (∀ w', Ext W1 w' → Calls Tryz.prog 68 #[dgv D p] w' (LsR (delL D) w')) := fun w' e => delays_any (HD.out.ext (HE.out.trans e)) (by omega)
      generalize ordL D = L1 at *
      generalize delL D = L2 at *
      go_upto_region 18 with (go_at_call 66; (with_reducible refine HAI.out.mono ?_); rintro e w1 ⟨rfl, hb1⟩)
      have HX1 := Lib.hid (HXb.out.trans hb1)
      have HS : Hid (∀ w', Ext w1 w' → w'.cell? ⟨w.heap.size, 0, none⟩ = some (.slice p.AI D.ni p.cI) ∧ w'.cell? ⟨w.heap.size, 1, none⟩ = some (.slice p.AB D.nb p.cB) ∧ w'.cell? ⟨w.heap.size, 2, none⟩ = some (.slice p.AO D.no p.cO)) := fun w' e => by
       obtain ⟨c0, c1, c2⟩ := HBD.out.ext (HX1.out.trans e)
       exact ⟨c0, c1, c2⟩
      clear c0 c1 c2 hb1
      obtain ⟨c0, c1, c2⟩ := HS.out _ (Ext.refl _)
      have hwr : IntKind.i64.wrap ((L1.length : Int) + (L2.length : Int)) = (L1.length : Int) + (L2.length : Int) := IntWalk.i64_in _ (by omega)
      by_cases hcy : L1.length + L2.length < D.nb
      all_goals
       (first | rw [if_pos hcy] at HC | rw [if_neg hcy] at HC)
       (first | (have hcz : (L1.length : Int) + (L2.length : Int) < (D.nb : Int) := by omega) | (have hcz : ¬ (L1.length : Int) + (L2.length : Int) < (D.nb : Int) := by omega))
       go_region_held3 (fun w' => w'.cell? ⟨w.heap.size, 0, none⟩ = some (.slice p.AI D.ni p.cI) ∧ w'.cell? ⟨w.heap.size, 1, none⟩ = some (.slice p.AB D.nb p.cB) ∧ w'.cell? ⟨w.heap.size, 2, none⟩ = some (.slice p.AO D.no p.cO)) (first | with_reducible assumption | exact HS.out _ ex2)
        (first
         | (go_at_call 67; (with_reducible refine (HO.out _ (HX1.out.trans ex2)).mono ?_); rintro e5 w5 ⟨A5, k5, rfl, _, hx5⟩; obtain ⟨q0, q1, q2⟩ := HS.out w5 ex2)
         | (go_at_call 68; (with_reducible refine (HL.out _ (HX1.out.trans ex2)).mono ?_); rintro e6 w6 ⟨A6, k6, rfl, _, hx6⟩; obtain ⟨p0, p1, p2⟩ := HS.out w6 ex2))
       all_goals
        go_wp2_with fail
        go_ret
        exact ⟨by rw [HC.out]; rfl, HE.out.trans (HX1.out.trans ex2)⟩
     ·have HC := Lib.hid (chk_out H0.out HPo.out HBl.out hq)
      rw [show (fstE D.no (fun i => inE D.nb (D.O i)) == 0) = false by simpa using hq] at HAI
      clear hq
      go_wp2_with (go_at_call 66; (with_reducible refine HAI.out.mono ?_); rintro e w1 ⟨rfl, hb1⟩)
      go_ret
      exact ⟨by rw [HC.out]; rfl, HE.out.trans (HXb.out.trans hb1)⟩
theorem check_any {w : World} {D : Dia} {p : Pl} (d : Dm w D p) (hT : Tabs w) : Calls Tryz.prog 21 #[dgv D p] w fun e w' => e = .returned (errv (chk D)) ∧ Ext w w' := by
 by_cases h : 16 < D.ni ∨ 64 < D.nb ∨ 16 < D.no
 ·rw [chk_large h]; exact check_large h d.li d.lb d.lo
 ·exact check_in d hT h
end
section
open Go Go.RowKit
def Rl (w : World) (A : Option Addr) (c : Nat) (L : List Nat) : Prop := Ri w A L.length (fun i => ((L.getD i 0 : Nat) : Int)) ∧ (A = none → c = 0)
theorem Rl.ext {w w' : World} {A : Option Addr} {c : Nat} {L : List Nat} (h : Rl w A c L) (e : Ext w w') : Rl w' A c L := ⟨h.1.ext e, h.2⟩
theorem OwL.rl {w : World} {base c : Nat} {A : Option Addr} {L : List Nat} (h : OwL w base A c L) : Rl w A c L := ⟨h.ri, fun hA => by
 obtain ⟨_, ⟨e, h0⟩ | ⟨g, cap, cur, e, _⟩⟩ := h
 ·injection e
 ·subst hA; injection e with e1; cases e1⟩
end
section
open Go Go.RowKit
end
end
section
section
open Go Go.RowKit
structure RN where
 neg : Bool
 A : Option Addr
 n : Nat
 c : Nat
 den : Int
abbrev RN.v (r : RN) : Value := dv r.neg r.A r.n r.c r.den
def RN.z : RN := ⟨false, none, 0, 0, 0⟩
def cnR (d : DV) (A : Option Addr) (c : Nat) : RN := ⟨d.neg, A, len d.m, c, d.den⟩
structure Cn (w : World) (r : RN) (d : DV) : Prop where
 eq : r = cnR d r.A r.c
 rd : Rd w r.A (len d.m) (dg d.m)
 sl : SlOk r.A (len d.m) r.c
 ok : d.ok
 lim : len d.m ≤ 16777216
theorem Cn.ext {w w' : World} {r : RN} {d : DV} (h : Cn w r d) (e : Ext w w') : Cn w' r d := ⟨h.eq, h.rd.ext e, h.sl, h.ok, h.lim⟩
theorem Cn.neg {w : World} {r : RN} {d : DV} (h : Cn w r d) : r.neg = d.neg := by rw [h.eq]; rfl
theorem Cn.n {w : World} {r : RN} {d : DV} (h : Cn w r d) : r.n = len d.m := by rw [h.eq]; rfl
theorem Cn.den {w : World} {r : RN} {d : DV} (h : Cn w r d) : r.den = d.den := by rw [h.eq]; rfl
theorem Cn.dy {w : World} {r : RN} {d : DV} (h : Cn w r d) : Dy w r.neg r.A r.n r.c r.den d r.A r.c := by
 have := Dy.valid h.rd h.sl h.ok h.lim
 rw [h.neg, h.n, h.den]; exact this
theorem Cn.of {w : World} {d : DV} {A : Option Addr} {c : Nat} (hr : Rd w A (len d.m) (dg d.m)) (sl : SlOk A (len d.m) c) (ok : d.ok) (hl : len d.m ≤ 16777216) : Cn w (cnR d A c) d := ⟨rfl, hr, sl, ok, hl⟩
theorem Cn.on {w : World} {d : DV} {A : Option Addr} {b c : Nat} (h : On w b A (len d.m) c (dg d.m)) (ok : d.ok) (hl : len d.m ≤ 16777216) : Cn w (cnR d A c) d := Cn.of h.rd h.ok ok hl
theorem Cn.z (w : World) : Cn w RN.z DV.zero := ⟨by unfold RN.z cnR; rw [zero_len]; rfl, by rw [zero_len]; exact Rd.none_, by rw [zero_len]; exact ⟨Nat.le_refl _, Nat.zero_le _, fun _ => ⟨rfl, rfl⟩⟩, DV.zero_ok, by rw [zero_len]; omega⟩
theorem Cn.fr {w w' : World} {r : RN} {d : DV} {g : Nat} (h : Cn w r d) (e : w.grownBy w' (some g)) (hne : 0 < len d.m → ∀ a, r.A = some a → a.block ≠ g) : Cn w' r d :=
 ⟨h.eq, fun hn => h.rd.fr e (hne hn) hn, h.sl, h.ok, h.lim⟩
def Rn (w : World) (A : Option Addr) (n : Nat) (R : Nat → RN) : Prop :=
 0 < n → ∃ b o, A = some ⟨b, o, none⟩ ∧ b < w.heap.size ∧ ∀ i, i < n → w.cell? ⟨b, o + i * 3, none⟩ = some (.bool (R i).neg) ∧ w.cell? ⟨b, o + i * 3 + 1, none⟩ = some (.slice (R i).A (R i).n (R i).c) ∧ w.cell? ⟨b, o + i * 3 + 2, none⟩ = some (I (R i).den)
theorem Rn.none_ {w : World} {A : Option Addr} {R : Nat → RN} : Rn w A 0 R := fun h => absurd h (by omega)
theorem Rn.ext {w w' : World} {A : Option Addr} {n : Nat} {R : Nat → RN} (h : Rn w A n R) (e : Ext w w') : Rn w' A n R := fun hn => by
 obtain ⟨b, o, h1, hb, hc⟩ := h hn
 exact ⟨b, o, h1, Nat.lt_of_lt_of_le hb e.size, fun i hi => by
  obtain ⟨c0, c1, c2⟩ := hc i hi
  exact ⟨(e.old.1 _ _ hb).trans c0, (e.old.1 _ _ hb).trans c1, (e.old.1 _ _ hb).trans c2⟩⟩
structure Ln (w : World) (A : Option Addr) (n : Nat) (R : Nat → RN) (V : Nat → DV) : Prop where
 rn : Rn w A n R
 el : ∀ i, i < n → Cn w (R i) (V i)
theorem Ln.ext {w w' : World} {A : Option Addr} {n : Nat} {R : Nat → RN} {V : Nat → DV} (h : Ln w A n R V) (e : Ext w w') : Ln w' A n R V := ⟨h.rn.ext e, fun i hi => (h.el i hi).ext e⟩
theorem Ln.congr {w : World} {A : Option Addr} {n : Nat} {R : Nat → RN} {V V' : Nat → DV} (h : Ln w A n R V) (e : ∀ i, i < n → V i = V' i) : Ln w A n R V' := ⟨h.rn, fun i hi => by rw [← e i hi]; exact h.el i hi⟩
theorem Ln.none_ {w : World} {A : Option Addr} {R : Nat → RN} {V : Nat → DV} : Ln w A 0 R V := ⟨Rn.none_, fun i hi => absurd hi (by omega)⟩
def nc1 (r : RN) : List Value := [.bool r.neg, .slice r.A r.n r.c, I r.den]
def rcv (R : Nat → RN) (j : Nat) : Value := if j % 3 = 0 then .bool (R (j / 3)).neg else if j % 3 = 1 then .slice (R (j / 3)).A (R (j / 3)).n (R (j / 3)).c else I (R (j / 3)).den
def putR (R : Nat → RN) (i : Nat) (r : RN) : Nat → RN := fun j => if j = i then r else R j
def putD (V : Nat → DV) (i : Nat) (x : DV) : Nat → DV := fun j => if j = i then x else V j
theorem infoDy : (Tryz.prog.info? 56).map (fun i => (i.zero.map (fun z => z.cells), i.size, i.bytes)) = some (some #[.bool false, .slice none 0 0, I 0], 3, 40) := by kernel_rfl
theorem infoDy' : ∃ i z, Tryz.prog.info? 56 = some i ∧ i.zero = some z ∧ i.size = 3 ∧ i.bytes = 40 ∧ z.cells = #[.bool false, .slice none 0 0, I 0] := by
 have h := infoDy
 cases hi : Tryz.prog.info? 56 with
 | none => rw [hi] at h; cases h
 | some i =>
  rw [hi] at h
  simp only [Option.map_some, Option.some.injEq, Prod.mk.injEq] at h
  obtain ⟨h1, h2, h3⟩ := h
  cases hz : i.zero with
  | none => rw [hz] at h1; cases h1
  | some z =>
   rw [hz] at h1
   exact ⟨i, z, rfl, hz, h2, h3, by simpa using h1⟩
theorem run_makeN (w : World) (n : Nat) (hn : n ≤ 100000) : (Instr.makeSlice 53 (I n) (I n)).run Tryz.prog w = .ok (.slice (some ⟨w.heap.size, 0, none⟩) n n) (w.alloc (.cells (madeCells #[.bool false, .slice none 0 0, I 0] (n * 3)) 56)) := by
 obtain ⟨i, z, hi, hz, h1, hb, hzs⟩ := infoDy'
 have hr := run_make (P := Tryz.prog) w 53 56 i z Tryz.underlying53 hi hz .i64 .i64 n n (by omega) (Int.le_refl _) (by rw [hb]; omega) (by omega)
 simp only [Int.toNat_natCast, h1, hzs] at hr
 exact hr
theorem rowIs_madeN (w : World) (n : Nat) (t : TypeId) {g : Nat} (hg : g = w.heap.size) : (w.alloc (.cells (madeCells #[.bool false, .slice none 0 0, I 0] (n * 3)) t)).rowIs g t (n * 3) (rcv fun _ => RN.z) := by
 subst hg
 have h := World.rowIs_alloc w (madeCells #[.bool false, .slice none 0 0, I 0] (n * 3)) t (rcv fun _ => RN.z) (fun i hi => by
  rw [size_madeCells] at hi
  unfold madeCells rcv
  have h3 : i % 3 = 0 ∨ i % 3 = 1 ∨ i % 3 = 2 := by omega
  rcases h3 with h | h | h <;> simp [hi, h, RN.z])
 rw [size_madeCells] at h
 exact h
structure LvM (w : World) (g n : Nat) (R : Nat → RN) (V : Nat → DV) : Prop where
 row : w.rowIs g 56 (n * 3) (rcv R)
 el : ∀ i, i < n → Cn w (R i) (V i)
 ne : ∀ i, i < n → 0 < len (V i).m → ∀ a, (R i).A = some a → a.block ≠ g
theorem LvM.ext {w w' : World} {g n : Nat} {R : Nat → RN} {V : Nat → DV} (h : LvM w g n R V) (e : Ext w w') : LvM w' g n R V := ⟨h.row.of_block (e.block g h.row.lt), fun i hi => (h.el i hi).ext e, h.ne⟩
theorem LvM.congr {w : World} {g n : Nat} {R : Nat → RN} {V V' : Nat → DV} (h : LvM w g n R V) (e : ∀ i, i < n → V i = V' i) : LvM w g n R V' := ⟨h.row, fun i hi => by rw [← e i hi]; exact h.el i hi, fun i hi => by rw [← e i hi]; exact h.ne i hi⟩
theorem LvM.new (w : World) (n : Nat) {g : Nat} (hg : g = w.heap.size) : LvM (w.alloc (.cells (madeCells #[.bool false, .slice none 0 0, I 0] (n * 3)) 56)) g n (fun _ => RN.z) (fun _ => DV.zero) :=
 ⟨rowIs_madeN w n _ hg, fun _ _ => Cn.z _, fun _ _ _ a h => by cases h⟩
theorem LvM.cells {w : World} {g n : Nat} {R : Nat → RN} {V : Nat → DV} (h : LvM w g n R V) {i : Nat} (hi : i < n) :
  w.cell? ⟨g, i * 3, none⟩ = some (.bool (R i).neg) ∧ w.cell? ⟨g, i * 3 + 1, none⟩ = some (.slice (R i).A (R i).n (R i).c) ∧ w.cell? ⟨g, i * 3 + 2, none⟩ = some (I (R i).den) := by
 have a := h.row.cell (i := i * 3) (by omega)
 have b := h.row.cell (i := i * 3 + 1) (by omega)
 have c := h.row.cell (i := i * 3 + 2) (by omega)
 unfold rcv at a b c
 rw [if_pos (by omega), show i * 3 / 3 = i by omega] at a
 rw [if_neg (by omega), if_pos (by omega), show (i * 3 + 1) / 3 = i by omega] at b
 rw [if_neg (by omega), if_neg (by omega), show (i * 3 + 2) / 3 = i by omega] at c
 exact ⟨a, b, c⟩
theorem LvM.frozen {w : World} {g n : Nat} {R : Nat → RN} {V : Nat → DV} (h : LvM w g n R V) (i : Nat) : w.frozen? ⟨g, i, none⟩ = false := h.row.frozen i
theorem LvM.ln {w : World} {g n : Nat} {R : Nat → RN} {V : Nat → DV} (h : LvM w g n R V) : Ln w (some ⟨g, 0, none⟩) n R V :=
 ⟨fun _ => ⟨g, 0, rfl, h.row.lt, fun i hi => by rw [Nat.zero_add]; exact h.cells hi⟩, h.el⟩
abbrev st3 (w : World) (g i : Nat) (r : RN) : World := ((w.setCell ⟨g, i * 3, none⟩ (.bool r.neg)).setCell ⟨g, i * 3 + 1, none⟩ (.slice r.A r.n r.c)).setCell ⟨g, i * 3 + 2, none⟩ (I r.den)
theorem st3_fr (w : World) (g i : Nat) (r : RN) : w.grownBy (st3 w g i r) (some g) := fr_trans (fr_trans (fr_set _ _ _ _) (fr_set _ _ _ _)) (fr_set _ _ _ _)
theorem st3_ext {W w : World} (g i : Nat) (r : RN) (e : Ext W w) (hg : W.heap.size ≤ g) : Ext W (st3 w g i r) := ext_fr e (st3_fr w g i r) hg
theorem LvM.put {w : World} {g n : Nat} {R : Nat → RN} {V : Nat → DV} (h : LvM w g n R V) (i : Nat) (r : RN) (d : DV) (c : Cn w r d) (hne : 0 < len d.m → ∀ a, r.A = some a → a.block ≠ g) : LvM (st3 w g i r) g n (putR R i r) (putD V i d) := by
 refine ⟨(((h.row.set (i * 3) _).set (i * 3 + 1) _).set (i * 3 + 2) _).congr fun j _ => ?_, fun j hj => ?_, fun j hj => ?_⟩
 ·unfold rcv putR
  by_cases h2 : j = i * 3 + 2
  ·subst h2
   rw [if_pos rfl, if_neg (by omega), if_neg (by omega), show (i * 3 + 2) / 3 = i by omega, if_pos rfl]
  ·rw [if_neg h2]
   by_cases h1 : j = i * 3 + 1
   ·subst h1
    rw [if_pos rfl, if_neg (by omega), if_pos (by omega), show (i * 3 + 1) / 3 = i by omega, if_pos rfl]
   ·rw [if_neg h1]
    by_cases h0 : j = i * 3
    ·subst h0
     rw [if_pos rfl, if_pos (by omega), show i * 3 / 3 = i by omega, if_pos rfl]
    ·have hq : ¬ j / 3 = i := by omega
     rw [if_neg h0]; simp only [if_neg hq]
 ·have a := (h.el j hj).fr (st3_fr w g i r) (h.ne j hj)
  unfold putR putD
  by_cases e : j = i
  ·rw [if_pos e, if_pos e]; exact c.fr (st3_fr w g i r) hne
  ·rw [if_neg e, if_neg e]; exact a
 ·unfold putR putD
  by_cases e : j = i
  ·rw [if_pos e, if_pos e]; exact hne
  ·rw [if_neg e, if_neg e]; exact h.ne j hj
def LvR (n : Nat) (V : Nat → DV) (w : World) (e : Ending) (w' : World) : Prop := ∃ g R, e = .returned (.slice (some ⟨g, 0, none⟩) n n) ∧ LvM w' g n R V ∧ w.heap.size ≤ g ∧ (∀ i, i < n → ∀ a, (R i).A = some a → w.heap.size ≤ a.block) ∧ Ext w w'
def ncs (R : Nat → RN) : Nat → List Value
 | 0 => []
 | i + 1 => ncs R i ++ nc1 (R i)
theorem nc1_len (r : RN) : (nc1 r).length = 3 := rfl
theorem ncs_len (R : Nat → RN) (i : Nat) : (ncs R i).length = i * 3 := by
 induction i with
 | zero => rfl
 | succ i ih => show (ncs R i ++ nc1 (R i)).length = _; rw [List.length_append, ih, nc1_len]; omega
theorem ncs_get {R : Nat → RN} {n i j : Nat} (hi : i < n) (hj : j < 3) : (ncs R n)[i * 3 + j]? = (nc1 (R i))[j]? := by
 induction n with
 | zero => omega
 | succ n ih =>
  show (ncs R n ++ nc1 (R n))[i * 3 + j]? = _
  by_cases e : i = n
  ·subst e
   rw [List.getElem?_append_right (by rw [ncs_len]; omega), ncs_len]
   congr 1; omega
  ·rw [List.getElem?_append_left (by rw [ncs_len]; omega)]; exact ih (by omega)
theorem ncs_congr {R R' : Nat → RN} {n : Nat} (h : ∀ i, i < n → R i = R' i) : ncs R n = ncs R' n := by
 induction n with
 | zero => rfl
 | succ n ih => show ncs R n ++ nc1 (R n) = ncs R' n ++ nc1 (R' n); rw [ih fun i hi => h i (by omega), h n (by omega)]
def OwN (w : World) (base : Nat) (A : Option Addr) (c : Nat) (R : Nat → RN) (n : Nat) : Prop := w.ownsRow base 56 3 (.slice A n c) n (ncs R n)
theorem OwN.nil (w : World) (base : Nat) (R : Nat → RN) : OwN w base none 0 R 0 := World.ownsRow_nil _ _ _ _
theorem OwN.lt {w : World} {base c n : Nat} {A : Option Addr} {R : Nat → RN} (h : OwN w base A c R n) : ∀ k, (Value.slice A n c).ownBlock = some k → base ≤ k ∧ k < w.heap.size := World.ownsRow.lt h
theorem OwN.ext {w w' : World} {base c n : Nat} {A : Option Addr} {R : Nat → RN} (h : OwN w base A c R n) (e : Ext w w') : OwN w' base A c R n :=
 World.ownsRow.kept h (ext_gr e) (by cases (Value.slice A n c).ownBlock <;> simp)
theorem OwN.off {w w' : World} {base c g n : Nat} {A : Option Addr} {R : Nat → RN} (h : OwN w base A c R n) (e : w.grownBy w' (some g)) (hg : g < base) : OwN w' base A c R n := by
 refine World.ownsRow.kept h e ?_
 cases hv : (Value.slice A n c).ownBlock with
 | none => simp
 | some k => right; have := (h.lt k hv).1; intro e; injection e with e; omega
theorem OwN.congr {w : World} {base c n : Nat} {A : Option Addr} {R R' : Nat → RN} (h : OwN w base A c R n) (e : ∀ i, i < n → R i = R' i) : OwN w base A c R' n := by
 unfold OwN at h ⊢; rw [← ncs_congr e]; exact h
theorem OwN.rn {w : World} {base c n : Nat} {A : Option Addr} {R : Nat → RN} (h : OwN w base A c R n) : Rn w A n R := fun h0 => by
 have h' := h
 obtain ⟨_, ⟨e, hz⟩ | ⟨g, cap, cur, e, _⟩⟩ := h'
 ·omega
 ·injection e with e1 e2 e3
  subst e1
  refine ⟨g, 0, rfl, (World.ownsRow.lt h g rfl).2, fun i hi => ?_⟩
  rw [Nat.zero_add]
  have hc : ∀ j, j < 3 → w.cell? ⟨g, i * 3 + j, none⟩ = (nc1 (R i))[j]? := fun j hj => by
   rw [World.ownsRow.cellAt h (i * 3 + j) (by omega)]; exact ncs_get hi hj
  exact ⟨hc 0 (by omega), hc 1 (by omega), hc 2 (by omega)⟩
theorem OwN.blk {w : World} {base c n : Nat} {A : Option Addr} {R : Nat → RN} (h : OwN w base A c R n) : ∀ b o, A = some ⟨b, o, none⟩ → base ≤ b ∧ b < w.heap.size := fun b o hA => by
 have h' := h
 obtain ⟨_, ⟨e, _⟩ | ⟨g, cap, cur, e, _⟩⟩ := h'
 ·injection e with e1; rw [hA] at e1; cases e1
 ·injection e with e1 e2 e3
  rw [hA] at e1
  injection e1 with e1
  injection e1 with e1 e4
  subst e1; subst e4; subst hA
  exact World.ownsRow.lt h b rfl
theorem growN_ext {W w w' : World} {base c n : Nat} {A : Option Addr} {R : Nat → RN} (e : Ext W w) (h : OwN w base A c R n) (hb : W.heap.size ≤ base) (hg : w.grownBy w' (Value.slice A n c).ownBlock) : Ext W w' :=
 Below.grown e hg e.size (fun k hk => Nat.le_trans hb (h.lt k hk).1)
theorem appN {ops : Array Oper} {rest : List Oper} {o : Oper} {a : Act} {w : World} {Q : Exit → Act → World → Prop} (hgd : o.guard = none) (s x : Operand) (ho : o.op = .call { callee := .builtin .append, args := #[s, x], argTypes := #[53, 53] })
  (base : Nat) (A : Option Addr) (c : Nat) (R : Nat → RN) (n : Nat) (hs : a.eval s = .slice A n c) (hown : OwN w base A c R n) (ad : Addr) (cx : Nat) (hx : a.eval x = .slice (some ad) 1 cx) (hv : ∀ j u, (nc1 (R n))[j]? = some u → w.cell? (ad.add j) = some u)
  (hn : n ≤ 1099511627) (hbase : base ≤ w.heap.size)
  (h : ∀ g cap w', OwN w' base (some ⟨g, 0, none⟩) cap R (n + 1) → w.grownBy w' (Value.slice A n c).ownBlock → ((Value.slice A n c).ownBlock = some g ∨ g = w.heap.size) → g < w'.heap.size →
   wpList Tryz.prog ops Q rest (a.put o.dst (.slice (some ⟨g, 0, none⟩) (n + 1) cap)) w') : wpList Tryz.prog ops Q (o :: rest) a w := by
 obtain ⟨i, z, hi, hz, h1, hb, hzs⟩ := infoDy'
 exact wpList_append_lies w hgd s x _ ho base 56 i z 3 40 Tryz.underlying53 hi hz h1 hb (by rw [hzs]; rfl) (by omega) _ n _ hs hown ad 1 cx (nc1 (R n)) hx (nc1_len _) hv
  (by intro u hu; simp only [nc1, List.mem_cons, List.not_mem_nil, or_false] at hu; rcases hu with rfl | rfl | rfl <;> rfl) (by omega) (by unfold maxLen; omega) (by omega) hbase w.heap.size rfl h
theorem DyRes.cn {d : DV} {w : World} {e : Ending} {w' : World} (h : DyRes d w e w') (ok : d.ok) (hl : len d.m ≤ 16777216) : ∃ A c, e = .returned (cnR d A c).v ∧ Cn w' (cnR d A c) d ∧ (∀ a, A = some a → w.heap.size ≤ a.block) ∧ Ext w w' := by
 obtain ⟨A, c, he, hon, hx⟩ := h
 refine ⟨A, c, he, Cn.on hon ok hl, fun a ha => ?_, hx⟩
 obtain ⟨e, _⟩ | ⟨g', e, hr⟩ := hon.cases
 ·rw [e] at ha; cases ha
 ·rw [e] at ha; injection ha with ha; subst ha; exact hr.lt.1
structure BuM (W w : World) (g m : Nat) (R : Nat → RN) (V : Nat → DV) : Prop where
 ext : Ext W w
 old : W.heap.size ≤ g
 lv : LvM w g m R V
 nw : ∀ i, i < m → ∀ a, (R i).A = some a → W.heap.size ≤ a.block
theorem BuM.to {W w w' : World} {g m : Nat} {R : Nat → RN} {V : Nat → DV} (h : BuM W w g m R V) (e : Ext w w') : BuM W w' g m R V := ⟨h.ext.trans e, h.old, h.lv.ext e, h.nw⟩
theorem BuM.congr {W w : World} {g m : Nat} {R : Nat → RN} {V V' : Nat → DV} (h : BuM W w g m R V) (e : ∀ i, i < m → V i = V' i) : BuM W w g m R V' := ⟨h.ext, h.old, h.lv.congr e, h.nw⟩
theorem BuM.new {W w : World} (m : Nat) {g : Nat} (e : Ext W w) (hg : g = w.heap.size) : BuM W (w.alloc (.cells (madeCells #[.bool false, .slice none 0 0, I 0] (m * 3)) 56)) g m (fun _ => RN.z) (fun _ => DV.zero) :=
 ⟨e.trans (Ext.alloc _ _), by rw [hg]; exact e.size, LvM.new w m hg, fun _ _ a h => by cases h⟩
theorem BuM.put {W w w1 : World} {g m : Nat} {R : Nat → RN} {V : Nat → DV} (h : BuM W w g m R V) (e : Ext w w1) (i : Nat) (d : DV) (A : Option Addr) (c : Nat) (cn : Cn w1 (cnR d A c) d) (hA : ∀ a, A = some a → w.heap.size ≤ a.block) :
  BuM W (st3 w1 g i (cnR d A c)) g m (putR R i (cnR d A c)) (putD V i d) := by
 have hgl := h.lv.row.lt
 have hsz := h.ext.size
 refine ⟨st3_ext g i _ (h.ext.trans e) h.old, h.old, (h.lv.ext e).put i _ d cn fun _ a ha => ?_, fun j hj a ha => ?_⟩
 ·have := hA a ha; omega
 ·unfold putR at ha
  by_cases q : j = i
  ·rw [if_pos q] at ha; have := hA a ha; omega
  ·rw [if_neg q] at ha; exact h.nw j hj a ha
def upto (F : Nat → DV) (j : Nat) : Nat → DV := fun k => if k < j then F k else DV.zero
theorem upto_put (F : Nat → DV) (j : Nat) (i : Nat) : putD (upto F j) j (F j) i = upto F (j + 1) i := by
 unfold putD upto
 by_cases e : i = j
 ·subst e; rw [if_pos rfl, if_pos (by omega)]
 ·rw [if_neg e]
  by_cases q : i < j
  ·rw [if_pos q, if_pos (by omega)]
  ·rw [if_neg q, if_neg (by omega)]
theorem upto_end {F : Nat → DV} {m i : Nat} (h : i < m) : upto F m i = F i := if_pos h
theorem BuM.lvr {W w : World} {g m : Nat} {R : Nat → RN} {F : Nat → DV} (h : BuM W w g m R (upto F m)) : LvR m F W (.returned (.slice (some ⟨g, 0, none⟩) m m)) w :=
 ⟨g, R, rfl, h.lv.congr fun _ hi => upto_end hi, h.old, h.nw, h.ext⟩
end
end
end Go.Proofs.YtgnngldlgcdnfaaGreatDoor
