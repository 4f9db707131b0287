import Derived.Test.YtgnngldlgcdnfaaGreatDoorQbg
import Derived.Deep.AppendLies
namespace Go.Proofs.YtgnngldlgcdnfaaGreatDoor
section
open Go Go.RowKit
theorem Rd.gr {w w' : World} {A : Option Addr} {n : Nat} {f : Nat → Nat} {row : Option Nat} (h : Rd w A n f) (e : w.grownBy w' row) (hne : ∀ a, A = some a → some a.block ≠ row) : Rd w' A n f := fun hn => by
 obtain ⟨b, o, rfl, hb, hc⟩ := h hn
 have hbl := e.block b hb (hne _ rfl)
 exact ⟨b, o, rfl, Nat.lt_of_lt_of_le hb e.size, fun i hi => by rw [← hc i hi]; exact World.cell?_of_block (a := ⟨b, o + i, none⟩) hbl⟩
theorem Cn.gr {w w' : World} {r : RN} {d : DV} {row : Option Nat} (h : Cn w r d) (e : w.grownBy w' row) (hne : 0 < len d.m → ∀ a, r.A = some a → some a.block ≠ row) : Cn w' r d :=
 ⟨h.eq, fun hn => h.rd.gr e (hne hn) hn, h.sl, h.ok, h.lim⟩
theorem Cn.blk {w : World} {r : RN} {d : DV} (h : Cn w r d) (hl : 0 < len d.m) : ∀ a, r.A = some a → a.block < w.heap.size := fun a ha => by
 obtain ⟨b, o, e, hb, _⟩ := h.rd hl
 rw [ha] at e; injection e with e; subst e; exact hb
structure NwM (W w : World) (base : Nat) (A : Option Addr) (c : Nat) (R : Nat → RN) (V : Nat → DV) (j : Nat) : Prop where
 ext : Ext W w
 bas : W.heap.size ≤ base
 blt : base ≤ w.heap.size
 own : OwN w base A c R j
 el : ∀ i, i < j → Cn w (R i) (V i)
 ne : ∀ i, i < j → 0 < len (V i).m → ∀ a, (R i).A = some a → some a.block ≠ (Value.slice A j c).ownBlock
theorem NwM.nil {W w : World} {base : Nat} (e : Ext W w) (h : W.heap.size ≤ base) (hb : base ≤ w.heap.size) (R : Nat → RN) (V : Nat → DV) : NwM W w base none 0 R V 0 :=
 ⟨e, h, hb, OwN.nil _ _ _, fun i hi => absurd hi (by omega), fun i hi => absurd hi (by omega)⟩
theorem NwM.to {W w w' : World} {base : Nat} {A : Option Addr} {c : Nat} {R : Nat → RN} {V : Nat → DV} {j : Nat} (h : NwM W w base A c R V j) (e : Ext w w') : NwM W w' base A c R V j :=
 ⟨h.ext.trans e, h.bas, Nat.le_trans h.blt e.size, h.own.ext e, fun i hi => (h.el i hi).ext e, h.ne⟩
theorem NwM.congr {W w : World} {base : Nat} {A : Option Addr} {c : Nat} {R : Nat → RN} {V V' : Nat → DV} {j : Nat} (h : NwM W w base A c R V j) (e : ∀ i, i < j → V i = V' i) : NwM W w base A c R V' j :=
 ⟨h.ext, h.bas, h.blt, h.own, fun i hi => by rw [← e i hi]; exact h.el i hi, fun i hi => by rw [← e i hi]; exact h.ne i hi⟩
theorem NwM.ln {W w : World} {base : Nat} {A : Option Addr} {c : Nat} {R : Nat → RN} {V : Nat → DV} {j : Nat} (h : NwM W w base A c R V j) : Ln w A j R V := ⟨h.own.rn, h.el⟩
theorem NwM.step {W w wb w' : World} {base g cap : Nat} {A : Option Addr} {c : Nat} {R : Nat → RN} {V : Nat → DV} {j : Nat} (h : NwM W w base A c R V j) (e : Ext w wb) (r : RN) (d : DV) (cn : Cn wb r d)
  (hne : 0 < len d.m → ∀ a, r.A = some a → some a.block ≠ (Value.slice A j c).ownBlock)
  (o : OwN w' base (some ⟨g, 0, none⟩) cap (putR R j r) (j + 1)) (hg : wb.grownBy w' (Value.slice A j c).ownBlock) (hat : (Value.slice A j c).ownBlock = some g ∨ g = wb.heap.size) :
  NwM W w' base (some ⟨g, 0, none⟩) cap (putR R j r) (putD V j d) (j + 1) := by
 have hb := h.bas
 refine ⟨growN_ext (h.ext.trans e) (h.own.ext e) hb hg, hb, Nat.le_trans h.blt (Nat.le_trans e.size hg.size), o, fun i hi => ?_, fun i hi hl a ha => ?_⟩
 ·unfold putR putD
  by_cases q : i = j
  ·rw [if_pos q, if_pos q]; exact cn.gr hg hne
  ·rw [if_neg q, if_neg q]; exact ((h.el i (by omega)).ext e).gr hg (h.ne i (by omega))
 ·have hown : (Value.slice (some ⟨g, 0, none⟩) (j + 1) cap).ownBlock = some g := rfl
  rw [hown]
  unfold putR at ha
  unfold putD at hl
  by_cases q : i = j
  ·rw [if_pos q] at ha hl
   rcases hat with hat | hat
   ·rw [← hat]; exact hne hl a ha
   ·have := cn.blk hl a ha
    intro q2; injection q2 with q2; omega
  ·rw [if_neg q] at ha hl
   rcases hat with hat | hat
   ·rw [← hat]; exact h.ne i (by omega) hl a ha
   ·have := ((h.el i (by omega)).ext e).blk hl a ha
    intro q2; injection q2 with q2; omega
theorem NwM.own' {W w wb : World} {base : Nat} {A : Option Addr} {c : Nat} {R : Nat → RN} {V : Nat → DV} {j : Nat} (h : NwM W w base A c R V j) (e : Ext w wb) (r : RN) : OwN wb base A c (putR R j r) j :=
 (h.own.ext e).congr fun i hi => (if_neg (by omega)).symm
theorem news3 {w : World} {g : Nat} {r : RN} {t : TypeId} (hg : g = w.heap.size) (R : Nat → RN) (j : Nat) : ∀ k u, (nc1 (putR R j r j))[k]? = some u → (w.alloc (.cells #[.bool r.neg, .slice r.A r.n r.c, I r.den] t)).cell? ((⟨g, 0, none⟩ : Addr).add k) = some u := fun k u h => by
 subst hg
 rw [show putR R j r j = r from if_pos rfl] at h
 match k, h with
 | 0, h => simp [nc1] at h; subst h; go_simp
 | 1, h => simp [nc1] at h; subst h; go_simp
 | 2, h => simp [nc1] at h; subst h; go_simp
 | k + 3, h => simp [nc1] at h
def LnR (n : Nat) (V : Nat → DV) (w : World) (e : Ending) (w' : World) : Prop := ∃ A c R, e = .returned (.slice A n c) ∧ Ln w' A n R V ∧ Ext w w'
set_option maxRecDepth 100000 in
set_option maxHeartbeats 1000000 in
theorem rstart_any {w : World} {D : Dia} {p : Pl} (d : Dm w D p) (ok : OkD D) : Calls Tryz.prog 63 #[dgv D p] w (LnR (delL D).length (s0S D) w) := by
 have hdl := del_le D
 have hnb := ok.nb
 obtain ⟨W1, hW1⟩ : ∃ W1, W1 = w.alloc (.cells #[.slice p.AI D.ni p.cI, .slice p.AB D.nb p.cB, .slice p.AO D.no p.cO] 26) := ⟨_, rfl⟩
 have hE : Ext w W1 := by rw [hW1]; exact Ext.alloc _ _
 have hbd : Bd W1 w.heap.size D p := by rw [hW1]; exact Bd.new _ _ _ _
 have HDL : Hid (∀ w', Ext W1 w' → Calls Tryz.prog 60 #[dgv D p] w' (LsR (delL D) w')) := fun w' e => rdelays_any (d.ext (hE.trans e)) (by omega)
 have HB := Lib.hid hbd; have HD := Lib.hid (d.ext hE); have OK := Lib.hid ok; have HE := Lib.hid hE
 obtain ⟨c0, c1, c2⟩ := hbd
 obtain ⟨ld, hld⟩ : ∃ ld, (delL D).length = ld := ⟨_, rfl⟩
 have HLD := Lib.hid hld
 rw [hld] at hdl ⊢
 clear d ok hE
 go_enter Tryz.func63, Tryz.ntmps63
 go_upto_region 1 with fail
 rw [← hW1]; clear hW1
 go_wp2_with (go_at_call 60; (with_reducible refine (HDL.out _ (Ext.refl _)).mono ?_); rintro e1 w1 hq; obtain ⟨Ad, cd, he, o1, h1⟩ := hq; rw [hld] at he; subst he; have HX1 := Lib.hid h1; have HO1 := Lib.hid o1.rl; clear h1 o1)
 clear hld c0 c1 c2
 go_loopw [3, 9] (fun s3 s wr => ∃ (j : Nat) (A : Option Addr) (c : Nat) (R : Nat → RN), j ≤ ld ∧ s = I j ∧ s3 = .slice A j c ∧ Hid (NwM w1 wr w1.heap.size A c R (upto (s0S D) j) j)) (fun _ s _ => ld - (intOf s).toNat)
 case atStart => exact ⟨0, none, 0, fun _ => RN.z, Nat.zero_le _, rfl, rfl, NwM.nil (Ext.refl _) (Nat.le_refl _) (Nat.le_refl _) _ _⟩
 case round =>
  obtain ⟨j, A, c, R, hj, rfl, rfl, H⟩ := hrel
  by_cases hlt : j < ld
  ·have hj' : j < (delL D).length := by rw [HLD.out]; exact hlt
   obtain ⟨bd, od, hbd, hbld, hcd⟩ := (HO1.out.ext H.out.ext).1 (by omega)
   have xd := hcd j hj'
   obtain ⟨x, hxd⟩ : ∃ x, (delL D).getD j 0 = x := ⟨_, rfl⟩
   have hx := del_at hj'
   simp only [hxd] at xd hx
   have hXr := HX1.out.trans H.out.ext
   obtain ⟨b, o, hb, hbl, hc⟩ := (HD.out.ext hXr).blocks (by omega)
   obtain ⟨x0, x1, x2, x3, x4, x5⟩ := hc x hx.1
   have k1 := (HB.out.ext hXr).c1
   have hv := OK.out.val hx.1 (by have := hx.2; unfold isD at this; unfold usesV; simp at this; simp [this])
   have HNB : Hid (∀ w', Calls Tryz.prog 37 #[.agg #[I (D.B x).vn, I (D.B x).ve]] w' (DyRes (s0S D j) w')) := fun w' => by
    have := rvalue_any (D.B x).vn (D.B x).ve w' hv.1 hv.2.1 hv.2.2.1 hv.2.2.2
    unfold s0S; rw [hxd]; exact this
   have HOK : Hid ((s0S D j).ok ∧ len (s0S D j).m ≤ 16777216) := by
    have := nmS_len (n := (D.B x).vn) (e := (D.B x).ve) hv.1 hv.2.1 hv.2.2.2
    unfold s0S; rw [hxd]; exact ⟨nmS_ok _ _, this.2⟩
   have HUP : Hid (∀ i, putD (upto (s0S D) j) j (s0S D j) i = upto (s0S D) (j + 1) i) := upto_put (s0S D) j
   have hlt' : (j : Int) < (ld : Int) := by omega
   have hxl : (x : Int) < (D.nb : Int) := by omega
   have hblt := H.out.blt
   clear hc hcd hx hv hj' hXr
   go_wp2_with (first
    | (go_at_call 37; (with_reducible refine (HNB.out _).mono ?_); rintro e1 w2 hr; obtain ⟨A1, y1, rfl, cn1, hA1, hx1⟩ := hr.cn HOK.out.1 HOK.out.2; have CN1 := Lib.hid cn1; have HA1 := Lib.hid hA1; have HX2 := Lib.hid hx1; have hsz2 := hx1.size; clear hr cn1 hA1 hx1)
    | (at_builtin; refine appN rfl _ _ rfl w1.heap.size A c (putR R j (cnR (s0S D j) A1 y1)) j rfl (H.out.own' (HX2.out.trans (Ext.alloc _ _)) _) _ _ rfl (news3 rfl R j) (by omega) (by simp; omega) ?_; intro g cap w3 hown hgrow hat hltg; have HN := Lib.hid (H.out.step (HX2.out.trans (Ext.alloc _ _)) _ _ (CN1.out.ext (Ext.alloc _ _)) (fun _ a ha q => by have h1 := HA1.out a ha; have h2 := (H.out.own.lt a.block q.symm).2; omega) hown hgrow hat); clear hown hgrow hat hltg))
   (try rw [← hb])
   (try rw [← hbd])
   go_roundw
   case rel => exact ⟨j + 1, _, _, _, by omega, by go_num, rfl, HN.out.congr fun i _ => HUP.out i⟩
   case measure => simp [intOf]; omega
  ·obtain rfl : j = ld := by omega
   go_wp2_with fail
   go_ret
   exact ⟨A, c, R, rfl, H.out.ln.congr fun i hi => upto_end hi, HE.out.trans (HX1.out.trans H.out.ext)⟩
end
section
open Go Go.RowKit
attribute [local go_sem ↓] Go.wp_at_zero Go.wp_at_succ
def REv (D : Dia) (V : Nat → IV) (w : World) (e : Ending) (w' : World) : Prop := ∃ B cB R2, e = .returned (.tuple #[.slice B D.nb cB, I 0]) ∧ LnI w' B D.nb R2 V ∧ Ext w w'
theorem s0_len {D : Dia} {n j : Nat} (hn : n = (delL D).length) (ok : OkD D) (hj : j < n) : len (s0S D j).m ≤ 4194304 := by
 have h := (ok.shr (del_at (by omega : j < (delL D).length)).1).1.len
 unfold s0S
 omega
set_option maxRecDepth 100000 in
set_option maxHeartbeats 1000000 in
theorem rClosed_err {w : World} {D : Dia} {p : Pl} {Ai : Option Addr} {n ci : Nat} (cd : Int) (hc : cd ≠ 0) (hev : ∀ w', Ext w w' → Calls Tryz.prog 18 #[dgv D p, .slice Ai n ci] w' fun e w'' => ∃ A k c, e = .returned (.tuple #[.slice A k c, I cd]) ∧ Ext w' w'') :
  Calls Tryz.prog 19 #[dgv D p, .slice Ai n ci] w fun e w' => e = .returned (.tuple #[.bool false, I cd]) ∧ Ext w w' := by
 have HV := Lib.hid hev
 have hc1 : (cd == 0) = false := by simp [hc]
 have hc2 : (cd != 0) = true := by simp [hc]
 have hc3 : decide (cd = 0) = false := decide_eq_false hc
 clear hev
 go_enter Tryz.func19, Tryz.ntmps19
 go_wp2_with (go_at_call 18; (with_reducible refine (HV.out _ (Ext.alloc _ _)).mono ?_); rintro e1 w1 ⟨A, k, c, rfl, h1⟩; have HX1 := Lib.hid ((Ext.alloc _ _).trans h1); clear h1)
 go_ret2
 exact ⟨rfl, HX1.out⟩
set_option maxRecDepth 100000 in
set_option maxHeartbeats 8000000 in
theorem rClosed_ok {w : World} {D : Dia} {p : Pl} {Ai : Option Addr} {n ci : Nat} {R : Nat → RI} {S : Nat → IV} (d : Dm w D p) (ok : OkD D) (rs : LnI w Ai n R S) (hn : n = (delL D).length)
    (hev : ∀ w', Ext w w' → Calls Tryz.prog 18 #[dgv D p, .slice Ai n ci] w' (REv D (tkI D S) w')) :
    Calls Tryz.prog 19 #[dgv D p, .slice Ai n ci] w fun e w' => e = .returned (.tuple #[.bool (clB D n S), I 0]) ∧ Ext w w' := by
  have HV := Lib.hid hev
  have HST : Hid (∀ w', Ext w w' → Calls Tryz.prog 63 #[dgv D p] w' (LnR n (s0S D) w')) := fun w' e => by rw [hn]; exact rstart_any (d.ext e) ok
  have HDL : Hid (∀ w', Ext w w' → Calls Tryz.prog 60 #[dgv D p] w' (fun e w'' => ∃ A c, e = .returned (.slice A n c) ∧ Rl w'' A c (delL D) ∧ Ext w' w'')) := fun w' e => (rdelays_any (d.ext e) (by have := ok.nb; omega)).mono fun e w'' hh => by
    obtain ⟨A, c, he, ho, hx⟩ := hh
    rw [← hn] at he
    exact ⟨A, c, he, ho.rl, hx⟩
  have HSL : Hid (∀ j, j < n → sdI D j < D.nb) := fun j hj => sdI_lt ok (by omega)
  have hnm : n ≤ 100000 := by have := del_le D; have := ok.nb; omega
  have HRS := Lib.hid rs; have HD := Lib.hid d; have OK := Lib.hid ok; have HN := Lib.hid hn
  obtain ⟨v, hv⟩ : ∃ v, clB D n S = v := ⟨_, rfl⟩
  have HVV := Lib.hid hv
  rw [hv]
  have X1 := Lib.hid (St.new w (.slice p.AI D.ni p.cI) (.slice p.AB D.nb p.cB) (.slice p.AO D.no p.cO) 26)
  have X0 := Lib.hid (Ext.alloc w (.cells #[.slice p.AI D.ni p.cI, .slice p.AB D.nb p.cB, .slice p.AO D.no p.cO] 26))
  clear d ok rs hev hv hn
  obtain ⟨a0, a1, a2⟩ := X1.out
  generalize hW : w.alloc (.cells #[.slice p.AI D.ni p.cI, .slice p.AB D.nb p.cB, .slice p.AO D.no p.cO] 26) = W0 at *
  go_enter Tryz.func19, Tryz.ntmps19
  go_upto_region 1 with fail
  (try rw [hW])
  clear hW
  go_upto_region 6 with (first
    | (go_at_call 60; (with_reducible refine (HDL.out _ (X0.out.trans Y2.out)).mono ?_); rintro e w3 ⟨Ad, cd, rfl, rd, hx⟩; have HRD := Lib.hid rd; have Z3 := Lib.hid hx; have Y3 := Lib.hid (Y2.out.trans hx); clear rd hx a0 a1 a2)
    | (go_at_call 63; (with_reducible refine (HST.out _ (X0.out.trans Y1.out)).mono ?_); rintro e w2 ⟨As, cs', Rs, rfl, ls, hx⟩; have HLS := Lib.hid ls; have Z2 := Lib.hid hx; have Y2 := Lib.hid (Y1.out.trans hx); clear ls hx a0 a1 a2; obtain ⟨a0, a1, a2⟩ := X1.out.ext Y2.out)
    | (go_at_call 18; (with_reducible refine (HV.out _ X0.out).mono ?_); rintro e w1 ⟨B, cB, R2, rfl, lv, hx⟩; have HLV := Lib.hid lv; have Y1 := Lib.hid hx; clear lv hx a0 a1 a2; obtain ⟨a0, a1, a2⟩ := X1.out.ext Y1.out))
  have HL2 := Lib.hid (HLV.out.ext (Z2.out.trans Z3.out))
  have HS2 := Lib.hid (HLS.out.ext Z3.out)
  have HX2 := Lib.hid (X0.out.trans Y3.out)
  have HB2 := Lib.hid (X1.out.ext Y3.out)
  clear HLV HLS Z2 Z3 Y1 Y2 HV HST HDL Y3 X0 X1
  go_loopw [25] (fun s wr => ∃ j : Nat, j ≤ n ∧ s = I j ∧ Ext w3 wr ∧ Hid (∀ k, k < j → clK D S k = true)) (fun s _ => n - (intOf s).toNat)
  case atStart => exact ⟨0, Nat.zero_le _, rfl, Ext.refl _, fun k hk => absurd hk (by omega)⟩
  case round =>
    obtain ⟨j, hj, rfl, hx, HG⟩ := hrel
    by_cases hlt : j < n
    · have hjl : j < (delL D).length := by have := HN.out; omega
      obtain ⟨hx0, hd⟩ := del_at hjl
      obtain ⟨x, hxd⟩ : ∃ x, (delL D).getD j 0 = x := ⟨_, rfl⟩
      rw [hxd] at hx0 hd
      have hk2 : (D.B x).k = 2 := by unfold isD at hd; simpa using hd
      have har := OK.out.ar x hx0
      rw [hk2] at har
      have hn1 : (D.B x).n = 1 := by have : arity 2 = 1 := by decide
                                     omega
      have hns : 0 < ns D x := by unfold ns; rw [if_neg (by omega)]; omega
      have hs := OK.out.src hx0 hns
      obtain ⟨q, hq⟩ : ∃ q, sr D x 0 = q := ⟨_, rfl⟩
      have hsd : sdI D j = q := by unfold sdI; rw [hxd, hq]
      have hqn := HSL.out j hlt
      rw [hsd] at hqn
      have eW : Ext w wr := HX2.out.trans hx
      have d := HD.out.ext eW
      obtain ⟨bd, od, rfl, hbd, hcd⟩ := (HRD.out.ext hx).1 (by omega)
      have xd := hcd j hjl
      obtain ⟨bb, ob, hb0, hbl, hcb⟩ := d.blocks (by omega)
      obtain ⟨ba, oa, ha, hba, hca⟩ := (d.args x hx0).1 (by omega)
      have xa := hca 0 (by omega)
      rw [hs.1, Nat.add_zero, hq] at xa
      have xb := (hcb x hx0).2.1
      rw [ha, hn1] at xb
      obtain ⟨bs, os, rfl, hbs, hcs⟩ := HRS.out.rn.ext eW (by omega)
      obtain ⟨x0, x1, x2, x3, x4, x5⟩ := hcs j hlt
      obtain ⟨bt, ot, rfl, hbt, hct⟩ := HS2.out.rn.ext hx (by omega)
      obtain ⟨s0, s1, s2⟩ := hct j hlt
      obtain ⟨bv, ov, rfl, hbv, hcv⟩ := HL2.out.rn.ext hx (by omega)
      obtain ⟨r0, r1, r2, r3, r4, r5⟩ := hcv q hqn
      obtain ⟨a0, a1, a2⟩ := HB2.out.ext hx
      rw [hb0] at a1
      have hga := (HB2.out.ext hx).lt
      simp only [hxd] at xd
      have hlt' : (j : Int) < (n : Int) := by omega
      have hq' : (q : Int) < (D.nb : Int) := by omega
      have hx1 : (x : Int) < (D.nb : Int) := by omega
      have hb : Ext wr wr := Ext.refl _
      obtain ⟨bc, hbc⟩ : ∃ bc, conB (S j).lo (S j).hi (s0S D j) = bc := ⟨_, rfl⟩
      obtain ⟨bi, hbi⟩ : ∃ bi, insB (tkI D S q).lo (tkI D S q).hi (S j).lo (S j).hi = bi := ⟨_, rfl⟩
      have hk : clK D S j = (bc && bi) := by unfold clK; rw [hsd, hbc, hbi]
      have cn := (HRS.out.el j hlt).ext eW
      have cs := (HS2.out.el j hlt).ext hx
      have cr := (HL2.out.el q hqn).ext hx
      have HC1 : Hid (∀ w', Ext wr w' → Calls Tryz.prog 36 #[(R j).v, (Rs j).v] w' fun e w'' => e = .returned (.bool bc) ∧ Ext w' w'') := fun w' e => by rw [← hbc]; exact ricontains_any (cn.ext e).iw (cs.ext e).dy (s0_len HN.out OK.out hlt)
      have HC2 : Hid (∀ w', Ext wr w' → Calls Tryz.prog 38 #[(R2 q).v, (R j).v] w' fun e w'' => e = .returned (.bool bi) ∧ Ext w' w'') := fun w' e => by rw [← hbi]; exact rinside_any (cr.ext e).iw (cn.ext e).iw
      have HK := Lib.hid hk
      clear hcs hct hcv hcb hca hcd hbc hbi hk cn cs cr d hs hd hk2 har hn1 hns ha hxd hsd hq
      generalize R j = rj at *
      generalize Rs j = sj at *
      generalize R2 q = rq at *
      cases bc with
      | false =>
        obtain rfl : v = false := by rw [← HVV.out]; exact allN_false.2 ⟨j, hlt, HK.out⟩
        go_upto_region 8 with fail
        have hL := fun (x : Later _) => (Ext.trans hb x.ext).old.1
        refine wp_region_later (by kernel_rfl) (by kernel_rfl) ?_
        repeat (go_big_quiet_step ((first | (go_at_call 36; with_reducible exact Calls.later (HC1.out _ (Later.ext _))) | (go_at_call 38; with_reducible exact Calls.later (HC2.out _ (Later.ext _))))))
        refine wpQuiet_nil ?_
        intro w2 hw2
        replace hb := Ext.trans hb (Later.of hw2)
        clear hw2 hL
        obtain ⟨hc, hf⟩ := hb.old
        go_wp2_with fail
        go_ret2
        exact ⟨rfl, eW.trans hb⟩
      | true =>
        cases bi with
        | false =>
          obtain rfl : v = false := by rw [← HVV.out]; exact allN_false.2 ⟨j, hlt, HK.out⟩
          go_upto_region 8 with fail
          have hL := fun (x : Later _) => (Ext.trans hb x.ext).old.1
          refine wp_region_later (by kernel_rfl) (by kernel_rfl) ?_
          repeat (go_big_quiet_step ((first | (go_at_call 36; with_reducible exact Calls.later (HC1.out _ (Later.ext _))) | (go_at_call 38; with_reducible exact Calls.later (HC2.out _ (Later.ext _))))))
          refine wpQuiet_nil ?_
          intro w2 hw2
          replace hb := Ext.trans hb (Later.of hw2)
          clear hw2 hL
          obtain ⟨hc, hf⟩ := hb.old
          go_wp2_with fail
          go_ret2
          exact ⟨rfl, eW.trans hb⟩
        | true =>
          have HG2 : Hid (∀ k, k < j + 1 → clK D S k = true) := fun k hk => by
            by_cases e : k = j
            · subst e; exact HK.out
            · exact HG.out k (by omega)
          go_upto_region 8 with fail
          have hL := fun (x : Later _) => (Ext.trans hb x.ext).old.1
          refine wp_region_later (by kernel_rfl) (by kernel_rfl) ?_
          repeat (go_big_quiet_step ((first | (go_at_call 36; with_reducible exact Calls.later (HC1.out _ (Later.ext _))) | (go_at_call 38; with_reducible exact Calls.later (HC2.out _ (Later.ext _))))))
          refine wpQuiet_nil ?_
          intro w2 hw2
          replace hb := Ext.trans hb (Later.of hw2)
          clear hw2 hL
          obtain ⟨hc, hf⟩ := hb.old
          go_wp2_with fail
          go_roundw
          case rel => exact ⟨j + 1, by omega, by go_num, hx.trans hb, HG2⟩
          case measure => simp [intOf]; omega
    · obtain rfl : j = n := by omega
      obtain rfl : v = true := by rw [← HVV.out]; exact allN_iff.2 HG.out
      go_wp2_with fail
      go_ret2
      exact ⟨rfl, HX2.out.trans hx⟩
end
section
open Go Go.RowKit
attribute [local go_sem ↓] Go.wp_at_zero Go.wp_at_succ
def lsI (R : Nat → RI) (n : Nat) : List Value := (List.range (n * 6)).map (rci R)
def RwC (w : World) (g n : Nat) (R : Nat → RI) : Prop := ∃ N f, w.rowIs g 58 N f ∧ n * 6 ≤ N ∧ ∀ j, j < n * 6 → f j = rci R j
theorem rci_at {w : World} {n : Nat} {R : Nat → RI} {b o : Nat} (h : ∀ i, i < n → w.cell? ⟨b, o + i * 6, none⟩ = some (.bool (R i).lo.neg) ∧ w.cell? ⟨b, o + i * 6 + 1, none⟩ = some (.slice (R i).lo.A (R i).lo.n (R i).lo.c) ∧ w.cell? ⟨b, o + i * 6 + 2, none⟩ = some (I (R i).lo.den) ∧
  w.cell? ⟨b, o + i * 6 + 3, none⟩ = some (.bool (R i).hi.neg) ∧ w.cell? ⟨b, o + i * 6 + 4, none⟩ = some (.slice (R i).hi.A (R i).hi.n (R i).hi.c) ∧ w.cell? ⟨b, o + i * 6 + 5, none⟩ = some (I (R i).hi.den)) {j : Nat} (hj : j < n * 6) : w.cell? ⟨b, o + j, none⟩ = some (rci R j) := by
 obtain ⟨h0, h1, h2, h3, h4, h5⟩ := h (j / 6) (by omega)
 have hm : j % 6 = 0 ∨ j % 6 = 1 ∨ j % 6 = 2 ∨ j % 6 = 3 ∨ j % 6 = 4 ∨ j % 6 = 5 := by omega
 unfold rci
 rcases hm with m | m | m | m | m | m
 ·rw [if_pos m, show o + j = o + j / 6 * 6 by omega]; exact h0
 ·rw [if_neg (by omega), if_pos m, show o + j = o + j / 6 * 6 + 1 by omega]; exact h1
 ·rw [if_neg (by omega), if_neg (by omega), if_pos m, show o + j = o + j / 6 * 6 + 2 by omega]; exact h2
 ·rw [if_neg (by omega), if_neg (by omega), if_neg (by omega), if_pos m, show o + j = o + j / 6 * 6 + 3 by omega]; exact h3
 ·rw [if_neg (by omega), if_neg (by omega), if_neg (by omega), if_neg (by omega), if_pos m, show o + j = o + j / 6 * 6 + 4 by omega]; exact h4
 ·rw [if_neg (by omega), if_neg (by omega), if_neg (by omega), if_neg (by omega), if_neg (by omega), show o + j = o + j / 6 * 6 + 5 by omega]; exact h5
theorem rci_one (R : Nat → RI) (j : Nat) : (rci R j).oneCell' = true := by
 unfold rci; repeat' split
 all_goals rfl
theorem RwC.of_own {w : World} {base g cap n : Nat} {R : Nat → RI} (h : w.ownsRow base 58 6 (.slice (some ⟨g, 0, none⟩) n cap) n (lsI R n)) : RwC w g n R := by
 obtain ⟨_, ⟨e, _⟩ | ⟨g', cap', cur, e, _, hb, hc, _, hs, ht⟩⟩ := h
 ·injection e with e _ _; cases e
 ·injection e with e1 e2 e3; cases e1; cases e3
  refine ⟨cap * 6, fun j => cur.getD j (I 0), ⟨cur, hb, hs, fun i hi => ?_⟩, by omega, fun j hj => ?_⟩
  ·simp [Array.getD, hs, hi]
  ·have h1 : (cur.toList.take (n * 6))[j]? = some (rci R j) := by rw [ht]; unfold lsI; simp [hj]
   rw [List.getElem?_take_of_lt hj] at h1
   simp only [Array.getElem?_toList] at h1
   simp [Array.getD_eq_getD_getElem?, h1]
set_option maxRecDepth 100000 in
set_option maxHeartbeats 1000000 in
theorem cloneI_any {w : World} {A : Option Addr} {n c : Nat} {R : Nat → RI} (r : RnI w A n R) (h0 : 0 < n) (hn : n ≤ 10000) :
  Calls Tryz.prog 141 #[.slice A n c] w fun e w' => ∃ g cap, e = .returned (.slice (some ⟨g, 0, none⟩) n cap) ∧ w.heap.size ≤ g ∧ RwC w' g n R ∧ Ext w w' := by
 have hnil : ∀ (w : World) (a : Option Addr) (n c n' c' : Nat), (binOp .eql 27 (.slice a n c) (.slice none n' c')).run Tryz.prog w = .ok (.bool a.isNone) w := fun w a n c n' c' => Lib.run_eql_slice_nil w _ _ a n c n' c' Tryz.underlying27
 obtain ⟨b, o, rfl, hb, hc⟩ := r h0
 obtain ⟨i, z, hi, hz, hsz, hby, hzc⟩ := infoIv'
 have HO : Hid ((w.alloc (.cells #[] 58)).ownsRow w.heap.size 58 6 (.slice (some ⟨w.heap.size, 0, none⟩) 0 0) 0 []) := World.ownsRow_made w #[] 0 (Nat.le_refl _) (Nat.zero_le _) rfl
 have HN : Hid (∀ j u, (lsI R n)[j]? = some u → (w.alloc (.cells #[] 58)).cell? ((⟨b, o, none⟩ : Addr).add j) = some u) := fun j u hj => by
  have hjn : j < n * 6 := by
   rcases Nat.lt_or_ge j (n * 6) with h | h
   ·exact h
   ·rw [List.getElem?_eq_none (by simp [lsI]; omega)] at hj; cases hj
  have hu : u = rci R j := by simp [lsI, hjn] at hj; exact hj.symm
  have hadd : (⟨b, o, none⟩ : Addr).add j = ⟨b, o + j, none⟩ := by unfold Addr.add; split <;> simp_all
  rw [hadd, hu, (Ext.alloc w (.cells #[] 58)).old.1 _ _ hb]
  exact rci_at hc hjn
 have HG : Hid (∀ u ∈ lsI R n, u.oneCell' = true) := fun u hu => by
  simp only [lsI, List.mem_map] at hu
  obtain ⟨j, _, rfl⟩ := hu
  exact rci_one R j
 clear hc r
 go_enter Tryz.func141, Tryz.ntmps141
 go_wp2_with (at_builtin; refine wpList_append_lies _ rfl _ _ _ rfl w.heap.size 58 i z 6 80 Tryz.underlying27 hi hz hsz hby (by rw [hzc]; rfl) (by omega) _ 0 [] rfl HO.out ⟨b, o, none⟩ n c (lsI R n) rfl (by simp [lsI]) HN.out HG.out h0 (by unfold maxLen; omega) (by omega) (by simp) _ rfl ?_; intro g cap w1 hown hgrow hat hlt; have O1 := Lib.hid hown; have G1 := Lib.hid hgrow; have A1 := Lib.hid hat; clear hown hgrow hat)
 go_ret
 have o1 := O1.out
 rw [Nat.zero_add, List.nil_append] at o1
 refine ⟨g, cap, by simp, ?_, RwC.of_own o1, Below.grown (Ext.alloc w _) G1.out (by simp) (fun k hk => by have hk' : w.heap.size = k := Option.some.inj hk; omega)⟩
 rcases A1.out with q | q
 ·have q' : w.heap.size = g := Option.some.inj q
  omega
 ·simp at q; omega
end
section
open Go Go.RowKit
theorem pw_q {e : Int} (h1 : -30 ≤ e) (h2 : e ≤ 65536) : (pwD e).q = qOf false (2 ^ (e + 30).toNat) 30 := by
 unfold pwD shiftD
 have hc : clampN e = e := by unfold clampN; omega
 rw [hc, show ofI 1 0 = ⟨false, 1, 0⟩ from by rw [ofI_form, if_neg (by decide)]; rfl]
 split
 ·rw [q_mkD _ _ (by show 0 + _ ≤ _; omega)]
  show qOf false 1 (0 + (-e).toNat) = _
  rw [← qOf_shift _ _ _ (e + 30).toNat, show 0 + (-e).toNat + (e + 30).toNat = 30 by omega, Nat.one_mul]
 ·rw [q_mkD _ _ (by show 0 ≤ _; omega)]
  show qOf false (1 * 2 ^ e.toNat) 0 = _
  rw [← qOf_shift _ _ _ 30, Nat.one_mul, ← Nat.pow_add, show e.toNat + 30 = (e + 30).toNat by omega]
theorem bits_ge : ∀ (n m : Nat), bitsN m = n + 1 → 2 ^ n ≤ m
 | 0, m, h => by
  by_cases h0 : m = 0
  ·subst h0; rw [bitsN_zero] at h; omega
  ·simp; omega
 | n + 1, m, h => by
  by_cases h0 : m = 0
  ·subst h0; rw [bitsN_zero] at h; omega
  ·rw [bitsN_pos h0] at h
   have := bits_ge n (m / 2) (by omega)
   rw [Nat.pow_succ]; omega
theorem qOf_mono {a b k : Nat} (h : a ≤ b) : qOf false a k ≤ qOf false b k := by
 show (a : Rat) / qp k ≤ (b : Rat) / qp k
 have hp := qp_pos k
 have hc : (a : Rat) ≤ (b : Rat) := Rat.natCast_le_natCast.2 h
 rw [Rat.div_def, Rat.div_def]
 exact Rat.mul_le_mul_of_nonneg_right hc (Rat.le_of_lt (Rat.inv_pos.2 hp))
theorem paD_ge {x : DV} (ok : x.ok) (hl : len x.m ≤ 1000) : x.q ≤ (paD x).q := by
 have hy1 : x.q ≤ (ceilD x 30).q := by
  have f2 := (floor_q (negD_ok x) 30 (by decide)).1
  have e3 : (ceilD x 30).q = -(floorD (negD x) 30).q := q_negD (floorD_ok (negD_ok _) 30)
  have e4 : (negD x).q = -x.q := q_negD ok
  grind
 have hyd : (ceilD x 30).den ≤ 30 := ceil_den 30 (by decide)
 have hyl := lim_ceil x 30
 unfold paD
 generalize ceilD x 30 = y at *
 refine Rat.le_trans hy1 ?_
 by_cases s0 : signD y = 0
 ·rw [if_pos s0]; exact Rat.le_refl
 rw [if_neg s0]
 have hm : y.m ≠ 0 := fun h => s0 (by unfold signD; rw [if_pos h])
 obtain ⟨t, ht⟩ : ∃ t, bitsN y.m = t + 1 := ⟨bitsN y.m - 1, by rw [bitsN_pos hm]; omega⟩
 have b1 := bits_ge t y.m ht
 have b2 := lt_bits (t + 1) y.m ht
 have b3 := bitsN_len y.m
 have he : xpD y = (t : Int) - y.den := by unfold xpD; omega
 have hq : qOf false (y.m * 2 ^ (30 - y.den)) 30 = qOf false y.m y.den := by
  have := qOf_shift false y.m y.den (30 - y.den)
  rwa [show y.den + (30 - y.den) = 30 by omega] at this
 have p1 := pw_q (e := xpD y) (by omega) (by omega)
 have p2 := pw_q (e := xpD y + 1) (by omega) (by omega)
 have n1 : (xpD y + 30).toNat = t + (30 - y.den) := by omega
 have n2 : (xpD y + 1 + 30).toNat = t + 1 + (30 - y.den) := by omega
 rw [n1, Nat.pow_add] at p1
 rw [n2, Nat.pow_add] at p2
 have g1 : (pwD (xpD y)).q ≤ qOf false y.m y.den := by rw [p1, ← hq]; exact qOf_mono (Nat.mul_le_mul_right _ b1)
 have g2 : qOf false y.m y.den ≤ (pwD (xpD y + 1)).q := by rw [p2, ← hq]; exact qOf_mono (Nat.mul_le_mul_right _ (Nat.le_of_lt b2))
 by_cases s1 : signD y < 0
 ·rw [if_pos s1, q_negD (pwD_len _).1]
  have hn : y.neg = true := by
   unfold signD at s1; rw [if_neg hm] at s1
   cases h : y.neg with
   | true => rfl
   | false => rw [h] at s1; simp at s1
  have : y.q = -(qOf false y.m y.den) := by unfold DV.q; rw [hn]; rfl
  rw [this]; grind
 ·rw [if_neg s1]
  split
  ·have hn : y.neg = false := by
    unfold signD at s1; rw [if_neg hm] at s1
    cases h : y.neg with
    | false => rfl
    | true => rw [h] at s1; simp at s1
   have : y.q = qOf false y.m y.den := by unfold DV.q; rw [hn]
   rw [this]; exact g2
  ·exact Rat.le_refl
end
section
open Go Go.RowKit
attribute [local go_sem ↓] Go.wp_at_zero Go.wp_at_succ
def foL (o x : IV) : DV := if cmpD x.lo o.lo = 0 then x.lo else negD (paD (negD x.lo))
def foH (o x : IV) : DV := if cmpD x.hi o.hi = 0 then x.hi else paD x.hi
def foI (o x : IV) : IV := ⟨foL o x, foH o x⟩
structure LvC (w : World) (g n : Nat) (R : Nat → RI) (V : Nat → IV) : Prop where
 row : RwC w g n R
 el : ∀ i, i < n → CnI w (R i) (V i)
 ne : ∀ i, i < n → FarI g (R i) (V i)
theorem RwC.lt {w : World} {g n : Nat} {R : Nat → RI} (h : RwC w g n R) : g < w.heap.size := by obtain ⟨N, f, h, _⟩ := h; exact h.lt
theorem RwC.ext {w w' : World} {g n : Nat} {R : Nat → RI} (h : RwC w g n R) (e : Ext w w') : RwC w' g n R := by
 obtain ⟨N, f, h1, h2, h3⟩ := h
 exact ⟨N, f, h1.of_block (e.block g h1.lt), h2, h3⟩
theorem RwC.frozen {w : World} {g n : Nat} {R : Nat → RI} (h : RwC w g n R) (i : Nat) : w.frozen? ⟨g, i, none⟩ = false := by obtain ⟨N, f, h, _⟩ := h; exact h.frozen i
theorem LvC.ext {w w' : World} {g n : Nat} {R : Nat → RI} {V : Nat → IV} (h : LvC w g n R V) (e : Ext w w') : LvC w' g n R V := ⟨h.row.ext e, fun i hi => (h.el i hi).ext e, h.ne⟩
theorem RwC.cells {w : World} {g n : Nat} {R : Nat → RI} (h : RwC w g n R) {i : Nat} (hi : i < n) :
  w.cell? ⟨g, i * 6, none⟩ = some (.bool (R i).lo.neg) ∧ w.cell? ⟨g, i * 6 + 1, none⟩ = some (.slice (R i).lo.A (R i).lo.n (R i).lo.c) ∧ w.cell? ⟨g, i * 6 + 2, none⟩ = some (I (R i).lo.den) ∧
  w.cell? ⟨g, i * 6 + 3, none⟩ = some (.bool (R i).hi.neg) ∧ w.cell? ⟨g, i * 6 + 4, none⟩ = some (.slice (R i).hi.A (R i).hi.n (R i).hi.c) ∧ w.cell? ⟨g, i * 6 + 5, none⟩ = some (I (R i).hi.den) := by
 obtain ⟨N, f, h1, h2, h3⟩ := h
 have hh : ∀ k, k < 6 → w.cell? ⟨g, i * 6 + k, none⟩ = some (rci R (i * 6 + k)) := fun k hk => by rw [h1.cell (by omega), h3 _ (by omega)]
 have a := hh 0 (by omega); have b := hh 1 (by omega); have c := hh 2 (by omega); have d := hh 3 (by omega); have e := hh 4 (by omega); have f' := hh 5 (by omega)
 unfold rci at a b c d e f'
 rw [if_pos (by omega), show (i * 6 + 0) / 6 = i by omega] at a
 rw [if_neg (by omega), if_pos (by omega), show (i * 6 + 1) / 6 = i by omega] at b
 rw [if_neg (by omega), if_neg (by omega), if_pos (by omega), show (i * 6 + 2) / 6 = i by omega] at c
 rw [if_neg (by omega), if_neg (by omega), if_neg (by omega), if_pos (by omega), show (i * 6 + 3) / 6 = i by omega] at d
 rw [if_neg (by omega), if_neg (by omega), if_neg (by omega), if_neg (by omega), if_pos (by omega), show (i * 6 + 4) / 6 = i by omega] at e
 rw [if_neg (by omega), if_neg (by omega), if_neg (by omega), if_neg (by omega), if_neg (by omega), show (i * 6 + 5) / 6 = i by omega] at f'
 exact ⟨a, b, c, d, e, f'⟩
theorem RwC.putLo {w : World} {g n : Nat} {R : Nat → RI} (h : RwC w g n R) (i : Nat) (r : RN) :
  RwC (((w.setCell ⟨g, i * 6, none⟩ (.bool r.neg)).setCell ⟨g, i * 6 + 1, none⟩ (.slice r.A r.n r.c)).setCell ⟨g, i * 6 + 2, none⟩ (I r.den)) g n (putI R i ⟨r, (R i).hi⟩) := by
 obtain ⟨N, f, h1, h2, h3⟩ := h
 refine ⟨N, _, ((h1.set (i * 6) _).set (i * 6 + 1) _).set (i * 6 + 2) _, h2, fun j hj => ?_⟩
 have h4 := h3 j hj
 by_cases c2 : j = i * 6 + 2
 ·subst c2
  show (if _ then _ else _) = _
  rw [if_pos rfl]
  unfold rci putI
  rw [if_neg (by omega), if_neg (by omega), if_pos (by omega), show (i * 6 + 2) / 6 = i by omega, if_pos rfl]
 by_cases c1 : j = i * 6 + 1
 ·subst c1
  show (if _ then _ else _) = _
  rw [if_neg (by omega), if_pos rfl]
  unfold rci putI
  rw [if_neg (by omega), if_pos (by omega), show (i * 6 + 1) / 6 = i by omega, if_pos rfl]
 by_cases c0 : j = i * 6
 ·subst c0
  show (if _ then _ else _) = _
  rw [if_neg (by omega), if_neg (by omega), if_pos rfl]
  unfold rci putI
  rw [if_pos (by omega), show (i * 6) / 6 = i by omega, if_pos rfl]
 show (if _ then _ else _) = _
 rw [if_neg c2, if_neg c1, if_neg c0, h4]
 by_cases hi : j / 6 = i
 ·unfold rci putI
  rw [if_pos hi, hi]
  have hm : j % 6 = 0 ∨ j % 6 = 1 ∨ j % 6 = 2 ∨ j % 6 = 3 ∨ j % 6 = 4 ∨ j % 6 = 5 := by omega
  rcases hm with m | m | m | m | m | m
  all_goals first | (exfalso; omega) | (simp [m]; done)
 ·unfold rci putI
  simp only [if_neg hi]
theorem RwC.putHi {w : World} {g n : Nat} {R : Nat → RI} (h : RwC w g n R) (i : Nat) (r : RN) :
  RwC (((w.setCell ⟨g, i * 6 + 3, none⟩ (.bool r.neg)).setCell ⟨g, i * 6 + 4, none⟩ (.slice r.A r.n r.c)).setCell ⟨g, i * 6 + 5, none⟩ (I r.den)) g n (putI R i ⟨(R i).lo, r⟩) := by
 obtain ⟨N, f, h1, h2, h3⟩ := h
 refine ⟨N, _, ((h1.set (i * 6 + 3) _).set (i * 6 + 4) _).set (i * 6 + 5) _, h2, fun j hj => ?_⟩
 have h4 := h3 j hj
 by_cases c5 : j = i * 6 + 5
 ·subst c5
  show (if _ then _ else _) = _
  rw [if_pos rfl]
  unfold rci putI
  rw [if_neg (by omega), if_neg (by omega), if_neg (by omega), if_neg (by omega), if_neg (by omega), show (i * 6 + 5) / 6 = i by omega, if_pos rfl]
 by_cases c4 : j = i * 6 + 4
 ·subst c4
  show (if _ then _ else _) = _
  rw [if_neg (by omega), if_pos rfl]
  unfold rci putI
  rw [if_neg (by omega), if_neg (by omega), if_neg (by omega), if_neg (by omega), if_pos (by omega), show (i * 6 + 4) / 6 = i by omega, if_pos rfl]
 by_cases c3 : j = i * 6 + 3
 ·subst c3
  show (if _ then _ else _) = _
  rw [if_neg (by omega), if_neg (by omega), if_pos rfl]
  unfold rci putI
  rw [if_neg (by omega), if_neg (by omega), if_neg (by omega), if_pos (by omega), show (i * 6 + 3) / 6 = i by omega, if_pos rfl]
 show (if _ then _ else _) = _
 rw [if_neg c5, if_neg c4, if_neg c3, h4]
 by_cases hi : j / 6 = i
 ·unfold rci putI
  rw [if_pos hi, hi]
  have hm : j % 6 = 0 ∨ j % 6 = 1 ∨ j % 6 = 2 ∨ j % 6 = 3 ∨ j % 6 = 4 ∨ j % 6 = 5 := by omega
  rcases hm with m | m | m | m | m | m
  all_goals first | (exfalso; omega) | (simp [m]; done)
 ·unfold rci putI
  simp only [if_neg hi]
end
end Go.Proofs.YtgnngldlgcdnfaaGreatDoor
