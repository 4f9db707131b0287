/- The reference of layer 11: lists that are appended to; Start. -/
import Derived.Test.YtgnaljnmjphleaaGreatDoorExb
namespace Go.Proofs.YtgnaljnmjphleaaGreatDoor
open Go Go.RowKit

theorem Rd.gr {w w' : World} {A : Option Addr} {n : Nat} {f : Nat → Nat} {row : Option Nat} (h : Rd w A n f) (e : w.grownBy w' row) (hne : ∀ a, A = some a → some a.block ≠ row) : Rd w' A n f := fun hn => by
  obtain ⟨b, o, rfl, hb, hc⟩ := h hn
  have hbl := e.block b hb (hne _ rfl)
  exact ⟨b, o, rfl, Nat.lt_of_lt_of_le hb e.size, fun i hi => by rw [← hc i hi]; exact World.cell?_of_block (a := ⟨b, o + i, none⟩) hbl⟩
theorem Cn.gr {w w' : World} {r : RN} {d : DV} {row : Option Nat} (h : Cn w r d) (e : w.grownBy w' row) (hne : 0 < len d.m → ∀ a, r.A = some a → some a.block ≠ row) : Cn w' r d :=
  ⟨h.eq, fun hn => h.rd.gr e (hne hn) hn, h.sl, h.ok, h.lim⟩
theorem Cn.blk {w : World} {r : RN} {d : DV} (h : Cn w r d) (hl : 0 < len d.m) : ∀ a, r.A = some a → a.block < w.heap.size := fun a ha => by
  obtain ⟨b, o, e, hb, _⟩ := h.rd hl
  rw [ha] at e; injection e with e; subst e; exact hb
/-- A list that is being appended to: newer than W; its numbers lie elsewhere. -/
structure NwM (W w : World) (base : Nat) (A : Option Addr) (c : Nat) (R : Nat → RN) (V : Nat → DV) (j : Nat) : Prop where
  ext : Ext W w
  bas : W.heap.size ≤ base
  blt : base ≤ w.heap.size
  own : OwN w base A c R j
  el : ∀ i, i < j → Cn w (R i) (V i)
  ne : ∀ i, i < j → 0 < len (V i).m → ∀ a, (R i).A = some a → some a.block ≠ (Value.slice A j c).ownBlock
theorem NwM.nil {W w : World} {base : Nat} (e : Ext W w) (h : W.heap.size ≤ base) (hb : base ≤ w.heap.size) (R : Nat → RN) (V : Nat → DV) : NwM W w base none 0 R V 0 :=
  ⟨e, h, hb, OwN.nil _ _ _, fun i hi => absurd hi (by omega), fun i hi => absurd hi (by omega)⟩
theorem NwM.to {W w w' : World} {base : Nat} {A : Option Addr} {c : Nat} {R : Nat → RN} {V : Nat → DV} {j : Nat} (h : NwM W w base A c R V j) (e : Ext w w') : NwM W w' base A c R V j :=
  ⟨h.ext.trans e, h.bas, Nat.le_trans h.blt e.size, h.own.ext e, fun i hi => (h.el i hi).ext e, h.ne⟩
theorem NwM.congr {W w : World} {base : Nat} {A : Option Addr} {c : Nat} {R : Nat → RN} {V V' : Nat → DV} {j : Nat} (h : NwM W w base A c R V j) (e : ∀ i, i < j → V i = V' i) : NwM W w base A c R V' j :=
  ⟨h.ext, h.bas, h.blt, h.own, fun i hi => by rw [← e i hi]; exact h.el i hi, fun i hi => by rw [← e i hi]; exact h.ne i hi⟩
theorem NwM.ln {W w : World} {base : Nat} {A : Option Addr} {c : Nat} {R : Nat → RN} {V : Nat → DV} {j : Nat} (h : NwM W w base A c R V j) : Ln w A j R V := ⟨h.own.rn, h.el⟩
theorem NwM.step {W w wb w' : World} {base g cap : Nat} {A : Option Addr} {c : Nat} {R : Nat → RN} {V : Nat → DV} {j : Nat} (h : NwM W w base A c R V j) (e : Ext w wb) (r : RN) (d : DV) (cn : Cn wb r d)
    (hne : 0 < len d.m → ∀ a, r.A = some a → some a.block ≠ (Value.slice A j c).ownBlock)
    (o : OwN w' base (some ⟨g, 0, none⟩) cap (putR R j r) (j + 1)) (hg : wb.grownBy w' (Value.slice A j c).ownBlock) (hat : (Value.slice A j c).ownBlock = some g ∨ g = wb.heap.size) :
    NwM W w' base (some ⟨g, 0, none⟩) cap (putR R j r) (putD V j d) (j + 1) := by
  have hb := h.bas
  refine ⟨growN_ext (h.ext.trans e) (h.own.ext e) hb hg, hb, Nat.le_trans h.blt (Nat.le_trans e.size hg.size), o, fun i hi => ?_, fun i hi hl a ha => ?_⟩
  · unfold putR putD
    by_cases q : i = j
    · rw [if_pos q, if_pos q]; exact cn.gr hg hne
    · rw [if_neg q, if_neg q]; exact ((h.el i (by omega)).ext e).gr hg (h.ne i (by omega))
  · have hown : (Value.slice (some ⟨g, 0, none⟩) (j + 1) cap).ownBlock = some g := rfl
    rw [hown]
    unfold putR at ha
    unfold putD at hl
    by_cases q : i = j
    · rw [if_pos q] at ha hl
      rcases hat with hat | hat
      · rw [← hat]; exact hne hl a ha
      · have := cn.blk hl a ha
        intro q2; injection q2 with q2; omega
    · rw [if_neg q] at ha hl
      rcases hat with hat | hat
      · rw [← hat]; exact h.ne i (by omega) hl a ha
      · have := ((h.el i (by omega)).ext e).blk hl a ha
        intro q2; injection q2 with q2; omega
theorem NwM.own' {W w wb : World} {base : Nat} {A : Option Addr} {c : Nat} {R : Nat → RN} {V : Nat → DV} {j : Nat} (h : NwM W w base A c R V j) (e : Ext w wb) (r : RN) : OwN wb base A c (putR R j r) j :=
  (h.own.ext e).congr fun i hi => (if_neg (by omega)).symm
theorem news3 {w : World} {g : Nat} {r : RN} {t : TypeId} (hg : g = w.heap.size) (R : Nat → RN) (j : Nat) : ∀ k u, (nc1 (putR R j r j))[k]? = some u → (w.alloc (.cells #[.bool r.neg, .slice r.A r.n r.c, I r.den] t)).cell? ((⟨g, 0, none⟩ : Addr).add k) = some u := fun k u h => by
  subst hg
  rw [show putR R j r j = r from if_pos rfl] at h
  match k, h with
  | 0, h => simp [nc1] at h; subst h; go_simp
  | 1, h => simp [nc1] at h; subst h; go_simp
  | 2, h => simp [nc1] at h; subst h; go_simp
  | k + 3, h => simp [nc1] at h
/-- A list of numbers. -/
def LnR (n : Nat) (V : Nat → DV) (w : World) (e : Ending) (w' : World) : Prop := ∃ A c R, e = .returned (.slice A n c) ∧ Ln w' A n R V ∧ Ext w w'
set_option maxRecDepth 100000 in
set_option maxHeartbeats 1000000 in
theorem rstart_any {w : World} {D : Dia} {p : Pl} (d : Dm w D p) (ok : OkD D) : Calls Tryz.prog 17 #[dgv D p] w (LnR (delL D).length (s0S D) w) := by
  have hdl := del_le D
  have hnb := ok.nb
  obtain ⟨W1, hW1⟩ : ∃ W1, W1 = w.alloc (.cells #[.slice p.AI D.ni p.cI, .slice p.AB D.nb p.cB, .slice p.AO D.no p.cO] 26) := ⟨_, rfl⟩
  have hE : Ext w W1 := by rw [hW1]; exact Ext.alloc _ _
  have hbd : Bd W1 w.heap.size D p := by rw [hW1]; exact Bd.new _ _ _ _
  have HDL : Hid (∀ w', Ext W1 w' → Calls Tryz.prog 21 #[dgv D p] w' (LsR (delL D) w')) := fun w' e => rdelays_any (d.ext (hE.trans e)) (by omega)
  have HB := Lib.hid hbd; have HD := Lib.hid (d.ext hE); have OK := Lib.hid ok; have HE := Lib.hid hE
  obtain ⟨c0, c1, c2⟩ := hbd
  obtain ⟨ld, hld⟩ : ∃ ld, (delL D).length = ld := ⟨_, rfl⟩
  have HLD := Lib.hid hld
  rw [hld] at hdl ⊢
  clear d ok hE
  go_enter Tryz.func17, Tryz.ntmps17
  go_upto_region 1 with fail
  rw [← hW1]; clear hW1
  go_wp2_with (go_at_call 21; (with_reducible refine (HDL.out _ (Ext.refl _)).mono ?_); rintro e1 w1 hq; obtain ⟨Ad, cd, he, o1, h1⟩ := hq; rw [hld] at he; subst he; have HX1 := Lib.hid h1; have HO1 := Lib.hid o1.rl; clear h1 o1)
  clear hld c0 c1 c2
  go_loopw [3, 9] (fun s3 s wr => ∃ (j : Nat) (A : Option Addr) (c : Nat) (R : Nat → RN), j ≤ ld ∧ s = I j ∧ s3 = .slice A j c ∧ Hid (NwM w1 wr w1.heap.size A c R (upto (s0S D) j) j)) (fun _ s _ => ld - (intOf s).toNat)
  case atStart => exact ⟨0, none, 0, fun _ => RN.z, Nat.zero_le _, rfl, rfl, NwM.nil (Ext.refl _) (Nat.le_refl _) (Nat.le_refl _) _ _⟩
  case round =>
    obtain ⟨j, A, c, R, hj, rfl, rfl, H⟩ := hrel
    by_cases hlt : j < ld
    · have hj' : j < (delL D).length := by rw [HLD.out]; exact hlt
      obtain ⟨bd, od, hbd, hbld, hcd⟩ := (HO1.out.ext H.out.ext).1 (by omega)
      have xd := hcd j hj'
      obtain ⟨x, hxd⟩ : ∃ x, (delL D).getD j 0 = x := ⟨_, rfl⟩
      have hx := del_at hj'
      simp only [hxd] at xd hx
      have hXr := HX1.out.trans H.out.ext
      obtain ⟨b, o, hb, hbl, hc⟩ := (HD.out.ext hXr).blocks (by omega)
      obtain ⟨x0, x1, x2, x3, x4, x5⟩ := hc x hx.1
      have k1 := (HB.out.ext hXr).c1
      have hv := OK.out.val hx.1 (by have := hx.2; unfold isD at this; unfold usesV; simp at this; simp [this])
      have HNB : Hid (∀ w', Calls Tryz.prog 42 #[.agg #[I (D.B x).vn, I (D.B x).ve]] w' (DyRes (s0S D j) w')) := fun w' => by
        have := rvalue_any (D.B x).vn (D.B x).ve w' hv.1 hv.2.1 hv.2.2.1 hv.2.2.2
        unfold s0S; rw [hxd]; exact this
      have HOK : Hid ((s0S D j).ok ∧ len (s0S D j).m ≤ 16777216) := by
        have := nmS_len (n := (D.B x).vn) (e := (D.B x).ve) hv.1 hv.2.1 hv.2.2.2
        unfold s0S; rw [hxd]; exact ⟨nmS_ok _ _, this.2⟩
      have HUP : Hid (∀ i, putD (upto (s0S D) j) j (s0S D j) i = upto (s0S D) (j + 1) i) := upto_put (s0S D) j
      have hlt' : (j : Int) < (ld : Int) := by omega
      have hxl : (x : Int) < (D.nb : Int) := by omega
      have hblt := H.out.blt
      clear hc hcd hx hv hj' hXr
      go_wp2_with (first
        | (go_at_call 42; (with_reducible refine (HNB.out _).mono ?_); rintro e1 w2 hr; obtain ⟨A1, y1, rfl, cn1, hA1, hx1⟩ := hr.cn HOK.out.1 HOK.out.2; have CN1 := Lib.hid cn1; have HA1 := Lib.hid hA1; have HX2 := Lib.hid hx1; have hsz2 := hx1.size; clear hr cn1 hA1 hx1)
        | (at_builtin; refine appN rfl _ _ rfl w1.heap.size A c (putR R j (cnR (s0S D j) A1 y1)) j rfl (H.out.own' (HX2.out.trans (Ext.alloc _ _)) _) _ _ rfl (news3 rfl R j) (by omega) (by simp; omega) ?_; intro g cap w3 hown hgrow hat hltg; have HN := Lib.hid (H.out.step (HX2.out.trans (Ext.alloc _ _)) _ _ (CN1.out.ext (Ext.alloc _ _)) (fun _ a ha q => by have h1 := HA1.out a ha; have h2 := (H.out.own.lt a.block q.symm).2; omega) hown hgrow hat); clear hown hgrow hat hltg))
      (try rw [← hb])
      (try rw [← hbd])
      go_roundw
      case rel => exact ⟨j + 1, _, _, _, by omega, by go_num, rfl, HN.out.congr fun i _ => HUP.out i⟩
      case measure => simp [intOf]; omega
    · obtain rfl : j = ld := by omega
      go_wp2_with fail
      go_ret
      exact ⟨A, c, R, rfl, H.out.ln.congr fun i hi => upto_end hi, HE.out.trans (HX1.out.trans H.out.ext)⟩
end Go.Proofs.YtgnaljnmjphleaaGreatDoor
