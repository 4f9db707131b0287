/- Diagrams: Prune by the code. -/
import Derived.Test.YtcdkkohklhmpgaaGreatDoorDhqr
namespace Go.Proofs.YtcdkkohklhmpgaaGreatDoor
open Go Go.RowKit
attribute [local go_sem] Go.wp_at_zero Go.wp_at_succ

set_option maxRecDepth 100000 in
set_option maxHeartbeats 8000000 in
theorem Prune_ok {w : World} {D : Dia} {p : Pl} (d : Dm w D p) (hT : Tabs w) (h : chk D = 0) : Calls Tryz.prog 33 #[dgv D p] w (PruP D (keepP D) w) := by
  have wf := (chk_ok h).toWF
  have hout := (chk_ok h).out
  have hno := wf.no
  have hnb := wf.nb
  obtain ⟨W1, hW1⟩ : ∃ W1, W1 = (w.alloc (.cells #[.slice p.AI D.ni p.cI, .slice p.AB D.nb p.cB, .slice p.AO D.no p.cO] 48)).alloc (.cells #[.slice none 0 0, .slice none 0 0, .slice none 0 0] 48) := ⟨_, rfl⟩
  have hE : Ext w W1 := by rw [hW1]; exact (Ext.alloc _ _).trans (Ext.alloc _ _)
  have hbd : Bd W1 w.heap.size D p := by rw [hW1]; exact (Bd.new _ _ _ _).ext (Ext.alloc _ _)
  have HBX : Hid (∀ w', Ext W1 w' → w'.cell? ⟨w.heap.size, 0, none⟩ = some (.slice p.AI D.ni p.cI) ∧ w'.cell? ⟨w.heap.size, 1, none⟩ = some (.slice p.AB D.nb p.cB) ∧ w'.cell? ⟨w.heap.size, 2, none⟩ = some (.slice p.AO D.no p.cO)) := fun w' e => by
    have a := hbd.ext e; exact ⟨a.c0, a.c1, a.c2⟩
  have hrb : Bx W1 (w.heap.size + 1) (.slice none 0 0) (.slice none 0 0) (.slice none 0 0) := by
    rw [hW1]
    have := Bx.new (w.alloc (.cells #[.slice p.AI D.ni p.cI, .slice p.AB D.nb p.cB, .slice p.AO D.no p.cO] 48)) (.slice none 0 0) (.slice none 0 0) (.slice none 0 0) 48
    rwa [show (w.alloc (.cells #[.slice p.AI D.ni p.cI, .slice p.AB D.nb p.cB, .slice p.AO D.no p.cO] 48)).heap.size = w.heap.size + 1 by simp] at this
  have HRB := Lib.hid hrb; clear hrb
  have HC : Hid (∀ w', Ext W1 w' → Calls Tryz.prog 26 #[dgv D p] w' fun e w'' => e = .returned .nilIface ∧ Ext w' w'') := fun w' e => by
    have := check_any (d.ext (hE.trans e)) (hT.ext (hE.trans e)); rw [h, errv_z] at this; exact this
  have hS : ((List.range D.no).map fun j => (D.O j).toNat).length = D.no := by simp
  have hrS : Rl w p.AO p.cO ((List.range D.no).map fun j => (D.O j).toNat) := ⟨by
    rw [hS]
    exact d.outs.congr fun i hi => by
      have := (hout i hi).1
      simp [List.getD, hi]; omega, d.nO⟩
  have HO : Hid (∀ w', Ext W1 w' → Calls Tryz.prog 111 #[dgv D p, .slice p.AO D.no p.cO] w' (LsR (mkL D.nb (keepP D)) w')) := fun w' e => by
    have := overTicks_any (d.ext (hE.trans e)) wf (hrS.ext (hE.trans e)) (by rw [hS]; omega) (fun x hx => by
      obtain ⟨j, hj, rfl⟩ := List.mem_map.1 hx
      have := hout j (List.mem_range.1 hj)
      omega)
    rw [hS] at this; exact this
  have HCP : Hid (∀ w', Ext W1 w' → Calls Tryz.prog 112 #[.slice p.AI D.ni p.cI] w' (PcR D w')) := fun w' e => cloneP_any (D := D) (d.ext (hE.trans e)).ports d.nI (by have := wf.ni; omega)
  have HRN : Hid (∀ w' AK ck, Ext W1 w' → Rl w' AK ck (mkL D.nb (keepP D)) → Calls Tryz.prog 113 #[.slice p.AO D.no p.cO, .slice AK (mkL D.nb (keepP D)).length ck] w' (RnP D.no (rk (keepP D) D.O) w')) := fun w' AK ck e r =>
    renumbered_any (d.ext (hE.trans e)).outs (by omega) r (by omega) (fun i hi => by have := hout i hi; omega)
  have HDD : Hid (∀ w', Ext W1 w' → Dm w' D p) := fun w' e => d.ext (hE.trans e)
  have HE := Lib.hid hE
  have hz1 : W1.heap.size = w.heap.size + 1 + 1 := by rw [hW1]; simp
  have hx : Ext W1 W1 := Ext.refl _
  obtain ⟨c0, c1, c2⟩ := HBX.out _ hx
  have HWF := Lib.hid wf
  have hnk : (mkL D.nb (keepP D)).length ≤ D.nb := by rw [mkL_len]; exact cnt_le _ _
  clear d hT h hS hrS wf hE hbd hout
  generalize hK : keepP D = P at *
  clear hK
  rw [hW1] at c0 c1 c2
  go_enter Tryz.func33, Tryz.ntmps33
  go_upto_region 1 with fail
  rw [← hW1] at c0 c1 c2
  rw [← hW1]
  clear hW1
  go_upto_region 5 with (first
    | (go_at_call 26; (with_reducible refine (HC.out _ hx).mono ?_); rintro e1 w1 ⟨rfl, h1⟩; replace hx := hx.trans h1; clear h1 c0 c1 c2; obtain ⟨c0, c1, c2⟩ := HBX.out _ hx)
    | (go_at_call 111; (with_reducible refine (HO.out _ hx).mono ?_); rintro e1 w2 ⟨AK, ck, rfl, oK, h1⟩; have OK := Lib.hid oK.rl; have OKN : Hid (∀ b o, AK = some ⟨b, o, none⟩ → W1.heap.size ≤ b) := fun b o q => Nat.le_trans hx.size (oK.blk b o q).1; replace hx := hx.trans h1; clear h1 oK c0 c1 c2; obtain ⟨c0, c1, c2⟩ := HBX.out _ hx))
  have HX2 := Lib.hid hx
  have HZ2 := Lib.hid hx.size
  have hw2 : w.heap.size < w2.heap.size := by have := HZ2.out; omega
  have hw2n : ¬ w.heap.size = w2.heap.size := by omega
  clear HC HO hx
  generalize hkk : (mkL D.nb P).length = nk at *
  have HRN2 : Hid (∀ w', Ext w2 w' → Calls Tryz.prog 113 #[.slice p.AO D.no p.cO, .slice AK nk ck] w' (RnP D.no (rk P D.O) w')) := fun w' e => by
    have := HRN.out w' AK ck (HX2.out.trans e) (by have := OK.out.ext e; exact this)
    exact this
  go_cut [7] (fun s7 wx => ∃ go gO AI cI, s7 = .pointer (some ⟨go, 0, none⟩) ∧ Hid (PrS w2 wx go gO AI cI D (rk P D.O)))
  case first =>
    go_region_with (first
      | (go_at_call 112; (with_reducible refine (HCP.out _ (HX2.out.trans (by (with_reducible (repeat (first | exact Ext.refl _ | assumption | (refine Ext.toSet ?_ (by omega)) | refine Ext.toAlloc ?_ | refine Ext.toDrew ?_ | refine Ext.toDrewN ?_ | refine Ext.trans ?_ (by assumption)))); (first | done | fail "no")))).mono ?_); rintro e3 w3 ⟨AI, cI, rfl, po, nI, bI, x3⟩; have PO := Lib.hid (And.intro po (And.intro nI bI)); clear po nI bI; obtain ⟨y0, y1, y2⟩ := HBX.out w3 (HX2.out.trans (by (with_reducible (repeat (first | exact Ext.refl _ | assumption | (refine Ext.toSet ?_ (by omega)) | refine Ext.toAlloc ?_ | refine Ext.toDrew ?_ | refine Ext.toDrewN ?_ | refine Ext.trans ?_ (by assumption)))); (first | done | fail "no"))); have g3 := Ext.size x3; (try simp only [World.size_drew, World.size_alloc] at g3); have hw3 : w.heap.size < w3.heap.size := (by omega); have hw3n : ¬ w.heap.size = w3.heap.size := (by omega); (first | ((with_reducible have u1 := one_newd' x3); have U1 := Lib.hid u1; clear u1) | skip))
      | (go_at_call 113; (with_reducible refine (HRN2.out _ (by (with_reducible (repeat (first | exact Ext.refl _ | assumption | (refine Ext.toSet ?_ (by omega)) | refine Ext.toAlloc ?_ | refine Ext.toDrew ?_ | refine Ext.toDrewN ?_ | refine Ext.trans ?_ (by assumption)))); (first | done | fail "no"))).mono ?_); rintro e4 w4 ⟨gO, rfl, hgO, rO, lO, x4⟩; have RO := Lib.hid (And.intro hgO (And.intro rO lO)); clear hgO rO lO; obtain ⟨z0, z1, z2⟩ := HBX.out w4 (HX2.out.trans (by (with_reducible (repeat (first | exact Ext.refl _ | assumption | (refine Ext.toSet ?_ (by omega)) | refine Ext.toAlloc ?_ | refine Ext.toDrew ?_ | refine Ext.toDrewN ?_ | refine Ext.trans ?_ (by assumption)))); (first | done | fail "no"))); have g4 := Ext.size x4; (try simp only [World.size_alloc] at g4); have hw4 : w.heap.size < w4.heap.size := (by omega); have hw4n : ¬ w.heap.size = w4.heap.size := (by omega); (first | (have V1 := Lib.hid (U1.out.ext x4); obtain ⟨⟨v10, v11, v12⟩, v1f⟩ := V1.out; have v1l := V1.out.lt; have v1m := Nat.ne_of_lt v1l; have v1n := Nat.ne_of_gt v1l; have v1f0 := v1f 0; have v1f1 := v1f 1; have v1f2 := v1f 2; clear v1f) | ((with_reducible have u1 := one_new' x4); have V1 := Lib.hid u1; clear u1; obtain ⟨⟨v10, v11, v12⟩, v1f⟩ := V1.out; have v1l := V1.out.lt; have v1m := Nat.ne_of_lt v1l; have v1n := Nat.ne_of_gt v1l; have v1f0 := v1f 0; have v1f1 := v1f 1; have v1f2 := v1f 2; clear v1f) | skip)))
    all_goals
      go_wp2_with fail
      go_meet
      first
        | exact ⟨_, gO, AI, cI, rfl, prS_new ((by (with_reducible (repeat (first | exact Ext.refl _ | assumption | (refine Ext.toSet ?_ (by omega)) | refine Ext.toAlloc ?_ | refine Ext.toDrew ?_ | refine Ext.toDrewN ?_ | refine Ext.trans ?_ (by assumption)))); (first | done | fail "no"))) (PO.out.1.ext ((by (with_reducible (repeat (first | exact Ext.refl _ | assumption | (refine Ext.toSet ?_ (by omega)) | refine Ext.toAlloc ?_ | refine Ext.toDrew ?_ | refine Ext.toDrewN ?_ | refine Ext.trans ?_ (by assumption)))); (first | done | fail "no")))) PO.out.2.1 (fun b o e => by have := PO.out.2.2 b o e; have := x4.size; omega) RO.out.2.1 (by have := RO.out.2.2; omega) (fun b o e => by have := PO.out.2.2 b o e; (try simp at this); omega) (by have := RO.out.1; (try simp at this); omega)⟩
        | exact ⟨_, gO, AI, cI, rfl, prS_set V1.out ((by (with_reducible (repeat (first | exact Ext.refl _ | assumption | (refine Ext.toSet ?_ (by omega)) | refine Ext.toAlloc ?_ | refine Ext.toDrew ?_ | refine Ext.toDrewN ?_ | refine Ext.trans ?_ (by assumption)))); (first | done | fail "no"))) (by first | omega | (simp; omega)) (PO.out.1.ext ((by (with_reducible (repeat (first | exact Ext.refl _ | assumption | (refine Ext.toSet ?_ (by omega)) | refine Ext.toAlloc ?_ | refine Ext.toDrew ?_ | refine Ext.toDrewN ?_ | refine Ext.trans ?_ (by assumption)))); (first | done | fail "no")))) PO.out.2.1 (fun b o e => by have := PO.out.2.2 b o e; (try simp at this); omega) RO.out.2.1 (by have := RO.out.1; (try simp at this); omega) (fun b o e => by have := PO.out.2.2 b o e; (try simp at this); omega) (by have := RO.out.1; (try simp at this); omega)⟩
  case rest =>
    obtain ⟨go, gO, AI, cI, rfl, HS⟩ := hcut
    have hgl : go < wc.heap.size := HS.out.lt
    have HM0 : Hid (PrM w2 wc wc go (prD D P) AI cI (some ⟨gO, 0, none⟩) D.no (fun _ => none) (fun _ => 0) none 0 0) :=
      ⟨HS.out.ext, HS.out.old, HS.out.lt, Nat.le_refl _, fun _ _ _ => rfl, HS.out.c0, HS.out.c1, HS.out.c2, HS.out.fz, OwB.nil _ _ _ _, fun k hk => absurd hk (by omega)⟩
    have HAR : Hid (∀ w' x, Ext w2 w' → x < D.nb → (D.B x).k ≠ 0 → Calls Tryz.prog 113 #[.slice (p.AA x) (D.B x).n (p.cA x), .slice AK nk ck] w' (ArP (D.B x).n (pbk D P x).a w')) := fun w' x e hx hk => by
      have hn2 := (HWF.out.ns2 hx).2
      have := renumbered_any (P := P) (c := p.cA x) ((HDD.out w' (HX2.out.trans e)).args x hx).1 (by omega) (OK.out.ext e) (by omega) (fun j hj => by
        have h := HWF.out.arg x hx j hj
        unfold cntB at h; rw [if_neg hk] at h; omega)
      rw [hkk] at this
      have ha : (pbk D P x).a = rk P (D.B x).a := by unfold pbk; rw [if_neg hk]
      rw [ha]
      exact this.mono fun _ _ h => h.ar
    have HAC : Hid (∀ w' x, Ext w2 w' → x < D.nb → (D.B x).k = 0 → Calls Tryz.prog 114 #[.slice (p.AA x) (D.B x).n (p.cA x)] w' (ArP (D.B x).n (pbk D P x).a w')) := fun w' x e hx hk => by
      have hn2 := (HWF.out.ns2 hx).2
      have dd := HDD.out w' (HX2.out.trans e)
      have ha : (pbk D P x).a = (D.B x).a := by unfold pbk; rw [if_pos hk]
      rw [ha]
      have hS : ((List.range (D.B x).n).map fun j => ((D.B x).a j).toNat).length = (D.B x).n := by simp
      have hc := cloneL_any (w := w') (A := p.AA x) (c := p.cA x) (L := (List.range (D.B x).n).map fun j => ((D.B x).a j).toNat) ⟨by
        rw [hS]
        exact (dd.args x hx).1.congr fun i hi => by
          have := (HWF.out.arg x hx i hi).1
          simp [List.getD, hi]; omega, dd.nA x hx⟩ (by rw [hS]; omega)
      rw [hS] at hc
      refine hc.mono fun e w'' h => ?_
      obtain ⟨A', c', rfl, o, x1⟩ := h
      refine ⟨A', c', by rw [hS], ?_, o.rl.2, o.blk, x1⟩
      have := o.ri
      rw [hS] at this
      exact this.congr fun i hi => by
        have := (HWF.out.arg x hx i hi).1
        simp [List.getD, hi]; omega
    clear HCP HRN HRN2 HZ2 hw2n c0 c1 c2
    go_wp2_with fail
    have HKK := Lib.hid hkk
    go_loopw [31] (fun s wr => ∃ (i : Nat) (AA : Nat → Option Addr) (cA : Nat → Nat) (A : Option Addr) (c : Nat), i ≤ nk ∧ s = I i ∧ Hid (PrM w2 wc wr go (prD D P) AI cI (some ⟨gO, 0, none⟩) D.no AA cA A c i)) (fun s _ => nk - (intOf s).toNat)
    case atStart => exact ⟨0, _, _, none, 0, Nat.zero_le _, rfl, HM0⟩
    case round =>
      clear HM0
      obtain ⟨i, AA, cA, A, c, hi, rfl, H⟩ := hrel
      by_cases hlt : i < nk
      · obtain ⟨x, hxd⟩ : ∃ x, (mkL D.nb P).getD i 0 = x := ⟨_, rfl⟩
        have hx : x < D.nb := by
          rw [← hxd, List.getD_eq_getElem?_getD, List.getElem?_eq_getElem (by rw [hkk]; exact hlt)]
          exact (mem_mkL.1 (List.getElem_mem (by rw [hkk]; exact hlt))).1
        obtain ⟨bK, oK, haK, hbK, hcK⟩ := (OK.out.ext H.out.ext).1 (by rw [hkk]; omega)
        have xK := hcK i (by rw [hkk]; exact hlt)
        simp only [hxd] at xK
        have dd := HDD.out wr (HX2.out.trans H.out.ext)
        obtain ⟨b, o, ha, hba, hc⟩ := dd.blocks (by omega)
        obtain ⟨x0, x1, x2, x3, x4, x5⟩ := hc x hx
        obtain ⟨c0, c1, c2⟩ : wr.cell? ⟨w.heap.size, 0, none⟩ = some (.slice p.AI D.ni p.cI) ∧ wr.cell? ⟨w.heap.size, 1, none⟩ = some (.slice p.AB D.nb p.cB) ∧ wr.cell? ⟨w.heap.size, 2, none⟩ = some (.slice p.AO D.no p.cO) := HBX.out wr (HX2.out.trans H.out.ext)
        have hlt' : (i : Int) < (nk : Int) := by omega
        have hxl : (x : Int) < (D.nb : Int) := by omega
        have hc1 := H.out.c1
        have hgw : go < wr.heap.size := by have := H.out.sz; omega
        have hgw2 : ¬ go = wr.heap.size := by omega
        have hgw3 : ¬ wr.heap.size = go := by omega
        have hsz := H.out.sz
        have hbk := pbk_k D P x
        have hBx : (prD D P).B i = pbk D P x := by show pbk D P _ = _; rw [hxd]
        have HBC : Hid (∀ Ai ci, bc1 (prD D P) ⟨none, 0, none, 0, none, 0, (fun k => if k = i then Ai else AA k), (fun k => if k = i then ci else cA k)⟩ i = [I (D.B x).k, .slice Ai (D.B x).n ci, I (D.B x).vn, I (D.B x).ve, I (D.B x).un, I (D.B x).ue]) := fun Ai ci => by
          unfold bc1
          rw [hBx, hbk.1, hbk.2.1, hbk.2.2.1, hbk.2.2.2.1, hbk.2.2.2.2.1, hbk.2.2.2.2.2]
          simp only [if_true]
        have HOB : Hid (∀ Ai ci w', Ext wr w' → OwB w' wc.heap.size A c (prD D P) ⟨none, 0, none, 0, none, 0, (fun k => if k = i then Ai else AA k), (fun k => if k = i then ci else cA k)⟩ i) := fun Ai ci w' e => by
          have := H.out.own.ext e
          unfold OwB at this ⊢
          rw [bcs_congr (q := ⟨none, 0, none, 0, none, 0, AA, cA⟩) fun k hk => ⟨if_neg (by omega), if_neg (by omega)⟩]
          exact this
        have HBH := Lib.hid (And.intro hBx hbk)
        clear hc dd hcK hBx hbk
        by_cases hk0 : (D.B x).k = 0
        · have g0 : ((D.B x).k == 0) = true := by simpa using hk0
          have HAX := Lib.hid (fun w' e => HAC.out w' x e hx hk0)
          clear hk0
          generalize (D.B x).k = kk at *
          go_wp2_with (first
            | (go_at_call 114; (with_reducible refine (HAX.out _ (H.out.ext.trans (Ext.alloc _ _))).mono ?_); rintro e3 w3 ⟨Ai, ci, rfl, ra, r0, rb, xe⟩; have RA := Lib.hid (And.intro ra (And.intro r0 rb)); clear ra r0 rb; obtain ⟨z0, z1, z2, z3, z4, z5, zf, zl⟩ := bx6 xe; have hc13 := (((Ext.alloc _ _).trans xe).old.1 _ _ hgw).trans hc1)
            | (at_builtin; refine appB rfl _ _ rfl wc.heap.size A c (prD D P) ⟨none, 0, none, 0, none, 0, (fun k => if k = i then Ai else AA k), (fun k => if k = i then ci else cA k)⟩ i rfl ?eA _ _ rfl ?eB ?eC ?eD ?eE; (case eA => first | exact HOB.out Ai ci _ (by (with_reducible (repeat (first | exact Ext.refl _ | assumption | (refine Ext.toSet ?_ (by omega)) | refine Ext.toAlloc ?_ | refine Ext.toDrew ?_ | refine Ext.toDrewN ?_ | refine Ext.trans ?_ (by assumption)))); (first | done | fail "no"))); (case eB => first | (intro j u hj; rw [HBC.out Ai ci] at hj; exact news6' (by simp) j u hj) | (intro j u hj; rw [HBC.out Ai ci] at hj; refine news6' ?_ j u hj; simp)); (case eC => first | omega); (case eD => first | (simp; omega)); intro g cap w2' hown hgrow hat hltg; have hat2 : (Value.slice A i c).ownBlock = some g ∨ g = ((w3.setCell ⟨wr.heap.size, 1, none⟩ (.slice Ai (D.B x).n ci)).alloc (.cells #[I kk, .slice Ai (D.B x).n ci, I (D.B x).vn, I (D.B x).ve, I (D.B x).un, I (D.B x).ue] 100)).heap.size := (by first | exact hat); have ra2 : Ri ((w3.setCell ⟨wr.heap.size, 1, none⟩ (.slice Ai (D.B x).n ci)).alloc (.cells #[I kk, .slice Ai (D.B x).n ci, I (D.B x).vn, I (D.B x).ve, I (D.B x).un, I (D.B x).ue] 100)) Ai ((prD D P).B i).n ((prD D P).B i).a := (by first | (rw [HBH.out.1, HBH.out.2.2.1]; exact (RA.out.1.blk (w' := w3.setCell ⟨wr.heap.size, 1, none⟩ (.slice Ai (D.B x).n ci)) (fun b o q _ => Below.heap_setCell _ _ _ b (fun q2 => by have := RA.out.2.2 b o q; simp at this q2; omega)) (by simp)).ext (Ext.alloc _ _))); have rb2 : ∀ b o, Ai = some ⟨b, o, none⟩ → wr.heap.size ≤ b ∧ b < ((w3.setCell ⟨wr.heap.size, 1, none⟩ (.slice Ai (D.B x).n ci)).alloc (.cells #[I kk, .slice Ai (D.B x).n ci, I (D.B x).vn, I (D.B x).ve, I (D.B x).un, I (D.B x).ue] 100)).heap.size := (by first | (intro b o q; have := RA.out.2.2 b o q; simp at this; simp; omega)); have e9 : Ext wr ((w3.setCell ⟨wr.heap.size, 1, none⟩ (.slice Ai (D.B x).n ci)).alloc (.cells #[I kk, .slice Ai (D.B x).n ci, I (D.B x).vn, I (D.B x).ve, I (D.B x).un, I (D.B x).ue] 100)) := (by first | exact (by (with_reducible (repeat (first | exact Ext.refl _ | assumption | (refine Ext.toSet ?_ (by omega)) | refine Ext.toAlloc ?_ | refine Ext.toDrew ?_ | refine Ext.toDrewN ?_ | refine Ext.trans ?_ (by assumption)))); (first | done | fail "no"))); have ST := Lib.hid (H.out.step e9 Ai ci hown hgrow hat2 ra2 RA.out.2.1 rb2); have f1 := ST.out.2.1; have f2 := ST.out.2.2 1 _ hc1; clear hown hgrow hat hat2 ra2 rb2 e9))
          (try rw [← ha])
          (try rw [← haK])
          go_roundw
          case rel => exact ⟨i + 1, _, _, some ⟨g, 0, none⟩, cap, by omega, by go_num, ST.out.1⟩
          case measure => simp [intOf]; omega
        · have g0 : ((D.B x).k == 0) = false := by simpa using hk0
          have HAX := Lib.hid (fun w' e => HAR.out w' x e hx hk0)
          clear hk0
          generalize (D.B x).k = kk at *
          go_wp2_with (first
            | (go_at_call 113; rw [← haK]; (with_reducible refine (HAX.out _ (H.out.ext.trans (Ext.alloc _ _))).mono ?_); rintro e3 w3 ⟨Ai, ci, rfl, ra, r0, rb, xe⟩; have RA := Lib.hid (And.intro ra (And.intro r0 rb)); clear ra r0 rb; obtain ⟨z0, z1, z2, z3, z4, z5, zf, zl⟩ := bx6 xe; have hc13 := (((Ext.alloc _ _).trans xe).old.1 _ _ hgw).trans hc1)
            | (at_builtin; refine appB rfl _ _ rfl wc.heap.size A c (prD D P) ⟨none, 0, none, 0, none, 0, (fun k => if k = i then Ai else AA k), (fun k => if k = i then ci else cA k)⟩ i rfl ?fA _ _ rfl ?fB ?fC ?fD ?fE; (case fA => first | exact HOB.out Ai ci _ (by (with_reducible (repeat (first | exact Ext.refl _ | assumption | (refine Ext.toSet ?_ (by omega)) | refine Ext.toAlloc ?_ | refine Ext.toDrew ?_ | refine Ext.toDrewN ?_ | refine Ext.trans ?_ (by assumption)))); (first | done | fail "no"))); (case fB => first | (intro j u hj; rw [HBC.out Ai ci] at hj; exact news6' (by simp) j u hj)); (case fC => first | omega); (case fD => first | (simp; omega)); intro g cap w2' hown hgrow hat hltg; have hat2 : (Value.slice A i c).ownBlock = some g ∨ g = ((w3.setCell ⟨wr.heap.size, 1, none⟩ (.slice Ai (D.B x).n ci)).alloc (.cells #[I kk, .slice Ai (D.B x).n ci, I (D.B x).vn, I (D.B x).ve, I (D.B x).un, I (D.B x).ue] 100)).heap.size := (by first | exact hat); have ra2 : Ri ((w3.setCell ⟨wr.heap.size, 1, none⟩ (.slice Ai (D.B x).n ci)).alloc (.cells #[I kk, .slice Ai (D.B x).n ci, I (D.B x).vn, I (D.B x).ve, I (D.B x).un, I (D.B x).ue] 100)) Ai ((prD D P).B i).n ((prD D P).B i).a := (by first | (rw [HBH.out.1, HBH.out.2.2.1]; exact (RA.out.1.blk (w' := w3.setCell ⟨wr.heap.size, 1, none⟩ (.slice Ai (D.B x).n ci)) (fun b o q _ => Below.heap_setCell _ _ _ b (fun q2 => by have := RA.out.2.2 b o q; simp at this q2; omega)) (by simp)).ext (Ext.alloc _ _))); have rb2 : ∀ b o, Ai = some ⟨b, o, none⟩ → wr.heap.size ≤ b ∧ b < ((w3.setCell ⟨wr.heap.size, 1, none⟩ (.slice Ai (D.B x).n ci)).alloc (.cells #[I kk, .slice Ai (D.B x).n ci, I (D.B x).vn, I (D.B x).ve, I (D.B x).un, I (D.B x).ue] 100)).heap.size := (by first | (intro b o q; have := RA.out.2.2 b o q; simp at this; simp; omega)); have e9 : Ext wr ((w3.setCell ⟨wr.heap.size, 1, none⟩ (.slice Ai (D.B x).n ci)).alloc (.cells #[I kk, .slice Ai (D.B x).n ci, I (D.B x).vn, I (D.B x).ve, I (D.B x).un, I (D.B x).ue] 100)) := (by first | exact (by (with_reducible (repeat (first | exact Ext.refl _ | assumption | (refine Ext.toSet ?_ (by omega)) | refine Ext.toAlloc ?_ | refine Ext.toDrew ?_ | refine Ext.toDrewN ?_ | refine Ext.trans ?_ (by assumption)))); (first | done | fail "no"))); have ST := Lib.hid (H.out.step e9 Ai ci hown hgrow hat2 ra2 RA.out.2.1 rb2); have f1 := ST.out.2.1; have f2 := ST.out.2.2 1 _ hc1; clear hown hgrow hat hat2 ra2 rb2 e9))
          (try rw [← ha])
          (try rw [← haK])
          go_roundw
          case rel => exact ⟨i + 1, _, _, some ⟨g, 0, none⟩, cap, by omega, by go_num, ST.out.1⟩
          case measure => simp [intOf]; omega
      · obtain rfl : i = nk := by omega
        obtain ⟨⟨r0, r1, r2⟩, rf⟩ := HRB.out.ext (HX2.out.trans H.out.ext)
        have f0 := rf 0; have f1 := rf 1; have f2 := rf 2
        have q0 := H.out.c0; have q1 := H.out.c1; have q2 := H.out.c2
        have hsz := H.out.sz
        clear rf
        go_wp2_with fail
        have hz2 : w.heap.size + 1 + 1 ≤ w2.heap.size := by have := HX2.out.size; omega
        have hzc := HS.out.ext.size
        have H' : PrM w2 wc wr go (prD D P) AI cI (some ⟨gO, 0, none⟩) D.no AA cA A c (prD D P).nb := by
          rw [show (prD D P).nb = i from HKK.out]; exact H.out
        have hdm := H'.dm HS.out.po HS.out.nI HS.out.bI HS.out.ro (fun q => by cases q) (fun b o q => by injection q with q; injection q with q1 q2; have := HS.out.bO; omega)
          (HDD.out w2 HX2.out).li (by show (mkL D.nb P).length ≤ maxLen; rw [HKK.out]; unfold maxLen; omega) (HDD.out w2 HX2.out).lo (fun k hk => by
            show (pbk D P _).n ≤ maxLen
            have hk' : k < (mkL D.nb P).length := hk
            have hx : (mkL D.nb P).getD k 0 < D.nb := by
              rw [List.getD_eq_getElem?_getD, List.getElem?_eq_getElem hk']
              exact (mem_mkL.1 (List.getElem_mem hk')).1
            rw [(pbk_k D P _).2.1]
            have := (HWF.out.ns2 hx).2
            unfold maxLen; omega)
        refine bodyPost_ret (v := .tuple #[dgv (prD D P) ⟨AI, cI, A, c, some ⟨gO, 0, none⟩, D.no, AA, cA⟩, .slice AK (mkL D.nb P).length ck, .nilIface]) (by rw [HKK.out]; simp [results, Tryz.results33, go_sem, r0, r1, r2, show (prD D P).nb = i from HKK.out]) rfl ⟨_, AK, ck, rfl, hdm.off (fr_trans (fr_trans (fr_set _ _ _ _) (fr_set _ _ _ _)) (fr_set _ _ _ _)) ?_ ?_ ?_ ?_, ?_, ?_⟩
        · exact fun b o q => by have := HS.out.oI b o q; omega
        · exact fun b o q => by
            have q' : A = some ⟨b, o, none⟩ := q
            have := (H.out.own.lt b (by rw [q']; rfl)).1
            omega
        · exact fun b o q => by
            have q' : some (⟨gO, 0, none⟩ : Addr) = some ⟨b, o, none⟩ := q
            injection q' with q'; injection q' with q1 q2
            have := HS.out.oO; omega
        · exact fun k hk b o q => by have := ((H'.arg k hk).2.2 b o q).2.1; omega
        · refine ⟨(OK.out.ext H.out.ext).1.blk (fun b o q hb => ?_) (by simp), OK.out.2⟩
          have := OKN.out b o q
          exact ((Below.heap_setCell _ _ _ b (fun q => by have q' : b = w.heap.size + 1 := q; omega)).trans (Below.heap_setCell _ _ _ b (fun q => by have q' : b = w.heap.size + 1 := q; omega))).trans (Below.heap_setCell _ _ _ b (fun q => by have q' : b = w.heap.size + 1 := q; omega))
        · exact ext_set3 (HE.out.trans (HX2.out.trans H.out.ext)) (by omega) _ _ _
end Go.Proofs.YtcdkkohklhmpgaaGreatDoor
