import Derived.Test.YtgnngldlgcdnfaaGreatDoorRac
import Derived.Test.YtgnngldlgcdnfaaGreatDoorQas
import Derived.Test.YtgnngldlgcdnfaaGreatDoorQan
namespace Go.Proofs.YtgnngldlgcdnfaaGreatDoor
section
open Go Go.RowKit
theorem zN {w w1 : World} {t : TypeId} (hx : Ext (w.alloc (.cells #[.bool false, .slice none 0 0, I 0, .bool false, .slice none 0 0, I 0] t)) w1) : B6 w1 w.heap.size (.bool false) (.slice none 0 0) (I 0) (.bool false) (.slice none 0 0) (I 0) := (B6.new w _ _ _ _ _ _ t).ext hx
theorem clip_set {W1 w6 : World} {g b1 b2 c2 k2 : Nat} {u v : DV} {A2 B2 : Option Addr} (hx : Ext W1 w6) (hg : W1.heap.size ≤ g) (hb : B6 w6 g (.bool false) (.slice none 0 0) (I 0) (.bool false) (.slice none 0 0) (I 0))
  (fa : Fr w6 b1 A2 (len u.m) c2 (dg u.m)) (fb : Fr w6 b2 B2 (len v.m) k2 (dg v.m)) (h1 : g < b1) (h2 : g < b2) :
  Ext W1 ((((((w6.setCell ⟨g, 0, none⟩ (.bool u.neg)).setCell ⟨g, 1, none⟩ (.slice A2 (len u.m) c2)).setCell ⟨g, 2, none⟩ (I u.den)).setCell ⟨g, 3, none⟩ (.bool v.neg)).setCell ⟨g, 4, none⟩ (.slice B2 (len v.m) k2)).setCell ⟨g, 5, none⟩ (I v.den)) ∧
  B6 ((((((w6.setCell ⟨g, 0, none⟩ (.bool u.neg)).setCell ⟨g, 1, none⟩ (.slice A2 (len u.m) c2)).setCell ⟨g, 2, none⟩ (I u.den)).setCell ⟨g, 3, none⟩ (.bool v.neg)).setCell ⟨g, 4, none⟩ (.slice B2 (len v.m) k2)).setCell ⟨g, 5, none⟩ (I v.den)) g (.bool u.neg) (.slice A2 (len u.m) c2) (I u.den) (.bool v.neg) (.slice B2 (len v.m) k2) (I v.den) ∧
  Fr ((((((w6.setCell ⟨g, 0, none⟩ (.bool u.neg)).setCell ⟨g, 1, none⟩ (.slice A2 (len u.m) c2)).setCell ⟨g, 2, none⟩ (I u.den)).setCell ⟨g, 3, none⟩ (.bool v.neg)).setCell ⟨g, 4, none⟩ (.slice B2 (len v.m) k2)).setCell ⟨g, 5, none⟩ (I v.den)) b1 A2 (len u.m) c2 (dg u.m) ∧
  Fr ((((((w6.setCell ⟨g, 0, none⟩ (.bool u.neg)).setCell ⟨g, 1, none⟩ (.slice A2 (len u.m) c2)).setCell ⟨g, 2, none⟩ (I u.den)).setCell ⟨g, 3, none⟩ (.bool v.neg)).setCell ⟨g, 4, none⟩ (.slice B2 (len v.m) k2)).setCell ⟨g, 5, none⟩ (I v.den)) b2 B2 (len v.m) k2 (dg v.m) :=
 ⟨ext_set6 hx hg _ _ _ _ _ _, hb.set6 _ _ _ _ _ _, fa.set6 h1 _ _ _ _ _ _, fb.set6 h2 _ _ _ _ _ _⟩
theorem zND {w w1 : World} {t : TypeId} (hx : Ext (w.alloc (.cells #[.bool false, .slice none 0 0, I 0, .bool false, .slice none 0 0, I 0] t)).drew w1) : B6 w1 w.heap.size (.bool false) (.slice none 0 0) (I 0) (.bool false) (.slice none 0 0) (I 0) := zN ((Ext.drew _).trans hx)
set_option maxRecDepth 100000 in
set_option maxHeartbeats 1000000 in
theorem range_clip {w : World} {D : Dia} {p : Pl} {Ao Ad As A : Option Addr} {lo co ld cd ns' cs i c : Nat} {R : Nat → RI} {V : Nat → IV} (d : Dm w D p) (ok : OkD D) (hT : Tabs w) (hi : i < D.nb) (hk : (D.B i).k = 11) (l : LnI w A D.nb R V) :
    Calls Tryz.prog 119 #[anv D p Ao lo co Ad ld cd As ns' cs, bkv (D.B i).k (p.AA i) (D.B i).n (p.cA i) (D.B i).vn (D.B i).ve (D.B i).un (D.B i).ue, .slice A D.nb c] w (IvRes (bvI D V i).lo (bvI D V i).hi w) := by
  have hmf : ∀ (fn : Fn) (first cap : Array Value) (w : World), (Instr.makeFunc fn first cap).run Tryz.prog w = .ok (.func fn first cap) w := fun _ _ _ _ => rfl
  have hbv : bvI D V i = ⟨clD (V (sr D i 0)).lo (nmS (D.B i).vn (D.B i).ve) (nmS (D.B i).un (D.B i).ue), clD (V (sr D i 0)).hi (nmS (D.B i).vn (D.B i).ve) (nmS (D.B i).un (D.B i).ue)⟩ := by unfold bvI fI; rw [hk]; rfl
  rw [hbv]; clear hbv
  obtain ⟨W1, hW1⟩ : ∃ W1, W1 = vaIW w D p Ao lo co Ad ld cd As ns' cs i A c 102 79 27 58 := ⟨_, rfl⟩
  have hM : VaI w W1 D p Ao lo co Ad ld cd As ns' cs i A c := by rw [hW1]; exact VaI.new _ _ _ _ _ _ _ _ _ _ _ _ _ _ _ _ _ _ _
  have hz := hM.sz
  have HM := Lib.hid hM
  have hns : Hid (ns D i = (D.B i).n ∧ ((D.B i).n : Int) = arity (D.B i).k) := ⟨by unfold ns; rw [if_neg (by omega)], ok.ar i hi⟩
  have hn0 : 0 < ns D i := by
    have a := hns.out
    have b : arity (D.B i).k = 1 := by rw [hk]; decide
    omega
  have HA0 : Hid (∀ w', Ext W1 w' → Calls Tryz.prog 166 #[I 0, .pointer (some ⟨w.heap.size + 1 + 1, 0, none⟩), .pointer (some ⟨w.heap.size + 1, 0, none⟩)] w' (fun x w'' => x = .returned (R (sr D i 0)).v ∧ Ext w' w'')) := fun w' e => hM.arg d ok.toWF hi l 0 hn0 w' e
  have HC0 : Hid (∀ w', Ext W1 w' → CnI w' (R (sr D i 0)) (V (sr D i 0))) := fun w' e => (l.el _ (ok.src hi hn0).2.1).ext (hM.ext.trans e)
  have HNV : Hid (∀ w', Ext W1 w' → Calls Tryz.prog 169 #[.agg #[I (D.B i).vn, I (D.B i).ve]] w' (DyRes (nmS (D.B i).vn (D.B i).ve) w')) := fun w' e => by
    have hv := ok.val hi (by unfold usesV; rw [hk]; decide)
    exact rnum_any _ _ _ (hT.ext (hM.ext.trans e)) hv.1 hv.2.1 hv.2.2.1 hv.2.2.2
  have HLV : Hid ((nmS (D.B i).vn (D.B i).ve).ok ∧ len (nmS (D.B i).vn (D.B i).ve).m ≤ 16777216 ∧ len (nmS (D.B i).vn (D.B i).ve).m ≤ 1048576) := by
    have hv := ok.val hi (by unfold usesV; rw [hk]; decide)
    exact ⟨nmS_ok _ _, (nmS_len hv.1 hv.2.1 hv.2.2.2).2, Nat.le_trans (nmS_len' (by omega) (by omega) hv.2.2.2) (by decide)⟩
  have HNU : Hid (∀ w', Ext W1 w' → Calls Tryz.prog 169 #[.agg #[I (D.B i).un, I (D.B i).ue]] w' (DyRes (nmS (D.B i).un (D.B i).ue) w')) := fun w' e => by
    have hv := ok.upp hi hk
    exact rnum_any _ _ _ (hT.ext (hM.ext.trans e)) hv.1 hv.2.1 hv.2.2.1 hv.2.2.2
  have HLU : Hid ((nmS (D.B i).un (D.B i).ue).ok ∧ len (nmS (D.B i).un (D.B i).ue).m ≤ 16777216 ∧ len (nmS (D.B i).un (D.B i).ue).m ≤ 1048576) := by
    have hv := ok.upp hi hk
    exact ⟨nmS_ok _ _, (nmS_len hv.1 hv.2.1 hv.2.2.2).2, Nat.le_trans (nmS_len' (by omega) (by omega) hv.2.2.2) (by decide)⟩
  have HCM : Hid (¬ 0 < cmpD (nmS (D.B i).vn (D.B i).ve) (nmS (D.B i).un (D.B i).ue)) := by
    have hv := ok.val hi (by unfold usesV; rw [hk]; decide)
    have hu := ok.upp hi hk
    have h := cmp_gtS hv.2.2.1 hv.2.2.2 hu.2.2.1 hu.2.2.2 (n := (D.B i).vn) (m := (D.B i).un)
    rw [(ok.scal hi).2.2 hk] at h
    exact of_decide_eq_false h
  have HF : Hid (∀ w' A2 c2 A3 c3, Ext W1 w' → Cn w' (cnR (nmS (D.B i).vn (D.B i).ve) A2 c2) (nmS (D.B i).vn (D.B i).ve) → Cn w' (cnR (nmS (D.B i).un (D.B i).ue) A3 c3) (nmS (D.B i).un (D.B i).ue) → Calls Tryz.prog 177 #[(R (sr D i 0)).v, (cnR (nmS (D.B i).vn (D.B i).ve) A2 c2).v, (cnR (nmS (D.B i).un (D.B i).ue) A3 c3).v] w' (IvOk (clD (V (sr D i 0)).lo (nmS (D.B i).vn (D.B i).ve) (nmS (D.B i).un (D.B i).ue)) (clD (V (sr D i 0)).hi (nmS (D.B i).vn (D.B i).ve) (nmS (D.B i).un (D.B i).ue)) w')) := fun w' A2 c2 A3 c3 e cn cn' => iclip_ok (HC0.out w' e).iw cn.dy cn'.dy ⟨HLV.out.1, HLV.out.2.2⟩ ⟨HLU.out.1, HLU.out.2.2⟩ (hT.ext (hM.ext.trans e)) HCM.out
  obtain ⟨u, hu⟩ : ∃ u, clD (V (sr D i 0)).lo (nmS (D.B i).vn (D.B i).ve) (nmS (D.B i).un (D.B i).ue) = u := ⟨_, rfl⟩
  obtain ⟨v, hv⟩ : ∃ v, clD (V (sr D i 0)).hi (nmS (D.B i).vn (D.B i).ve) (nmS (D.B i).un (D.B i).ue) = v := ⟨_, rfl⟩
  rw [hu, hv] at HF ⊢
  clear hu hv HC0 hn0 HCM
  have HS : Hid (∀ w', Ext W1 w' → w'.cell? ⟨w.heap.size + 1, 2, none⟩ = some (I (D.B i).vn) ∧ w'.cell? ⟨w.heap.size + 1, 3, none⟩ = some (I (D.B i).ve) ∧ w'.cell? ⟨w.heap.size + 1, 4, none⟩ = some (I (D.B i).un) ∧ w'.cell? ⟨w.heap.size + 1, 5, none⟩ = some (I (D.B i).ue)) := fun w' e =>
    ⟨(e.old.1 _ _ (by omega)).trans hM.k2, (e.old.1 _ _ (by omega)).trans hM.k3, (e.old.1 _ _ (by omega)).trans hM.k4, (e.old.1 _ _ (by omega)).trans hM.k5⟩
  have HTT := Lib.hid (hT.ext hM.ext)
  have k0 := hM.k0
  rw [hk] at k0
  clear d ok hT hi l hM
  rw [hk]
  unfold vaIW vaX at hW1
  rw [hk] at hW1
  clear hk
  go_enter Tryz.func119, Tryz.ntmps119
  go_upto_region 2 with fail
  rw [← hW1]; clear hW1
  have hx : Ext W1 W1 := Ext.refl _
  obtain ⟨q0, q1, q2, q3⟩ := HS.out W1 (Ext.refl _)
  have hz' : w.heap.size + 4 ≤ W1.heap.size := by omega
  clear hz
  generalize R (sr D i 0) = rr at *
  generalize hs : nmS (D.B i).vn (D.B i).ve = sv at *
  generalize hs2 : nmS (D.B i).un (D.B i).ue = su at *
  clear hs hs2
  generalize (D.B i).vn = vn at *
  generalize (D.B i).ve = ve at *
  generalize (D.B i).un = un at *
  generalize (D.B i).ue = ue at *
  go_upto_region 24 with fail
  go_region_held3 (fun w' => w'.cell? ⟨w.heap.size + 1, 2, none⟩ = some (I vn) ∧ w'.cell? ⟨w.heap.size + 1, 3, none⟩ = some (I ve) ∧ w'.cell? ⟨w.heap.size + 1, 4, none⟩ = some (I un) ∧ w'.cell? ⟨w.heap.size + 1, 5, none⟩ = some (I ue)) (first | exact HS.out _ ex2 | (refine ⟨?_, ?_, ?_, ?_⟩ <;> (rw [cell_far6' (by omega)]; assumption)))
    (first
      | (go_at_call 166; (with_reducible refine (HA0.out _ ex2).mono ?_); rintro e1 w3 ⟨rfl, h3⟩; have HX3 := Lib.hid (show Ext W1 w3 from ex2); obtain ⟨t0, t1, t2, t3⟩ := HS.out w3 HX3.out; have hs3 := HX3.out.size; (first | (have HZG := Lib.hid (zN h3)) | (have HZG := Lib.hid (zND h3)) | (have HZG := Lib.hid (HZG.out.ext h3)) | skip); (try have hzl := HZG.out.lt))
      | (go_at_call 177; (with_reducible refine (HF.out _ _ _ _ _ ex2 (CN0.out.ext ex2) (CN4.out.ext ex2)).mono ?_); rintro e1 w6 hr; obtain ⟨A2, c2, B2, k2', rfl, fa, fb, hx2⟩ := hr; have FA := Lib.hid fa; have FB := Lib.hid fb; have HX6 := Lib.hid (show Ext W1 w6 from ex2); obtain ⟨p0, p1, p2, p3⟩ := HS.out w6 HX6.out; have hl6 := HX6.out.size; have mW1 : ¬ w.heap.size + 1 + 1 + 1 = W1.heap.size := (by omega); have nW1 : ¬ W1.heap.size = w.heap.size + 1 + 1 + 1 := (by omega); have mw3 : ¬ w.heap.size + 1 + 1 + 1 = w3.heap.size := (by omega); have nw3 : ¬ w3.heap.size = w.heap.size + 1 + 1 + 1 := (by omega); have mw2 : ¬ w.heap.size + 1 + 1 + 1 = w2.heap.size := (by omega); have nw2 : ¬ w2.heap.size = w.heap.size + 1 + 1 + 1 := (by omega); have mw4 : ¬ w.heap.size + 1 + 1 + 1 = w4.heap.size := (by omega); have nw4 : ¬ w4.heap.size = w.heap.size + 1 + 1 + 1 := (by omega); have mw6 : ¬ w.heap.size + 1 + 1 + 1 = w6.heap.size := (by omega); have nw6 : ¬ w6.heap.size = w.heap.size + 1 + 1 + 1 := (by omega); obtain ⟨⟨r0, r1, r2, r3, r4, r5⟩, rf⟩ := HM.out.rs.ext HX6.out; have f0 := rf 0; have f1 := rf 1; have f2 := rf 2; have f3 := rf 3; have f4 := rf 4; have f5 := rf 5; clear rf; (first | (have HZG := Lib.hid (zN hx2)) | (have HZG := Lib.hid (zND hx2)) | (have HZG := Lib.hid (HZG.out.ext hx2)) | skip); (first | (obtain ⟨⟨z0, z1, z2, z3, z4, z5⟩, zf⟩ := HZG.out; have g0 := zf 0; have g1 := zf 1; have g2 := zf 2; have g3 := zf 3; have g4 := zf 4; have g5 := zf 5; have hzl := HZG.out.lt; clear zf) | skip); clear fa fb)
      | (go_at_call 169; first
        | (with_reducible refine (HNV.out _ ex2).mono ?_; rintro e1 w2 hr0; obtain ⟨A0, y0, rfl, cn0, _, hx0⟩ := hr0.cn HLV.out.1 HLV.out.2.1; have HX2 := Lib.hid (show Ext W1 w2 from ex2); have CN0 := Lib.hid cn0; obtain ⟨s0, s1, s2, s3⟩ := HS.out w2 HX2.out; have hs2 := HX2.out.size; clear hr0 cn0; (first | (have HZG := Lib.hid (zN hx0)) | (have HZG := Lib.hid (zND hx0)) | (have HZG := Lib.hid (HZG.out.ext hx0)) | skip); (try have hzl := HZG.out.lt))
        | (with_reducible refine (HNU.out _ ex2).mono ?_; rintro e1 w4 hr0; obtain ⟨A4, y4, rfl, cn4, _, hx4⟩ := hr0.cn HLU.out.1 HLU.out.2.1; have HX4 := Lib.hid (show Ext W1 w4 from ex2); have CN4 := Lib.hid cn4; obtain ⟨u0, u1, u2, u3⟩ := HS.out w4 HX4.out; have hs4 := HX4.out.size; clear hr0 cn4; (first | (have HZG := Lib.hid (zN hx4)) | (have HZG := Lib.hid (zND hx4)) | (have HZG := Lib.hid (HZG.out.ext hx4)) | skip); (try have hzl := HZG.out.lt))))
  all_goals
    go_upto_region 25 with fail
    first
    | (have hq : B6 w6 w4.heap.size (.bool false) (.slice none 0 0) (I 0) (.bool false) (.slice none 0 0) (I 0) := HZG.out
       obtain ⟨ez, bz, fz1, fz2⟩ := clip_set (g := w4.heap.size) (u := u) (v := v) HX6.out (by first | omega | fail "no") hq FA.out FB.out (by first | omega | (simp; done) | (simp; omega) | fail "no") (by first | omega | (simp; done) | (simp; omega) | fail "no")
       generalize hwz : ((((((w6.setCell ⟨w4.heap.size, 0, none⟩ (.bool u.neg)).setCell ⟨w4.heap.size, 1, none⟩ (.slice A2 (len u.m) c2)).setCell ⟨w4.heap.size, 2, none⟩ (I u.den)).setCell ⟨w4.heap.size, 3, none⟩ (.bool v.neg)).setCell ⟨w4.heap.size, 4, none⟩ (.slice B2 (len v.m) k2')).setCell ⟨w4.heap.size, 5, none⟩ (I v.den)) = wz at ez bz fz1 fz2 ⊢)
    | (have hq : B6 w6 w2.heap.size (.bool false) (.slice none 0 0) (I 0) (.bool false) (.slice none 0 0) (I 0) := HZG.out
       obtain ⟨ez, bz, fz1, fz2⟩ := clip_set (g := w2.heap.size) (u := u) (v := v) HX6.out (by first | omega | fail "no") hq FA.out FB.out (by first | omega | (simp; done) | (simp; omega) | fail "no") (by first | omega | (simp; done) | (simp; omega) | fail "no")
       generalize hwz : ((((((w6.setCell ⟨w2.heap.size, 0, none⟩ (.bool u.neg)).setCell ⟨w2.heap.size, 1, none⟩ (.slice A2 (len u.m) c2)).setCell ⟨w2.heap.size, 2, none⟩ (I u.den)).setCell ⟨w2.heap.size, 3, none⟩ (.bool v.neg)).setCell ⟨w2.heap.size, 4, none⟩ (.slice B2 (len v.m) k2')).setCell ⟨w2.heap.size, 5, none⟩ (I v.den)) = wz at ez bz fz1 fz2 ⊢)
    | (have hq : B6 w6 w3.heap.size (.bool false) (.slice none 0 0) (I 0) (.bool false) (.slice none 0 0) (I 0) := HZG.out
       obtain ⟨ez, bz, fz1, fz2⟩ := clip_set (g := w3.heap.size) (u := u) (v := v) HX6.out (by first | omega | fail "no") hq FA.out FB.out (by first | omega | (simp; done) | (simp; omega) | fail "no") (by first | omega | (simp; done) | (simp; omega) | fail "no")
       generalize hwz : ((((((w6.setCell ⟨w3.heap.size, 0, none⟩ (.bool u.neg)).setCell ⟨w3.heap.size, 1, none⟩ (.slice A2 (len u.m) c2)).setCell ⟨w3.heap.size, 2, none⟩ (I u.den)).setCell ⟨w3.heap.size, 3, none⟩ (.bool v.neg)).setCell ⟨w3.heap.size, 4, none⟩ (.slice B2 (len v.m) k2')).setCell ⟨w3.heap.size, 5, none⟩ (I v.den)) = wz at ez bz fz1 fz2 ⊢)
    | (have hq : B6 w6 W1.heap.size (.bool false) (.slice none 0 0) (I 0) (.bool false) (.slice none 0 0) (I 0) := HZG.out
       obtain ⟨ez, bz, fz1, fz2⟩ := clip_set (g := W1.heap.size) (u := u) (v := v) HX6.out (by first | omega | fail "no") hq FA.out FB.out (by first | omega | (simp; done) | (simp; omega) | fail "no") (by first | omega | (simp; done) | (simp; omega) | fail "no")
       generalize hwz : ((((((w6.setCell ⟨W1.heap.size, 0, none⟩ (.bool u.neg)).setCell ⟨W1.heap.size, 1, none⟩ (.slice A2 (len u.m) c2)).setCell ⟨W1.heap.size, 2, none⟩ (I u.den)).setCell ⟨W1.heap.size, 3, none⟩ (.bool v.neg)).setCell ⟨W1.heap.size, 4, none⟩ (.slice B2 (len v.m) k2')).setCell ⟨W1.heap.size, 5, none⟩ (I v.den)) = wz at ez bz fz1 fz2 ⊢)
    | (have ez := HX6.out.trans (Ext.alloc w6 (.cells #[.bool u.neg, .slice A2 (len u.m) c2, I u.den, .bool v.neg, .slice B2 (len v.m) k2', I v.den] 58))
       have bz := B6.new w6 (.bool u.neg) (.slice A2 (len u.m) c2) (I u.den) (.bool v.neg) (.slice B2 (len v.m) k2') (I v.den) 58
       have fz1 := FA.out.ext (Ext.alloc w6 (.cells #[.bool u.neg, .slice A2 (len u.m) c2, I u.den, .bool v.neg, .slice B2 (len v.m) k2', I v.den] 58))
       have fz2 := FB.out.ext (Ext.alloc w6 (.cells #[.bool u.neg, .slice A2 (len u.m) c2, I u.den, .bool v.neg, .slice B2 (len v.m) k2', I v.den] 58))
       generalize hwz : w6.alloc (.cells #[.bool u.neg, .slice A2 (len u.m) c2, I u.den, .bool v.neg, .slice B2 (len v.m) k2', I v.den] 58) = wz at ez bz fz1 fz2 ⊢)
    all_goals
      clear hwz
      have EZ := Lib.hid ez; have FZ1 := Lib.hid fz1; have FZ2 := Lib.hid fz2
      obtain ⟨⟨b0, b1, b2, b3, b4, b5⟩, _⟩ := bz
      obtain ⟨⟨r0, r1, r2, r3, r4, r5⟩, rf⟩ := HM.out.rs.ext ez
      have f0 := rf 0; have f1 := rf 1; have f2 := rf 2; have f3 := rf 3; have f4 := rf 4; have f5 := rf 5
      clear rf ez fz1 fz2
      go_wp2_with fail
      exact bodyPost_ret (v := ivd u A2 c2 v B2 k2') (by simp [results, Tryz.results119, go_sem, r0, r1, r2, r3, r4, r5]) rfl (IvRes.end6 rfl FZ1.out FZ2.out (HM.out.ext.trans EZ.out) (by omega) (by first | omega | (simp; done) | (simp; omega) | fail "no") (by first | omega | (simp; done) | (simp; omega) | fail "no"))
end
section
open Go Go.RowKit
theorem q_int (n : Int) : (ofI n 0).q = (n : Rat) := by
 unfold ofI
 rw [q_mkD _ _ (by decide)]
 unfold qOf
 rw [qp_zero]
 by_cases h : n < 0
 ·obtain ⟨m, rfl⟩ : ∃ m : Nat, n = -(m : Int) := ⟨n.natAbs, by omega⟩
  have hc : ((m : Int) : Rat) = ((m : Nat) : Rat) := by first | rfl | exact Rat.intCast_natCast m
  rw [decide_eq_true h, if_pos rfl]
  simp [hc]
  try grind
 ·obtain ⟨m, rfl⟩ : ∃ m : Nat, n = (m : Int) := ⟨n.natAbs, by omega⟩
  have hc : ((m : Int) : Rat) = ((m : Nat) : Rat) := by first | rfl | exact Rat.intCast_natCast m
  rw [decide_eq_false h, if_neg (by decide)]
  simp [hc]
  try grind
theorem nm_zero (n : Int) : nmS n 0 = ofI n 0 := shift0 (ofI_ok n 0)
theorem prt_mul {n e : Int} (h1 : -62 ≤ e) (h2 : e ≤ 30) : mulD (ofI n 0) (pwD e) = nmS n e := by
 have hd1 : (ofI n 0).den ≤ 0 := mkD_den _ _ _
 have hd2 : (pwD e).den ≤ 62 := nmS_den (n := 1) h1
 have q0 := nmS_q (n := n) (e := 0) (by omega) (by omega)
 rw [nm_zero] at q0
 refine DV.uniq (mkD_ok _ _ _) (nmS_ok _ _) ?_
 have hp : (pwD e).q = ((1 * 2 ^ (e + 62).toNat : Int) : Rat) / qp 62 := nmS_q h1 h2
 rw [q_mulD (by omega), hp, nmS_q h1 h2, q_int]
 have h0 := qp_pos 62
 rw [Int.one_mul, Rat.intCast_mul]
 grind
theorem nm_mono {n m e : Int} (h1 : -62 ≤ e) (h2 : e ≤ 30) (h : n ≤ m) : (nmS n e).q ≤ (nmS m e).q := by
 rw [nmS_q h1 h2, nmS_q h1 h2]
 have h0 := qp_pos 62
 have h3 : n * 2 ^ (e + 62).toNat ≤ m * 2 ^ (e + 62).toNat := Int.mul_le_mul_of_nonneg_right h (by exact_mod_cast Nat.zero_le _)
 have h4 : ((n * 2 ^ (e + 62).toNat : Int) : Rat) ≤ ((m * 2 ^ (e + 62).toNat : Int) : Rat) := by exact_mod_cast h3
 rw [Rat.div_def, Rat.div_def]
 have h5 : 0 ≤ (qp 62)⁻¹ := Rat.le_of_lt (Rat.inv_pos.2 h0)
 exact Rat.mul_le_mul_of_nonneg_right h4 h5
theorem prtI_gd {D : Dia} (ok : OkD D) {x : Nat} (hx : x < D.ni) : GdI (prtI (D.P x)) := by
 have hp := ok.port hx
 have key : ∀ n : Int, (D.P x).lo ≤ n → n ≤ (D.P x).hi → End (nmS n (-(D.P x).fr)) := fun n a b => ⟨nmS_ok _ _, Nat.le_trans (nmS_len' (by omega) (by omega) (by omega)) (by decide)⟩
 exact ⟨key _ (by omega) (by omega), key _ (by omega) (by omega), nm_mono (by omega) (by omega) (by omega)⟩
set_option maxRecDepth 100000 in
set_option maxHeartbeats 1000000 in
theorem range_input {w : World} {D : Dia} {p : Pl} {Ao Ad As A : Option Addr} {lo co ld cd ns' cs i c : Nat} {R : Nat → RI} {V : Nat → IV} (d : Dm w D p) (ok : OkD D) (hT : Tabs w) (hi : i < D.nb) (hk : (D.B i).k = 0) (l : LnI w A D.nb R V) :
  Calls Tryz.prog 119 #[anv D p Ao lo co Ad ld cd As ns' cs, bkv (D.B i).k (p.AA i) (D.B i).n (p.cA i) (D.B i).vn (D.B i).ve (D.B i).un (D.B i).ue, .slice A D.nb c] w (IvRes (bvI D V i).lo (bvI D V i).hi w) := by
 have hmf : ∀ (fn : Fn) (first cap : Array Value) (w : World), (Instr.makeFunc fn first cap).run Tryz.prog w = .ok (.func fn first cap) w := fun _ _ _ _ => rfl
 have hbv : bvI D V i = ⟨prtV (D.P (sr D i 0)) (D.P (sr D i 0)).lo, prtV (D.P (sr D i 0)) (D.P (sr D i 0)).hi⟩ := by unfold bvI; rw [hk]; rfl
 rw [hbv]; clear hbv
 obtain ⟨W1, hW1⟩ : ∃ W1, W1 = vaIW w D p Ao lo co Ad ld cd As ns' cs i A c 102 79 27 58 := ⟨_, rfl⟩
 have hM : VaI w W1 D p Ao lo co Ad ld cd As ns' cs i A c := by rw [hW1]; exact VaI.new _ _ _ _ _ _ _ _ _ _ _ _ _ _ _ _ _ _ _
 have hz := hM.sz
 have HM := Lib.hid hM
 have hl0 := l
 clear hl0
 obtain ⟨hxn, har, hxa⟩ := ok.inp hi hk
 obtain ⟨x, hx0⟩ : ∃ x, sr D i 0 = x := ⟨_, rfl⟩
 rw [hx0] at hxn hxa ⊢
 clear hx0
 obtain ⟨ba, oa, ha, hba, hca⟩ := (d.args i hi).1 (by omega)
 have xa := hca 0 (by omega)
 rw [Nat.add_zero, hxa] at xa
 obtain ⟨bp, op, hp, hbp, hcp⟩ := d.ports (by omega)
 obtain ⟨p0, p1, p2⟩ := hcp x hxn
 have hpo := ok.port hxn
 have k1 := hM.k1
 rw [ha, har] at k1
 have HS : Hid (∀ w', Ext W1 w' → (w'.cell? ⟨w.heap.size, 0, none⟩ = some (.slice (some ⟨bp, op, none⟩) D.ni p.cI) ∧ w'.cell? ⟨w.heap.size + 1, 1, none⟩ = some (.slice (some ⟨ba, oa, none⟩) 1 (p.cA i)) ∧ w'.cell? ⟨ba, oa, none⟩ = some (I x)) ∧
   (w'.cell? ⟨bp, op + x * 3, none⟩ = some (I (D.P x).lo) ∧ w'.cell? ⟨bp, op + x * 3 + 1, none⟩ = some (I (D.P x).hi) ∧ w'.cell? ⟨bp, op + x * 3 + 2, none⟩ = some (I (D.P x).fr))) := fun w' e => by
  have a0 := (hM.b6.ext e).1.1
  rw [hp] at a0
  exact ⟨⟨a0, (e.old.1 _ _ (by omega)).trans k1, ((hM.ext.trans e).old.1 _ _ hba).trans xa⟩, ((hM.ext.trans e).old.1 _ _ hbp).trans p0, ((hM.ext.trans e).old.1 _ _ hbp).trans p1, ((hM.ext.trans e).old.1 _ _ hbp).trans p2⟩
 have hxn' : (x : Int) < (D.ni : Int) := by omega
 obtain ⟨pl, hpl⟩ : ∃ y, (D.P x).lo = y := ⟨_, rfl⟩
 obtain ⟨ph, hph⟩ : ∃ y, (D.P x).hi = y := ⟨_, rfl⟩
 obtain ⟨f, hf⟩ : ∃ y, (D.P x).fr = y := ⟨_, rfl⟩
 rw [prtV_eq, prtV_eq, hpl, hph, hf]
 rw [hpl, hph, hf] at HS hpo
 obtain ⟨g, hg⟩ : ∃ g, -f = g := ⟨_, rfl⟩
 have hng : IntKind.i64.wrap (-f) = g := by rw [← hg]; exact IntWalk.i64_in _ (by omega)
 have hgb : -30 ≤ g ∧ g ≤ 0 := by omega
 rw [hg]
 have hq : (ofI pl 0).q ≤ (ofI ph 0).q := by rw [← nm_zero, ← nm_zero]; exact nm_mono (by omega) (by omega) (by omega)
 have he : ∀ n : Int, pl ≤ n → n ≤ ph → End (ofI n 0) := fun n a b => ⟨ofI_ok n 0, Nat.le_trans (len_mono (mkD_m_le _ _ _)) (Nat.le_trans (len_abs (by omega) (by omega)) (by decide))⟩
 have hel := he pl (by omega) (by omega)
 have heh := he ph (by omega) (by omega)
 have hnq := nm_mono (n := pl) (m := ph) (e := g) (by omega) (by omega) (by omega)
 have HI : Hid (∀ w', Ext W1 w' → Calls Tryz.prog 168 #[I pl, I ph] w' (IvRes (ofI pl 0) (ofI ph 0) w')) := fun w' e => by
  have := iints_any (w := w') pl ph (by omega) (by omega) (by omega) (by omega) (hT.ext (hM.ext.trans e))
  rw [lo2_of (ofI_ok _ _) (ofI_ok _ _) hq, hi2_of (ofI_ok _ _) (ofI_ok _ _) hq] at this; exact this
 have HP : Hid (∀ w', Ext W1 w' → Calls Tryz.prog 138 #[I g] w' (DyRes (pwD g) w')) := fun w' e => rpower_any g w' (hT.ext (hM.ext.trans e)) (by omega) (by omega)
 have hpw : (pwD g).ok ∧ len (pwD g).m ≤ 1048576 := ⟨nmS_ok 1 g, Nat.le_trans (nmS_len' (n := 1) (e := g) (by omega) (by omega) (by omega)) (by decide)⟩
 have HPW := Lib.hid hpw
 have HEN : Hid (End (ofI pl 0) ∧ End (ofI ph 0) ∧ (ofI pl 0).q ≤ (ofI ph 0).q) := ⟨hel, heh, hq⟩
 have HF : Hid (∀ w' A2 c2 B2 k2 A3 c3, Ext W1 w' → CnI w' (ciR ⟨ofI pl 0, ofI ph 0⟩ A2 c2 B2 k2) ⟨ofI pl 0, ofI ph 0⟩ → Cn w' (cnR (pwD g) A3 c3) (pwD g) → Calls Tryz.prog 167 #[(ciR ⟨ofI pl 0, ofI ph 0⟩ A2 c2 B2 k2).v, (cnR (pwD g) A3 c3).v] w' (IvRes (nmS pl g) (nmS ph g) w')) := fun w' A2 c2 B2 k2 A3 c3 e cn cn' => by
  have := scale_any cn.iw cn'.dy (hT.ext (hM.ext.trans e)) hpw.2
  rw [prt_mul (by omega) (by omega), prt_mul (by omega) (by omega), lo2_of (nmS_ok _ _) (nmS_ok _ _) hnq, hi2_of (nmS_ok _ _) (nmS_ok _ _) hnq] at this
  exact this
 obtain ⟨u, hu⟩ : ∃ u, nmS pl g = u := ⟨_, rfl⟩
 obtain ⟨v, hv⟩ : ∃ v, nmS ph g = v := ⟨_, rfl⟩
 rw [hu, hv] at HF ⊢
 have hz' : w.heap.size + 4 ≤ W1.heap.size := by omega
 have hba' := hba; have hbp' := hbp
 clear hu hv hnq he hel heh hq hpw hg hpl hph hf hpo hcp hca xa p0 p1 p2 hxa k1
 have HTT := Lib.hid (hT.ext hM.ext)
 have k0 := hM.k0
 rw [hk] at k0
 clear d ok hT hi l hM ha hp har
 rw [hk]
 unfold vaIW vaX at hW1
 rw [hk] at hW1
 clear hk
 obtain ⟨⟨q0, q1, q2⟩, q3, q4, q5⟩ := HS.out W1 (Ext.refl _)
 clear hz
 go_enter Tryz.func119, Tryz.ntmps119
 go_upto_region 2 with fail
 rw [← hW1]; clear hW1
 have hx : Ext W1 W1 := Ext.refl _
 generalize pwD g = pw at *
 generalize ofI pl 0 = ol at *
 generalize ofI ph 0 = oh at *
 go_upto_region 4 with fail
 go_region_held3 (fun w' => (w'.cell? ⟨w.heap.size, 0, none⟩ = some (.slice (some ⟨bp, op, none⟩) D.ni p.cI) ∧ w'.cell? ⟨w.heap.size + 1, 1, none⟩ = some (.slice (some ⟨ba, oa, none⟩) 1 (p.cA i)) ∧ w'.cell? ⟨ba, oa, none⟩ = some (I x)) ∧
   (w'.cell? ⟨bp, op + x * 3, none⟩ = some (I pl) ∧ w'.cell? ⟨bp, op + x * 3 + 1, none⟩ = some (I ph) ∧ w'.cell? ⟨bp, op + x * 3 + 2, none⟩ = some (I f)))
   (first | exact HS.out _ ex2 | (refine ⟨⟨?_, ?_, ?_⟩, ?_, ?_, ?_⟩ <;> (rw [cell_far3 (by omega)]; assumption))) (fail)
 obtain ⟨wz, hwz⟩ : ∃ wz, wz = (W1.alloc (.cells #[I pl, I ph, I f] 82)).drew := ⟨_, rfl⟩
 have hez : Ext W1 wz := by rw [hwz]; exact (Ext.alloc _ _).trans (Ext.drew _)
 have hbz : Bx wz W1.heap.size (I pl) (I ph) (I f) := by rw [hwz]; exact (Bx.new _ _ _ _ _).ext (Ext.drew _)
 have HEZ := Lib.hid hez
 have HSB : Hid (∀ w', Ext wz w' → w'.cell? ⟨W1.heap.size, 0, none⟩ = some (I pl) ∧ w'.cell? ⟨W1.heap.size, 1, none⟩ = some (I ph) ∧ w'.cell? ⟨W1.heap.size, 2, none⟩ = some (I f)) := fun w' e => (hbz.ext e).1
 rw [← hwz]
 clear hwz hbz hez q0 q1 q2 q3 q4 q5
 obtain ⟨q0, q1, q2⟩ := HSB.out wz (Ext.refl _)
 have hsz1 := HEZ.out.size
 go_upto_region 5 with fail
 go_region_held3 (fun w' => w'.cell? ⟨W1.heap.size, 0, none⟩ = some (I pl) ∧ w'.cell? ⟨W1.heap.size, 1, none⟩ = some (I ph) ∧ w'.cell? ⟨W1.heap.size, 2, none⟩ = some (I f)) (first | exact HSB.out _ ex2 | (refine ⟨?_, ?_, ?_⟩ <;> (rw [cell_far6' (by omega)]; assumption)))
  (first
   | (go_at_call 168; (with_reducible refine (HI.out _ (HEZ.out.trans ex2)).mono ?_); rintro e1 w2 hr0; obtain ⟨A0, y0, B0, z0, rfl, cn0, _, hx0⟩ := hr0.cn HEN.out.1 HEN.out.2.1 HEN.out.2.2; have HX2 := Lib.hid (show Ext wz w2 from ex2); have CN0 := Lib.hid cn0; obtain ⟨s0, s1, s2⟩ := HSB.out w2 HX2.out; have hs2 := HX2.out.size; clear hr0 cn0)
   | (go_at_call 138; (with_reducible refine (HP.out _ (HEZ.out.trans ex2)).mono ?_); rintro e1 w4 hr0; obtain ⟨A4, y4, rfl, cn4, _, hx4⟩ := hr0.cn HPW.out.1 (Nat.le_trans HPW.out.2 (by decide)); have HX4 := Lib.hid (show Ext wz w4 from ex2); have CN4 := Lib.hid cn4; obtain ⟨u0, u1, u2⟩ := HSB.out w4 HX4.out; have hs4 := HX4.out.size; clear hr0 cn4)
   | (go_at_call 167; (with_reducible refine (HF.out _ _ _ _ _ _ _ (HEZ.out.trans ex2) (CN0.out.ext ex2) (CN4.out.ext ex2)).mono ?_); rintro e1 w6 hr; obtain ⟨A2, c2, B2, k2', rfl, fa, fb, hx2⟩ := hr; have FA := Lib.hid fa; have FB := Lib.hid fb; have HX6 := Lib.hid (HEZ.out.trans (show Ext wz w6 from ex2)); obtain ⟨p0, p1, p2⟩ := HSB.out w6 ex2; obtain ⟨⟨r0, r1, r2, r3, r4, r5⟩, rf⟩ := HM.out.rs.ext HX6.out; have f0 := rf 0; have f1 := rf 1; have f2 := rf 2; have f3 := rf 3; have f4 := rf 4; have f5 := rf 5; clear rf fa fb))
 all_goals
  go_wp2_with fail
  exact bodyPost_ret (v := ivd u A2 c2 v B2 k2') (by simp [results, Tryz.results119, go_sem, r0, r1, r2, r3, r4, r5]) rfl (IvRes.end6 rfl FA.out FB.out (HM.out.ext.trans HX6.out) (by omega) (by omega) (by omega))
theorem rangeOf_any {w : World} {D : Dia} {p : Pl} {Ao Ad As A : Option Addr} {lo co ld cd ns' cs i c : Nat} {R : Nat → RI} {V : Nat → IV} (d : Dm w D p) (ok : OkD D) (hT : Tabs w) (hi : i < D.nb) (hd : isD D i = false) (l : LnI w A D.nb R V) (hsh : ∀ j, j < ns D i → ShI (V (sr D i j))) :
  Calls Tryz.prog 119 #[anv D p Ao lo co Ad ld cd As ns' cs, bkv (D.B i).k (p.AA i) (D.B i).n (p.cA i) (D.B i).vn (D.B i).ve (D.B i).un (D.B i).ue, .slice A D.nb c] w (IvRes (bvI D V i).lo (bvI D V i).hi w) := by
 have h := ok.k0 i hi
 have h2 : (D.B i).k ≠ 2 := fun e => by unfold isD at hd; rw [e] at hd; cases hd
 have h3 : (D.B i).k = 0 ∨ (D.B i).k = 1 ∨ (D.B i).k = 3 ∨ (D.B i).k = 4 ∨ (D.B i).k = 5 ∨ (D.B i).k = 6 ∨ (D.B i).k = 7 ∨ (D.B i).k = 8 ∨ (D.B i).k = 9 ∨ (D.B i).k = 10 ∨ (D.B i).k = 11 := by omega
 rcases h3 with hk | hk | hk | hk | hk | hk | hk | hk | hk | hk | hk
 ·exact range_input d ok hT hi hk l
 ·exact range_const d ok hT hi hk l
 ·exact range_add d ok hT hi hk l
 ·exact range_sub d ok hT hi hk l
 ·exact range_neg d ok hT hi hk l
 ·exact range_gain d ok hT hi hk l
 ·exact range_mul d ok hT hi hk l hsh
 ·exact range_min d ok hT hi hk l
 ·exact range_max d ok hT hi hk l
 ·exact range_abs d ok hT hi hk l
 ·exact range_clip d ok hT hi hk l
theorem bvI_gd {D : Dia} (ok : OkD D) {V : Nat → IV} {i : Nat} (hi : i < D.nb) (h : ∀ j, j < ns D i → ShI (V (sr D i j))) : GdI (bvI D V i) := by
 unfold bvI
 by_cases e : (D.B i).k = 0
 ·rw [if_pos e]; exact prtI_gd ok (ok.inp hi e).1
 ·rw [if_neg e]
  have hn : ns D i = (D.B i).n := by unfold ns; rw [if_neg e]
  have ha := ok.ar i hi
  have hs := ok.shr hi
  have hz : ShI IV.z := ⟨Shr.zero, Shr.zero, Rat.le_refl⟩
  have e1 : fI (D.B i) (V (sr D i 0)) (V (sr D i 1)) = fI (D.B i) (if 0 < ns D i then V (sr D i 0) else IV.z) (V (sr D i 1)) :=
   fI_congr (fun q => by rw [if_pos (by omega)]) (fun _ => rfl)
  rw [e1]
  refine fI_gd ?_ (fun q => h 1 (by omega)) hs.1 hs.2
  by_cases q : 0 < ns D i
  ·rw [if_pos q]; exact h 0 q
  ·rw [if_neg q]; exact hz
end
section
open Go Go.RowKit
def goI (D : Dia) : List Nat → (Nat → IV) → (Nat → IV)
 | [], V => V
 | i :: L, V => goI D L (putI V i (bvI D V i))
theorem putI_same {α : Type} (V : Nat → α) (i : Nat) (x : α) : putI V i x i = x := if_pos rfl
theorem putI_ne {α : Type} (V : Nat → α) {i j : Nat} (x : α) (h : j ≠ i) : putI V i x j = V j := if_neg h
theorem goI_app (D : Dia) (L K : List Nat) (V : Nat → IV) : goI D (L ++ K) V = goI D K (goI D L V) := by
 induction L generalizing V with
 | nil => rfl
 | cons i L ih => exact ih _
theorem goI_off (D : Dia) (L : List Nat) (V : Nat → IV) (j : Nat) (h : j ∉ L) : goI D L V j = V j := by
 induction L generalizing V with
 | nil => rfl
 | cons i L ih =>
  show goI D L _ j = _
  rw [ih _ (fun q => h (List.mem_cons_of_mem _ q)), putI_ne _ _ (fun q => h (by rw [q]; exact List.mem_cons_self))]
def v0I (D : Dia) (S : Nat → IV) : Nat → IV := fun i => if isD D i = true then S (plc D i) else IV.z
def vkI (D : Dia) (S : Nat → IV) (k : Nat) : Nat → IV := goI D ((ordL D).take k) (v0I D S)
def tkI (D : Dia) (S : Nat → IV) : Nat → IV := goI D (ordL D) (v0I D S)
def tkH (D : Dia) (S : Nat → IV) : Bool := allN D.nb (fun i => !lngI (tkI D S i))
theorem vkI_end (D : Dia) (S : Nat → IV) : vkI D S (ordL D).length = tkI D S := by unfold vkI tkI; rw [List.take_length]
theorem vkI_succ (D : Dia) (S : Nat → IV) {k : Nat} (hk : k < (ordL D).length) :
  vkI D S (k + 1) = putI (vkI D S k) ((ordL D).getD k 0) (bvI D (vkI D S k) ((ordL D).getD k 0)) := by
 unfold vkI
 rw [List.take_succ_eq_append_getElem hk, goI_app]
 have : (ordL D).getD k 0 = (ordL D)[k] := by simp [List.getD, hk]
 rw [this]; rfl
theorem vkI_done {D : Dia} (S : Nat → IV) {k x : Nat} (h : x ∉ (ordL D).drop k) : vkI D S k x = tkI D S x := by
 unfold vkI tkI
 conv => rhs; rw [← List.take_append_drop k (ordL D), goI_app]
 rw [goI_off _ _ _ _ h]
theorem bvI_congr {D : Dia} (wf : WF D) {V V' : Nat → IV} {i : Nat} (hi : i < D.nb) (h : ∀ j, j < ns D i → V (sr D i j) = V' (sr D i j)) : bvI D V i = bvI D V' i := by
 unfold bvI
 by_cases e : (D.B i).k = 0
 ·rw [if_pos e, if_pos e]
 ·rw [if_neg e, if_neg e]
  have hn : ns D i = (D.B i).n := by unfold ns; rw [if_neg e]
  have ha := wf.ar i hi
  exact fI_congr (fun q => h 0 (by omega)) (fun q => h 1 (by omega))
theorem tkI_ord {D : Dia} (ok : OkD D) (S : Nat → IV) {k : Nat} (hk : k < (ordL D).length) :
  bvI D (vkI D S k) ((ordL D).getD k 0) = tkI D S ((ordL D).getD k 0) ∧ tkI D S ((ordL D).getD k 0) = bvI D (tkI D S) ((ordL D).getD k 0) := by
 have h1 : bvI D (vkI D S k) ((ordL D).getD k 0) = bvI D (tkI D S) ((ordL D).getD k 0) := bvI_congr ok.toWF (ord_rdy hk).1 fun j hj => vkI_done S (src_off ok hk hj)
 have h2 : vkI D S (k + 1) ((ordL D).getD k 0) = tkI D S ((ordL D).getD k 0) := vkI_done S fun q => by
  obtain ⟨m, hm, hl, e⟩ := mem_drop q
  have := ord_uniq ok hk hl e
  omega
 rw [vkI_succ D S hk, putI_same] at h2
 exact ⟨h2, h2.symm.trans h1⟩
theorem tkI_eq {D : Dia} (ok : OkD D) (S : Nat → IV) {i : Nat} (hi : i < D.nb) (h : isD D i = false) : tkI D S i = bvI D (tkI D S) i := by
 obtain ⟨t, h1, _, h3, _⟩ := posP_yes ok hi h
 have := (tkI_ord ok S h1).2
 rwa [h3] at this
theorem tkI_del {D : Dia} (S : Nat → IV) {i : Nat} (h : isD D i = true) : tkI D S i = S (plc D i) := by
 rw [← vkI_done S (k := 0) (del_off h)]
 show v0I D S i = _
 unfold v0I; rw [if_pos h]
def evE (D : Dia) (n : Nat) (b : Nat → Bool) (S : Nat → IV) : Int :=
 if n ≠ (delL D).length then 11 else if allN n b = false then 2 else if tkH D S = false then 4 else 0
theorem evE_good {D : Dia} {n : Nat} {b : Nat → Bool} {S : Nat → IV} (h : evE D n b S = 0) : n = (delL D).length ∧ (∀ i, i < n → b i = true) ∧ ∀ i, i < D.nb → lngI (tkI D S i) = false := by
 unfold evE at h
 by_cases h1 : n ≠ (delL D).length
 ·rw [if_pos h1] at h; omega
 rw [if_neg h1] at h
 cases h2 : allN n b with
 | false => rw [if_pos h2] at h; omega
 | true =>
  rw [if_neg (by rw [h2]; decide)] at h
  cases h5 : tkH D S with
  | false => rw [if_pos h5] at h; omega
  | true =>
   refine ⟨by omega, allN_iff.1 h2, fun i hi => ?_⟩
   have := allN_iff.1 h5 i hi; simpa using this
def v1I (D : Dia) (S : Nat → IV) (j : Nat) : Nat → IV := fun i => if isD D i = true ∧ plc D i < j then S (plc D i) else IV.z
theorem v1I_put {D : Dia} (S : Nat → IV) {j i : Nat} (hj : j < (delL D).length) (hi : i < D.nb) : putI (v1I D S j) ((delL D).getD j 0) (S j) i = v1I D S (j + 1) i := by
 have hp := plc_get hj
 have hd := del_at hj
 unfold putI v1I
 by_cases e : i = (delL D).getD j 0
 ·rw [if_pos e, e, if_pos ⟨hd.2, by omega⟩, hp]
 ·rw [if_neg e]
  by_cases q : isD D i = true
  ·by_cases q2 : plc D i < j
   ·rw [if_pos ⟨q, q2⟩, if_pos ⟨q, by omega⟩]
   ·have q3 : ¬ plc D i < j + 1 := fun h => by
     have : plc D i = j := by omega
     have h2 := (plc_lt hi q).2
     rw [this] at h2; exact e h2.symm
    rw [if_neg (fun h => q2 h.2), if_neg (fun h => q3 h.2)]
  ·rw [if_neg (fun h => q h.1), if_neg (fun h => q h.1)]
theorem v1I_end {D : Dia} (S : Nat → IV) {i : Nat} (hi : i < D.nb) : v1I D S (delL D).length i = v0I D S i := by
 unfold v1I v0I
 by_cases q : isD D i = true
 ·rw [if_pos ⟨q, (plc_lt hi q).1⟩, if_pos q]
 ·rw [if_neg (fun h => q h.1), if_neg q]
theorem v1I_zero (D : Dia) (S : Nat → IV) (i : Nat) : v1I D S 0 i = IV.z := if_neg fun h => by omega
theorem tkH_del {D : Dia} {S : Nat → IV} {j : Nat} (hj : j < (delL D).length) (h : lngI (S j) = true) : tkH D S = false := by
 have hd := del_at hj
 refine allN_false.2 ⟨_, hd.1, ?_⟩
 rw [tkI_del S hd.2, plc_get hj, h]; rfl
theorem tkH_ord {D : Dia} {S : Nat → IV} {k : Nat} (hk : k < (ordL D).length) (h : lngI (tkI D S ((ordL D).getD k 0)) = true) : tkH D S = false :=
 allN_false.2 ⟨_, (ord_rdy hk).1, by rw [h]; rfl⟩
theorem tkH_all {D : Dia} (ok : OkD D) {S : Nat → IV} (h1 : ∀ j, j < (delL D).length → lngI (S j) = false) (h2 : ∀ k, k < (ordL D).length → lngI (tkI D S ((ordL D).getD k 0)) = false) : tkH D S = true := by
 refine allN_iff.2 fun i hi => ?_
 cases hd : isD D i with
 | true =>
  have := plc_lt hi hd
  rw [tkI_del S hd, h1 _ this.1]; rfl
 | false =>
  obtain ⟨t, h3, _, h5, _⟩ := posP_yes ok hi hd
  have := h2 t h3
  rw [h5] at this; rw [this]; rfl
end
end Go.Proofs.YtgnngldlgcdnfaaGreatDoor
