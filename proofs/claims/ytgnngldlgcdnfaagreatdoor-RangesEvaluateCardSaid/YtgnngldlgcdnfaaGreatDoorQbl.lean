import Derived.Test.YtgnngldlgcdnfaaGreatDoorQbk
import Derived.Test.YtgnngldlgcdnfaaGreatDoorQan
import Derived.Deep.AppendLies
import Derived.Test.YtgnngldlgcdnfaaGreatDoorQbh
namespace Go.Proofs.YtgnngldlgcdnfaaGreatDoor
section
open Go Go.RowKit
attribute [local go_sem ↓] Go.wp_at_zero Go.wp_at_succ
set_option maxRecDepth 100000 in
set_option maxHeartbeats 2000000 in
theorem rrk_clip {w : World} {b : Blk} {Ab A : Option Addr} {cb n c : Nat} {R : Nat → RI} {V : Nat → IV} (hk : b.k = 11) (l : LnI w A n R V) (hn : 1 ≤ n) (hV : -2147483648 < b.vn ∧ b.vn < 2147483648 ∧ -62 ≤ b.ve ∧ b.ve ≤ 30) (hU : -2147483648 < b.un ∧ b.un < 2147483648 ∧ -62 ≤ b.ue ∧ b.ue ≤ 30) (hle : ¬ 0 < cmpD (nmS b.vn b.ve) (nmS b.un b.ue)) :
    Calls Tryz.prog 39 #[bkv b.k Ab b.n cb b.vn b.ve b.un b.ue, .slice A n c] w (IvRes (clD (V 0).lo (nmS b.vn b.ve) (nmS b.un b.ue)) (clD (V 0).hi (nmS b.vn b.ve) (nmS b.un b.ue)) w) := by
  obtain ⟨W1, hW1⟩ : ∃ W1, W1 = rkW w b Ab cb 79 58 := ⟨_, rfl⟩
  have hM : RkM w W1 b Ab cb := by rw [hW1]; exact RkM.new _ _ _ _ _ _
  have hz := hM.sz
  have HM := Lib.hid hM
  obtain ⟨bb, oo, rfl, hbb, hcc⟩ := l.rn (by omega)
  obtain ⟨x00, x01, x02, x03, x04, x05⟩ := hcc 0 (by omega)
  have HC0 : Hid (∀ w', Ext W1 w' → CnI w' (R 0) (V 0)) := fun w' e => (l.el 0 (by omega)).ext (hM.ext.trans e)
  simp only [Nat.zero_mul, Nat.add_zero] at x00 x01 x02 x03 x04 x05
  have HNV : Hid (∀ w', Ext W1 w' → Calls Tryz.prog 37 #[.agg #[I b.vn, I b.ve]] w' (DyRes (nmS b.vn b.ve) w')) := fun w' e => rvalue_any _ _ _ hV.1 hV.2.1 hV.2.2.1 hV.2.2.2
  have HLV : Hid ((nmS b.vn b.ve).ok ∧ len (nmS b.vn b.ve).m ≤ 16777216 ∧ len (nmS b.vn b.ve).m ≤ 1048576) := ⟨nmS_ok _ _, (nmS_len hV.1 hV.2.1 hV.2.2.2).2, Nat.le_trans (nmS_len' (by omega) (by omega) hV.2.2.2) (by decide)⟩
  have HNU : Hid (∀ w', Ext W1 w' → Calls Tryz.prog 37 #[.agg #[I b.un, I b.ue]] w' (DyRes (nmS b.un b.ue) w')) := fun w' e => rvalue_any _ _ _ hU.1 hU.2.1 hU.2.2.1 hU.2.2.2
  have HLU : Hid ((nmS b.un b.ue).ok ∧ len (nmS b.un b.ue).m ≤ 16777216 ∧ len (nmS b.un b.ue).m ≤ 1048576) := ⟨nmS_ok _ _, (nmS_len hU.1 hU.2.1 hU.2.2.2).2, Nat.le_trans (nmS_len' (by omega) (by omega) hU.2.2.2) (by decide)⟩
  have HF : Hid (∀ w' A2 c2 A3 c3, Ext W1 w' → Cn w' (cnR (nmS b.vn b.ve) A2 c2) (nmS b.vn b.ve) → Cn w' (cnR (nmS b.un b.ue) A3 c3) (nmS b.un b.ue) → Calls Tryz.prog 104 #[(R 0).v, (cnR (nmS b.vn b.ve) A2 c2).v, (cnR (nmS b.un b.ue) A3 c3).v] w' (RvOk (clD (V 0).lo (nmS b.vn b.ve) (nmS b.un b.ue)) (clD (V 0).hi (nmS b.vn b.ve) (nmS b.un b.ue)) w')) := fun w' A2 c2 A3 c3 e cn cn' => riclip_ok (HC0.out w' e).iw cn.dy cn'.dy ⟨HLV.out.1, HLV.out.2.2⟩ ⟨HLU.out.1, HLU.out.2.2⟩ hle
  have HS : Hid (∀ w', Ext W1 w' → w'.cell? ⟨bb, oo, none⟩ = some (.bool (R 0).lo.neg) ∧ w'.cell? ⟨bb, oo + 1, none⟩ = some (.slice (R 0).lo.A (R 0).lo.n (R 0).lo.c) ∧ w'.cell? ⟨bb, oo + 2, none⟩ = some (I (R 0).lo.den) ∧ w'.cell? ⟨bb, oo + 3, none⟩ = some (.bool (R 0).hi.neg) ∧ w'.cell? ⟨bb, oo + 4, none⟩ = some (.slice (R 0).hi.A (R 0).hi.n (R 0).hi.c) ∧ w'.cell? ⟨bb, oo + 5, none⟩ = some (I (R 0).hi.den) ∧ w'.cell? ⟨w.heap.size, 2, none⟩ = some (I b.vn) ∧ w'.cell? ⟨w.heap.size, 3, none⟩ = some (I b.ve) ∧ w'.cell? ⟨w.heap.size, 4, none⟩ = some (I b.un) ∧ w'.cell? ⟨w.heap.size, 5, none⟩ = some (I b.ue)) := fun w' e =>
    ⟨((hM.ext.trans e).old.1 _ _ hbb).trans x00, ((hM.ext.trans e).old.1 _ _ hbb).trans x01, ((hM.ext.trans e).old.1 _ _ hbb).trans x02, ((hM.ext.trans e).old.1 _ _ hbb).trans x03, ((hM.ext.trans e).old.1 _ _ hbb).trans x04, ((hM.ext.trans e).old.1 _ _ hbb).trans x05, (e.old.1 _ _ (by omega)).trans hM.k2, (e.old.1 _ _ (by omega)).trans hM.k3, (e.old.1 _ _ (by omega)).trans hM.k4, (e.old.1 _ _ (by omega)).trans hM.k5⟩
  obtain ⟨u, hu⟩ : ∃ u, clD (V 0).lo (nmS b.vn b.ve) (nmS b.un b.ue) = u := ⟨_, rfl⟩
  obtain ⟨v, hv⟩ : ∃ v, clD (V 0).hi (nmS b.vn b.ve) (nmS b.un b.ue) = v := ⟨_, rfl⟩
  rw [hu, hv] at HF ⊢
  clear hu hv HC0
  have k0 := hM.k0
  rw [hk] at k0
  have n1 : ¬ bb = w.heap.size + 1 := by omega
  clear hM l hcc x00 x01 x02 x03 x04 x05 hV hU hle
  rw [hk]
  unfold rkW at hW1
  rw [hk] at hW1
  clear hk
  go_enter Tryz.func39, Tryz.ntmps39
  go_upto_region 20 with fail
  rw [← hW1]; clear hW1
  have hx : Ext W1 W1 := Ext.refl _
  have hn0 : (0 : Int) < (n : Int) := by omega
  have hn0' : 0 < n := by omega
  generalize R 0 = rr at *
  generalize hlo : nmS b.vn b.ve = lv at *
  generalize hlp : nmS b.un b.ue = uv at *
  clear hlo hlp
  generalize b.vn = vn at *
  generalize b.ve = ve at *
  generalize b.un = un at *
  generalize b.ue = ue at *
  have hz' : w.heap.size + 2 ≤ W1.heap.size := by omega
  clear hz
  go_region_held3 (fun w' => w'.cell? ⟨bb, oo, none⟩ = some (.bool rr.lo.neg) ∧ w'.cell? ⟨bb, oo + 1, none⟩ = some (.slice rr.lo.A rr.lo.n rr.lo.c) ∧ w'.cell? ⟨bb, oo + 2, none⟩ = some (I rr.lo.den) ∧ w'.cell? ⟨bb, oo + 3, none⟩ = some (.bool rr.hi.neg) ∧ w'.cell? ⟨bb, oo + 4, none⟩ = some (.slice rr.hi.A rr.hi.n rr.hi.c) ∧ w'.cell? ⟨bb, oo + 5, none⟩ = some (I rr.hi.den) ∧ w'.cell? ⟨w.heap.size, 2, none⟩ = some (I vn) ∧ w'.cell? ⟨w.heap.size, 3, none⟩ = some (I ve) ∧ w'.cell? ⟨w.heap.size, 4, none⟩ = some (I un) ∧ w'.cell? ⟨w.heap.size, 5, none⟩ = some (I ue)) (first | exact HS.out _ ex2 | (refine ⟨?_, ?_, ?_, ?_, ?_, ?_, ?_, ?_, ?_, ?_⟩ <;> (rw [cell_far6' (by omega)]; assumption)))
    (first
      | (go_at_call 104; (with_reducible refine (HF.out _ _ _ _ _ ex2 (CN0.out.ext ex2) (CN4.out.ext ex2)).mono ?_); rintro e1 w6 ⟨A2, c2, B2, k2', rfl, fa, fb, hx2⟩; have FA := Lib.hid fa; have FB := Lib.hid fb; have HX6 := Lib.hid (show Ext W1 w6 from ex2); obtain ⟨p0, p1, p2, p3, p4, p5, p6, p7, p8, p9⟩ := HS.out w6 HX6.out; have hl6 := HX6.out.size; have hl62 := hx2.size; have mW1 : ¬ w.heap.size + 1 = W1.heap.size := (by omega); have nW1 : ¬ W1.heap.size = w.heap.size + 1 := (by omega); have mw2 : ¬ w.heap.size + 1 = w2.heap.size := (by omega); have nw2 : ¬ w2.heap.size = w.heap.size + 1 := (by omega); have mw4 : ¬ w.heap.size + 1 = w4.heap.size := (by omega); have nw4 : ¬ w4.heap.size = w.heap.size + 1 := (by omega); have mw6 : ¬ w.heap.size + 1 = w6.heap.size := (by omega); have nw6 : ¬ w6.heap.size = w.heap.size + 1 := (by omega); obtain ⟨⟨r0, r1, r2, r3, r4, r5⟩, rf⟩ := HM.out.rs.ext HX6.out; have f0 := rf 0; have f1 := rf 1; have f2 := rf 2; have f3 := rf 3; have f4 := rf 4; have f5 := rf 5; clear rf; (first | (have HZG := Lib.hid (zN hx2)) | (have HZG := Lib.hid (zND hx2)) | (have HZG := Lib.hid (HZG.out.ext hx2)) | skip); (try have hzl := HZG.out.lt); (first | (obtain ⟨⟨z0, z1, z2, z3, z4, z5⟩, zf⟩ := HZG.out; have g0 := zf 0; have g1 := zf 1; have g2 := zf 2; have g3 := zf 3; have g4 := zf 4; have g5 := zf 5; clear zf) | skip); clear fa fb)
      | (go_at_call 37; first
        | (with_reducible refine (HNV.out _ ex2).mono ?_; rintro e1 w2 hr0; obtain ⟨A0, y0, rfl, cn0, _, hx0⟩ := hr0.cn HLV.out.1 HLV.out.2.1; have HX2 := Lib.hid (show Ext W1 w2 from ex2); have CN0 := Lib.hid cn0; obtain ⟨s0, s1, s2, s3, s4, s5, s6, s7, s8, s9⟩ := HS.out w2 HX2.out; have hs2 := HX2.out.size; clear hr0 cn0; (first | (have HZG := Lib.hid (zN hx0)) | (have HZG := Lib.hid (zND hx0)) | (have HZG := Lib.hid (HZG.out.ext hx0)) | skip); (try have hzl := HZG.out.lt))
        | (with_reducible refine (HNU.out _ ex2).mono ?_; rintro e1 w4 hr0; obtain ⟨A4, y4, rfl, cn4, _, hx4⟩ := hr0.cn HLU.out.1 HLU.out.2.1; have HX4 := Lib.hid (show Ext W1 w4 from ex2); have CN4 := Lib.hid cn4; obtain ⟨t0, t1, t2, t3, t4, t5, t6, t7, t8, t9⟩ := HS.out w4 HX4.out; have hs4 := HX4.out.size; have hs42 := hx4.size; clear hr0 cn4; (first | (have HZG := Lib.hid (zN hx4)) | (have HZG := Lib.hid (zND hx4)) | (have HZG := Lib.hid (HZG.out.ext hx4)) | skip); (try have hzl := HZG.out.lt))))
  all_goals
    first
    | (have hq : B6 w6 w4.heap.size (.bool false) (.slice none 0 0) (I 0) (.bool false) (.slice none 0 0) (I 0) := HZG.out
       obtain ⟨ez, bz, fz1, fz2⟩ := clip_set (g := w4.heap.size) (u := u) (v := v) HX6.out (by first | omega | fail "no") hq FA.out FB.out (by first | omega | (simp; done) | (simp; omega) | fail "no") (by first | omega | (simp; done) | (simp; omega) | fail "no")
       generalize hwz : ((((((w6.setCell ⟨w4.heap.size, 0, none⟩ (.bool u.neg)).setCell ⟨w4.heap.size, 1, none⟩ (.slice A2 (len u.m) c2)).setCell ⟨w4.heap.size, 2, none⟩ (I u.den)).setCell ⟨w4.heap.size, 3, none⟩ (.bool v.neg)).setCell ⟨w4.heap.size, 4, none⟩ (.slice B2 (len v.m) k2')).setCell ⟨w4.heap.size, 5, none⟩ (I v.den)) = wz at ez bz fz1 fz2 ⊢)
    | (have hq : B6 w6 w2.heap.size (.bool false) (.slice none 0 0) (I 0) (.bool false) (.slice none 0 0) (I 0) := HZG.out
       obtain ⟨ez, bz, fz1, fz2⟩ := clip_set (g := w2.heap.size) (u := u) (v := v) HX6.out (by first | omega | fail "no") hq FA.out FB.out (by first | omega | (simp; done) | (simp; omega) | fail "no") (by first | omega | (simp; done) | (simp; omega) | fail "no")
       generalize hwz : ((((((w6.setCell ⟨w2.heap.size, 0, none⟩ (.bool u.neg)).setCell ⟨w2.heap.size, 1, none⟩ (.slice A2 (len u.m) c2)).setCell ⟨w2.heap.size, 2, none⟩ (I u.den)).setCell ⟨w2.heap.size, 3, none⟩ (.bool v.neg)).setCell ⟨w2.heap.size, 4, none⟩ (.slice B2 (len v.m) k2')).setCell ⟨w2.heap.size, 5, none⟩ (I v.den)) = wz at ez bz fz1 fz2 ⊢)
    | (have hq : B6 w6 W1.heap.size (.bool false) (.slice none 0 0) (I 0) (.bool false) (.slice none 0 0) (I 0) := HZG.out
       obtain ⟨ez, bz, fz1, fz2⟩ := clip_set (g := W1.heap.size) (u := u) (v := v) HX6.out (by first | omega | fail "no") hq FA.out FB.out (by first | omega | (simp; done) | (simp; omega) | fail "no") (by first | omega | (simp; done) | (simp; omega) | fail "no")
       generalize hwz : ((((((w6.setCell ⟨W1.heap.size, 0, none⟩ (.bool u.neg)).setCell ⟨W1.heap.size, 1, none⟩ (.slice A2 (len u.m) c2)).setCell ⟨W1.heap.size, 2, none⟩ (I u.den)).setCell ⟨W1.heap.size, 3, none⟩ (.bool v.neg)).setCell ⟨W1.heap.size, 4, none⟩ (.slice B2 (len v.m) k2')).setCell ⟨W1.heap.size, 5, none⟩ (I v.den)) = wz at ez bz fz1 fz2 ⊢)
    | (have ez := HX6.out.trans (Ext.alloc w6 (.cells #[.bool u.neg, .slice A2 (len u.m) c2, I u.den, .bool v.neg, .slice B2 (len v.m) k2', I v.den] 58))
       have bz := B6.new w6 (.bool u.neg) (.slice A2 (len u.m) c2) (I u.den) (.bool v.neg) (.slice B2 (len v.m) k2') (I v.den) 58
       have fz1 := FA.out.ext (Ext.alloc w6 (.cells #[.bool u.neg, .slice A2 (len u.m) c2, I u.den, .bool v.neg, .slice B2 (len v.m) k2', I v.den] 58))
       have fz2 := FB.out.ext (Ext.alloc w6 (.cells #[.bool u.neg, .slice A2 (len u.m) c2, I u.den, .bool v.neg, .slice B2 (len v.m) k2', I v.den] 58))
       generalize hwz : w6.alloc (.cells #[.bool u.neg, .slice A2 (len u.m) c2, I u.den, .bool v.neg, .slice B2 (len v.m) k2', I v.den] 58) = wz at ez bz fz1 fz2 ⊢)
    all_goals
      clear hwz
      (try clear r0 r1 r2 r3 r4 r5 f0 f1 f2 f3 f4 f5)
      have EZ := Lib.hid ez; have FZ1 := Lib.hid fz1; have FZ2 := Lib.hid fz2
      obtain ⟨⟨b0, b1, b2, b3, b4, b5⟩, _⟩ := bz
      obtain ⟨⟨r0, r1, r2, r3, r4, r5⟩, rf⟩ := HM.out.rs.ext ez
      have f0 := rf 0; have f1 := rf 1; have f2 := rf 2; have f3 := rf 3; have f4 := rf 4; have f5 := rf 5
      clear rf ez fz1 fz2
      go_wp2_with fail
      exact bodyPost_ret (v := ivd u A2 c2 v B2 k2') (by simp [results, Tryz.results39, go_sem, r0, r1, r2, r3, r4, r5]) rfl (IvRes.end6 rfl FZ1.out FZ2.out (HM.out.ext.trans EZ.out) (by omega) (by first | omega | (simp; done) | (simp; omega) | fail "no") (by first | omega | (simp; done) | (simp; omega) | fail "no"))
set_option maxRecDepth 100000 in
theorem rrk_any {w : World} {D : Dia} {i : Nat} {Ab A : Option Addr} {cb n c : Nat} {R : Nat → RI} {V : Nat → IV} (ok : OkD D) (hi : i < D.nb) (h0 : (D.B i).k ≠ 0) (h2 : (D.B i).k ≠ 2) (l : LnI w A n R V) (hn : (D.B i).n ≤ n) (hs : ∀ j, j < (D.B i).n → ShI (V j)) :
  Calls Tryz.prog 39 #[bkv (D.B i).k Ab (D.B i).n cb (D.B i).vn (D.B i).ve (D.B i).un (D.B i).ue, .slice A n c] w (IvRes (fI (D.B i) (V 0) (V 1)).lo (fI (D.B i) (V 0) (V 1)).hi w) := by
 have h := ok.k0 i hi
 have har := ok.ar i hi
 have h3 : (D.B i).k = 1 ∨ (D.B i).k = 3 ∨ (D.B i).k = 4 ∨ (D.B i).k = 5 ∨ (D.B i).k = 6 ∨ (D.B i).k = 7 ∨ (D.B i).k = 8 ∨ (D.B i).k = 9 ∨ (D.B i).k = 10 ∨ (D.B i).k = 11 := by omega
 have ar2 : (D.B i).k = 3 ∨ (D.B i).k = 4 ∨ (D.B i).k = 7 ∨ (D.B i).k = 8 ∨ (D.B i).k = 9 → (D.B i).n = 2 := fun q => by
  have : arity (D.B i).k = 2 := by unfold arity; rw [if_neg (by omega), if_pos q]
  omega
 have ar1 : (D.B i).k = 5 ∨ (D.B i).k = 6 ∨ (D.B i).k = 10 ∨ (D.B i).k = 11 → (D.B i).n = 1 := fun q => by
  have : arity (D.B i).k = 1 := by unfold arity; rw [if_neg (by omega), if_neg (by omega)]
  omega
 have hval : (D.B i).k = 1 ∨ (D.B i).k = 6 ∨ (D.B i).k = 11 → -2147483648 < (D.B i).vn ∧ (D.B i).vn < 2147483648 ∧ -62 ≤ (D.B i).ve ∧ (D.B i).ve ≤ 30 := fun q => ok.val hi (by unfold usesV; rcases q with q | q | q <;> rw [q] <;> rfl)
 obtain ⟨f, hf⟩ : ∃ f, fI (D.B i) (V 0) (V 1) = f := ⟨_, rfl⟩
 rw [hf]
 unfold fI at hf
 rcases h3 with hk | hk | hk | hk | hk | hk | hk | hk | hk | hk
 ·rw [if_pos hk] at hf; rw [← hf]; exact rrk_const hk (hval (by omega))
 ·have := ar2 (by omega); rw [if_neg (by omega), if_pos hk] at hf; rw [← hf]; exact rrk_add hk l (by omega)
 ·have := ar2 (by omega); rw [if_neg (by omega), if_neg (by omega), if_pos hk] at hf; rw [← hf]; exact rrk_sub hk l (by omega) (hs 1 (by omega))
 ·have := ar1 (by omega); rw [if_neg (by omega), if_neg (by omega), if_neg (by omega), if_pos hk] at hf; rw [← hf]; exact rrk_neg hk l (by omega)
 ·have := ar1 (by omega); rw [if_neg (by omega), if_neg (by omega), if_neg (by omega), if_neg (by omega), if_pos hk] at hf; rw [← hf]; exact rrk_gain hk l (by omega) (hval (by omega))
 ·have := ar2 (by omega); rw [if_neg (by omega), if_neg (by omega), if_neg (by omega), if_neg (by omega), if_neg (by omega), if_pos hk] at hf; rw [← hf]; exact rrk_mul hk l (by omega)
 ·have := ar2 (by omega); rw [if_neg (by omega), if_neg (by omega), if_neg (by omega), if_neg (by omega), if_neg (by omega), if_neg (by omega), if_pos hk] at hf; rw [← hf]; exact rrk_min hk l (by omega)
 ·have := ar2 (by omega); rw [if_neg (by omega), if_neg (by omega), if_neg (by omega), if_neg (by omega), if_neg (by omega), if_neg (by omega), if_neg (by omega), if_pos hk] at hf; rw [← hf]; exact rrk_max hk l (by omega)
 ·have := ar1 (by omega); rw [if_neg (by omega), if_neg (by omega), if_neg (by omega), if_neg (by omega), if_neg (by omega), if_neg (by omega), if_neg (by omega), if_neg (by omega), if_pos hk] at hf; rw [← hf]; exact rrk_abs hk l (by omega)
 ·have := ar1 (by omega)
  have hu := ok.upp hi hk
  have hv := hval (by omega)
  have hle : ¬ 0 < cmpD (nmS (D.B i).vn (D.B i).ve) (nmS (D.B i).un (D.B i).ue) := by
   have h := cmp_gtS hv.2.2.1 hv.2.2.2 hu.2.2.1 hu.2.2.2 (n := (D.B i).vn) (m := (D.B i).un)
   rw [(ok.scal hi).2.2 hk] at h
   exact of_decide_eq_false h
  rw [if_neg (by omega), if_neg (by omega), if_neg (by omega), if_neg (by omega), if_neg (by omega), if_neg (by omega), if_neg (by omega), if_neg (by omega), if_neg (by omega)] at hf
  rw [← hf]; exact rrk_clip hk l (by omega) hv hu hle
end
section
open Go Go.RowKit
def nc6 (r : RI) : List Value := [.bool r.lo.neg, .slice r.lo.A r.lo.n r.lo.c, I r.lo.den, .bool r.hi.neg, .slice r.hi.A r.hi.n r.hi.c, I r.hi.den]
def ivs6 (R : Nat → RI) : Nat → List Value
 | 0 => []
 | i + 1 => ivs6 R i ++ nc6 (R i)
theorem ivs6_len (R : Nat → RI) (i : Nat) : (ivs6 R i).length = i * 6 := by
 induction i with
 | zero => rfl
 | succ i ih => show (ivs6 R i ++ nc6 (R i)).length = _; rw [List.length_append, ih]; show _ + 6 = _; omega
theorem ivs6_get {R : Nat → RI} {n i j : Nat} (hi : i < n) (hj : j < 6) : (ivs6 R n)[i * 6 + j]? = (nc6 (R i))[j]? := by
 induction n with
 | zero => omega
 | succ n ih =>
  show (ivs6 R n ++ nc6 (R n))[i * 6 + j]? = _
  by_cases e : i = n
  ·subst e
   rw [List.getElem?_append_right (by rw [ivs6_len]; omega), ivs6_len]
   congr 1; omega
  ·rw [List.getElem?_append_left (by rw [ivs6_len]; omega)]; exact ih (by omega)
theorem ivs6_congr {R R' : Nat → RI} {n : Nat} (h : ∀ i, i < n → R i = R' i) : ivs6 R n = ivs6 R' n := by
 induction n with
 | zero => rfl
 | succ n ih => show ivs6 R n ++ nc6 (R n) = ivs6 R' n ++ nc6 (R' n); rw [ih fun i hi => h i (by omega), h n (by omega)]
def OwV (w : World) (base : Nat) (A : Option Addr) (c : Nat) (R : Nat → RI) (n : Nat) : Prop := w.ownsRow base 58 6 (.slice A n c) n (ivs6 R n)
theorem OwV.nil (w : World) (base : Nat) (R : Nat → RI) : OwV w base none 0 R 0 := World.ownsRow_nil _ _ _ _
theorem OwV.lt {w : World} {base c n : Nat} {A : Option Addr} {R : Nat → RI} (h : OwV w base A c R n) : ∀ k, (Value.slice A n c).ownBlock = some k → base ≤ k ∧ k < w.heap.size := World.ownsRow.lt h
theorem OwV.ext {w w' : World} {base c n : Nat} {A : Option Addr} {R : Nat → RI} (h : OwV w base A c R n) (e : Ext w w') : OwV w' base A c R n :=
 World.ownsRow.kept h (ext_gr e) (by cases (Value.slice A n c).ownBlock <;> simp)
theorem OwV.congr {w : World} {base c n : Nat} {A : Option Addr} {R R' : Nat → RI} (h : OwV w base A c R n) (e : ∀ i, i < n → R i = R' i) : OwV w base A c R' n := by
 unfold OwV at h ⊢; rw [← ivs6_congr e]; exact h
theorem OwV.rn {w : World} {base c n : Nat} {A : Option Addr} {R : Nat → RI} (h : OwV w base A c R n) : RnI w A n R := fun h0 => by
 have h' := h
 obtain ⟨_, ⟨e, hz⟩ | ⟨g, cap, cur, e, _⟩⟩ := h'
 ·omega
 ·injection e with e1 e2 e3
  subst e1
  refine ⟨g, 0, rfl, (World.ownsRow.lt h g rfl).2, fun i hi => ?_⟩
  rw [Nat.zero_add]
  have hc : ∀ j, j < 6 → w.cell? ⟨g, i * 6 + j, none⟩ = (nc6 (R i))[j]? := fun j hj => by
   rw [World.ownsRow.cellAt h (i * 6 + j) (by omega)]; exact ivs6_get hi hj
  exact ⟨hc 0 (by omega), hc 1 (by omega), hc 2 (by omega), hc 3 (by omega), hc 4 (by omega), hc 5 (by omega)⟩
structure WdI (W w : World) (A : Option Addr) (c : Nat) (R : Nat → RI) (V : Nat → IV) (n : Nat) : Prop where
 own : OwV w W.heap.size A c R n
 ext : Ext W w
 el : ∀ i, i < n → CnI w (R i) (V i)
 far : ∀ i, i < n → ∀ g, (Value.slice A n c).ownBlock = some g → FarI g (R i) (V i)
theorem WdI.nil (W : World) (R : Nat → RI) (V : Nat → IV) : WdI W W none 0 R V 0 := ⟨OwV.nil _ _ _, Ext.refl _, fun i hi => absurd hi (by omega), fun i hi => absurd hi (by omega)⟩
theorem WdI.to {W w w' : World} {A : Option Addr} {c n : Nat} {R : Nat → RI} {V : Nat → IV} (h : WdI W w A c R V n) (e : Ext w w') : WdI W w' A c R V n := ⟨h.own.ext e, h.ext.trans e, fun i hi => (h.el i hi).ext e, h.far⟩
theorem WdI.ln {W w : World} {A : Option Addr} {c n : Nat} {R : Nat → RI} {V : Nat → IV} (h : WdI W w A c R V n) : LnI w A n R V := ⟨h.own.rn, h.el⟩
theorem WdI.congr {W w : World} {A : Option Addr} {c n : Nat} {R : Nat → RI} {V V' : Nat → IV} (h : WdI W w A c R V n) (e : ∀ i, i < n → V i = V' i) : WdI W w A c R V' n :=
 ⟨h.own, h.ext, fun i hi => by rw [← e i hi]; exact h.el i hi, fun i hi => by rw [← e i hi]; exact h.far i hi⟩
theorem WdI.app {W w wa w' : World} {A : Option Addr} {c n g cap : Nat} {R : Nat → RI} {V : Nat → IV} {r : RI} {x : IV} (h : WdI W w A c R V n) (e : Ext w wa) (cn : CnI wa r x) (nw : NwI w.heap.size r x)
  (hown : w'.ownsRow W.heap.size 58 6 (.slice (some ⟨g, 0, none⟩) (n + 1) cap) (n + 1) (ivs6 R n ++ nc6 r)) (hgrow : wa.grownBy w' (Value.slice A n c).ownBlock) (hat : (Value.slice A n c).ownBlock = some g ∨ g = wa.heap.size) :
  WdI W w' (some ⟨g, 0, none⟩) cap (putI R n r) (putI V n x) (n + 1) := by
 have hk : ∀ {r : RI} {x : IV}, CnI wa r x → (∀ g, (Value.slice A n c).ownBlock = some g → FarI g r x) → CnI w' r x := fun {r x} hc hf => by
  cases hb : (Value.slice A n c).ownBlock with
  | none => rw [hb] at hgrow; exact hc.ext (ext_fr_none (Ext.refl _) hgrow)
  | some k => rw [hb] at hgrow; exact hc.fr hgrow (hf k hb)
 refine ⟨?_, Below.grown (h.ext.trans e) hgrow (h.ext.trans e).size (fun k hk => (h.own.lt k hk).1), fun i hi => ?_, fun i hi k hk' => ?_⟩
 ·show w'.ownsRow _ _ _ _ _ (ivs6 (putI R n r) n ++ nc6 (putI R n r n))
  have e1 : ivs6 (putI R n r) n = ivs6 R n := ivs6_congr fun i hi => by unfold putI; rw [if_neg (by omega)]
  have e2 : putI R n r n = r := by unfold putI; rw [if_pos rfl]
  rw [e1, e2]; exact hown
 ·unfold putI
  by_cases q : i = n
  ·rw [if_pos q, if_pos q]; exact hk cn fun k hb => nw.far (h.own.lt k hb).2
  ·rw [if_neg q, if_neg q]; exact hk ((h.el i (by omega)).ext e) fun k hb => h.far i (by omega) k hb
 ·have hgk : g = k := by injection hk'
  subst hgk
  unfold putI
  by_cases q : i = n
  ·rw [if_pos q, if_pos q]
   rcases hat with hb | hb
   ·exact nw.far (h.own.lt g hb).2
   ·exact cn.farNew (by omega)
  ·rw [if_neg q, if_neg q]
   rcases hat with hb | hb
   ·exact h.far i (by omega) g hb
   ·exact ((h.el i (by omega)).ext e).farNew (by omega)
end
section
open Go Go.RowKit
structure RuI (W w : World) (g m : Nat) (R : Nat → RI) (V : Nat → IV) : Prop where
 ext : Ext W w
 old : W.heap.size ≤ g
 lv : LvI w g m R V
theorem RuI.to {W w w' : World} {g m : Nat} {R : Nat → RI} {V : Nat → IV} (h : RuI W w g m R V) (e : Ext w w') : RuI W w' g m R V := ⟨h.ext.trans e, h.old, h.lv.ext e⟩
theorem RuI.congr {W w : World} {g m : Nat} {R : Nat → RI} {V V' : Nat → IV} (h : RuI W w g m R V) (e : ∀ i, i < m → V i = V' i) : RuI W w g m R V' := ⟨h.ext, h.old, h.lv.congr e⟩
theorem RuI.new {W w : World} (m : Nat) {g : Nat} (e : Ext W w) (hg : g = w.heap.size) : RuI W (w.alloc (.cells (madeCells #[.bool false, .slice none 0 0, I 0, .bool false, .slice none 0 0, I 0] (m * 6)) 58)) g m (fun _ => RI.z) (fun _ => IV.z) :=
 ⟨e.trans (Ext.alloc _ _), by rw [hg]; exact e.size, LvI.new w m hg⟩
theorem RuI.put {W w w1 : World} {g m : Nat} {R : Nat → RI} {V : Nat → IV} (h : RuI W w g m R V) (e : Ext w w1) (i : Nat) (r : RI) (d : IV) (cn : CnI w1 r d) (hne : FarI g r d) : RuI W (st6 w1 g i r) g m (putI R i r) (putI V i d) :=
 ⟨st6_ext g i r (h.ext.trans e) h.old, h.old, (h.lv.ext e).put i r d cn hne⟩
theorem WdI.appOld {W w wa w' : World} {A : Option Addr} {c n g cap : Nat} {R : Nat → RI} {V : Nat → IV} {r : RI} {x : IV} (h : WdI W w A c R V n) (e : Ext w wa) (cn : CnI W r x)
  (hown : w'.ownsRow W.heap.size 58 6 (.slice (some ⟨g, 0, none⟩) (n + 1) cap) (n + 1) (ivs6 R n ++ nc6 r)) (hgrow : wa.grownBy w' (Value.slice A n c).ownBlock) (hat : (Value.slice A n c).ownBlock = some g ∨ g = wa.heap.size) :
  WdI W w' (some ⟨g, 0, none⟩) cap (putI R n r) (putI V n x) (n + 1) := by
 have hk : ∀ {r : RI} {x : IV}, CnI wa r x → (∀ g, (Value.slice A n c).ownBlock = some g → FarI g r x) → CnI w' r x := fun {r x} hc hf => by
  cases hb : (Value.slice A n c).ownBlock with
  | none => rw [hb] at hgrow; exact hc.ext (ext_fr_none (Ext.refl _) hgrow)
  | some k => rw [hb] at hgrow; exact hc.fr hgrow (hf k hb)
 have cna : CnI wa r x := cn.ext (h.ext.trans e)
 refine ⟨?_, Below.grown (h.ext.trans e) hgrow (h.ext.trans e).size (fun k hk => (h.own.lt k hk).1), fun i hi => ?_, fun i hi k hk' => ?_⟩
 ·show w'.ownsRow _ _ _ _ _ (ivs6 (putI R n r) n ++ nc6 (putI R n r n))
  have e1 : ivs6 (putI R n r) n = ivs6 R n := ivs6_congr fun i hi => by unfold putI; rw [if_neg (by omega)]
  have e2 : putI R n r n = r := by unfold putI; rw [if_pos rfl]
  rw [e1, e2]; exact hown
 ·unfold putI
  by_cases q : i = n
  ·rw [if_pos q, if_pos q]; exact hk cna fun k hb => cn.farNew (h.own.lt k hb).1
  ·rw [if_neg q, if_neg q]; exact hk ((h.el i (by omega)).ext e) fun k hb => h.far i (by omega) k hb
 ·have hgk : g = k := by injection hk'
  subst hgk
  unfold putI
  by_cases q : i = n
  ·rw [if_pos q, if_pos q]
   rcases hat with hb | hb
   ·exact cn.farNew (h.own.lt g hb).1
   ·exact cna.farNew (by omega)
  ·rw [if_neg q, if_neg q]
   rcases hat with hb | hb
   ·exact h.far i (by omega) g hb
   ·exact ((h.el i (by omega)).ext e).farNew (by omega)
theorem nc6_new (w : World) (r : RI) (t : TypeId) : ∀ j u, (nc6 r)[j]? = some u → (w.alloc (.cells #[.bool r.lo.neg, .slice r.lo.A r.lo.n r.lo.c, I r.lo.den, .bool r.hi.neg, .slice r.hi.A r.hi.n r.hi.c, I r.hi.den] t)).cell? ((⟨w.heap.size, 0, none⟩ : Addr).add j) = some u := fun j u hj => by
 have h := (B6.new w (.bool r.lo.neg) (.slice r.lo.A r.lo.n r.lo.c) (I r.lo.den) (.bool r.hi.neg) (.slice r.hi.A r.hi.n r.hi.c) (I r.hi.den) t).1
 have hadd : (⟨w.heap.size, 0, none⟩ : Addr).add j = ⟨w.heap.size, 0 + j, none⟩ := by unfold Addr.add; split <;> simp_all
 rw [hadd, Nat.zero_add]
 unfold nc6 at hj
 match j, hj with
 | 0, hj => injection hj with hj; subst hj; exact h.1
 | 1, hj => injection hj with hj; subst hj; exact h.2.1
 | 2, hj => injection hj with hj; subst hj; exact h.2.2.1
 | 3, hj => injection hj with hj; subst hj; exact h.2.2.2.1
 | 4, hj => injection hj with hj; subst hj; exact h.2.2.2.2.1
 | 5, hj => injection hj with hj; subst hj; exact h.2.2.2.2.2
 | k + 6, hj => simp at hj
theorem nc6_one (r : RI) : ∀ y ∈ nc6 r, y.oneCell' = true := fun y hy => by
 simp only [nc6, List.mem_cons, List.not_mem_nil, or_false] at hy
 rcases hy with rfl | rfl | rfl | rfl | rfl | rfl <;> rfl
theorem appV {ops : Array Oper} {rest : List Oper} {o : Oper} {a : Act} {w : World} {Q : Exit → Act → World → Prop} (hgd : o.guard = none) (s x : Operand) (ho : o.op = .call { callee := .builtin .append, args := #[s, x], argTypes := #[27, 27] })
  (base : Nat) (A : Option Addr) (c : Nat) (R : Nat → RI) (n : Nat) (hs : a.eval s = .slice A n c) (hown : OwV w base A c R n) (r : RI) (ad : Addr) (cx : Nat) (hx : a.eval x = .slice (some ad) 1 cx) (hv : ∀ j u, (nc6 r)[j]? = some u → w.cell? (ad.add j) = some u)
  (hn : n ≤ 100000) (hbase : base ≤ w.heap.size)
  (h : ∀ g cap w', w'.ownsRow base 58 6 (.slice (some ⟨g, 0, none⟩) (n + 1) cap) (n + 1) (ivs6 R n ++ nc6 r) → w.grownBy w' (Value.slice A n c).ownBlock → ((Value.slice A n c).ownBlock = some g ∨ g = w.heap.size) → g < w'.heap.size →
   wpList Tryz.prog ops Q rest (a.put o.dst (.slice (some ⟨g, 0, none⟩) (n + 1) cap)) w') : wpList Tryz.prog ops Q (o :: rest) a w := by
 obtain ⟨i, z, hi, hz, hsz, hb, hc⟩ := infoIv'
 exact wpList_append_lies w hgd s x _ ho base 58 i z 6 80 Tryz.underlying27 hi hz hsz hb (by rw [hc]; rfl) (by omega) _ n _ hs hown ad 1 cx (nc6 r) hx rfl hv (nc6_one r) (by omega) (by unfold maxLen; omega) (by omega) hbase w.heap.size rfl h
def RvE (D : Dia) (n : Nat) (b : Nat → Bool) (S : Nat → IV) (w : World) (e : Ending) (w' : World) : Prop :=
 (evE D n b S ≠ 0 ∧ e = .returned (.tuple #[.slice none 0 0, I (evE D n b S)]) ∧ Ext w w') ∨ (evE D n b S = 0 ∧ REv D (tkI D S) w e w')
theorem rvE_hit {D : Dia} {n : Nat} {b : Nat → Bool} {S : Nat → IV} {v : Int} (h : evE D n b S = v) (hv : v ≠ 0) {w w' : World} {e : Ending} (he : e = .returned (.tuple #[.slice none 0 0, I v])) (hx : Ext w w') : RvE D n b S w e w' :=
 .inl ⟨by rw [h]; exact hv, by rw [h]; exact he, hx⟩
end
end Go.Proofs.YtgnngldlgcdnfaaGreatDoor
