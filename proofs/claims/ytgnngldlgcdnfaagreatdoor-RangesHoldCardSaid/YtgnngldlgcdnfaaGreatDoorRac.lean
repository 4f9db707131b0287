import Derived.Test.YtgnngldlgcdnfaaGreatDoorRab
import Derived.Test.YtgnngldlgcdnfaaGreatDoorQaq
import Derived.Deep.RegionHeld3
namespace Go.Proofs.YtgnngldlgcdnfaaGreatDoor
open Go Go.RowKit
abbrev anv (D : Dia) (p : Pl) (Ao : Option Addr) (lo co : Nat) (Ad : Option Addr) (ld cd : Nat) (As : Option Addr) (ns' cs : Nat) : Value := .agg #[.slice p.AI D.ni p.cI, .slice p.AB D.nb p.cB, .slice p.AO D.no p.cO, .slice Ao lo co, .slice Ad ld cd, .slice As ns' cs]
abbrev B6A (w : World) (g : Nat) (D : Dia) (p : Pl) (Ao : Option Addr) (lo co : Nat) (Ad : Option Addr) (ld cd : Nat) (As : Option Addr) (ns' cs : Nat) : Prop := B6 w g (.slice p.AI D.ni p.cI) (.slice p.AB D.nb p.cB) (.slice p.AO D.no p.cO) (.slice Ao lo co) (.slice Ad ld cd) (.slice As ns' cs)
structure VaI (w W1 : World) (D : Dia) (p : Pl) (Ao : Option Addr) (lo co : Nat) (Ad : Option Addr) (ld cd : Nat) (As : Option Addr) (ns' cs : Nat) (i : Nat) (A : Option Addr) (c : Nat) : Prop where
 ext : Ext w W1
 b6 : B6A W1 w.heap.size D p Ao lo co Ad ld cd As ns' cs
 k0 : W1.cell? ⟨w.heap.size + 1, 0, none⟩ = some (I (D.B i).k)
 k1 : W1.cell? ⟨w.heap.size + 1, 1, none⟩ = some (.slice (p.AA i) (D.B i).n (p.cA i))
 k2 : W1.cell? ⟨w.heap.size + 1, 2, none⟩ = some (I (D.B i).vn)
 k3 : W1.cell? ⟨w.heap.size + 1, 3, none⟩ = some (I (D.B i).ve)
 k4 : W1.cell? ⟨w.heap.size + 1, 4, none⟩ = some (I (D.B i).un)
 k5 : W1.cell? ⟨w.heap.size + 1, 5, none⟩ = some (I (D.B i).ue)
 v0 : W1.cell? ⟨w.heap.size + 1 + 1, 0, none⟩ = some (.slice A D.nb c)
 rs : B6 W1 (w.heap.size + 1 + 1 + 1) (.bool false) (.slice none 0 0) (I 0) (.bool false) (.slice none 0 0) (I 0)
 sz : W1.heap.size = w.heap.size + 4
abbrev vaX (w : World) (D : Dia) (p : Pl) (Ao : Option Addr) (lo co : Nat) (Ad : Option Addr) (ld cd : Nat) (As : Option Addr) (ns' cs : Nat) (i : Nat) (A : Option Addr) (c : Nat) (t1 t2 t3 : TypeId) : World :=
 (((w.alloc (.cells #[.slice p.AI D.ni p.cI, .slice p.AB D.nb p.cB, .slice p.AO D.no p.cO, .slice Ao lo co, .slice Ad ld cd, .slice As ns' cs] t1)).alloc (.cells #[I (D.B i).k, .slice (p.AA i) (D.B i).n (p.cA i), I (D.B i).vn, I (D.B i).ve, I (D.B i).un, I (D.B i).ue] t2)).alloc (.cells #[.slice A D.nb c] t3))
abbrev vaIW (w : World) (D : Dia) (p : Pl) (Ao : Option Addr) (lo co : Nat) (Ad : Option Addr) (ld cd : Nat) (As : Option Addr) (ns' cs : Nat) (i : Nat) (A : Option Addr) (c : Nat) (t1 t2 t3 t4 : TypeId) : World :=
 (vaX w D p Ao lo co Ad ld cd As ns' cs i A c t1 t2 t3).alloc (.cells #[.bool false, .slice none 0 0, I 0, .bool false, .slice none 0 0, I 0] t4)
theorem VaI.new (w : World) (D : Dia) (p : Pl) (Ao : Option Addr) (lo co : Nat) (Ad : Option Addr) (ld cd : Nat) (As : Option Addr) (ns' cs : Nat) (i : Nat) (A : Option Addr) (c : Nat) (t1 t2 t3 t4 : TypeId) : VaI w (vaIW w D p Ao lo co Ad ld cd As ns' cs i A c t1 t2 t3 t4) D p Ao lo co Ad ld cd As ns' cs i A c := by
 have n1 : ¬ w.heap.size = w.heap.size + 1 := by omega
 have n2 : ¬ w.heap.size = w.heap.size + 1 + 1 := by omega
 have n3 : ¬ w.heap.size = w.heap.size + 1 + 1 + 1 := by omega
 have n4 : ¬ w.heap.size + 1 = w.heap.size + 1 + 1 := by omega
 have n5 : ¬ w.heap.size + 1 = w.heap.size + 1 + 1 + 1 := by omega
 have n6 : ¬ w.heap.size + 2 = w.heap.size + 1 + 1 + 1 := by omega
 refine ⟨(((Ext.alloc _ _).trans (Ext.alloc _ _)).trans (Ext.alloc _ _)).trans (Ext.alloc _ _), (((B6.new w _ _ _ _ _ _ t1).ext (Ext.alloc _ _)).ext (Ext.alloc _ _)).ext (Ext.alloc _ _), ?_, ?_, ?_, ?_, ?_, ?_, ?_, ?_, by simp⟩
 ·go_simp
 ·go_simp
 ·go_simp
 ·go_simp
 ·go_simp
 ·go_simp
 ·go_simp
 ·have := B6.new (vaX w D p Ao lo co Ad ld cd As ns' cs i A c t1 t2 t3) (.bool false) (.slice none 0 0) (I 0) (.bool false) (.slice none 0 0) (I 0) t4
  rwa [show (vaX w D p Ao lo co Ad ld cd As ns' cs i A c t1 t2 t3).heap.size = w.heap.size + 1 + 1 + 1 by simp] at this
theorem VaI.arg {w W1 : World} {D : Dia} {p : Pl} {Ao Ad As A : Option Addr} {lo co ld cd ns' cs i c : Nat} {R : Nat → RI} {V : Nat → IV} (h : VaI w W1 D p Ao lo co Ad ld cd As ns' cs i A c) (d : Dm w D p) (wf : WF D) (hi : i < D.nb) (l : LnI w A D.nb R V) (j : Nat) (hj : j < ns D i)
  (w' : World) (e : Ext W1 w') : Calls Tryz.prog 166 #[I j, .pointer (some ⟨w.heap.size + 1 + 1, 0, none⟩), .pointer (some ⟨w.heap.size + 1, 0, none⟩)] w' (fun x w'' => x = .returned (R (sr D i j)).v ∧ Ext w' w'') := by
 have hs := wf.src hi hj
 have hn : ns D i = (D.B i).n := by unfold ns at hj ⊢; split at hj; omega; rw [if_neg (by assumption)]
 obtain ⟨b, o, rfl, hb, hc⟩ := l.rn (by omega)
 obtain ⟨ba, oa, ha, hba, hca⟩ := (d.args i hi).1 (by omega)
 have hz := h.sz
 have hlt : ∀ k, k < W1.heap.size → k < w'.heap.size := fun k hk => Nat.lt_of_lt_of_le hk e.size
 have E := h.ext.trans e
 have xa := (E.old.1 _ _ hba).trans (hca j (by omega))
 rw [hs.1] at xa
 have hv := hc _ hs.2.1
 have h5 := (e.old.1 _ _ (by omega)).trans h.k1
 rw [ha] at h5
 exact rarg_any j ((e.old.1 _ _ (by omega)).trans h.v0) h5 (by omega) xa hs.2.1 ⟨(E.old.1 _ _ hb).trans hv.1, (E.old.1 _ _ hb).trans hv.2.1, (E.old.1 _ _ hb).trans hv.2.2.1, (E.old.1 _ _ hb).trans hv.2.2.2.1, (E.old.1 _ _ hb).trans hv.2.2.2.2.1, (E.old.1 _ _ hb).trans hv.2.2.2.2.2⟩ (hlt _ (by omega)) (hlt _ (by omega)) (Nat.lt_of_lt_of_le hb E.size) (Nat.lt_of_lt_of_le hba E.size)
theorem cell_far6' {w : World} {g h : Nat} {u0 u1 u2 u3 u4 u5 : Value} (hne : h ≠ g) {k : Nat} : ((((((w.setCell ⟨g, 0, none⟩ u0).setCell ⟨g, 1, none⟩ u1).setCell ⟨g, 2, none⟩ u2).setCell ⟨g, 3, none⟩ u3).setCell ⟨g, 4, none⟩ u4).setCell ⟨g, 5, none⟩ u5).cell? ⟨h, k, none⟩ = w.cell? ⟨h, k, none⟩ := by
 rw [World.cell?_setCell_other _ _ _ _ (by intro q; injection q with q1 q2; omega), World.cell?_setCell_other _ _ _ _ (by intro q; injection q with q1 q2; omega), World.cell?_setCell_other _ _ _ _ (by intro q; injection q with q1 q2; omega), World.cell?_setCell_other _ _ _ _ (by intro q; injection q with q1 q2; omega), World.cell?_setCell_other _ _ _ _ (by intro q; injection q with q1 q2; omega), World.cell?_setCell_other _ _ _ _ (by intro q; injection q with q1 q2; omega)]
theorem mulD_ok' (a b : DV) : (mulD a b).ok := mkD_ok _ _ _
theorem len_two {a b : DV} (ha : Shr a) (hb : Shr b) : len a.m + len b.m ≤ 1048576 := by have := ha.len; have := hb.len; omega
theorem min_q {x y : IV} (hx : GdI x) (hy : GdI y) : (minD x.lo y.lo).q ≤ (minD x.hi y.hi).q := by
 have h1 := hx.2.2; have h2 := hy.2.2
 rw [q_min hx.1.1 hy.1.1, q_min hx.2.1.1 hy.2.1.1]; unfold mnQ; grind
theorem max_q {x y : IV} (hx : GdI x) (hy : GdI y) : (maxD x.lo y.lo).q ≤ (maxD x.hi y.hi).q := by
 have h1 := hx.2.2; have h2 := hy.2.2
 rw [q_max hx.1.1 hy.1.1, q_max hx.2.1.1 hy.2.1.1]; unfold mxQ; grind
set_option maxRecDepth 100000 in
set_option maxHeartbeats 1000000 in
theorem range_const {w : World} {D : Dia} {p : Pl} {Ao Ad As A : Option Addr} {lo co ld cd ns' cs i c : Nat} {R : Nat → RI} {V : Nat → IV} (d : Dm w D p) (ok : OkD D) (hT : Tabs w) (hi : i < D.nb) (hk : (D.B i).k = 1) (l : LnI w A D.nb R V) :
  Calls Tryz.prog 119 #[anv D p Ao lo co Ad ld cd As ns' cs, bkv (D.B i).k (p.AA i) (D.B i).n (p.cA i) (D.B i).vn (D.B i).ve (D.B i).un (D.B i).ue, .slice A D.nb c] w (IvRes (bvI D V i).lo (bvI D V i).hi w) := by
 have hmf : ∀ (fn : Fn) (first cap : Array Value) (w : World), (Instr.makeFunc fn first cap).run Tryz.prog w = .ok (.func fn first cap) w := fun _ _ _ _ => rfl
 have hbv : bvI D V i = ⟨nmS (D.B i).vn (D.B i).ve, nmS (D.B i).vn (D.B i).ve⟩ := by unfold bvI fI; rw [hk]; rfl
 rw [hbv]; clear hbv
 obtain ⟨W1, hW1⟩ : ∃ W1, W1 = vaIW w D p Ao lo co Ad ld cd As ns' cs i A c 102 79 27 58 := ⟨_, rfl⟩
 have hM : VaI w W1 D p Ao lo co Ad ld cd As ns' cs i A c := by rw [hW1]; exact VaI.new _ _ _ _ _ _ _ _ _ _ _ _ _ _ _ _ _ _ _
 have hz := hM.sz
 have HM := Lib.hid hM
 have hns : Hid (ns D i = (D.B i).n ∧ ((D.B i).n : Int) = arity (D.B i).k) := ⟨by unfold ns; rw [if_neg (by omega)], ok.ar i hi⟩
 have hd0 := d; have hl0 := l
 clear hd0 hl0
 have HNV : Hid (∀ w', Ext W1 w' → Calls Tryz.prog 169 #[.agg #[I (D.B i).vn, I (D.B i).ve]] w' (DyRes (nmS (D.B i).vn (D.B i).ve) w')) := fun w' e => by
  have hv := ok.val hi (by unfold usesV; rw [hk]; decide)
  exact rnum_any _ _ _ (hT.ext (hM.ext.trans e)) hv.1 hv.2.1 hv.2.2.1 hv.2.2.2
 have HLV : Hid ((nmS (D.B i).vn (D.B i).ve).ok ∧ len (nmS (D.B i).vn (D.B i).ve).m ≤ 16777216 ∧ len (nmS (D.B i).vn (D.B i).ve).m ≤ 1048576) := by
  have hv := ok.val hi (by unfold usesV; rw [hk]; decide)
  exact ⟨nmS_ok _ _, (nmS_len hv.1 hv.2.1 hv.2.2.2).2, Nat.le_trans (nmS_len' (by omega) (by omega) hv.2.2.2) (by decide)⟩
 have k2 := hM.k2; have k3 := hM.k3
 have HTT := Lib.hid (hT.ext hM.ext)
 have k0 := hM.k0
 rw [hk] at k0
 clear d ok hT hi l hM
 rw [hk]
 unfold vaIW vaX at hW1
 rw [hk] at hW1
 clear hk
 go_enter Tryz.func119, Tryz.ntmps119
 go_upto_region 2 with fail
 rw [← hW1]; clear hW1
 have hx : Ext W1 W1 := Ext.refl _
 generalize hs : nmS (D.B i).vn (D.B i).ve = sv at *
 clear hs
 go_wp2_with (first
  | (go_at_call 169; (with_reducible refine (HNV.out _ hx).mono ?_); rintro e1 w0 hr0; obtain ⟨A0, c0, rfl, cn0, _, hx0⟩ := hr0.cn HLV.out.1 HLV.out.2.1; have CN0 := Lib.hid cn0; replace hx := hx.trans hx0; clear cn0 hx0 hr0)
  | (go_at_call 135; (with_reducible refine (ipoint_any CN0.out.dy (HTT.out.ext hx)).mono ?_); rintro e1 w1 hr; obtain ⟨A2, c2, B2, k2', rfl, fa, fb, hx2⟩ := hr; have FA := Lib.hid fa; have FB := Lib.hid fb; have HX2 := Lib.hid (hx.trans hx2); obtain ⟨⟨r0, r1, r2, r3, r4, r5⟩, rf⟩ := HM.out.rs.ext (hx.trans hx2); have f0 := rf 0; have f1 := rf 1; have f2 := rf 2; have f3 := rf 3; have f4 := rf 4; have f5 := rf 5; have hsz := hx.size; clear rf fa fb hx2))
 exact bodyPost_ret (v := ivd sv A2 c2 sv B2 k2') (by simp [results, Tryz.results119, go_sem, r0, r1, r2, r3, r4, r5]) rfl (IvRes.end6 rfl FA.out FB.out (HM.out.ext.trans HX2.out) (by omega) (by omega) (by omega))
set_option maxRecDepth 100000 in
set_option maxHeartbeats 1000000 in
theorem range_add {w : World} {D : Dia} {p : Pl} {Ao Ad As A : Option Addr} {lo co ld cd ns' cs i c : Nat} {R : Nat → RI} {V : Nat → IV} (d : Dm w D p) (ok : OkD D) (hT : Tabs w) (hi : i < D.nb) (hk : (D.B i).k = 3) (l : LnI w A D.nb R V) :
  Calls Tryz.prog 119 #[anv D p Ao lo co Ad ld cd As ns' cs, bkv (D.B i).k (p.AA i) (D.B i).n (p.cA i) (D.B i).vn (D.B i).ve (D.B i).un (D.B i).ue, .slice A D.nb c] w (IvRes (bvI D V i).lo (bvI D V i).hi w) := by
 have hmf : ∀ (fn : Fn) (first cap : Array Value) (w : World), (Instr.makeFunc fn first cap).run Tryz.prog w = .ok (.func fn first cap) w := fun _ _ _ _ => rfl
 have hbv : bvI D V i = ⟨lo2 (addD (V (sr D i 0)).lo (V (sr D i 1)).lo) (addD (V (sr D i 0)).hi (V (sr D i 1)).hi), hi2 (addD (V (sr D i 0)).lo (V (sr D i 1)).lo) (addD (V (sr D i 0)).hi (V (sr D i 1)).hi)⟩ := by unfold bvI fI; rw [hk]; rfl
 rw [hbv]; clear hbv
 obtain ⟨W1, hW1⟩ : ∃ W1, W1 = vaIW w D p Ao lo co Ad ld cd As ns' cs i A c 102 79 27 58 := ⟨_, rfl⟩
 have hM : VaI w W1 D p Ao lo co Ad ld cd As ns' cs i A c := by rw [hW1]; exact VaI.new _ _ _ _ _ _ _ _ _ _ _ _ _ _ _ _ _ _ _
 have hz := hM.sz
 have HM := Lib.hid hM
 have hns : Hid (ns D i = (D.B i).n ∧ ((D.B i).n : Int) = arity (D.B i).k) := ⟨by unfold ns; rw [if_neg (by omega)], ok.ar i hi⟩
 have hn0 : 0 < ns D i := by
  have a := hns.out
  have b : arity (D.B i).k = 2 := by rw [hk]; decide
  omega
 have HA0 : Hid (∀ w', Ext W1 w' → Calls Tryz.prog 166 #[I 0, .pointer (some ⟨w.heap.size + 1 + 1, 0, none⟩), .pointer (some ⟨w.heap.size + 1, 0, none⟩)] w' (fun x w'' => x = .returned (R (sr D i 0)).v ∧ Ext w' w'')) := fun w' e => hM.arg d ok.toWF hi l 0 hn0 w' e
 have HC0 : Hid (∀ w', Ext W1 w' → CnI w' (R (sr D i 0)) (V (sr D i 0))) := fun w' e => (l.el _ (ok.src hi hn0).2.1).ext (hM.ext.trans e)
 have hn1 : 1 < ns D i := by
  have a := hns.out
  have b : arity (D.B i).k = 2 := by rw [hk]; decide
  omega
 have HA1 : Hid (∀ w', Ext W1 w' → Calls Tryz.prog 166 #[I 1, .pointer (some ⟨w.heap.size + 1 + 1, 0, none⟩), .pointer (some ⟨w.heap.size + 1, 0, none⟩)] w' (fun x w'' => x = .returned (R (sr D i 1)).v ∧ Ext w' w'')) := fun w' e => hM.arg d ok.toWF hi l 1 hn1 w' e
 have HC1 : Hid (∀ w', Ext W1 w' → CnI w' (R (sr D i 1)) (V (sr D i 1))) := fun w' e => (l.el _ (ok.src hi hn1).2.1).ext (hM.ext.trans e)
 have HF : Hid (∀ w', Ext W1 w' → Calls Tryz.prog 170 #[(R (sr D i 0)).v, (R (sr D i 1)).v] w' (IvRes (lo2 (addD (V (sr D i 0)).lo (V (sr D i 1)).lo) (addD (V (sr D i 0)).hi (V (sr D i 1)).hi)) (hi2 (addD (V (sr D i 0)).lo (V (sr D i 1)).lo) (addD (V (sr D i 0)).hi (V (sr D i 1)).hi)) w')) := fun w' e => by
  have h0 := HC0.out w' e; have h1 := HC1.out w' e
  have := iadd_any h0.iw h1.iw (hT.ext (hM.ext.trans e))
  exact this
 obtain ⟨u, hu⟩ : ∃ u, lo2 (addD (V (sr D i 0)).lo (V (sr D i 1)).lo) (addD (V (sr D i 0)).hi (V (sr D i 1)).hi) = u := ⟨_, rfl⟩
 obtain ⟨v, hv⟩ : ∃ v, hi2 (addD (V (sr D i 0)).lo (V (sr D i 1)).lo) (addD (V (sr D i 0)).hi (V (sr D i 1)).hi) = v := ⟨_, rfl⟩
 rw [hu, hv] at HF ⊢
 clear hu hv HC0 HC1 hn0 hn1
 have HTT := Lib.hid (hT.ext hM.ext)
 have k0 := hM.k0
 rw [hk] at k0
 clear d ok hT hi l hM
 rw [hk]
 unfold vaIW vaX at hW1
 rw [hk] at hW1
 clear hk
 go_enter Tryz.func119, Tryz.ntmps119
 go_upto_region 2 with fail
 rw [← hW1]; clear hW1
 have hx : Ext W1 W1 := Ext.refl _
 generalize R (sr D i 0) = r0 at *
 generalize R (sr D i 1) = r1 at *
 go_wp2_with (first
  | (go_at_call 166; (first | (with_reducible refine (HA0.out _ hx).mono ?_) | (with_reducible refine (HA1.out _ hx).mono ?_)); rintro e1 w1 ⟨rfl, h1⟩; replace hx := hx.trans h1; clear h1)
  | (go_at_call 170; (with_reducible refine (HF.out _ hx).mono ?_); rintro e1 w1 hr; obtain ⟨A2, c2, B2, k2', rfl, fa, fb, hx2⟩ := hr; have FA := Lib.hid fa; have FB := Lib.hid fb; have HX2 := Lib.hid (hx.trans hx2); obtain ⟨⟨r0, r1, r2, r3, r4, r5⟩, rf⟩ := HM.out.rs.ext (hx.trans hx2); have f0 := rf 0; have f1 := rf 1; have f2 := rf 2; have f3 := rf 3; have f4 := rf 4; have f5 := rf 5; have hsz := hx.size; clear rf fa fb hx2))
 exact bodyPost_ret (v := ivd u A2 c2 v B2 k2') (by simp [results, Tryz.results119, go_sem, r0, r1, r2, r3, r4, r5]) rfl (IvRes.end6 rfl FA.out FB.out (HM.out.ext.trans HX2.out) (by omega) (by omega) (by omega))
set_option maxRecDepth 100000 in
set_option maxHeartbeats 1000000 in
theorem range_sub {w : World} {D : Dia} {p : Pl} {Ao Ad As A : Option Addr} {lo co ld cd ns' cs i c : Nat} {R : Nat → RI} {V : Nat → IV} (d : Dm w D p) (ok : OkD D) (hT : Tabs w) (hi : i < D.nb) (hk : (D.B i).k = 4) (l : LnI w A D.nb R V) :
  Calls Tryz.prog 119 #[anv D p Ao lo co Ad ld cd As ns' cs, bkv (D.B i).k (p.AA i) (D.B i).n (p.cA i) (D.B i).vn (D.B i).ve (D.B i).un (D.B i).ue, .slice A D.nb c] w (IvRes (bvI D V i).lo (bvI D V i).hi w) := by
 have hmf : ∀ (fn : Fn) (first cap : Array Value) (w : World), (Instr.makeFunc fn first cap).run Tryz.prog w = .ok (.func fn first cap) w := fun _ _ _ _ => rfl
 have hbv : bvI D V i = ⟨lo2 (addD (V (sr D i 0)).lo (lo2 (negD (V (sr D i 1)).lo) (negD (V (sr D i 1)).hi))) (addD (V (sr D i 0)).hi (hi2 (negD (V (sr D i 1)).lo) (negD (V (sr D i 1)).hi))), hi2 (addD (V (sr D i 0)).lo (lo2 (negD (V (sr D i 1)).lo) (negD (V (sr D i 1)).hi))) (addD (V (sr D i 0)).hi (hi2 (negD (V (sr D i 1)).lo) (negD (V (sr D i 1)).hi)))⟩ := by unfold bvI fI; rw [hk]; rfl
 rw [hbv]; clear hbv
 obtain ⟨W1, hW1⟩ : ∃ W1, W1 = vaIW w D p Ao lo co Ad ld cd As ns' cs i A c 102 79 27 58 := ⟨_, rfl⟩
 have hM : VaI w W1 D p Ao lo co Ad ld cd As ns' cs i A c := by rw [hW1]; exact VaI.new _ _ _ _ _ _ _ _ _ _ _ _ _ _ _ _ _ _ _
 have hz := hM.sz
 have HM := Lib.hid hM
 have hns : Hid (ns D i = (D.B i).n ∧ ((D.B i).n : Int) = arity (D.B i).k) := ⟨by unfold ns; rw [if_neg (by omega)], ok.ar i hi⟩
 have hn0 : 0 < ns D i := by
  have a := hns.out
  have b : arity (D.B i).k = 2 := by rw [hk]; decide
  omega
 have HA0 : Hid (∀ w', Ext W1 w' → Calls Tryz.prog 166 #[I 0, .pointer (some ⟨w.heap.size + 1 + 1, 0, none⟩), .pointer (some ⟨w.heap.size + 1, 0, none⟩)] w' (fun x w'' => x = .returned (R (sr D i 0)).v ∧ Ext w' w'')) := fun w' e => hM.arg d ok.toWF hi l 0 hn0 w' e
 have HC0 : Hid (∀ w', Ext W1 w' → CnI w' (R (sr D i 0)) (V (sr D i 0))) := fun w' e => (l.el _ (ok.src hi hn0).2.1).ext (hM.ext.trans e)
 have hn1 : 1 < ns D i := by
  have a := hns.out
  have b : arity (D.B i).k = 2 := by rw [hk]; decide
  omega
 have HA1 : Hid (∀ w', Ext W1 w' → Calls Tryz.prog 166 #[I 1, .pointer (some ⟨w.heap.size + 1 + 1, 0, none⟩), .pointer (some ⟨w.heap.size + 1, 0, none⟩)] w' (fun x w'' => x = .returned (R (sr D i 1)).v ∧ Ext w' w'')) := fun w' e => hM.arg d ok.toWF hi l 1 hn1 w' e
 have HC1 : Hid (∀ w', Ext W1 w' → CnI w' (R (sr D i 1)) (V (sr D i 1))) := fun w' e => (l.el _ (ok.src hi hn1).2.1).ext (hM.ext.trans e)
 have HF : Hid (∀ w', Ext W1 w' → Calls Tryz.prog 171 #[(R (sr D i 0)).v, (R (sr D i 1)).v] w' (IvRes (lo2 (addD (V (sr D i 0)).lo (lo2 (negD (V (sr D i 1)).lo) (negD (V (sr D i 1)).hi))) (addD (V (sr D i 0)).hi (hi2 (negD (V (sr D i 1)).lo) (negD (V (sr D i 1)).hi)))) (hi2 (addD (V (sr D i 0)).lo (lo2 (negD (V (sr D i 1)).lo) (negD (V (sr D i 1)).hi))) (addD (V (sr D i 0)).hi (hi2 (negD (V (sr D i 1)).lo) (negD (V (sr D i 1)).hi)))) w')) := fun w' e => by
  have h0 := HC0.out w' e; have h1 := HC1.out w' e
  have := isub_any h0.iw h1.iw (hT.ext (hM.ext.trans e))
  exact this
 obtain ⟨u, hu⟩ : ∃ u, lo2 (addD (V (sr D i 0)).lo (lo2 (negD (V (sr D i 1)).lo) (negD (V (sr D i 1)).hi))) (addD (V (sr D i 0)).hi (hi2 (negD (V (sr D i 1)).lo) (negD (V (sr D i 1)).hi))) = u := ⟨_, rfl⟩
 obtain ⟨v, hv⟩ : ∃ v, hi2 (addD (V (sr D i 0)).lo (lo2 (negD (V (sr D i 1)).lo) (negD (V (sr D i 1)).hi))) (addD (V (sr D i 0)).hi (hi2 (negD (V (sr D i 1)).lo) (negD (V (sr D i 1)).hi))) = v := ⟨_, rfl⟩
 rw [hu, hv] at HF ⊢
 clear hu hv HC0 HC1 hn0 hn1
 have HTT := Lib.hid (hT.ext hM.ext)
 have k0 := hM.k0
 rw [hk] at k0
 clear d ok hT hi l hM
 rw [hk]
 unfold vaIW vaX at hW1
 rw [hk] at hW1
 clear hk
 go_enter Tryz.func119, Tryz.ntmps119
 go_upto_region 2 with fail
 rw [← hW1]; clear hW1
 have hx : Ext W1 W1 := Ext.refl _
 generalize R (sr D i 0) = r0 at *
 generalize R (sr D i 1) = r1 at *
 go_wp2_with (first
  | (go_at_call 166; (first | (with_reducible refine (HA0.out _ hx).mono ?_) | (with_reducible refine (HA1.out _ hx).mono ?_)); rintro e1 w1 ⟨rfl, h1⟩; replace hx := hx.trans h1; clear h1)
  | (go_at_call 171; (with_reducible refine (HF.out _ hx).mono ?_); rintro e1 w1 hr; obtain ⟨A2, c2, B2, k2', rfl, fa, fb, hx2⟩ := hr; have FA := Lib.hid fa; have FB := Lib.hid fb; have HX2 := Lib.hid (hx.trans hx2); obtain ⟨⟨r0, r1, r2, r3, r4, r5⟩, rf⟩ := HM.out.rs.ext (hx.trans hx2); have f0 := rf 0; have f1 := rf 1; have f2 := rf 2; have f3 := rf 3; have f4 := rf 4; have f5 := rf 5; have hsz := hx.size; clear rf fa fb hx2))
 exact bodyPost_ret (v := ivd u A2 c2 v B2 k2') (by simp [results, Tryz.results119, go_sem, r0, r1, r2, r3, r4, r5]) rfl (IvRes.end6 rfl FA.out FB.out (HM.out.ext.trans HX2.out) (by omega) (by omega) (by omega))
set_option maxRecDepth 100000 in
set_option maxHeartbeats 1000000 in
theorem range_mul {w : World} {D : Dia} {p : Pl} {Ao Ad As A : Option Addr} {lo co ld cd ns' cs i c : Nat} {R : Nat → RI} {V : Nat → IV} (d : Dm w D p) (ok : OkD D) (hT : Tabs w) (hi : i < D.nb) (hk : (D.B i).k = 7) (l : LnI w A D.nb R V) (hsh : ∀ j, j < ns D i → ShI (V (sr D i j))) :
  Calls Tryz.prog 119 #[anv D p Ao lo co Ad ld cd As ns' cs, bkv (D.B i).k (p.AA i) (D.B i).n (p.cA i) (D.B i).vn (D.B i).ve (D.B i).un (D.B i).ue, .slice A D.nb c] w (IvRes (bvI D V i).lo (bvI D V i).hi w) := by
 have hmf : ∀ (fn : Fn) (first cap : Array Value) (w : World), (Instr.makeFunc fn first cap).run Tryz.prog w = .ok (.func fn first cap) w := fun _ _ _ _ => rfl
 have hbv : bvI D V i = ⟨lo4 (mulD (V (sr D i 0)).lo (V (sr D i 1)).lo) (mulD (V (sr D i 0)).lo (V (sr D i 1)).hi) (mulD (V (sr D i 0)).hi (V (sr D i 1)).lo) (mulD (V (sr D i 0)).hi (V (sr D i 1)).hi), hi4 (mulD (V (sr D i 0)).lo (V (sr D i 1)).lo) (mulD (V (sr D i 0)).lo (V (sr D i 1)).hi) (mulD (V (sr D i 0)).hi (V (sr D i 1)).lo) (mulD (V (sr D i 0)).hi (V (sr D i 1)).hi)⟩ := by unfold bvI fI; rw [hk]; rfl
 rw [hbv]; clear hbv
 obtain ⟨W1, hW1⟩ : ∃ W1, W1 = vaIW w D p Ao lo co Ad ld cd As ns' cs i A c 102 79 27 58 := ⟨_, rfl⟩
 have hM : VaI w W1 D p Ao lo co Ad ld cd As ns' cs i A c := by rw [hW1]; exact VaI.new _ _ _ _ _ _ _ _ _ _ _ _ _ _ _ _ _ _ _
 have hz := hM.sz
 have HM := Lib.hid hM
 have hns : Hid (ns D i = (D.B i).n ∧ ((D.B i).n : Int) = arity (D.B i).k) := ⟨by unfold ns; rw [if_neg (by omega)], ok.ar i hi⟩
 have hn0 : 0 < ns D i := by
  have a := hns.out
  have b : arity (D.B i).k = 2 := by rw [hk]; decide
  omega
 have HA0 : Hid (∀ w', Ext W1 w' → Calls Tryz.prog 166 #[I 0, .pointer (some ⟨w.heap.size + 1 + 1, 0, none⟩), .pointer (some ⟨w.heap.size + 1, 0, none⟩)] w' (fun x w'' => x = .returned (R (sr D i 0)).v ∧ Ext w' w'')) := fun w' e => hM.arg d ok.toWF hi l 0 hn0 w' e
 have HC0 : Hid (∀ w', Ext W1 w' → CnI w' (R (sr D i 0)) (V (sr D i 0))) := fun w' e => (l.el _ (ok.src hi hn0).2.1).ext (hM.ext.trans e)
 have hn1 : 1 < ns D i := by
  have a := hns.out
  have b : arity (D.B i).k = 2 := by rw [hk]; decide
  omega
 have HA1 : Hid (∀ w', Ext W1 w' → Calls Tryz.prog 166 #[I 1, .pointer (some ⟨w.heap.size + 1 + 1, 0, none⟩), .pointer (some ⟨w.heap.size + 1, 0, none⟩)] w' (fun x w'' => x = .returned (R (sr D i 1)).v ∧ Ext w' w'')) := fun w' e => hM.arg d ok.toWF hi l 1 hn1 w' e
 have HC1 : Hid (∀ w', Ext W1 w' → CnI w' (R (sr D i 1)) (V (sr D i 1))) := fun w' e => (l.el _ (ok.src hi hn1).2.1).ext (hM.ext.trans e)
 have hs0 := hsh 0 hn0; have hs1 := hsh 1 hn1; clear hsh
 have HF : Hid (∀ w', Ext W1 w' → Calls Tryz.prog 173 #[(R (sr D i 0)).v, (R (sr D i 1)).v] w' (IvRes (lo4 (mulD (V (sr D i 0)).lo (V (sr D i 1)).lo) (mulD (V (sr D i 0)).lo (V (sr D i 1)).hi) (mulD (V (sr D i 0)).hi (V (sr D i 1)).lo) (mulD (V (sr D i 0)).hi (V (sr D i 1)).hi)) (hi4 (mulD (V (sr D i 0)).lo (V (sr D i 1)).lo) (mulD (V (sr D i 0)).lo (V (sr D i 1)).hi) (mulD (V (sr D i 0)).hi (V (sr D i 1)).lo) (mulD (V (sr D i 0)).hi (V (sr D i 1)).hi)) w')) := fun w' e => by
  have h0 := HC0.out w' e; have h1 := HC1.out w' e
  have := imul_any h0.iw h1.iw (hT.ext (hM.ext.trans e)) (len_two hs0.1 hs1.1) (len_two hs0.2.1 hs1.1) (len_two hs0.1 hs1.2.1) (len_two hs0.2.1 hs1.2.1)
  rw [mul_lo' (mulD_ok' _ _) (mulD_ok' _ _) (mulD_ok' _ _) (mulD_ok' _ _), mul_hi' (mulD_ok' _ _) (mulD_ok' _ _) (mulD_ok' _ _) (mulD_ok' _ _)] at this
  exact this
 obtain ⟨u, hu⟩ : ∃ u, lo4 (mulD (V (sr D i 0)).lo (V (sr D i 1)).lo) (mulD (V (sr D i 0)).lo (V (sr D i 1)).hi) (mulD (V (sr D i 0)).hi (V (sr D i 1)).lo) (mulD (V (sr D i 0)).hi (V (sr D i 1)).hi) = u := ⟨_, rfl⟩
 obtain ⟨v, hv⟩ : ∃ v, hi4 (mulD (V (sr D i 0)).lo (V (sr D i 1)).lo) (mulD (V (sr D i 0)).lo (V (sr D i 1)).hi) (mulD (V (sr D i 0)).hi (V (sr D i 1)).lo) (mulD (V (sr D i 0)).hi (V (sr D i 1)).hi) = v := ⟨_, rfl⟩
 rw [hu, hv] at HF ⊢
 clear hu hv HC0 HC1 hn0 hn1 hs0 hs1
 have HTT := Lib.hid (hT.ext hM.ext)
 have k0 := hM.k0
 rw [hk] at k0
 clear d ok hT hi l hM
 rw [hk]
 unfold vaIW vaX at hW1
 rw [hk] at hW1
 clear hk
 go_enter Tryz.func119, Tryz.ntmps119
 go_upto_region 2 with fail
 rw [← hW1]; clear hW1
 have hx : Ext W1 W1 := Ext.refl _
 generalize R (sr D i 0) = r0 at *
 generalize R (sr D i 1) = r1 at *
 go_wp2_with (first
  | (go_at_call 166; (first | (with_reducible refine (HA0.out _ hx).mono ?_) | (with_reducible refine (HA1.out _ hx).mono ?_)); rintro e1 w1 ⟨rfl, h1⟩; replace hx := hx.trans h1; clear h1)
  | (go_at_call 173; (with_reducible refine (HF.out _ hx).mono ?_); rintro e1 w1 hr; obtain ⟨A2, c2, B2, k2', rfl, fa, fb, hx2⟩ := hr; have FA := Lib.hid fa; have FB := Lib.hid fb; have HX2 := Lib.hid (hx.trans hx2); obtain ⟨⟨r0, r1, r2, r3, r4, r5⟩, rf⟩ := HM.out.rs.ext (hx.trans hx2); have f0 := rf 0; have f1 := rf 1; have f2 := rf 2; have f3 := rf 3; have f4 := rf 4; have f5 := rf 5; have hsz := hx.size; clear rf fa fb hx2))
 exact bodyPost_ret (v := ivd u A2 c2 v B2 k2') (by simp [results, Tryz.results119, go_sem, r0, r1, r2, r3, r4, r5]) rfl (IvRes.end6 rfl FA.out FB.out (HM.out.ext.trans HX2.out) (by omega) (by omega) (by omega))
set_option maxRecDepth 100000 in
set_option maxHeartbeats 1000000 in
theorem range_min {w : World} {D : Dia} {p : Pl} {Ao Ad As A : Option Addr} {lo co ld cd ns' cs i c : Nat} {R : Nat → RI} {V : Nat → IV} (d : Dm w D p) (ok : OkD D) (hT : Tabs w) (hi : i < D.nb) (hk : (D.B i).k = 8) (l : LnI w A D.nb R V) :
  Calls Tryz.prog 119 #[anv D p Ao lo co Ad ld cd As ns' cs, bkv (D.B i).k (p.AA i) (D.B i).n (p.cA i) (D.B i).vn (D.B i).ve (D.B i).un (D.B i).ue, .slice A D.nb c] w (IvRes (bvI D V i).lo (bvI D V i).hi w) := by
 have hmf : ∀ (fn : Fn) (first cap : Array Value) (w : World), (Instr.makeFunc fn first cap).run Tryz.prog w = .ok (.func fn first cap) w := fun _ _ _ _ => rfl
 have hbv : bvI D V i = ⟨minD (V (sr D i 0)).lo (V (sr D i 1)).lo, minD (V (sr D i 0)).hi (V (sr D i 1)).hi⟩ := by unfold bvI fI; rw [hk]; rfl
 rw [hbv]; clear hbv
 obtain ⟨W1, hW1⟩ : ∃ W1, W1 = vaIW w D p Ao lo co Ad ld cd As ns' cs i A c 102 79 27 58 := ⟨_, rfl⟩
 have hM : VaI w W1 D p Ao lo co Ad ld cd As ns' cs i A c := by rw [hW1]; exact VaI.new _ _ _ _ _ _ _ _ _ _ _ _ _ _ _ _ _ _ _
 have hz := hM.sz
 have HM := Lib.hid hM
 have hns : Hid (ns D i = (D.B i).n ∧ ((D.B i).n : Int) = arity (D.B i).k) := ⟨by unfold ns; rw [if_neg (by omega)], ok.ar i hi⟩
 have hn0 : 0 < ns D i := by
  have a := hns.out
  have b : arity (D.B i).k = 2 := by rw [hk]; decide
  omega
 have HA0 : Hid (∀ w', Ext W1 w' → Calls Tryz.prog 166 #[I 0, .pointer (some ⟨w.heap.size + 1 + 1, 0, none⟩), .pointer (some ⟨w.heap.size + 1, 0, none⟩)] w' (fun x w'' => x = .returned (R (sr D i 0)).v ∧ Ext w' w'')) := fun w' e => hM.arg d ok.toWF hi l 0 hn0 w' e
 have HC0 : Hid (∀ w', Ext W1 w' → CnI w' (R (sr D i 0)) (V (sr D i 0))) := fun w' e => (l.el _ (ok.src hi hn0).2.1).ext (hM.ext.trans e)
 have hn1 : 1 < ns D i := by
  have a := hns.out
  have b : arity (D.B i).k = 2 := by rw [hk]; decide
  omega
 have HA1 : Hid (∀ w', Ext W1 w' → Calls Tryz.prog 166 #[I 1, .pointer (some ⟨w.heap.size + 1 + 1, 0, none⟩), .pointer (some ⟨w.heap.size + 1, 0, none⟩)] w' (fun x w'' => x = .returned (R (sr D i 1)).v ∧ Ext w' w'')) := fun w' e => hM.arg d ok.toWF hi l 1 hn1 w' e
 have HC1 : Hid (∀ w', Ext W1 w' → CnI w' (R (sr D i 1)) (V (sr D i 1))) := fun w' e => (l.el _ (ok.src hi hn1).2.1).ext (hM.ext.trans e)
 have HF : Hid (∀ w', Ext W1 w' → Calls Tryz.prog 174 #[(R (sr D i 0)).v, (R (sr D i 1)).v] w' (IvRes (minD (V (sr D i 0)).lo (V (sr D i 1)).lo) (minD (V (sr D i 0)).hi (V (sr D i 1)).hi) w')) := fun w' e => by
  have h0 := HC0.out w' e; have h1 := HC1.out w' e
  have := imin_any h0.iw h1.iw (hT.ext (hM.ext.trans e))
  rw [lo2_of (minD_ok h0.lo.ok h1.lo.ok) (minD_ok h0.hi.ok h1.hi.ok) (min_q h0.gd h1.gd), hi2_of (minD_ok h0.lo.ok h1.lo.ok) (minD_ok h0.hi.ok h1.hi.ok) (min_q h0.gd h1.gd)] at this
  exact this
 obtain ⟨u, hu⟩ : ∃ u, minD (V (sr D i 0)).lo (V (sr D i 1)).lo = u := ⟨_, rfl⟩
 obtain ⟨v, hv⟩ : ∃ v, minD (V (sr D i 0)).hi (V (sr D i 1)).hi = v := ⟨_, rfl⟩
 rw [hu, hv] at HF ⊢
 clear hu hv HC0 HC1 hn0 hn1
 have HTT := Lib.hid (hT.ext hM.ext)
 have k0 := hM.k0
 rw [hk] at k0
 clear d ok hT hi l hM
 rw [hk]
 unfold vaIW vaX at hW1
 rw [hk] at hW1
 clear hk
 go_enter Tryz.func119, Tryz.ntmps119
 go_upto_region 2 with fail
 rw [← hW1]; clear hW1
 have hx : Ext W1 W1 := Ext.refl _
 generalize R (sr D i 0) = r0 at *
 generalize R (sr D i 1) = r1 at *
 go_wp2_with (first
  | (go_at_call 166; (first | (with_reducible refine (HA0.out _ hx).mono ?_) | (with_reducible refine (HA1.out _ hx).mono ?_)); rintro e1 w1 ⟨rfl, h1⟩; replace hx := hx.trans h1; clear h1)
  | (go_at_call 174; (with_reducible refine (HF.out _ hx).mono ?_); rintro e1 w1 hr; obtain ⟨A2, c2, B2, k2', rfl, fa, fb, hx2⟩ := hr; have FA := Lib.hid fa; have FB := Lib.hid fb; have HX2 := Lib.hid (hx.trans hx2); obtain ⟨⟨r0, r1, r2, r3, r4, r5⟩, rf⟩ := HM.out.rs.ext (hx.trans hx2); have f0 := rf 0; have f1 := rf 1; have f2 := rf 2; have f3 := rf 3; have f4 := rf 4; have f5 := rf 5; have hsz := hx.size; clear rf fa fb hx2))
 exact bodyPost_ret (v := ivd u A2 c2 v B2 k2') (by simp [results, Tryz.results119, go_sem, r0, r1, r2, r3, r4, r5]) rfl (IvRes.end6 rfl FA.out FB.out (HM.out.ext.trans HX2.out) (by omega) (by omega) (by omega))
set_option maxRecDepth 100000 in
set_option maxHeartbeats 1000000 in
theorem range_max {w : World} {D : Dia} {p : Pl} {Ao Ad As A : Option Addr} {lo co ld cd ns' cs i c : Nat} {R : Nat → RI} {V : Nat → IV} (d : Dm w D p) (ok : OkD D) (hT : Tabs w) (hi : i < D.nb) (hk : (D.B i).k = 9) (l : LnI w A D.nb R V) :
  Calls Tryz.prog 119 #[anv D p Ao lo co Ad ld cd As ns' cs, bkv (D.B i).k (p.AA i) (D.B i).n (p.cA i) (D.B i).vn (D.B i).ve (D.B i).un (D.B i).ue, .slice A D.nb c] w (IvRes (bvI D V i).lo (bvI D V i).hi w) := by
 have hmf : ∀ (fn : Fn) (first cap : Array Value) (w : World), (Instr.makeFunc fn first cap).run Tryz.prog w = .ok (.func fn first cap) w := fun _ _ _ _ => rfl
 have hbv : bvI D V i = ⟨maxD (V (sr D i 0)).lo (V (sr D i 1)).lo, maxD (V (sr D i 0)).hi (V (sr D i 1)).hi⟩ := by unfold bvI fI; rw [hk]; rfl
 rw [hbv]; clear hbv
 obtain ⟨W1, hW1⟩ : ∃ W1, W1 = vaIW w D p Ao lo co Ad ld cd As ns' cs i A c 102 79 27 58 := ⟨_, rfl⟩
 have hM : VaI w W1 D p Ao lo co Ad ld cd As ns' cs i A c := by rw [hW1]; exact VaI.new _ _ _ _ _ _ _ _ _ _ _ _ _ _ _ _ _ _ _
 have hz := hM.sz
 have HM := Lib.hid hM
 have hns : Hid (ns D i = (D.B i).n ∧ ((D.B i).n : Int) = arity (D.B i).k) := ⟨by unfold ns; rw [if_neg (by omega)], ok.ar i hi⟩
 have hn0 : 0 < ns D i := by
  have a := hns.out
  have b : arity (D.B i).k = 2 := by rw [hk]; decide
  omega
 have HA0 : Hid (∀ w', Ext W1 w' → Calls Tryz.prog 166 #[I 0, .pointer (some ⟨w.heap.size + 1 + 1, 0, none⟩), .pointer (some ⟨w.heap.size + 1, 0, none⟩)] w' (fun x w'' => x = .returned (R (sr D i 0)).v ∧ Ext w' w'')) := fun w' e => hM.arg d ok.toWF hi l 0 hn0 w' e
 have HC0 : Hid (∀ w', Ext W1 w' → CnI w' (R (sr D i 0)) (V (sr D i 0))) := fun w' e => (l.el _ (ok.src hi hn0).2.1).ext (hM.ext.trans e)
 have hn1 : 1 < ns D i := by
  have a := hns.out
  have b : arity (D.B i).k = 2 := by rw [hk]; decide
  omega
 have HA1 : Hid (∀ w', Ext W1 w' → Calls Tryz.prog 166 #[I 1, .pointer (some ⟨w.heap.size + 1 + 1, 0, none⟩), .pointer (some ⟨w.heap.size + 1, 0, none⟩)] w' (fun x w'' => x = .returned (R (sr D i 1)).v ∧ Ext w' w'')) := fun w' e => hM.arg d ok.toWF hi l 1 hn1 w' e
 have HC1 : Hid (∀ w', Ext W1 w' → CnI w' (R (sr D i 1)) (V (sr D i 1))) := fun w' e => (l.el _ (ok.src hi hn1).2.1).ext (hM.ext.trans e)
 have HF : Hid (∀ w', Ext W1 w' → Calls Tryz.prog 175 #[(R (sr D i 0)).v, (R (sr D i 1)).v] w' (IvRes (maxD (V (sr D i 0)).lo (V (sr D i 1)).lo) (maxD (V (sr D i 0)).hi (V (sr D i 1)).hi) w')) := fun w' e => by
  have h0 := HC0.out w' e; have h1 := HC1.out w' e
  have := imax_any h0.iw h1.iw (hT.ext (hM.ext.trans e))
  rw [lo2_of (maxD_ok h0.lo.ok h1.lo.ok) (maxD_ok h0.hi.ok h1.hi.ok) (max_q h0.gd h1.gd), hi2_of (maxD_ok h0.lo.ok h1.lo.ok) (maxD_ok h0.hi.ok h1.hi.ok) (max_q h0.gd h1.gd)] at this
  exact this
 obtain ⟨u, hu⟩ : ∃ u, maxD (V (sr D i 0)).lo (V (sr D i 1)).lo = u := ⟨_, rfl⟩
 obtain ⟨v, hv⟩ : ∃ v, maxD (V (sr D i 0)).hi (V (sr D i 1)).hi = v := ⟨_, rfl⟩
 rw [hu, hv] at HF ⊢
 clear hu hv HC0 HC1 hn0 hn1
 have HTT := Lib.hid (hT.ext hM.ext)
 have k0 := hM.k0
 rw [hk] at k0
 clear d ok hT hi l hM
 rw [hk]
 unfold vaIW vaX at hW1
 rw [hk] at hW1
 clear hk
 go_enter Tryz.func119, Tryz.ntmps119
 go_upto_region 2 with fail
 rw [← hW1]; clear hW1
 have hx : Ext W1 W1 := Ext.refl _
 generalize R (sr D i 0) = r0 at *
 generalize R (sr D i 1) = r1 at *
 go_wp2_with (first
  | (go_at_call 166; (first | (with_reducible refine (HA0.out _ hx).mono ?_) | (with_reducible refine (HA1.out _ hx).mono ?_)); rintro e1 w1 ⟨rfl, h1⟩; replace hx := hx.trans h1; clear h1)
  | (go_at_call 175; (with_reducible refine (HF.out _ hx).mono ?_); rintro e1 w1 hr; obtain ⟨A2, c2, B2, k2', rfl, fa, fb, hx2⟩ := hr; have FA := Lib.hid fa; have FB := Lib.hid fb; have HX2 := Lib.hid (hx.trans hx2); obtain ⟨⟨r0, r1, r2, r3, r4, r5⟩, rf⟩ := HM.out.rs.ext (hx.trans hx2); have f0 := rf 0; have f1 := rf 1; have f2 := rf 2; have f3 := rf 3; have f4 := rf 4; have f5 := rf 5; have hsz := hx.size; clear rf fa fb hx2))
 exact bodyPost_ret (v := ivd u A2 c2 v B2 k2') (by simp [results, Tryz.results119, go_sem, r0, r1, r2, r3, r4, r5]) rfl (IvRes.end6 rfl FA.out FB.out (HM.out.ext.trans HX2.out) (by omega) (by omega) (by omega))
set_option maxRecDepth 100000 in
set_option maxHeartbeats 1000000 in
theorem range_neg {w : World} {D : Dia} {p : Pl} {Ao Ad As A : Option Addr} {lo co ld cd ns' cs i c : Nat} {R : Nat → RI} {V : Nat → IV} (d : Dm w D p) (ok : OkD D) (hT : Tabs w) (hi : i < D.nb) (hk : (D.B i).k = 5) (l : LnI w A D.nb R V) :
  Calls Tryz.prog 119 #[anv D p Ao lo co Ad ld cd As ns' cs, bkv (D.B i).k (p.AA i) (D.B i).n (p.cA i) (D.B i).vn (D.B i).ve (D.B i).un (D.B i).ue, .slice A D.nb c] w (IvRes (bvI D V i).lo (bvI D V i).hi w) := by
 have hmf : ∀ (fn : Fn) (first cap : Array Value) (w : World), (Instr.makeFunc fn first cap).run Tryz.prog w = .ok (.func fn first cap) w := fun _ _ _ _ => rfl
 have hbv : bvI D V i = ⟨lo2 (negD (V (sr D i 0)).lo) (negD (V (sr D i 0)).hi), hi2 (negD (V (sr D i 0)).lo) (negD (V (sr D i 0)).hi)⟩ := by unfold bvI fI; rw [hk]; rfl
 rw [hbv]; clear hbv
 obtain ⟨W1, hW1⟩ : ∃ W1, W1 = vaIW w D p Ao lo co Ad ld cd As ns' cs i A c 102 79 27 58 := ⟨_, rfl⟩
 have hM : VaI w W1 D p Ao lo co Ad ld cd As ns' cs i A c := by rw [hW1]; exact VaI.new _ _ _ _ _ _ _ _ _ _ _ _ _ _ _ _ _ _ _
 have hz := hM.sz
 have HM := Lib.hid hM
 have hns : Hid (ns D i = (D.B i).n ∧ ((D.B i).n : Int) = arity (D.B i).k) := ⟨by unfold ns; rw [if_neg (by omega)], ok.ar i hi⟩
 have hn0 : 0 < ns D i := by
  have a := hns.out
  have b : arity (D.B i).k = 1 := by rw [hk]; decide
  omega
 have HA0 : Hid (∀ w', Ext W1 w' → Calls Tryz.prog 166 #[I 0, .pointer (some ⟨w.heap.size + 1 + 1, 0, none⟩), .pointer (some ⟨w.heap.size + 1, 0, none⟩)] w' (fun x w'' => x = .returned (R (sr D i 0)).v ∧ Ext w' w'')) := fun w' e => hM.arg d ok.toWF hi l 0 hn0 w' e
 have HC0 : Hid (∀ w', Ext W1 w' → CnI w' (R (sr D i 0)) (V (sr D i 0))) := fun w' e => (l.el _ (ok.src hi hn0).2.1).ext (hM.ext.trans e)
 have HF : Hid (∀ w', Ext W1 w' → Calls Tryz.prog 172 #[(R (sr D i 0)).v] w' (IvRes (lo2 (negD (V (sr D i 0)).lo) (negD (V (sr D i 0)).hi)) (hi2 (negD (V (sr D i 0)).lo) (negD (V (sr D i 0)).hi)) w')) := fun w' e => ineg_any (HC0.out w' e).iw (hT.ext (hM.ext.trans e))
 obtain ⟨u, hu⟩ : ∃ u, lo2 (negD (V (sr D i 0)).lo) (negD (V (sr D i 0)).hi) = u := ⟨_, rfl⟩
 obtain ⟨v, hv⟩ : ∃ v, hi2 (negD (V (sr D i 0)).lo) (negD (V (sr D i 0)).hi) = v := ⟨_, rfl⟩
 rw [hu, hv] at HF ⊢
 clear hu hv HC0 hn0
 have HTT := Lib.hid (hT.ext hM.ext)
 have k0 := hM.k0
 rw [hk] at k0
 clear d ok hT hi l hM
 rw [hk]
 unfold vaIW vaX at hW1
 rw [hk] at hW1
 clear hk
 go_enter Tryz.func119, Tryz.ntmps119
 go_upto_region 2 with fail
 rw [← hW1]; clear hW1
 have hx : Ext W1 W1 := Ext.refl _
 generalize R (sr D i 0) = r0 at *
 go_wp2_with (first
  | (go_at_call 166; (with_reducible refine (HA0.out _ hx).mono ?_); rintro e1 w1 ⟨rfl, h1⟩; replace hx := hx.trans h1; clear h1)
  | (go_at_call 172; (with_reducible refine (HF.out _ hx).mono ?_); rintro e1 w1 hr; obtain ⟨A2, c2, B2, k2', rfl, fa, fb, hx2⟩ := hr; have FA := Lib.hid fa; have FB := Lib.hid fb; have HX2 := Lib.hid (hx.trans hx2); obtain ⟨⟨r0, r1, r2, r3, r4, r5⟩, rf⟩ := HM.out.rs.ext (hx.trans hx2); have f0 := rf 0; have f1 := rf 1; have f2 := rf 2; have f3 := rf 3; have f4 := rf 4; have f5 := rf 5; have hsz := hx.size; clear rf fa fb hx2))
 exact bodyPost_ret (v := ivd u A2 c2 v B2 k2') (by simp [results, Tryz.results119, go_sem, r0, r1, r2, r3, r4, r5]) rfl (IvRes.end6 rfl FA.out FB.out (HM.out.ext.trans HX2.out) (by omega) (by omega) (by omega))
set_option maxRecDepth 100000 in
set_option maxHeartbeats 1000000 in
theorem range_abs {w : World} {D : Dia} {p : Pl} {Ao Ad As A : Option Addr} {lo co ld cd ns' cs i c : Nat} {R : Nat → RI} {V : Nat → IV} (d : Dm w D p) (ok : OkD D) (hT : Tabs w) (hi : i < D.nb) (hk : (D.B i).k = 10) (l : LnI w A D.nb R V) :
  Calls Tryz.prog 119 #[anv D p Ao lo co Ad ld cd As ns' cs, bkv (D.B i).k (p.AA i) (D.B i).n (p.cA i) (D.B i).vn (D.B i).ve (D.B i).un (D.B i).ue, .slice A D.nb c] w (IvRes (bvI D V i).lo (bvI D V i).hi w) := by
 have hmf : ∀ (fn : Fn) (first cap : Array Value) (w : World), (Instr.makeFunc fn first cap).run Tryz.prog w = .ok (.func fn first cap) w := fun _ _ _ _ => rfl
 have hbv : bvI D V i = ⟨absL (V (sr D i 0)).lo (V (sr D i 0)).hi, absH (V (sr D i 0)).lo (V (sr D i 0)).hi⟩ := by unfold bvI fI; rw [hk]; rfl
 rw [hbv]; clear hbv
 obtain ⟨W1, hW1⟩ : ∃ W1, W1 = vaIW w D p Ao lo co Ad ld cd As ns' cs i A c 102 79 27 58 := ⟨_, rfl⟩
 have hM : VaI w W1 D p Ao lo co Ad ld cd As ns' cs i A c := by rw [hW1]; exact VaI.new _ _ _ _ _ _ _ _ _ _ _ _ _ _ _ _ _ _ _
 have hz := hM.sz
 have HM := Lib.hid hM
 have hns : Hid (ns D i = (D.B i).n ∧ ((D.B i).n : Int) = arity (D.B i).k) := ⟨by unfold ns; rw [if_neg (by omega)], ok.ar i hi⟩
 have hn0 : 0 < ns D i := by
  have a := hns.out
  have b : arity (D.B i).k = 1 := by rw [hk]; decide
  omega
 have HA0 : Hid (∀ w', Ext W1 w' → Calls Tryz.prog 166 #[I 0, .pointer (some ⟨w.heap.size + 1 + 1, 0, none⟩), .pointer (some ⟨w.heap.size + 1, 0, none⟩)] w' (fun x w'' => x = .returned (R (sr D i 0)).v ∧ Ext w' w'')) := fun w' e => hM.arg d ok.toWF hi l 0 hn0 w' e
 have HC0 : Hid (∀ w', Ext W1 w' → CnI w' (R (sr D i 0)) (V (sr D i 0))) := fun w' e => (l.el _ (ok.src hi hn0).2.1).ext (hM.ext.trans e)
 have HF : Hid (∀ w', Ext W1 w' → Calls Tryz.prog 176 #[(R (sr D i 0)).v] w' (IvRes (absL (V (sr D i 0)).lo (V (sr D i 0)).hi) (absH (V (sr D i 0)).lo (V (sr D i 0)).hi) w')) := fun w' e => iabs_any (HC0.out w' e).iw (hT.ext (hM.ext.trans e))
 obtain ⟨u, hu⟩ : ∃ u, absL (V (sr D i 0)).lo (V (sr D i 0)).hi = u := ⟨_, rfl⟩
 obtain ⟨v, hv⟩ : ∃ v, absH (V (sr D i 0)).lo (V (sr D i 0)).hi = v := ⟨_, rfl⟩
 rw [hu, hv] at HF ⊢
 clear hu hv HC0 hn0
 have HTT := Lib.hid (hT.ext hM.ext)
 have k0 := hM.k0
 rw [hk] at k0
 clear d ok hT hi l hM
 rw [hk]
 unfold vaIW vaX at hW1
 rw [hk] at hW1
 clear hk
 go_enter Tryz.func119, Tryz.ntmps119
 go_upto_region 2 with fail
 rw [← hW1]; clear hW1
 have hx : Ext W1 W1 := Ext.refl _
 generalize R (sr D i 0) = r0 at *
 go_wp2_with (first
  | (go_at_call 166; (with_reducible refine (HA0.out _ hx).mono ?_); rintro e1 w1 ⟨rfl, h1⟩; replace hx := hx.trans h1; clear h1)
  | (go_at_call 176; (with_reducible refine (HF.out _ hx).mono ?_); rintro e1 w1 hr; obtain ⟨A2, c2, B2, k2', rfl, fa, fb, hx2⟩ := hr; have FA := Lib.hid fa; have FB := Lib.hid fb; have HX2 := Lib.hid (hx.trans hx2); obtain ⟨⟨r0, r1, r2, r3, r4, r5⟩, rf⟩ := HM.out.rs.ext (hx.trans hx2); have f0 := rf 0; have f1 := rf 1; have f2 := rf 2; have f3 := rf 3; have f4 := rf 4; have f5 := rf 5; have hsz := hx.size; clear rf fa fb hx2))
 exact bodyPost_ret (v := ivd u A2 c2 v B2 k2') (by simp [results, Tryz.results119, go_sem, r0, r1, r2, r3, r4, r5]) rfl (IvRes.end6 rfl FA.out FB.out (HM.out.ext.trans HX2.out) (by omega) (by omega) (by omega))
set_option maxRecDepth 100000 in
set_option maxHeartbeats 1000000 in
theorem range_gain {w : World} {D : Dia} {p : Pl} {Ao Ad As A : Option Addr} {lo co ld cd ns' cs i c : Nat} {R : Nat → RI} {V : Nat → IV} (d : Dm w D p) (ok : OkD D) (hT : Tabs w) (hi : i < D.nb) (hk : (D.B i).k = 6) (l : LnI w A D.nb R V) :
  Calls Tryz.prog 119 #[anv D p Ao lo co Ad ld cd As ns' cs, bkv (D.B i).k (p.AA i) (D.B i).n (p.cA i) (D.B i).vn (D.B i).ve (D.B i).un (D.B i).ue, .slice A D.nb c] w (IvRes (bvI D V i).lo (bvI D V i).hi w) := by
 have hmf : ∀ (fn : Fn) (first cap : Array Value) (w : World), (Instr.makeFunc fn first cap).run Tryz.prog w = .ok (.func fn first cap) w := fun _ _ _ _ => rfl
 have hbv : bvI D V i = ⟨lo2 (mulD (V (sr D i 0)).lo (nmS (D.B i).vn (D.B i).ve)) (mulD (V (sr D i 0)).hi (nmS (D.B i).vn (D.B i).ve)), hi2 (mulD (V (sr D i 0)).lo (nmS (D.B i).vn (D.B i).ve)) (mulD (V (sr D i 0)).hi (nmS (D.B i).vn (D.B i).ve))⟩ := by unfold bvI fI; rw [hk]; rfl
 rw [hbv]; clear hbv
 obtain ⟨W1, hW1⟩ : ∃ W1, W1 = vaIW w D p Ao lo co Ad ld cd As ns' cs i A c 102 79 27 58 := ⟨_, rfl⟩
 have hM : VaI w W1 D p Ao lo co Ad ld cd As ns' cs i A c := by rw [hW1]; exact VaI.new _ _ _ _ _ _ _ _ _ _ _ _ _ _ _ _ _ _ _
 have hz := hM.sz
 have HM := Lib.hid hM
 have hns : Hid (ns D i = (D.B i).n ∧ ((D.B i).n : Int) = arity (D.B i).k) := ⟨by unfold ns; rw [if_neg (by omega)], ok.ar i hi⟩
 have hn0 : 0 < ns D i := by
  have a := hns.out
  have b : arity (D.B i).k = 1 := by rw [hk]; decide
  omega
 have HA0 : Hid (∀ w', Ext W1 w' → Calls Tryz.prog 166 #[I 0, .pointer (some ⟨w.heap.size + 1 + 1, 0, none⟩), .pointer (some ⟨w.heap.size + 1, 0, none⟩)] w' (fun x w'' => x = .returned (R (sr D i 0)).v ∧ Ext w' w'')) := fun w' e => hM.arg d ok.toWF hi l 0 hn0 w' e
 have HC0 : Hid (∀ w', Ext W1 w' → CnI w' (R (sr D i 0)) (V (sr D i 0))) := fun w' e => (l.el _ (ok.src hi hn0).2.1).ext (hM.ext.trans e)
 have HNV : Hid (∀ w', Ext W1 w' → Calls Tryz.prog 169 #[.agg #[I (D.B i).vn, I (D.B i).ve]] w' (DyRes (nmS (D.B i).vn (D.B i).ve) w')) := fun w' e => by
  have hv := ok.val hi (by unfold usesV; rw [hk]; decide)
  exact rnum_any _ _ _ (hT.ext (hM.ext.trans e)) hv.1 hv.2.1 hv.2.2.1 hv.2.2.2
 have HLV : Hid ((nmS (D.B i).vn (D.B i).ve).ok ∧ len (nmS (D.B i).vn (D.B i).ve).m ≤ 16777216 ∧ len (nmS (D.B i).vn (D.B i).ve).m ≤ 1048576) := by
  have hv := ok.val hi (by unfold usesV; rw [hk]; decide)
  exact ⟨nmS_ok _ _, (nmS_len hv.1 hv.2.1 hv.2.2.2).2, Nat.le_trans (nmS_len' (by omega) (by omega) hv.2.2.2) (by decide)⟩
 have HF : Hid (∀ w' A2 c2, Ext W1 w' → Cn w' (cnR (nmS (D.B i).vn (D.B i).ve) A2 c2) (nmS (D.B i).vn (D.B i).ve) → Calls Tryz.prog 167 #[(R (sr D i 0)).v, (cnR (nmS (D.B i).vn (D.B i).ve) A2 c2).v] w' (IvRes (lo2 (mulD (V (sr D i 0)).lo (nmS (D.B i).vn (D.B i).ve)) (mulD (V (sr D i 0)).hi (nmS (D.B i).vn (D.B i).ve))) (hi2 (mulD (V (sr D i 0)).lo (nmS (D.B i).vn (D.B i).ve)) (mulD (V (sr D i 0)).hi (nmS (D.B i).vn (D.B i).ve))) w')) := fun w' A2 c2 e cn => scale_any (HC0.out w' e).iw cn.dy (hT.ext (hM.ext.trans e)) HLV.out.2.2
 obtain ⟨u, hu⟩ : ∃ u, lo2 (mulD (V (sr D i 0)).lo (nmS (D.B i).vn (D.B i).ve)) (mulD (V (sr D i 0)).hi (nmS (D.B i).vn (D.B i).ve)) = u := ⟨_, rfl⟩
 obtain ⟨v, hv⟩ : ∃ v, hi2 (mulD (V (sr D i 0)).lo (nmS (D.B i).vn (D.B i).ve)) (mulD (V (sr D i 0)).hi (nmS (D.B i).vn (D.B i).ve)) = v := ⟨_, rfl⟩
 rw [hu, hv] at HF ⊢
 clear hu hv HC0 hn0
 have HS : Hid (∀ w', Ext W1 w' → w'.cell? ⟨w.heap.size + 1, 2, none⟩ = some (I (D.B i).vn) ∧ w'.cell? ⟨w.heap.size + 1, 3, none⟩ = some (I (D.B i).ve)) := fun w' e =>
  ⟨(e.old.1 _ _ (by omega)).trans hM.k2, (e.old.1 _ _ (by omega)).trans hM.k3⟩
 have HTT := Lib.hid (hT.ext hM.ext)
 have k0 := hM.k0
 rw [hk] at k0
 clear d ok hT hi l hM
 rw [hk]
 unfold vaIW vaX at hW1
 rw [hk] at hW1
 clear hk
 go_enter Tryz.func119, Tryz.ntmps119
 go_upto_region 2 with fail
 rw [← hW1]; clear hW1
 have hx : Ext W1 W1 := Ext.refl _
 obtain ⟨q0, q1⟩ := HS.out W1 (Ext.refl _)
 generalize R (sr D i 0) = rr at *
 generalize hs : nmS (D.B i).vn (D.B i).ve = sv at *
 clear hs
 generalize (D.B i).vn = vn at *
 generalize (D.B i).ve = ve at *
 have n5 : ¬ w.heap.size + 1 = w.heap.size + 1 + 1 + 1 := by omega
 have n6 : ¬ w.heap.size + 1 + 1 + 1 = w.heap.size + 1 := by omega
 go_upto_region 15 with fail
 go_region_held3 (fun w' => w'.cell? ⟨w.heap.size + 1, 2, none⟩ = some (I vn) ∧ w'.cell? ⟨w.heap.size + 1, 3, none⟩ = some (I ve)) (first | exact HS.out _ ex2 | (refine ⟨?_, ?_⟩ <;> (rw [cell_far6' (by omega)]; assumption)))
  (first
   | (go_at_call 169; (with_reducible refine (HNV.out _ ex2).mono ?_); rintro e1 w2 hr0; obtain ⟨A0, y0, rfl, cn0, _, hx0⟩ := hr0.cn HLV.out.1 HLV.out.2.1; have HX2 := Lib.hid (show Ext W1 w2 from ex2); have CN0 := Lib.hid cn0; obtain ⟨s0, s1⟩ := HS.out w2 HX2.out; clear hr0 cn0)
   | (go_at_call 166; (with_reducible refine (HA0.out _ ex2).mono ?_); rintro e1 w3 ⟨rfl, h3⟩; have HX3 := Lib.hid (show Ext W1 w3 from ex2); obtain ⟨t0, t1⟩ := HS.out w3 HX3.out)
   | (go_at_call 167; (with_reducible refine (HF.out _ _ _ ex2 (CN0.out.ext ex2)).mono ?_); rintro e1 w6 hr; obtain ⟨A2, c2, B2, k2', rfl, fa, fb, hx2⟩ := hr; have FA := Lib.hid fa; have FB := Lib.hid fb; have HX6 := Lib.hid (show Ext W1 w6 from ex2); obtain ⟨p0, p1⟩ := HS.out w6 HX6.out; obtain ⟨⟨r0, r1, r2, r3, r4, r5⟩, rf⟩ := HM.out.rs.ext HX6.out; have f0 := rf 0; have f1 := rf 1; have f2 := rf 2; have f3 := rf 3; have f4 := rf 4; have f5 := rf 5; have hsz := HX3.out.size; have hsz2 := HX2.out.size; clear rf fa fb))
 all_goals
  go_wp2_with fail
  exact bodyPost_ret (v := ivd u A2 c2 v B2 k2') (by simp [results, Tryz.results119, go_sem, r0, r1, r2, r3, r4, r5]) rfl (IvRes.end6 rfl FA.out FB.out (HM.out.ext.trans HX6.out) (by omega) (by omega) (by omega))
end Go.Proofs.YtgnngldlgcdnfaaGreatDoor
