/- Package exact: the value of a block, kind by kind. -/
import Derived.Test.YtcdkkohklhmpgaaGreatDoorEyce
import Derived.Deep.RegionHeld3
namespace Go.Proofs.YtcdkkohklhmpgaaGreatDoor
open Go Go.RowKit

/-- The boxes of a call of value: the evaluation, the block, the list of values, the result. -/
structure VaM (w W1 : World) (D : Dia) (p : Pl) (Ao : Option Addr) (lo co : Nat) (Ad : Option Addr) (ld cd : Nat) (i : Nat) (A : Option Addr) (c : Nat) : Prop where
  ext : Ext w W1
  b5 : B5 W1 w.heap.size D p Ao lo co Ad ld cd
  k0 : W1.cell? ⟨w.heap.size + 1, 0, none⟩ = some (I (D.B i).k)
  k1 : W1.cell? ⟨w.heap.size + 1, 1, none⟩ = some (.slice (p.AA i) (D.B i).n (p.cA i))
  k2 : W1.cell? ⟨w.heap.size + 1, 2, none⟩ = some (I (D.B i).vn)
  k3 : W1.cell? ⟨w.heap.size + 1, 3, none⟩ = some (I (D.B i).ve)
  k4 : W1.cell? ⟨w.heap.size + 1, 4, none⟩ = some (I (D.B i).un)
  k5 : W1.cell? ⟨w.heap.size + 1, 5, none⟩ = some (I (D.B i).ue)
  v0 : W1.cell? ⟨w.heap.size + 1 + 1, 0, none⟩ = some (.slice A D.nb c)
  rs : Bx W1 (w.heap.size + 1 + 1 + 1) (.bool false) (.slice none 0 0) (I 0)
  sz : W1.heap.size = w.heap.size + 4
abbrev vaW (w : World) (D : Dia) (p : Pl) (Ao : Option Addr) (lo co : Nat) (Ad : Option Addr) (ld cd : Nat) (i : Nat) (A : Option Addr) (c : Nat) (t1 t2 t3 t4 : TypeId) : World :=
  (((w.alloc (.cells #[.slice p.AI D.ni p.cI, .slice p.AB D.nb p.cB, .slice p.AO D.no p.cO, .slice Ao lo co, .slice Ad ld cd] t1)).alloc (.cells #[I (D.B i).k, .slice (p.AA i) (D.B i).n (p.cA i), I (D.B i).vn, I (D.B i).ve, I (D.B i).un, I (D.B i).ue] t2)).alloc (.cells #[.slice A D.nb c] t3)).alloc (.cells #[.bool false, .slice none 0 0, I 0] t4)
theorem VaM.new (w : World) (D : Dia) (p : Pl) (Ao : Option Addr) (lo co : Nat) (Ad : Option Addr) (ld cd : Nat) (i : Nat) (A : Option Addr) (c : Nat) (t1 t2 t3 t4 : TypeId) : VaM w (vaW w D p Ao lo co Ad ld cd i A c t1 t2 t3 t4) D p Ao lo co Ad ld cd i A c := by
  have n1 : ¬ w.heap.size = w.heap.size + 1 := by omega
  have n2 : ¬ w.heap.size = w.heap.size + 1 + 1 := by omega
  have n3 : ¬ w.heap.size = w.heap.size + 1 + 1 + 1 := by omega
  have n4 : ¬ w.heap.size + 1 = w.heap.size + 1 + 1 := by omega
  have n5 : ¬ w.heap.size + 1 = w.heap.size + 1 + 1 + 1 := by omega
  have n6 : ¬ w.heap.size + 2 = w.heap.size + 1 + 1 + 1 := by omega
  refine ⟨(((Ext.alloc _ _).trans (Ext.alloc _ _)).trans (Ext.alloc _ _)).trans (Ext.alloc _ _), (((B5.new w D p Ao lo co Ad ld cd t1).ext (Ext.alloc _ _)).ext (Ext.alloc _ _)).ext (Ext.alloc _ _), ?_, ?_, ?_, ?_, ?_, ?_, ?_, ?_, by simp⟩
  · go_simp
  · go_simp
  · go_simp
  · go_simp
  · go_simp
  · go_simp
  · go_simp
  · have := Bx.new (((w.alloc (.cells #[.slice p.AI D.ni p.cI, .slice p.AB D.nb p.cB, .slice p.AO D.no p.cO, .slice Ao lo co, .slice Ad ld cd] t1)).alloc (.cells #[I (D.B i).k, .slice (p.AA i) (D.B i).n (p.cA i), I (D.B i).vn, I (D.B i).ve, I (D.B i).un, I (D.B i).ue] t2)).alloc (.cells #[.slice A D.nb c] t3)) (.bool false) (.slice none 0 0) (I 0) t4
    rwa [show ((((w.alloc (.cells #[.slice p.AI D.ni p.cI, .slice p.AB D.nb p.cB, .slice p.AO D.no p.cO, .slice Ao lo co, .slice Ad ld cd] t1)).alloc (.cells #[I (D.B i).k, .slice (p.AA i) (D.B i).n (p.cA i), I (D.B i).vn, I (D.B i).ve, I (D.B i).un, I (D.B i).ue] t2)).alloc (.cells #[.slice A D.nb c] t3))).heap.size = w.heap.size + 1 + 1 + 1 by simp] at this
/-- An argument of the block, read by the closure. -/
theorem VaM.arg {w W1 : World} {D : Dia} {p : Pl} {Ao Ad A : Option Addr} {lo co ld cd i c : Nat} {R : Nat → RN} {V : Nat → DV} (h : VaM w W1 D p Ao lo co Ad ld cd i A c) (d : Dm w D p) (wf : WF D) (hi : i < D.nb) (l : Ln w A D.nb R V) (j : Nat) (hj : j < ns D i)
    (w' : World) (e : Ext W1 w') : Calls Tryz.prog 238 #[I j, .pointer (some ⟨w.heap.size + 1 + 1, 0, none⟩), .pointer (some ⟨w.heap.size + 1, 0, none⟩)] w' (fun x w'' => x = .returned (R (sr D i j)).v ∧ Ext w' w'') := by
  have hs := wf.src hi hj
  have hn : ns D i = (D.B i).n := by unfold ns at hj ⊢; split at hj; omega; rw [if_neg (by assumption)]
  obtain ⟨b, o, rfl, hb, hc⟩ := l.rn (by omega)
  obtain ⟨ba, oa, ha, hba, hca⟩ := (d.args i hi).1 (by omega)
  have hz := h.sz
  have hlt : ∀ k, k < W1.heap.size → k < w'.heap.size := fun k hk => Nat.lt_of_lt_of_le hk e.size
  have E := h.ext.trans e
  have xa := (E.old.1 _ _ hba).trans (hca j (by omega))
  rw [hs.1] at xa
  have hv := hc _ hs.2.1
  have h5 := (e.old.1 _ _ (by omega)).trans h.k1
  rw [ha] at h5
  exact arg_any j ((e.old.1 _ _ (by omega)).trans h.v0) h5 (by omega) xa hs.2.1 ⟨(E.old.1 _ _ hb).trans hv.1, (E.old.1 _ _ hb).trans hv.2.1, (E.old.1 _ _ hb).trans hv.2.2⟩ (hlt _ (by omega)) (hlt _ (by omega)) (Nat.lt_of_lt_of_le hb E.size) (Nat.lt_of_lt_of_le hba E.size)


set_option maxRecDepth 100000 in
set_option maxHeartbeats 1000000 in
theorem value_const {w : World} {D : Dia} {p : Pl} {Ao Ad A Ai : Option Addr} {lo co ld cd i c ci : Nat} {R : Nat → RN} {V : Nat → DV} {IN : Nat → Int} (d : Dm w D p) (ok : OkD D) (hT : Tabs w) (hi : i < D.nb) (hk : (D.B i).k = 1) (l : Ln w A D.nb R V) :
    Calls Tryz.prog 217 #[evv D p Ao lo co Ad ld cd, bkv (D.B i).k (p.AA i) (D.B i).n (p.cA i) (D.B i).vn (D.B i).ve (D.B i).un (D.B i).ue, .slice A D.nb c, .slice Ai D.ni ci] w (DyRes (bval D IN V i) w) := by
  have hmf : ∀ (fn : Fn) (first cap : Array Value) (w : World), (Instr.makeFunc fn first cap).run Tryz.prog w = .ok (.func fn first cap) w := fun _ _ _ _ => rfl
  have hbv : bval D IN V i = nmS (D.B i).vn (D.B i).ve := by unfold bval fv; rw [hk]; rfl
  rw [hbv]; clear hbv
  obtain ⟨W1, hW1⟩ : ∃ W1, W1 = vaW w D p Ao lo co Ad ld cd i A c 132 100 62 24 := ⟨_, rfl⟩
  have hM : VaM w W1 D p Ao lo co Ad ld cd i A c := by rw [hW1]; exact VaM.new _ _ _ _ _ _ _ _ _ _ _ _ _ _ _ _
  have hz := hM.sz
  have HM := Lib.hid hM
  have hns : Hid (ns D i = (D.B i).n ∧ ((D.B i).n : Int) = arity (D.B i).k) := ⟨by unfold ns; rw [if_neg (by omega)], ok.ar i hi⟩
  have hd0 := d; have hl0 := l
  clear hd0 hl0
  have HNV : Hid (∀ w', Ext W1 w' → Calls Tryz.prog 172 #[.agg #[I (D.B i).vn, I (D.B i).ve]] w' (DyRes (nmS (D.B i).vn (D.B i).ve) w')) := fun w' e => by
    have hv := ok.val hi (by unfold usesV; rw [hk]; decide)
    exact enumber_any _ _ _ (hT.ext (hM.ext.trans e)) hv.1 hv.2.1 hv.2.2.1 hv.2.2.2
  have HLV : Hid (len (nmS (D.B i).vn (D.B i).ve).m ≤ 16777216) := by
    have hv := ok.val hi (by unfold usesV; rw [hk]; decide)
    exact (nmS_len hv.1 hv.2.1 hv.2.2.2).2
  obtain ⟨d', hd'⟩ : ∃ d', nmS (D.B i).vn (D.B i).ve = d' := ⟨_, rfl⟩
  rw [hd'] at HNV ⊢
  clear hd' HLV
  have k2 := hM.k2; have k3 := hM.k3
  have HTT := Lib.hid (hT.ext hM.ext)
  have k0 := hM.k0
  rw [hk] at k0
  clear d ok hT hi l hM
  rw [hk]
  unfold vaW at hW1
  rw [hk] at hW1
  clear hk
  go_enter Tryz.func217, Tryz.ntmps217
  go_upto_region 2 with fail
  rw [← hW1]; clear hW1
  have hx : Ext W1 W1 := Ext.refl _
  go_wp2_with (go_at_call 172; (with_reducible refine (HNV.out _ hx).mono ?_); rintro e1 w1 hr; obtain ⟨A2, c2, rfl, hon, hx2⟩ := hr; have HO := Lib.hid hon; have HX2 := Lib.hid (hx.trans hx2); obtain ⟨⟨r0, r1, r2⟩, rf⟩ := HM.out.rs.ext (hx.trans hx2); have f0 := rf 0; have f1 := rf 1; have f2 := rf 2; have hsz := hx.size; clear rf hon hx2)
  exact bodyPost_ret (v := dv d'.neg A2 (len d'.m) c2 d'.den) (by simp [results, Tryz.results217, go_sem, r0, r1, r2]) rfl (DyRes.end3 rfl HO.out (HM.out.ext.trans HX2.out) (by omega) (by omega) (by omega))


set_option maxRecDepth 100000 in
set_option maxHeartbeats 1000000 in
theorem value_add {w : World} {D : Dia} {p : Pl} {Ao Ad A Ai : Option Addr} {lo co ld cd i c ci : Nat} {R : Nat → RN} {V : Nat → DV} {IN : Nat → Int} (d : Dm w D p) (ok : OkD D) (hT : Tabs w) (hi : i < D.nb) (hk : (D.B i).k = 3) (l : Ln w A D.nb R V) :
    Calls Tryz.prog 217 #[evv D p Ao lo co Ad ld cd, bkv (D.B i).k (p.AA i) (D.B i).n (p.cA i) (D.B i).vn (D.B i).ve (D.B i).un (D.B i).ue, .slice A D.nb c, .slice Ai D.ni ci] w (DyRes (bval D IN V i) w) := by
  have hmf : ∀ (fn : Fn) (first cap : Array Value) (w : World), (Instr.makeFunc fn first cap).run Tryz.prog w = .ok (.func fn first cap) w := fun _ _ _ _ => rfl
  have hbv : bval D IN V i = addD (V (sr D i 0)) (V (sr D i 1)) := by unfold bval fv; rw [hk]; rfl
  rw [hbv]; clear hbv
  obtain ⟨W1, hW1⟩ : ∃ W1, W1 = vaW w D p Ao lo co Ad ld cd i A c 132 100 62 24 := ⟨_, rfl⟩
  have hM : VaM w W1 D p Ao lo co Ad ld cd i A c := by rw [hW1]; exact VaM.new _ _ _ _ _ _ _ _ _ _ _ _ _ _ _ _
  have hz := hM.sz
  have HM := Lib.hid hM
  have hns : Hid (ns D i = (D.B i).n ∧ ((D.B i).n : Int) = arity (D.B i).k) := ⟨by unfold ns; rw [if_neg (by omega)], ok.ar i hi⟩
  have hn0 : 0 < ns D i := by
    have a := hns.out
    have b : arity (D.B i).k = 2 := by rw [hk]; decide
    omega
  have HA0 : Hid (∀ w', Ext W1 w' → Calls Tryz.prog 238 #[I 0, .pointer (some ⟨w.heap.size + 1 + 1, 0, none⟩), .pointer (some ⟨w.heap.size + 1, 0, none⟩)] w' (fun x w'' => x = .returned (R (sr D i 0)).v ∧ Ext w' w'')) := fun w' e => hM.arg d ok.toWF hi l 0 hn0 w' e
  have HC0 : Hid (∀ w', Ext W1 w' → Cn w' (R (sr D i 0)) (V (sr D i 0))) := fun w' e => (l.el _ (ok.src hi hn0).2.1).ext (hM.ext.trans e)
  have hn1 : 1 < ns D i := by
    have a := hns.out
    have b : arity (D.B i).k = 2 := by rw [hk]; decide
    omega
  have HA1 : Hid (∀ w', Ext W1 w' → Calls Tryz.prog 238 #[I 1, .pointer (some ⟨w.heap.size + 1 + 1, 0, none⟩), .pointer (some ⟨w.heap.size + 1, 0, none⟩)] w' (fun x w'' => x = .returned (R (sr D i 1)).v ∧ Ext w' w'')) := fun w' e => hM.arg d ok.toWF hi l 1 hn1 w' e
  have HC1 : Hid (∀ w', Ext W1 w' → Cn w' (R (sr D i 1)) (V (sr D i 1))) := fun w' e => (l.el _ (ok.src hi hn1).2.1).ext (hM.ext.trans e)
  have HF : Hid (∀ w', Ext W1 w' → Calls Tryz.prog 72 #[(R (sr D i 0)).v, (R (sr D i 1)).v] w' (DyRes (addD (V (sr D i 0)) (V (sr D i 1))) w')) := fun w' e => add_any (HC0.out w' e).dy (HC1.out w' e).dy (hT.ext (hM.ext.trans e))
  obtain ⟨d', hd'⟩ : ∃ d', addD (V (sr D i 0)) (V (sr D i 1)) = d' := ⟨_, rfl⟩
  rw [hd'] at HF ⊢
  clear hd' HC0 HC1 hn0 hn1
  have HTT := Lib.hid (hT.ext hM.ext)
  have k0 := hM.k0
  rw [hk] at k0
  clear d ok hT hi l hM
  rw [hk]
  unfold vaW at hW1
  rw [hk] at hW1
  clear hk
  go_enter Tryz.func217, Tryz.ntmps217
  go_upto_region 2 with fail
  rw [← hW1]; clear hW1
  have hx : Ext W1 W1 := Ext.refl _
  generalize R (sr D i 0) = r0 at *
  generalize R (sr D i 1) = r1 at *
  go_wp2_with (first
    | (go_at_call 238; (first | (with_reducible refine (HA0.out _ hx).mono ?_) | (with_reducible refine (HA1.out _ hx).mono ?_)); rintro e1 w1 ⟨rfl, h1⟩; replace hx := hx.trans h1; clear h1)
    | (go_at_call 72; (with_reducible refine (HF.out _ hx).mono ?_); rintro e1 w1 hr; obtain ⟨A2, c2, rfl, hon, hx2⟩ := hr; have HO := Lib.hid hon; have HX2 := Lib.hid (hx.trans hx2); obtain ⟨⟨r0, r1, r2⟩, rf⟩ := HM.out.rs.ext (hx.trans hx2); have f0 := rf 0; have f1 := rf 1; have f2 := rf 2; have hsz := hx.size; clear rf hon hx2))
  exact bodyPost_ret (v := dv d'.neg A2 (len d'.m) c2 d'.den) (by simp [results, Tryz.results217, go_sem, r0, r1, r2]) rfl (DyRes.end3 rfl HO.out (HM.out.ext.trans HX2.out) (by omega) (by omega) (by omega))


set_option maxRecDepth 100000 in
set_option maxHeartbeats 1000000 in
theorem value_sub {w : World} {D : Dia} {p : Pl} {Ao Ad A Ai : Option Addr} {lo co ld cd i c ci : Nat} {R : Nat → RN} {V : Nat → DV} {IN : Nat → Int} (d : Dm w D p) (ok : OkD D) (hT : Tabs w) (hi : i < D.nb) (hk : (D.B i).k = 4) (l : Ln w A D.nb R V) :
    Calls Tryz.prog 217 #[evv D p Ao lo co Ad ld cd, bkv (D.B i).k (p.AA i) (D.B i).n (p.cA i) (D.B i).vn (D.B i).ve (D.B i).un (D.B i).ue, .slice A D.nb c, .slice Ai D.ni ci] w (DyRes (bval D IN V i) w) := by
  have hmf : ∀ (fn : Fn) (first cap : Array Value) (w : World), (Instr.makeFunc fn first cap).run Tryz.prog w = .ok (.func fn first cap) w := fun _ _ _ _ => rfl
  have hbv : bval D IN V i = subD (V (sr D i 0)) (V (sr D i 1)) := by unfold bval fv; rw [hk]; rfl
  rw [hbv]; clear hbv
  obtain ⟨W1, hW1⟩ : ∃ W1, W1 = vaW w D p Ao lo co Ad ld cd i A c 132 100 62 24 := ⟨_, rfl⟩
  have hM : VaM w W1 D p Ao lo co Ad ld cd i A c := by rw [hW1]; exact VaM.new _ _ _ _ _ _ _ _ _ _ _ _ _ _ _ _
  have hz := hM.sz
  have HM := Lib.hid hM
  have hns : Hid (ns D i = (D.B i).n ∧ ((D.B i).n : Int) = arity (D.B i).k) := ⟨by unfold ns; rw [if_neg (by omega)], ok.ar i hi⟩
  have hn0 : 0 < ns D i := by
    have a := hns.out
    have b : arity (D.B i).k = 2 := by rw [hk]; decide
    omega
  have HA0 : Hid (∀ w', Ext W1 w' → Calls Tryz.prog 238 #[I 0, .pointer (some ⟨w.heap.size + 1 + 1, 0, none⟩), .pointer (some ⟨w.heap.size + 1, 0, none⟩)] w' (fun x w'' => x = .returned (R (sr D i 0)).v ∧ Ext w' w'')) := fun w' e => hM.arg d ok.toWF hi l 0 hn0 w' e
  have HC0 : Hid (∀ w', Ext W1 w' → Cn w' (R (sr D i 0)) (V (sr D i 0))) := fun w' e => (l.el _ (ok.src hi hn0).2.1).ext (hM.ext.trans e)
  have hn1 : 1 < ns D i := by
    have a := hns.out
    have b : arity (D.B i).k = 2 := by rw [hk]; decide
    omega
  have HA1 : Hid (∀ w', Ext W1 w' → Calls Tryz.prog 238 #[I 1, .pointer (some ⟨w.heap.size + 1 + 1, 0, none⟩), .pointer (some ⟨w.heap.size + 1, 0, none⟩)] w' (fun x w'' => x = .returned (R (sr D i 1)).v ∧ Ext w' w'')) := fun w' e => hM.arg d ok.toWF hi l 1 hn1 w' e
  have HC1 : Hid (∀ w', Ext W1 w' → Cn w' (R (sr D i 1)) (V (sr D i 1))) := fun w' e => (l.el _ (ok.src hi hn1).2.1).ext (hM.ext.trans e)
  have HF : Hid (∀ w', Ext W1 w' → Calls Tryz.prog 32 #[(R (sr D i 0)).v, (R (sr D i 1)).v] w' (DyRes (subD (V (sr D i 0)) (V (sr D i 1))) w')) := fun w' e => sub_any (HC0.out w' e).dy (HC1.out w' e).dy (hT.ext (hM.ext.trans e))
  obtain ⟨d', hd'⟩ : ∃ d', subD (V (sr D i 0)) (V (sr D i 1)) = d' := ⟨_, rfl⟩
  rw [hd'] at HF ⊢
  clear hd' HC0 HC1 hn0 hn1
  have HTT := Lib.hid (hT.ext hM.ext)
  have k0 := hM.k0
  rw [hk] at k0
  clear d ok hT hi l hM
  rw [hk]
  unfold vaW at hW1
  rw [hk] at hW1
  clear hk
  go_enter Tryz.func217, Tryz.ntmps217
  go_upto_region 2 with fail
  rw [← hW1]; clear hW1
  have hx : Ext W1 W1 := Ext.refl _
  generalize R (sr D i 0) = r0 at *
  generalize R (sr D i 1) = r1 at *
  go_wp2_with (first
    | (go_at_call 238; (first | (with_reducible refine (HA0.out _ hx).mono ?_) | (with_reducible refine (HA1.out _ hx).mono ?_)); rintro e1 w1 ⟨rfl, h1⟩; replace hx := hx.trans h1; clear h1)
    | (go_at_call 32; (with_reducible refine (HF.out _ hx).mono ?_); rintro e1 w1 hr; obtain ⟨A2, c2, rfl, hon, hx2⟩ := hr; have HO := Lib.hid hon; have HX2 := Lib.hid (hx.trans hx2); obtain ⟨⟨r0, r1, r2⟩, rf⟩ := HM.out.rs.ext (hx.trans hx2); have f0 := rf 0; have f1 := rf 1; have f2 := rf 2; have hsz := hx.size; clear rf hon hx2))
  exact bodyPost_ret (v := dv d'.neg A2 (len d'.m) c2 d'.den) (by simp [results, Tryz.results217, go_sem, r0, r1, r2]) rfl (DyRes.end3 rfl HO.out (HM.out.ext.trans HX2.out) (by omega) (by omega) (by omega))


set_option maxRecDepth 100000 in
set_option maxHeartbeats 1000000 in
theorem value_mul {w : World} {D : Dia} {p : Pl} {Ao Ad A Ai : Option Addr} {lo co ld cd i c ci : Nat} {R : Nat → RN} {V : Nat → DV} {IN : Nat → Int} (d : Dm w D p) (ok : OkD D) (hT : Tabs w) (hi : i < D.nb) (hk : (D.B i).k = 7) (l : Ln w A D.nb R V) :
    Calls Tryz.prog 217 #[evv D p Ao lo co Ad ld cd, bkv (D.B i).k (p.AA i) (D.B i).n (p.cA i) (D.B i).vn (D.B i).ve (D.B i).un (D.B i).ue, .slice A D.nb c, .slice Ai D.ni ci] w (DyRes (bval D IN V i) w) := by
  have hmf : ∀ (fn : Fn) (first cap : Array Value) (w : World), (Instr.makeFunc fn first cap).run Tryz.prog w = .ok (.func fn first cap) w := fun _ _ _ _ => rfl
  have hbv : bval D IN V i = mulD (V (sr D i 0)) (V (sr D i 1)) := by unfold bval fv; rw [hk]; rfl
  rw [hbv]; clear hbv
  obtain ⟨W1, hW1⟩ : ∃ W1, W1 = vaW w D p Ao lo co Ad ld cd i A c 132 100 62 24 := ⟨_, rfl⟩
  have hM : VaM w W1 D p Ao lo co Ad ld cd i A c := by rw [hW1]; exact VaM.new _ _ _ _ _ _ _ _ _ _ _ _ _ _ _ _
  have hz := hM.sz
  have HM := Lib.hid hM
  have hns : Hid (ns D i = (D.B i).n ∧ ((D.B i).n : Int) = arity (D.B i).k) := ⟨by unfold ns; rw [if_neg (by omega)], ok.ar i hi⟩
  have hn0 : 0 < ns D i := by
    have a := hns.out
    have b : arity (D.B i).k = 2 := by rw [hk]; decide
    omega
  have HA0 : Hid (∀ w', Ext W1 w' → Calls Tryz.prog 238 #[I 0, .pointer (some ⟨w.heap.size + 1 + 1, 0, none⟩), .pointer (some ⟨w.heap.size + 1, 0, none⟩)] w' (fun x w'' => x = .returned (R (sr D i 0)).v ∧ Ext w' w'')) := fun w' e => hM.arg d ok.toWF hi l 0 hn0 w' e
  have HC0 : Hid (∀ w', Ext W1 w' → Cn w' (R (sr D i 0)) (V (sr D i 0))) := fun w' e => (l.el _ (ok.src hi hn0).2.1).ext (hM.ext.trans e)
  have hn1 : 1 < ns D i := by
    have a := hns.out
    have b : arity (D.B i).k = 2 := by rw [hk]; decide
    omega
  have HA1 : Hid (∀ w', Ext W1 w' → Calls Tryz.prog 238 #[I 1, .pointer (some ⟨w.heap.size + 1 + 1, 0, none⟩), .pointer (some ⟨w.heap.size + 1, 0, none⟩)] w' (fun x w'' => x = .returned (R (sr D i 1)).v ∧ Ext w' w'')) := fun w' e => hM.arg d ok.toWF hi l 1 hn1 w' e
  have HC1 : Hid (∀ w', Ext W1 w' → Cn w' (R (sr D i 1)) (V (sr D i 1))) := fun w' e => (l.el _ (ok.src hi hn1).2.1).ext (hM.ext.trans e)
  have HF : Hid (∀ w', Ext W1 w' → Calls Tryz.prog 203 #[(R (sr D i 0)).v, (R (sr D i 1)).v] w' (DyRes (mulD (V (sr D i 0)) (V (sr D i 1))) w')) := fun w' e => mul_any (HC0.out w' e).dy (HC1.out w' e).dy (hT.ext (hM.ext.trans e))
  obtain ⟨d', hd'⟩ : ∃ d', mulD (V (sr D i 0)) (V (sr D i 1)) = d' := ⟨_, rfl⟩
  rw [hd'] at HF ⊢
  clear hd' HC0 HC1 hn0 hn1
  have HTT := Lib.hid (hT.ext hM.ext)
  have k0 := hM.k0
  rw [hk] at k0
  clear d ok hT hi l hM
  rw [hk]
  unfold vaW at hW1
  rw [hk] at hW1
  clear hk
  go_enter Tryz.func217, Tryz.ntmps217
  go_upto_region 2 with fail
  rw [← hW1]; clear hW1
  have hx : Ext W1 W1 := Ext.refl _
  generalize R (sr D i 0) = r0 at *
  generalize R (sr D i 1) = r1 at *
  go_wp2_with (first
    | (go_at_call 238; (first | (with_reducible refine (HA0.out _ hx).mono ?_) | (with_reducible refine (HA1.out _ hx).mono ?_)); rintro e1 w1 ⟨rfl, h1⟩; replace hx := hx.trans h1; clear h1)
    | (go_at_call 203; (with_reducible refine (HF.out _ hx).mono ?_); rintro e1 w1 hr; obtain ⟨A2, c2, rfl, hon, hx2⟩ := hr; have HO := Lib.hid hon; have HX2 := Lib.hid (hx.trans hx2); obtain ⟨⟨r0, r1, r2⟩, rf⟩ := HM.out.rs.ext (hx.trans hx2); have f0 := rf 0; have f1 := rf 1; have f2 := rf 2; have hsz := hx.size; clear rf hon hx2))
  exact bodyPost_ret (v := dv d'.neg A2 (len d'.m) c2 d'.den) (by simp [results, Tryz.results217, go_sem, r0, r1, r2]) rfl (DyRes.end3 rfl HO.out (HM.out.ext.trans HX2.out) (by omega) (by omega) (by omega))


set_option maxRecDepth 100000 in
set_option maxHeartbeats 1000000 in
theorem value_min {w : World} {D : Dia} {p : Pl} {Ao Ad A Ai : Option Addr} {lo co ld cd i c ci : Nat} {R : Nat → RN} {V : Nat → DV} {IN : Nat → Int} (d : Dm w D p) (ok : OkD D) (hT : Tabs w) (hi : i < D.nb) (hk : (D.B i).k = 8) (l : Ln w A D.nb R V) :
    Calls Tryz.prog 217 #[evv D p Ao lo co Ad ld cd, bkv (D.B i).k (p.AA i) (D.B i).n (p.cA i) (D.B i).vn (D.B i).ve (D.B i).un (D.B i).ue, .slice A D.nb c, .slice Ai D.ni ci] w (DyRes (bval D IN V i) w) := by
  have hmf : ∀ (fn : Fn) (first cap : Array Value) (w : World), (Instr.makeFunc fn first cap).run Tryz.prog w = .ok (.func fn first cap) w := fun _ _ _ _ => rfl
  have hbv : bval D IN V i = minD (V (sr D i 0)) (V (sr D i 1)) := by unfold bval fv; rw [hk]; rfl
  rw [hbv]; clear hbv
  obtain ⟨W1, hW1⟩ : ∃ W1, W1 = vaW w D p Ao lo co Ad ld cd i A c 132 100 62 24 := ⟨_, rfl⟩
  have hM : VaM w W1 D p Ao lo co Ad ld cd i A c := by rw [hW1]; exact VaM.new _ _ _ _ _ _ _ _ _ _ _ _ _ _ _ _
  have hz := hM.sz
  have HM := Lib.hid hM
  have hns : Hid (ns D i = (D.B i).n ∧ ((D.B i).n : Int) = arity (D.B i).k) := ⟨by unfold ns; rw [if_neg (by omega)], ok.ar i hi⟩
  have hn0 : 0 < ns D i := by
    have a := hns.out
    have b : arity (D.B i).k = 2 := by rw [hk]; decide
    omega
  have HA0 : Hid (∀ w', Ext W1 w' → Calls Tryz.prog 238 #[I 0, .pointer (some ⟨w.heap.size + 1 + 1, 0, none⟩), .pointer (some ⟨w.heap.size + 1, 0, none⟩)] w' (fun x w'' => x = .returned (R (sr D i 0)).v ∧ Ext w' w'')) := fun w' e => hM.arg d ok.toWF hi l 0 hn0 w' e
  have HC0 : Hid (∀ w', Ext W1 w' → Cn w' (R (sr D i 0)) (V (sr D i 0))) := fun w' e => (l.el _ (ok.src hi hn0).2.1).ext (hM.ext.trans e)
  have hn1 : 1 < ns D i := by
    have a := hns.out
    have b : arity (D.B i).k = 2 := by rw [hk]; decide
    omega
  have HA1 : Hid (∀ w', Ext W1 w' → Calls Tryz.prog 238 #[I 1, .pointer (some ⟨w.heap.size + 1 + 1, 0, none⟩), .pointer (some ⟨w.heap.size + 1, 0, none⟩)] w' (fun x w'' => x = .returned (R (sr D i 1)).v ∧ Ext w' w'')) := fun w' e => hM.arg d ok.toWF hi l 1 hn1 w' e
  have HC1 : Hid (∀ w', Ext W1 w' → Cn w' (R (sr D i 1)) (V (sr D i 1))) := fun w' e => (l.el _ (ok.src hi hn1).2.1).ext (hM.ext.trans e)
  have HF : Hid (∀ w', Ext W1 w' → Calls Tryz.prog 69 #[(R (sr D i 0)).v, (R (sr D i 1)).v] w' (DyRes (minD (V (sr D i 0)) (V (sr D i 1))) w')) := fun w' e => min_any (HC0.out w' e).dy (HC1.out w' e).dy (hT.ext (hM.ext.trans e))
  obtain ⟨d', hd'⟩ : ∃ d', minD (V (sr D i 0)) (V (sr D i 1)) = d' := ⟨_, rfl⟩
  rw [hd'] at HF ⊢
  clear hd' HC0 HC1 hn0 hn1
  have HTT := Lib.hid (hT.ext hM.ext)
  have k0 := hM.k0
  rw [hk] at k0
  clear d ok hT hi l hM
  rw [hk]
  unfold vaW at hW1
  rw [hk] at hW1
  clear hk
  go_enter Tryz.func217, Tryz.ntmps217
  go_upto_region 2 with fail
  rw [← hW1]; clear hW1
  have hx : Ext W1 W1 := Ext.refl _
  generalize R (sr D i 0) = r0 at *
  generalize R (sr D i 1) = r1 at *
  go_wp2_with (first
    | (go_at_call 238; (first | (with_reducible refine (HA0.out _ hx).mono ?_) | (with_reducible refine (HA1.out _ hx).mono ?_)); rintro e1 w1 ⟨rfl, h1⟩; replace hx := hx.trans h1; clear h1)
    | (go_at_call 69; (with_reducible refine (HF.out _ hx).mono ?_); rintro e1 w1 hr; obtain ⟨A2, c2, rfl, hon, hx2⟩ := hr; have HO := Lib.hid hon; have HX2 := Lib.hid (hx.trans hx2); obtain ⟨⟨r0, r1, r2⟩, rf⟩ := HM.out.rs.ext (hx.trans hx2); have f0 := rf 0; have f1 := rf 1; have f2 := rf 2; have hsz := hx.size; clear rf hon hx2))
  exact bodyPost_ret (v := dv d'.neg A2 (len d'.m) c2 d'.den) (by simp [results, Tryz.results217, go_sem, r0, r1, r2]) rfl (DyRes.end3 rfl HO.out (HM.out.ext.trans HX2.out) (by omega) (by omega) (by omega))


set_option maxRecDepth 100000 in
set_option maxHeartbeats 1000000 in
theorem value_max {w : World} {D : Dia} {p : Pl} {Ao Ad A Ai : Option Addr} {lo co ld cd i c ci : Nat} {R : Nat → RN} {V : Nat → DV} {IN : Nat → Int} (d : Dm w D p) (ok : OkD D) (hT : Tabs w) (hi : i < D.nb) (hk : (D.B i).k = 9) (l : Ln w A D.nb R V) :
    Calls Tryz.prog 217 #[evv D p Ao lo co Ad ld cd, bkv (D.B i).k (p.AA i) (D.B i).n (p.cA i) (D.B i).vn (D.B i).ve (D.B i).un (D.B i).ue, .slice A D.nb c, .slice Ai D.ni ci] w (DyRes (bval D IN V i) w) := by
  have hmf : ∀ (fn : Fn) (first cap : Array Value) (w : World), (Instr.makeFunc fn first cap).run Tryz.prog w = .ok (.func fn first cap) w := fun _ _ _ _ => rfl
  have hbv : bval D IN V i = maxD (V (sr D i 0)) (V (sr D i 1)) := by unfold bval fv; rw [hk]; rfl
  rw [hbv]; clear hbv
  obtain ⟨W1, hW1⟩ : ∃ W1, W1 = vaW w D p Ao lo co Ad ld cd i A c 132 100 62 24 := ⟨_, rfl⟩
  have hM : VaM w W1 D p Ao lo co Ad ld cd i A c := by rw [hW1]; exact VaM.new _ _ _ _ _ _ _ _ _ _ _ _ _ _ _ _
  have hz := hM.sz
  have HM := Lib.hid hM
  have hns : Hid (ns D i = (D.B i).n ∧ ((D.B i).n : Int) = arity (D.B i).k) := ⟨by unfold ns; rw [if_neg (by omega)], ok.ar i hi⟩
  have hn0 : 0 < ns D i := by
    have a := hns.out
    have b : arity (D.B i).k = 2 := by rw [hk]; decide
    omega
  have HA0 : Hid (∀ w', Ext W1 w' → Calls Tryz.prog 238 #[I 0, .pointer (some ⟨w.heap.size + 1 + 1, 0, none⟩), .pointer (some ⟨w.heap.size + 1, 0, none⟩)] w' (fun x w'' => x = .returned (R (sr D i 0)).v ∧ Ext w' w'')) := fun w' e => hM.arg d ok.toWF hi l 0 hn0 w' e
  have HC0 : Hid (∀ w', Ext W1 w' → Cn w' (R (sr D i 0)) (V (sr D i 0))) := fun w' e => (l.el _ (ok.src hi hn0).2.1).ext (hM.ext.trans e)
  have hn1 : 1 < ns D i := by
    have a := hns.out
    have b : arity (D.B i).k = 2 := by rw [hk]; decide
    omega
  have HA1 : Hid (∀ w', Ext W1 w' → Calls Tryz.prog 238 #[I 1, .pointer (some ⟨w.heap.size + 1 + 1, 0, none⟩), .pointer (some ⟨w.heap.size + 1, 0, none⟩)] w' (fun x w'' => x = .returned (R (sr D i 1)).v ∧ Ext w' w'')) := fun w' e => hM.arg d ok.toWF hi l 1 hn1 w' e
  have HC1 : Hid (∀ w', Ext W1 w' → Cn w' (R (sr D i 1)) (V (sr D i 1))) := fun w' e => (l.el _ (ok.src hi hn1).2.1).ext (hM.ext.trans e)
  have HF : Hid (∀ w', Ext W1 w' → Calls Tryz.prog 68 #[(R (sr D i 0)).v, (R (sr D i 1)).v] w' (DyRes (maxD (V (sr D i 0)) (V (sr D i 1))) w')) := fun w' e => max_any (HC0.out w' e).dy (HC1.out w' e).dy (hT.ext (hM.ext.trans e))
  obtain ⟨d', hd'⟩ : ∃ d', maxD (V (sr D i 0)) (V (sr D i 1)) = d' := ⟨_, rfl⟩
  rw [hd'] at HF ⊢
  clear hd' HC0 HC1 hn0 hn1
  have HTT := Lib.hid (hT.ext hM.ext)
  have k0 := hM.k0
  rw [hk] at k0
  clear d ok hT hi l hM
  rw [hk]
  unfold vaW at hW1
  rw [hk] at hW1
  clear hk
  go_enter Tryz.func217, Tryz.ntmps217
  go_upto_region 2 with fail
  rw [← hW1]; clear hW1
  have hx : Ext W1 W1 := Ext.refl _
  generalize R (sr D i 0) = r0 at *
  generalize R (sr D i 1) = r1 at *
  go_wp2_with (first
    | (go_at_call 238; (first | (with_reducible refine (HA0.out _ hx).mono ?_) | (with_reducible refine (HA1.out _ hx).mono ?_)); rintro e1 w1 ⟨rfl, h1⟩; replace hx := hx.trans h1; clear h1)
    | (go_at_call 68; (with_reducible refine (HF.out _ hx).mono ?_); rintro e1 w1 hr; obtain ⟨A2, c2, rfl, hon, hx2⟩ := hr; have HO := Lib.hid hon; have HX2 := Lib.hid (hx.trans hx2); obtain ⟨⟨r0, r1, r2⟩, rf⟩ := HM.out.rs.ext (hx.trans hx2); have f0 := rf 0; have f1 := rf 1; have f2 := rf 2; have hsz := hx.size; clear rf hon hx2))
  exact bodyPost_ret (v := dv d'.neg A2 (len d'.m) c2 d'.den) (by simp [results, Tryz.results217, go_sem, r0, r1, r2]) rfl (DyRes.end3 rfl HO.out (HM.out.ext.trans HX2.out) (by omega) (by omega) (by omega))


set_option maxRecDepth 100000 in
set_option maxHeartbeats 1000000 in
theorem value_neg {w : World} {D : Dia} {p : Pl} {Ao Ad A Ai : Option Addr} {lo co ld cd i c ci : Nat} {R : Nat → RN} {V : Nat → DV} {IN : Nat → Int} (d : Dm w D p) (ok : OkD D) (hT : Tabs w) (hi : i < D.nb) (hk : (D.B i).k = 5) (l : Ln w A D.nb R V) :
    Calls Tryz.prog 217 #[evv D p Ao lo co Ad ld cd, bkv (D.B i).k (p.AA i) (D.B i).n (p.cA i) (D.B i).vn (D.B i).ve (D.B i).un (D.B i).ue, .slice A D.nb c, .slice Ai D.ni ci] w (DyRes (bval D IN V i) w) := by
  have hmf : ∀ (fn : Fn) (first cap : Array Value) (w : World), (Instr.makeFunc fn first cap).run Tryz.prog w = .ok (.func fn first cap) w := fun _ _ _ _ => rfl
  have hbv : bval D IN V i = negD (V (sr D i 0)) := by unfold bval fv; rw [hk]; rfl
  rw [hbv]; clear hbv
  obtain ⟨W1, hW1⟩ : ∃ W1, W1 = vaW w D p Ao lo co Ad ld cd i A c 132 100 62 24 := ⟨_, rfl⟩
  have hM : VaM w W1 D p Ao lo co Ad ld cd i A c := by rw [hW1]; exact VaM.new _ _ _ _ _ _ _ _ _ _ _ _ _ _ _ _
  have hz := hM.sz
  have HM := Lib.hid hM
  have hns : Hid (ns D i = (D.B i).n ∧ ((D.B i).n : Int) = arity (D.B i).k) := ⟨by unfold ns; rw [if_neg (by omega)], ok.ar i hi⟩
  have hn0 : 0 < ns D i := by
    have a := hns.out
    have b : arity (D.B i).k = 1 := by rw [hk]; decide
    omega
  have HA0 : Hid (∀ w', Ext W1 w' → Calls Tryz.prog 238 #[I 0, .pointer (some ⟨w.heap.size + 1 + 1, 0, none⟩), .pointer (some ⟨w.heap.size + 1, 0, none⟩)] w' (fun x w'' => x = .returned (R (sr D i 0)).v ∧ Ext w' w'')) := fun w' e => hM.arg d ok.toWF hi l 0 hn0 w' e
  have HC0 : Hid (∀ w', Ext W1 w' → Cn w' (R (sr D i 0)) (V (sr D i 0))) := fun w' e => (l.el _ (ok.src hi hn0).2.1).ext (hM.ext.trans e)
  have HF : Hid (∀ w', Ext W1 w' → Calls Tryz.prog 110 #[(R (sr D i 0)).v] w' (DyRes (negD (V (sr D i 0))) w')) := fun w' e => neg_any (HC0.out w' e).dy (hT.ext (hM.ext.trans e))
  obtain ⟨d', hd'⟩ : ∃ d', negD (V (sr D i 0)) = d' := ⟨_, rfl⟩
  rw [hd'] at HF ⊢
  clear hd' HC0 hn0
  have HTT := Lib.hid (hT.ext hM.ext)
  have k0 := hM.k0
  rw [hk] at k0
  clear d ok hT hi l hM
  rw [hk]
  unfold vaW at hW1
  rw [hk] at hW1
  clear hk
  go_enter Tryz.func217, Tryz.ntmps217
  go_upto_region 2 with fail
  rw [← hW1]; clear hW1
  have hx : Ext W1 W1 := Ext.refl _
  generalize R (sr D i 0) = r0 at *
  go_wp2_with (first
    | (go_at_call 238; (with_reducible refine (HA0.out _ hx).mono ?_); rintro e1 w1 ⟨rfl, h1⟩; replace hx := hx.trans h1; clear h1)
    | (go_at_call 110; (with_reducible refine (HF.out _ hx).mono ?_); rintro e1 w1 hr; obtain ⟨A2, c2, rfl, hon, hx2⟩ := hr; have HO := Lib.hid hon; have HX2 := Lib.hid (hx.trans hx2); obtain ⟨⟨r0, r1, r2⟩, rf⟩ := HM.out.rs.ext (hx.trans hx2); have f0 := rf 0; have f1 := rf 1; have f2 := rf 2; have hsz := hx.size; clear rf hon hx2))
  exact bodyPost_ret (v := dv d'.neg A2 (len d'.m) c2 d'.den) (by simp [results, Tryz.results217, go_sem, r0, r1, r2]) rfl (DyRes.end3 rfl HO.out (HM.out.ext.trans HX2.out) (by omega) (by omega) (by omega))


set_option maxRecDepth 100000 in
set_option maxHeartbeats 1000000 in
theorem value_abs {w : World} {D : Dia} {p : Pl} {Ao Ad A Ai : Option Addr} {lo co ld cd i c ci : Nat} {R : Nat → RN} {V : Nat → DV} {IN : Nat → Int} (d : Dm w D p) (ok : OkD D) (hT : Tabs w) (hi : i < D.nb) (hk : (D.B i).k = 10) (l : Ln w A D.nb R V) :
    Calls Tryz.prog 217 #[evv D p Ao lo co Ad ld cd, bkv (D.B i).k (p.AA i) (D.B i).n (p.cA i) (D.B i).vn (D.B i).ve (D.B i).un (D.B i).ue, .slice A D.nb c, .slice Ai D.ni ci] w (DyRes (bval D IN V i) w) := by
  have hmf : ∀ (fn : Fn) (first cap : Array Value) (w : World), (Instr.makeFunc fn first cap).run Tryz.prog w = .ok (.func fn first cap) w := fun _ _ _ _ => rfl
  have hbv : bval D IN V i = absD (V (sr D i 0)) := by unfold bval fv; rw [hk]; rfl
  rw [hbv]; clear hbv
  obtain ⟨W1, hW1⟩ : ∃ W1, W1 = vaW w D p Ao lo co Ad ld cd i A c 132 100 62 24 := ⟨_, rfl⟩
  have hM : VaM w W1 D p Ao lo co Ad ld cd i A c := by rw [hW1]; exact VaM.new _ _ _ _ _ _ _ _ _ _ _ _ _ _ _ _
  have hz := hM.sz
  have HM := Lib.hid hM
  have hns : Hid (ns D i = (D.B i).n ∧ ((D.B i).n : Int) = arity (D.B i).k) := ⟨by unfold ns; rw [if_neg (by omega)], ok.ar i hi⟩
  have hn0 : 0 < ns D i := by
    have a := hns.out
    have b : arity (D.B i).k = 1 := by rw [hk]; decide
    omega
  have HA0 : Hid (∀ w', Ext W1 w' → Calls Tryz.prog 238 #[I 0, .pointer (some ⟨w.heap.size + 1 + 1, 0, none⟩), .pointer (some ⟨w.heap.size + 1, 0, none⟩)] w' (fun x w'' => x = .returned (R (sr D i 0)).v ∧ Ext w' w'')) := fun w' e => hM.arg d ok.toWF hi l 0 hn0 w' e
  have HC0 : Hid (∀ w', Ext W1 w' → Cn w' (R (sr D i 0)) (V (sr D i 0))) := fun w' e => (l.el _ (ok.src hi hn0).2.1).ext (hM.ext.trans e)
  have HF : Hid (∀ w', Ext W1 w' → Calls Tryz.prog 149 #[(R (sr D i 0)).v] w' (DyRes (absD (V (sr D i 0))) w')) := fun w' e => abs_any (HC0.out w' e).dy (hT.ext (hM.ext.trans e))
  obtain ⟨d', hd'⟩ : ∃ d', absD (V (sr D i 0)) = d' := ⟨_, rfl⟩
  rw [hd'] at HF ⊢
  clear hd' HC0 hn0
  have HTT := Lib.hid (hT.ext hM.ext)
  have k0 := hM.k0
  rw [hk] at k0
  clear d ok hT hi l hM
  rw [hk]
  unfold vaW at hW1
  rw [hk] at hW1
  clear hk
  go_enter Tryz.func217, Tryz.ntmps217
  go_upto_region 2 with fail
  rw [← hW1]; clear hW1
  have hx : Ext W1 W1 := Ext.refl _
  generalize R (sr D i 0) = r0 at *
  go_wp2_with (first
    | (go_at_call 238; (with_reducible refine (HA0.out _ hx).mono ?_); rintro e1 w1 ⟨rfl, h1⟩; replace hx := hx.trans h1; clear h1)
    | (go_at_call 149; (with_reducible refine (HF.out _ hx).mono ?_); rintro e1 w1 hr; obtain ⟨A2, c2, rfl, hon, hx2⟩ := hr; have HO := Lib.hid hon; have HX2 := Lib.hid (hx.trans hx2); obtain ⟨⟨r0, r1, r2⟩, rf⟩ := HM.out.rs.ext (hx.trans hx2); have f0 := rf 0; have f1 := rf 1; have f2 := rf 2; have hsz := hx.size; clear rf hon hx2))
  exact bodyPost_ret (v := dv d'.neg A2 (len d'.m) c2 d'.den) (by simp [results, Tryz.results217, go_sem, r0, r1, r2]) rfl (DyRes.end3 rfl HO.out (HM.out.ext.trans HX2.out) (by omega) (by omega) (by omega))


set_option maxRecDepth 100000 in
set_option maxHeartbeats 1000000 in
theorem value_gain {w : World} {D : Dia} {p : Pl} {Ao Ad A Ai : Option Addr} {lo co ld cd i c ci : Nat} {R : Nat → RN} {V : Nat → DV} {IN : Nat → Int} (d : Dm w D p) (ok : OkD D) (hT : Tabs w) (hi : i < D.nb) (hk : (D.B i).k = 6) (l : Ln w A D.nb R V) :
    Calls Tryz.prog 217 #[evv D p Ao lo co Ad ld cd, bkv (D.B i).k (p.AA i) (D.B i).n (p.cA i) (D.B i).vn (D.B i).ve (D.B i).un (D.B i).ue, .slice A D.nb c, .slice Ai D.ni ci] w (DyRes (bval D IN V i) w) := by
  have hmf : ∀ (fn : Fn) (first cap : Array Value) (w : World), (Instr.makeFunc fn first cap).run Tryz.prog w = .ok (.func fn first cap) w := fun _ _ _ _ => rfl
  have hbv : bval D IN V i = mulD (nmS (D.B i).vn (D.B i).ve) (V (sr D i 0)) := by unfold bval fv; rw [hk]; rfl
  rw [hbv]; clear hbv
  obtain ⟨W1, hW1⟩ : ∃ W1, W1 = vaW w D p Ao lo co Ad ld cd i A c 132 100 62 24 := ⟨_, rfl⟩
  have hM : VaM w W1 D p Ao lo co Ad ld cd i A c := by rw [hW1]; exact VaM.new _ _ _ _ _ _ _ _ _ _ _ _ _ _ _ _
  have hz := hM.sz
  have HM := Lib.hid hM
  have hns : Hid (ns D i = (D.B i).n ∧ ((D.B i).n : Int) = arity (D.B i).k) := ⟨by unfold ns; rw [if_neg (by omega)], ok.ar i hi⟩
  have hn0 : 0 < ns D i := by
    have a := hns.out
    have b : arity (D.B i).k = 1 := by rw [hk]; decide
    omega
  have HA0 : Hid (∀ w', Ext W1 w' → Calls Tryz.prog 238 #[I 0, .pointer (some ⟨w.heap.size + 1 + 1, 0, none⟩), .pointer (some ⟨w.heap.size + 1, 0, none⟩)] w' (fun x w'' => x = .returned (R (sr D i 0)).v ∧ Ext w' w'')) := fun w' e => hM.arg d ok.toWF hi l 0 hn0 w' e
  have HC0 : Hid (∀ w', Ext W1 w' → Cn w' (R (sr D i 0)) (V (sr D i 0))) := fun w' e => (l.el _ (ok.src hi hn0).2.1).ext (hM.ext.trans e)
  have HNV : Hid (∀ w', Ext W1 w' → Calls Tryz.prog 172 #[.agg #[I (D.B i).vn, I (D.B i).ve]] w' (DyRes (nmS (D.B i).vn (D.B i).ve) w')) := fun w' e => by
    have hv := ok.val hi (by unfold usesV; rw [hk]; decide)
    exact enumber_any _ _ _ (hT.ext (hM.ext.trans e)) hv.1 hv.2.1 hv.2.2.1 hv.2.2.2
  have HLV : Hid (len (nmS (D.B i).vn (D.B i).ve).m ≤ 16777216) := by
    have hv := ok.val hi (by unfold usesV; rw [hk]; decide)
    exact (nmS_len hv.1 hv.2.1 hv.2.2.2).2
  have HF : Hid (∀ w' A2 c2, Ext W1 w' → Cn w' (cnR (nmS (D.B i).vn (D.B i).ve) A2 c2) (nmS (D.B i).vn (D.B i).ve) → Calls Tryz.prog 203 #[(cnR (nmS (D.B i).vn (D.B i).ve) A2 c2).v, (R (sr D i 0)).v] w' (DyRes (mulD (nmS (D.B i).vn (D.B i).ve) (V (sr D i 0))) w')) := fun w' A2 c2 e cn => mul_any cn.dy (HC0.out w' e).dy (hT.ext (hM.ext.trans e))
  obtain ⟨d', hd'⟩ : ∃ d', mulD (nmS (D.B i).vn (D.B i).ve) (V (sr D i 0)) = d' := ⟨_, rfl⟩
  rw [hd'] at HF ⊢
  clear hd' HC0 hn0
  have k2 := hM.k2; have k3 := hM.k3
  have HTT := Lib.hid (hT.ext hM.ext)
  have k0 := hM.k0
  rw [hk] at k0
  clear d ok hT hi l hM
  rw [hk]
  unfold vaW at hW1
  rw [hk] at hW1
  clear hk
  go_enter Tryz.func217, Tryz.ntmps217
  go_upto_region 2 with fail
  rw [← hW1]; clear hW1
  have hx : Ext W1 W1 := Ext.refl _
  generalize R (sr D i 0) = r0 at *
  generalize hs : nmS (D.B i).vn (D.B i).ve = sv at *
  have HSV : Hid (sv.ok) := by show DV.ok _; rw [← hs]; exact nmS_ok _ _
  clear hs
  go_wp2_with (first
    | (go_at_call 172; (with_reducible refine (HNV.out _ hx).mono ?_); rintro e1 w0 hr0; obtain ⟨A0, c0, rfl, cn0, _, hx0⟩ := hr0.cn HSV.out HLV.out; have CN0 := Lib.hid cn0; have HX0 := Lib.hid (hx.trans hx0); replace hx := hx.trans hx0; clear cn0 hx0 hr0)
    | (go_at_call 238; (with_reducible refine (HA0.out _ hx).mono ?_); rintro e1 w1 ⟨rfl, h1⟩; have CN1 := Lib.hid (CN0.out.ext h1); replace hx := hx.trans h1; clear h1)
    | (go_at_call 203; (with_reducible refine (HF.out _ _ _ hx CN1.out).mono ?_); rintro e1 w1 hr; obtain ⟨A2, c2, rfl, hon, hx2⟩ := hr; have HO := Lib.hid hon; have HX2 := Lib.hid (hx.trans hx2); obtain ⟨⟨r0, r1, r2⟩, rf⟩ := HM.out.rs.ext (hx.trans hx2); have f0 := rf 0; have f1 := rf 1; have f2 := rf 2; have hsz := hx.size; clear rf hon hx2))
  exact bodyPost_ret (v := dv d'.neg A2 (len d'.m) c2 d'.den) (by simp [results, Tryz.results217, go_sem, r0, r1, r2]) rfl (DyRes.end3 rfl HO.out (HM.out.ext.trans HX2.out) (by omega) (by omega) (by omega))

end Go.Proofs.YtcdkkohklhmpgaaGreatDoor
