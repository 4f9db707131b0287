import Derived.Test.YtgnngldlgcdnfaaGreatDoorRag
namespace Go.Proofs.YtgnngldlgcdnfaaGreatDoor
section
open Go Go.RowKit
attribute [local go_sem ↓] Go.wp_at_zero Go.wp_at_succ
def foL (o x : IV) : DV := if cmpD x.lo o.lo = 0 then x.lo else negD (paD (negD x.lo))
def foH (o x : IV) : DV := if cmpD x.hi o.hi = 0 then x.hi else paD x.hi
def foI (o x : IV) : IV := ⟨foL o x, foH o x⟩
structure LvC (w : World) (g n : Nat) (R : Nat → RI) (V : Nat → IV) : Prop where
 row : RwC w g n R
 el : ∀ i, i < n → CnI w (R i) (V i)
 ne : ∀ i, i < n → FarI g (R i) (V i)
theorem RwC.lt {w : World} {g n : Nat} {R : Nat → RI} (h : RwC w g n R) : g < w.heap.size := by obtain ⟨N, f, h, _⟩ := h; exact h.lt
theorem RwC.ext {w w' : World} {g n : Nat} {R : Nat → RI} (h : RwC w g n R) (e : Ext w w') : RwC w' g n R := by
 obtain ⟨N, f, h1, h2, h3⟩ := h
 exact ⟨N, f, h1.of_block (e.block g h1.lt), h2, h3⟩
theorem RwC.frozen {w : World} {g n : Nat} {R : Nat → RI} (h : RwC w g n R) (i : Nat) : w.frozen? ⟨g, i, none⟩ = false := by obtain ⟨N, f, h, _⟩ := h; exact h.frozen i
theorem LvC.ext {w w' : World} {g n : Nat} {R : Nat → RI} {V : Nat → IV} (h : LvC w g n R V) (e : Ext w w') : LvC w' g n R V := ⟨h.row.ext e, fun i hi => (h.el i hi).ext e, h.ne⟩
theorem RwC.cells {w : World} {g n : Nat} {R : Nat → RI} (h : RwC w g n R) {i : Nat} (hi : i < n) :
  w.cell? ⟨g, i * 6, none⟩ = some (.bool (R i).lo.neg) ∧ w.cell? ⟨g, i * 6 + 1, none⟩ = some (.slice (R i).lo.A (R i).lo.n (R i).lo.c) ∧ w.cell? ⟨g, i * 6 + 2, none⟩ = some (I (R i).lo.den) ∧
  w.cell? ⟨g, i * 6 + 3, none⟩ = some (.bool (R i).hi.neg) ∧ w.cell? ⟨g, i * 6 + 4, none⟩ = some (.slice (R i).hi.A (R i).hi.n (R i).hi.c) ∧ w.cell? ⟨g, i * 6 + 5, none⟩ = some (I (R i).hi.den) := by
 obtain ⟨N, f, h1, h2, h3⟩ := h
 have hh : ∀ k, k < 6 → w.cell? ⟨g, i * 6 + k, none⟩ = some (rci R (i * 6 + k)) := fun k hk => by rw [h1.cell (by omega), h3 _ (by omega)]
 have a := hh 0 (by omega); have b := hh 1 (by omega); have c := hh 2 (by omega); have d := hh 3 (by omega); have e := hh 4 (by omega); have f' := hh 5 (by omega)
 unfold rci at a b c d e f'
 rw [if_pos (by omega), show (i * 6 + 0) / 6 = i by omega] at a
 rw [if_neg (by omega), if_pos (by omega), show (i * 6 + 1) / 6 = i by omega] at b
 rw [if_neg (by omega), if_neg (by omega), if_pos (by omega), show (i * 6 + 2) / 6 = i by omega] at c
 rw [if_neg (by omega), if_neg (by omega), if_neg (by omega), if_pos (by omega), show (i * 6 + 3) / 6 = i by omega] at d
 rw [if_neg (by omega), if_neg (by omega), if_neg (by omega), if_neg (by omega), if_pos (by omega), show (i * 6 + 4) / 6 = i by omega] at e
 rw [if_neg (by omega), if_neg (by omega), if_neg (by omega), if_neg (by omega), if_neg (by omega), show (i * 6 + 5) / 6 = i by omega] at f'
 exact ⟨a, b, c, d, e, f'⟩
theorem RwC.putLo {w : World} {g n : Nat} {R : Nat → RI} (h : RwC w g n R) (i : Nat) (r : RN) :
  RwC (((w.setCell ⟨g, i * 6, none⟩ (.bool r.neg)).setCell ⟨g, i * 6 + 1, none⟩ (.slice r.A r.n r.c)).setCell ⟨g, i * 6 + 2, none⟩ (I r.den)) g n (putI R i ⟨r, (R i).hi⟩) := by
 obtain ⟨N, f, h1, h2, h3⟩ := h
 refine ⟨N, _, ((h1.set (i * 6) _).set (i * 6 + 1) _).set (i * 6 + 2) _, h2, fun j hj => ?_⟩
 have h4 := h3 j hj
 by_cases c2 : j = i * 6 + 2
 ·subst c2
  show (if _ then _ else _) = _
  rw [if_pos rfl]
  unfold rci putI
  rw [if_neg (by omega), if_neg (by omega), if_pos (by omega), show (i * 6 + 2) / 6 = i by omega, if_pos rfl]
 by_cases c1 : j = i * 6 + 1
 ·subst c1
  show (if _ then _ else _) = _
  rw [if_neg (by omega), if_pos rfl]
  unfold rci putI
  rw [if_neg (by omega), if_pos (by omega), show (i * 6 + 1) / 6 = i by omega, if_pos rfl]
 by_cases c0 : j = i * 6
 ·subst c0
  show (if _ then _ else _) = _
  rw [if_neg (by omega), if_neg (by omega), if_pos rfl]
  unfold rci putI
  rw [if_pos (by omega), show (i * 6) / 6 = i by omega, if_pos rfl]
 show (if _ then _ else _) = _
 rw [if_neg c2, if_neg c1, if_neg c0, h4]
 by_cases hi : j / 6 = i
 ·unfold rci putI
  rw [if_pos hi, hi]
  have hm : j % 6 = 0 ∨ j % 6 = 1 ∨ j % 6 = 2 ∨ j % 6 = 3 ∨ j % 6 = 4 ∨ j % 6 = 5 := by omega
  rcases hm with m | m | m | m | m | m
  all_goals first | (exfalso; omega) | (simp [m]; done)
 ·unfold rci putI
  simp only [if_neg hi]
theorem RwC.putHi {w : World} {g n : Nat} {R : Nat → RI} (h : RwC w g n R) (i : Nat) (r : RN) :
  RwC (((w.setCell ⟨g, i * 6 + 3, none⟩ (.bool r.neg)).setCell ⟨g, i * 6 + 4, none⟩ (.slice r.A r.n r.c)).setCell ⟨g, i * 6 + 5, none⟩ (I r.den)) g n (putI R i ⟨(R i).lo, r⟩) := by
 obtain ⟨N, f, h1, h2, h3⟩ := h
 refine ⟨N, _, ((h1.set (i * 6 + 3) _).set (i * 6 + 4) _).set (i * 6 + 5) _, h2, fun j hj => ?_⟩
 have h4 := h3 j hj
 by_cases c5 : j = i * 6 + 5
 ·subst c5
  show (if _ then _ else _) = _
  rw [if_pos rfl]
  unfold rci putI
  rw [if_neg (by omega), if_neg (by omega), if_neg (by omega), if_neg (by omega), if_neg (by omega), show (i * 6 + 5) / 6 = i by omega, if_pos rfl]
 by_cases c4 : j = i * 6 + 4
 ·subst c4
  show (if _ then _ else _) = _
  rw [if_neg (by omega), if_pos rfl]
  unfold rci putI
  rw [if_neg (by omega), if_neg (by omega), if_neg (by omega), if_neg (by omega), if_pos (by omega), show (i * 6 + 4) / 6 = i by omega, if_pos rfl]
 by_cases c3 : j = i * 6 + 3
 ·subst c3
  show (if _ then _ else _) = _
  rw [if_neg (by omega), if_neg (by omega), if_pos rfl]
  unfold rci putI
  rw [if_neg (by omega), if_neg (by omega), if_neg (by omega), if_pos (by omega), show (i * 6 + 3) / 6 = i by omega, if_pos rfl]
 show (if _ then _ else _) = _
 rw [if_neg c5, if_neg c4, if_neg c3, h4]
 by_cases hi : j / 6 = i
 ·unfold rci putI
  rw [if_pos hi, hi]
  have hm : j % 6 = 0 ∨ j % 6 = 1 ∨ j % 6 = 2 ∨ j % 6 = 3 ∨ j % 6 = 4 ∨ j % 6 = 5 := by omega
  rcases hm with m | m | m | m | m | m
  all_goals first | (exfalso; omega) | (simp [m]; done)
 ·unfold rci putI
  simp only [if_neg hi]
end
section
open Go Go.RowKit
attribute [local go_sem ↓] Go.wp_at_zero Go.wp_at_succ
theorem LvC.putLo {w : World} {g n : Nat} {R : Nat → RI} {V : Nat → IV} (h : LvC w g n R V) {i : Nat} (hi : i < n) (r : RN) (d : DV) (c : CnI w ⟨r, (R i).hi⟩ ⟨d, (V i).hi⟩) (hne : 0 < len d.m → ∀ a, r.A = some a → a.block ≠ g) :
  LvC (((w.setCell ⟨g, i * 6, none⟩ (.bool r.neg)).setCell ⟨g, i * 6 + 1, none⟩ (.slice r.A r.n r.c)).setCell ⟨g, i * 6 + 2, none⟩ (I r.den)) g n (putI R i ⟨r, (R i).hi⟩) (putI V i ⟨d, (V i).hi⟩) := by
 have fr : w.grownBy (((w.setCell ⟨g, i * 6, none⟩ (.bool r.neg)).setCell ⟨g, i * 6 + 1, none⟩ (.slice r.A r.n r.c)).setCell ⟨g, i * 6 + 2, none⟩ (I r.den)) (some g) := fr_trans (fr_trans (fr_set _ _ _ _) (fr_set _ _ _ _)) (fr_set _ _ _ _)
 have hf : FarI g (⟨r, (R i).hi⟩ : RI) (⟨d, (V i).hi⟩ : IV) := And.intro hne (h.ne i hi).2
 refine ⟨h.row.putLo i r, fun j hj => ?_, fun j hj => ?_⟩
 ·by_cases e : j = i
  ·subst e; rw [putI_same, putI_same]; exact c.fr fr hf
  ·unfold putI; rw [if_neg e, if_neg e]; exact (h.el j hj).fr fr (h.ne j hj)
 ·by_cases e : j = i
  ·subst e; rw [putI_same, putI_same]; exact hf
  ·unfold putI; rw [if_neg e, if_neg e]; exact h.ne j hj
theorem set3Lo_ext {W w : World} {g i : Nat} {r : RN} (e : Ext W w) (hg : W.heap.size ≤ g) : Ext W (((w.setCell ⟨g, i * 6, none⟩ (.bool r.neg)).setCell ⟨g, i * 6 + 1, none⟩ (.slice r.A r.n r.c)).setCell ⟨g, i * 6 + 2, none⟩ (I r.den)) :=
 ext_fr e (fr_trans (fr_trans (fr_set _ _ _ _) (fr_set _ _ _ _)) (fr_set _ _ _ _)) hg
theorem LvC.putHi {w : World} {g n : Nat} {R : Nat → RI} {V : Nat → IV} (h : LvC w g n R V) {i : Nat} (hi : i < n) (r : RN) (d : DV) (c : CnI w ⟨(R i).lo, r⟩ ⟨(V i).lo, d⟩) (hne : 0 < len d.m → ∀ a, r.A = some a → a.block ≠ g) :
  LvC (((w.setCell ⟨g, i * 6 + 3, none⟩ (.bool r.neg)).setCell ⟨g, i * 6 + 4, none⟩ (.slice r.A r.n r.c)).setCell ⟨g, i * 6 + 5, none⟩ (I r.den)) g n (putI R i ⟨(R i).lo, r⟩) (putI V i ⟨(V i).lo, d⟩) := by
 have fr : w.grownBy (((w.setCell ⟨g, i * 6 + 3, none⟩ (.bool r.neg)).setCell ⟨g, i * 6 + 4, none⟩ (.slice r.A r.n r.c)).setCell ⟨g, i * 6 + 5, none⟩ (I r.den)) (some g) := fr_trans (fr_trans (fr_set _ _ _ _) (fr_set _ _ _ _)) (fr_set _ _ _ _)
 have hf : FarI g (⟨(R i).lo, r⟩ : RI) (⟨(V i).lo, d⟩ : IV) := And.intro (h.ne i hi).1 hne
 refine ⟨h.row.putHi i r, fun j hj => ?_, fun j hj => ?_⟩
 ·by_cases e : j = i
  ·subst e; rw [putI_same, putI_same]; exact c.fr fr hf
  ·unfold putI; rw [if_neg e, if_neg e]; exact (h.el j hj).fr fr (h.ne j hj)
 ·by_cases e : j = i
  ·subst e; rw [putI_same, putI_same]; exact hf
  ·unfold putI; rw [if_neg e, if_neg e]; exact h.ne j hj
theorem set3Hi_ext {W w : World} {g i : Nat} {r : RN} (e : Ext W w) (hg : W.heap.size ≤ g) : Ext W (((w.setCell ⟨g, i * 6 + 3, none⟩ (.bool r.neg)).setCell ⟨g, i * 6 + 4, none⟩ (.slice r.A r.n r.c)).setCell ⟨g, i * 6 + 5, none⟩ (I r.den)) :=
 ext_fr e (fr_trans (fr_trans (fr_set _ _ _ _) (fr_set _ _ _ _)) (fr_set _ _ _ _)) hg
theorem paD_end {x : DV} (hs : len x.m ≤ 1000) : End (paD x) := by
 unfold paD
 have e := ceil_end (x := x) (by omega)
 split
 ·exact e
 split
 ·exact ⟨negD_ok _, by have := lim_neg (pwD (xpD (ceilD x 30))); have := (pwD_len (xpD (ceilD x 30))).2; omega⟩
 split
 ·exact ⟨(pwD_len _).1, by have := (pwD_len (xpD (ceilD x 30) + 1)).2; omega⟩
 ·exact e
theorem B6.far1 {w : World} {g g' : Nat} {v0 v1 v2 v3 v4 v5 : Value} (h : B6 w g v0 v1 v2 v3 v4 v5) (hne : g' ≠ g) (i : Nat) (u : Value) : B6 (w.setCell ⟨g', i, none⟩ u) g v0 v1 v2 v3 v4 v5 := by
 obtain ⟨⟨h0, h1, h2, h3, h4, h5⟩, hf⟩ := h
 have o (k : Nat) {v : Value} (hv : w.cell? ⟨g, k, none⟩ = some v) : (w.setCell ⟨g', i, none⟩ u).cell? ⟨g, k, none⟩ = some v := by
  rw [World.cell?_setCell_other _ _ _ _ (by intro e; injection e with e; exact hne e)]; exact hv
 exact ⟨⟨o _ h0, o _ h1, o _ h2, o _ h3, o _ h4, o _ h5⟩, fun k => by simp [hf k]⟩
theorem LvC.congr {w : World} {g n : Nat} {R : Nat → RI} {V V' : Nat → IV} (h : LvC w g n R V) (e : ∀ i, i < n → V i = V' i) : LvC w g n R V' := ⟨h.row, fun i hi => by rw [← e i hi]; exact h.el i hi, fun i hi => by rw [← e i hi]; exact h.ne i hi⟩
def foS (Vo Vn : Nat → IV) (j : Nat) : Nat → IV := fun i => if i < j then foI (Vo i) (Vn i) else Vn i
set_option maxRecDepth 100000 in
set_option maxHeartbeats 8000000 in
theorem furtherOutward_any {w : World} {Ai An : Option Addr} {n ci cn' : Nat} {Ro Rn : Nat → RI} {Vo Vn : Nat → IV} (ho : LnI w Ai n Ro Vo) (hn : LnI w An n Rn Vn) (h0 : 0 < n) (hm : n ≤ 10000) (hT : Tabs w) (hs : ∀ i, i < n → len (Vn i).lo.m ≤ 999 ∧ len (Vn i).hi.m ≤ 999) :
  Calls Tryz.prog 75 #[.slice Ai n ci, .slice An n cn'] w fun e w' => ∃ g cap R, e = .returned (.slice (some ⟨g, 0, none⟩) n cap) ∧ LvC w' g n R (fun i => foI (Vo i) (Vn i)) ∧ w.heap.size ≤ g ∧ Ext w w' := by
 have HO := Lib.hid ho; have HN := Lib.hid hn; have HT := Lib.hid hT; have HS := Lib.hid hs
 have HC : Hid (Calls Tryz.prog 141 #[.slice An n cn'] w fun e w' => ∃ g cap, e = .returned (.slice (some ⟨g, 0, none⟩) n cap) ∧ w.heap.size ≤ g ∧ RwC w' g n Rn ∧ Ext w w') := cloneI_any hn.rn h0 hm
 clear ho hn hT hs
 go_enter Tryz.func75, Tryz.ntmps75
 go_upto_region 3 with (go_at_call 141; (with_reducible refine HC.out.mono ?_); rintro e w1 ⟨g, cap, rfl, hg, hr, hx⟩; have HG := Lib.hid hg; have HX1 := Lib.hid hx; have HL : Hid (LvC w1 g n Rn (foS Vo Vn 0)) := ⟨hr, fun i hi => (by unfold foS; rw [if_neg (by omega)]; exact (HN.out.el i hi).ext hx), fun i hi => (by unfold foS; rw [if_neg (by omega)]; exact (HN.out.el i hi).farNew hg)⟩; clear hg hr hx HC)
 go_loopw [12] (fun s wr => ∃ (j : Nat) (R' : Nat → RI), j ≤ n ∧ s = I j ∧ Hid (LvC wr g n R' (foS Vo Vn j) ∧ Ext w wr)) (fun s _ => n - (intOf s).toNat)
 case atStart => exact ⟨0, _, Nat.zero_le _, rfl, HL.out, HX1.out⟩
 case round =>
  clear HL HX1
  obtain ⟨j, R', hj, rfl, H⟩ := hrel
  by_cases hlt : j < n
  ·obtain ⟨bo, oo, rfl, hbo, hco⟩ := HO.out.rn.ext H.out.2 (by omega)
   obtain ⟨x0, x1, x2, x3, x4, x5⟩ := hco j hlt
   have hlt' : (j : Int) < (n : Int) := by omega
   have cnr := H.out.1.el j hlt
   rw [show foS Vo Vn j j = Vn j from if_neg (by omega)] at cnr
   have cno := (HO.out.el j hlt).ext H.out.2
   have CR := Lib.hid cnr; have CO := Lib.hid cno
   clear hco cnr cno
   generalize hro : Ro j = ro at *
   have HX := Lib.hid H.out.2
   have HGB : Hid (g < wr.heap.size) := H.out.1.row.lt
   go_upto_region 5 with fail
   have hbox := B6.new wr (.bool ro.lo.neg) (.slice ro.lo.A ro.lo.n ro.lo.c) (I ro.lo.den) (.bool ro.hi.neg) (.slice ro.hi.A ro.hi.n ro.hi.c) (I ro.hi.den) 58
   have hE : Ext wr (wr.alloc (.cells #[.bool ro.lo.neg, .slice ro.lo.A ro.lo.n ro.lo.c, I ro.lo.den, .bool ro.hi.neg, .slice ro.hi.A ro.hi.n ro.hi.c, I ro.hi.den] 58)) := Ext.alloc _ _
   generalize wr.alloc (.cells #[.bool ro.lo.neg, .slice ro.lo.A ro.lo.n ro.lo.c, I ro.lo.den, .bool ro.hi.neg, .slice ro.hi.A ro.hi.n ro.hi.c, I ro.hi.den] 58) = wb at *
   generalize wr.heap.size = gb at *
   have HBX := Lib.hid hbox
   have HL := Lib.hid (H.out.1.ext hE)
   have HE := Lib.hid (H.out.2.trans hE)
   have CR2 := Lib.hid (CR.out.ext hE); have CO2 := Lib.hid (CO.out.ext hE)
   clear hbox hE x0 x1 x2 x3 x4 x5 CR CO
   obtain ⟨r0, r1, r2, r3, r4, r5⟩ := HL.out.row.cells hlt
   have hgl := HL.out.row.lt
   obtain ⟨⟨y0, y1, y2, y3, y4, y5⟩, _⟩ := HBX.out
   have hbl := HBX.out.lt
   obtain ⟨c1, hc1⟩ : ∃ c, cmpD (Vn j).lo (Vo j).lo = c := ⟨_, rfl⟩
   have HC1 : Hid (∀ w', Ext wb w' → Calls Tryz.prog 88 #[(R' j).lo.v, ro.lo.v] w' fun e w'' => e = .returned (I c1) ∧ Ext w' w'') := fun w' e => by rw [← hc1]; exact cmp_any (CR2.out.lo.dy.ext e) (CO2.out.lo.dy.ext e)
   have hb : Ext wb wb := Ext.refl _
   by_cases h1 : c1 = 0
   ·have e1 : (c1 != 0) = false := by simp [h1]
    have hfl : foL (Vo j) (Vn j) = (Vn j).lo := by unfold foL; rw [if_pos (by rw [hc1]; exact h1)]
    clear hc1
    generalize hrj0 : R' j = rj0 at *
    go_upto_region 5 with fail
    have hL := fun (x : Later _) => (Ext.trans hb x.ext).old.1
    refine wp_region_later (by kernel_rfl) (by kernel_rfl) ?_
    repeat (go_big_quiet_step ((go_at_call 88; with_reducible exact Calls.later (HC1.out _ (Later.ext _)))))
    refine wpQuiet_nil ?_
    intro w2 hw2
    replace hb := Ext.trans hb (Later.of hw2)
    clear hw2 hL
    obtain ⟨hc, hf⟩ := hb.old
    have HL2 := Lib.hid (HL.out.ext hb); have HE2 := Lib.hid (HE.out.trans hb); have HB2 := Lib.hid (HBX.out.ext hb); have COW := Lib.hid (CO2.out.ext hb)
    clear r0 r1 r2 r3 r4 r5 y0 y1 y2 y3 y4 y5 hc hf hgl hbl hb HC1 HBX HL HE CO2
    go_upto_region 7 with fail
    have VVj : foS Vo Vn j j = ⟨foL (Vo j) (Vn j), (Vn j).hi⟩ := by unfold foS; rw [if_neg (by omega), hfl]
    have VVk : foH (Vo j) (Vn j) = (Vn j).hi → ∀ i, i < n → foS Vo Vn j i = foS Vo Vn (j + 1) i := fun q i _ => by
     unfold foS
     by_cases e : i = j
     ·subst e; rw [if_neg (by omega), if_pos (by omega)]; unfold foI; rw [hfl, q]
     ·by_cases l : i < j
      ·rw [if_pos l, if_pos (by omega)]
      ·rw [if_neg l, if_neg (by omega)]
    have VVm : ∀ q, foH (Vo j) (Vn j) = q → ∀ i, i < n → putI (foS Vo Vn j) j ⟨(foS Vo Vn j j).lo, q⟩ i = foS Vo Vn (j + 1) i := fun q qe i _ => by
     by_cases e : i = j
     ·subst e; rw [putI_same, VVj]; unfold foS; rw [if_pos (by omega)]; unfold foI; rw [qe]
     ·unfold putI; rw [if_neg e]; unfold foS
      by_cases l : i < j
      ·rw [if_pos l, if_pos (by omega)]
      ·rw [if_neg l, if_neg (by omega)]
    subst hrj0
    obtain ⟨r0, r1, r2, r3, r4, r5⟩ := HL2.out.row.cells hlt
    have hgl := HL2.out.row.lt
    obtain ⟨⟨y0, y1, y2, y3, y4, y5⟩, _⟩ := HB2.out
    have hbl := HB2.out.lt
    have cj := HL2.out.el j hlt
    rw [VVj] at cj
    have CJ := Lib.hid cj
    obtain ⟨c2, hc2⟩ : ∃ c, cmpD (Vn j).hi (Vo j).hi = c := ⟨_, rfl⟩
    have HC2 : Hid (∀ w', Ext w2 w' → Calls Tryz.prog 88 #[(R' j).hi.v, ro.hi.v] w' fun e w'' => e = .returned (I c2) ∧ Ext w' w'') := fun w' e => by rw [← hc2]; exact cmp_any (CJ.out.hi.dy.ext e) (COW.out.hi.dy.ext e)
    have hb : Ext w2 w2 := Ext.refl _
    clear cj
    generalize hrj : R' j = rj at *
    by_cases h2 : c2 = 0
    ·have e2 : (c2 != 0) = false := by simp [h2]
     have hfh : foH (Vo j) (Vn j) = (Vn j).hi := by unfold foH; rw [if_pos (by rw [hc2]; exact h2)]
     clear hc2
     have hL := fun (x : Later _) => (Ext.trans hb x.ext).old.1
     refine wp_region_later (by kernel_rfl) (by kernel_rfl) ?_
     repeat (go_big_quiet_step ((go_at_call 88; with_reducible exact Calls.later (HC2.out _ (Later.ext _)))))
     refine wpQuiet_nil ?_
     intro w2 hw2
     replace hb := Ext.trans hb (Later.of hw2)
     clear hw2 hL
     obtain ⟨hc, hf⟩ := hb.old
     go_wp2_with fail
     go_roundw
     case rel => exact ⟨j + 1, _, by omega, by go_num, (HL2.out.ext hb).congr (fun i hi => VVk hfh i hi), HE2.out.trans hb⟩
     case measure => simp [intOf]; omega
    ·have e2 : (c2 != 0) = true := by simp [h2]
     have hfh : foH (Vo j) (Vn j) = paD (Vn j).hi := by unfold foH; rw [if_neg (by rw [hc2]; exact h2)]
     clear hc2
     have hL := fun (x : Later _) => (Ext.trans hb x.ext).old.1
     refine wp_region_later (by kernel_rfl) (by kernel_rfl) ?_
     repeat (go_big_quiet_step ((go_at_call 88; with_reducible exact Calls.later (HC2.out _ (Later.ext _)))))
     refine wpQuiet_nil ?_
     intro w2 hw2
     replace hb := Ext.trans hb (Later.of hw2)
     clear hw2 hL
     obtain ⟨hc, hf⟩ := hb.old
     have HL8 := Lib.hid (HL2.out.ext hb); have HE8 := Lib.hid (HE2.out.trans hb); have CJ8 := Lib.hid (CJ.out.ext hb)
     have PE : Hid (End (paD (Vn j).hi)) := paD_end (by have := (HS.out j hlt).2; omega)
     have hl8 := (HS.out j hlt).2
     clear r0 r1 r2 r3 r4 r5 y0 y1 y2 y3 y4 y5 hc hf hgl hbl
     have hcl := HL8.out.row.cells hlt
     rw [hrj] at hcl
     obtain ⟨r0, r1, r2, r3, r4, r5⟩ := hcl
     obtain ⟨q, hq⟩ : ∃ q, paD (Vn j).hi = q := ⟨_, rfl⟩
     have HPA : Hid (Calls Tryz.prog 143 #[rj.hi.v] w2 (DyRes q w2)) := by rw [← hq]; exact powerAbove_any CJ8.out.hi.dy (HT.out.ext HE8.out) (by omega)
     have QE : Hid (End q) := by show End q; rw [← hq]; exact PE.out
     go_wp2_with (go_at_call 143; (with_reducible refine HPA.out.mono ?_); rintro e w9 hr; obtain ⟨A9, c9, rfl, cn9, nw9, hx9⟩ := hr.cn QE.out.1 (Nat.le_trans QE.out.2 (by decide)); have CN9 := Lib.hid cn9; have NW9 := Lib.hid nw9; have HX9 := Lib.hid hx9; have fz := (HL8.out.ext hx9).row.frozen; have f3 := fz (j * 6 + 3); have f4 := fz (j * 6 + 3 + 1); have f5 := fz (j * 6 + 3 + 2); obtain ⟨_, _, _, d3, d4', d5'⟩ := (HL8.out.ext hx9).row.cells hlt; have d4 : w9.cell? ⟨g, j * 6 + 3 + 1, none⟩ = _ := d4'; have d5 : w9.cell? ⟨g, j * 6 + 3 + 2, none⟩ = _ := d5'; clear d4' d5' fz hr cn9 nw9 hx9)
     go_roundw
     case rel =>
      have cc := CJ8.out.ext HX9.out
      have hge : (Vn j).hi.q ≤ q.q := by rw [← hq]; exact paD_ge cc.hi.ok (by omega)
      have hp := (HL8.out.ext HX9.out).putHi hlt (cnR q A9 c9) q (by rw [hrj, VVj]; exact ⟨cc.lo, CN9.out, cc.el, QE.out.2, Rat.le_trans cc.le hge⟩) (fun _ a ha => by have := NW9.out a ha; have := HL8.out.row.lt; omega)
      exact ⟨j + 1, _, by omega, by go_num, hp.congr (fun i hi => VVm q (hfh.trans hq) i hi), set3Hi_ext (HE8.out.trans HX9.out) HG.out⟩
     case measure => simp [intOf]; omega
   ·have e1 : (c1 != 0) = true := by simp [h1]
    have hfl : foL (Vo j) (Vn j) = negD (paD (negD (Vn j).lo)) := by unfold foL; rw [if_neg (by rw [hc1]; exact h1)]
    clear hc1
    generalize hrj0 : R' j = rj0 at *
    go_upto_region 5 with fail
    have hL := fun (x : Later _) => (Ext.trans hb x.ext).old.1
    refine wp_region_later (by kernel_rfl) (by kernel_rfl) ?_
    repeat (go_big_quiet_step ((go_at_call 88; with_reducible exact Calls.later (HC1.out _ (Later.ext _)))))
    refine wpQuiet_nil ?_
    intro w2 hw2
    replace hb := Ext.trans hb (Later.of hw2)
    clear hw2 hL
    obtain ⟨hc, hf⟩ := hb.old
    have HL2 := Lib.hid (HL.out.ext hb); have HE2 := Lib.hid (HE.out.trans hb); have HB2 := Lib.hid (HBX.out.ext hb); have CO3 := Lib.hid (CO2.out.ext hb); have CR3 := Lib.hid (CR2.out.ext hb)
    clear r0 r1 r2 r3 r4 r5 y0 y1 y2 y3 y4 y5 hc hf hgl hbl hb HC1 HBX HL HE CO2 CR2
    have hcl := HL2.out.row.cells hlt
    rw [hrj0] at hcl
    obtain ⟨r0, r1, r2, r3, r4, r5⟩ := hcl
    have hl7 := (HS.out j hlt).1
    obtain ⟨u, hu⟩ : ∃ u, negD (Vn j).lo = u := ⟨_, rfl⟩
    obtain ⟨p, hp⟩ : ∃ p, paD u = p := ⟨_, rfl⟩
    obtain ⟨d, hd⟩ : ∃ d, negD p = d := ⟨_, rfl⟩
    have lu : len u.m ≤ 999 := by rw [← hu]; exact Nat.le_trans (lim_neg _) hl7
    have UE : Hid (End u) := ⟨by rw [← hu]; exact negD_ok _, by omega⟩
    have PE : Hid (End p) := by show End p; rw [← hp]; exact paD_end (by omega)
    have DE : Hid (End d) := by show End d; rw [← hd]; exact end_neg PE.out
    have hdl : d.q ≤ (Vn j).lo.q := by
     have g1 := paD_ge UE.out.1 (by omega)
     have g2 : d.q = -p.q := by rw [← hd]; exact q_negD PE.out.1
     have g3 : u.q = -(Vn j).lo.q := by rw [← hu]; exact q_negD CR3.out.lo.ok
     rw [hp] at g1
     grind
    have hfd : foL (Vo j) (Vn j) = d := by rw [hfl, hu, hp, hd]
    have HN1 : Hid (Calls Tryz.prog 142 #[rj0.lo.v] w2 (DyRes u w2)) := by rw [← hu]; exact neg_any CR3.out.lo.dy (HT.out.ext HE2.out)
    have HP1 : Hid (∀ w' A c, Ext w2 w' → Dy w' u.neg A (len u.m) c u.den u A c → Calls Tryz.prog 143 #[dv u.neg A (len u.m) c u.den] w' (DyRes p w')) := fun w' A c e h => by rw [← hp]; exact powerAbove_any h (HT.out.ext (HE2.out.trans e)) (by omega)
    have HN2 : Hid (∀ w' A c, Ext w2 w' → Dy w' p.neg A (len p.m) c p.den p A c → Calls Tryz.prog 142 #[dv p.neg A (len p.m) c p.den] w' (DyRes d w')) := fun w' A c e h => by rw [← hd]; exact neg_any h (HT.out.ext (HE2.out.trans e))
    clear hu hp hd lu
    go_upto_region 7 with (first
     | (have hg := F2; clear hg; go_at_call 142; (with_reducible refine (HN2.out _ _ _ Y2.out F2.out).mono ?_); rintro e w5 hr; obtain ⟨A5, c5, rfl, cn5, nw5, hx⟩ := hr.cn DE.out.1 (Nat.le_trans DE.out.2 (by decide)); have CN5 := Lib.hid cn5; have hx5 := Y2.out.trans hx; have NW5 : Hid (∀ a, A5 = some a → w2.heap.size ≤ a.block) := fun a ha => Nat.le_trans Y2.out.size (nw5 a ha); have HX5 := Lib.hid hx5; have fz := (HL2.out.ext hx5).row.frozen; have f0 := fz (j * 6); have f1 := fz (j * 6 + 1); have f2 := fz (j * 6 + 2); obtain ⟨d0, d1, d2, _, _, _⟩ := (HL2.out.ext hx5).row.cells hlt; clear fz hr cn5 nw5 hx hx5)
     | (go_at_call 143; (with_reducible refine (HP1.out _ _ _ Y1.out F1.out).mono ?_); rintro e w4 ⟨A4, c4, rfl, hon, hx⟩; have F2 := Lib.hid (dy_of_on hon PE.out.1 (Nat.le_trans PE.out.2 (by decide)) (Ext.refl _)); have Y2 := Lib.hid (Y1.out.trans hx); clear hon hx)
     | (go_at_call 142; (with_reducible refine HN1.out.mono ?_); rintro e w3 ⟨A3, c3, rfl, hon, hx⟩; have F1 := Lib.hid (dy_of_on hon UE.out.1 (Nat.le_trans UE.out.2 (by decide)) (Ext.refl _)); have Y1 := Lib.hid hx; clear hon hx))
    have cc := CR3.out.ext HX5.out
    have hp0 := (HL2.out.ext HX5.out).putLo hlt (cnR d A5 c5) d (by rw [hrj0, show foS Vo Vn j j = Vn j from if_neg (by omega)]; exact ⟨CN5.out, cc.hi, DE.out.2, cc.eh, Rat.le_trans hdl cc.le⟩) (fun _ a ha => by have := NW5.out a ha; have := HL2.out.row.lt; omega)
    have hxx0 := set3Lo_ext (g := g) (i := j) (r := cnR d A5 c5) (HE2.out.trans HX5.out) HG.out
    have hgb : gb ≠ g := by have := HGB.out; omega
    have hbx0 := (((HB2.out.ext HX5.out).far1 (Ne.symm hgb) (j * 6) (.bool (cnR d A5 c5).neg)).far1 (Ne.symm hgb) (j * 6 + 1) (.slice (cnR d A5 c5).A (cnR d A5 c5).n (cnR d A5 c5).c)).far1 (Ne.symm hgb) (j * 6 + 2) (I (cnR d A5 c5).den)
    obtain ⟨wy, hwy⟩ : ∃ wy, wy = ((w5.setCell ⟨g, j * 6, none⟩ (.bool (cnR d A5 c5).neg)).setCell ⟨g, j * 6 + 1, none⟩ (.slice (cnR d A5 c5).A (cnR d A5 c5).n (cnR d A5 c5).c)).setCell ⟨g, j * 6 + 2, none⟩ (I (cnR d A5 c5).den) := ⟨_, rfl⟩
    rw [← hwy] at hp0 hxx0 hbx0
    rw [← hwy]
    have COW : Hid (CnI wy ro (Vo j)) := by
     have q := (HO.out.el j hlt).ext hxx0
     rw [hro] at q; exact q
    have HLY := Lib.hid hp0; have HEY := Lib.hid hxx0; have HBY := Lib.hid hbx0
    clear hp0 hxx0 hbx0 hwy d0 d1 d2 f0 f1 f2 r0 r1 r2 r3 r4 r5 cc CO3 HN1 HP1 HN2
    have VVj : putI (foS Vo Vn j) j ⟨d, (foS Vo Vn j j).hi⟩ j = ⟨foL (Vo j) (Vn j), (Vn j).hi⟩ := by
     rw [putI_same, hfd, show foS Vo Vn j j = Vn j from if_neg (by omega)]
    have VVk : foH (Vo j) (Vn j) = (Vn j).hi → ∀ i, i < n → putI (foS Vo Vn j) j ⟨d, (foS Vo Vn j j).hi⟩ i = foS Vo Vn (j + 1) i := fun q i _ => by
     by_cases e : i = j
     ·subst e; rw [VVj]; unfold foS; rw [if_pos (by omega)]; unfold foI; rw [q]
     ·unfold putI; rw [if_neg e]; unfold foS
      by_cases l : i < j
      ·rw [if_pos l, if_pos (by omega)]
      ·rw [if_neg l, if_neg (by omega)]
    have VVm : ∀ q, foH (Vo j) (Vn j) = q → ∀ i, i < n → putI (putI (foS Vo Vn j) j ⟨d, (foS Vo Vn j j).hi⟩) j ⟨(putI (foS Vo Vn j) j ⟨d, (foS Vo Vn j j).hi⟩ j).lo, q⟩ i = foS Vo Vn (j + 1) i := fun q qe i _ => by
     by_cases e : i = j
     ·subst e; rw [putI_same, VVj]; unfold foS; rw [if_pos (by omega)]; unfold foI; rw [qe]
     ·unfold putI; rw [if_neg e, if_neg e]; unfold foS
      by_cases l : i < j
      ·rw [if_pos l, if_pos (by omega)]
      ·rw [if_neg l, if_neg (by omega)]
    generalize putI (foS Vo Vn j) j ⟨d, (foS Vo Vn j j).hi⟩ = VV at *
    generalize putI R' j ⟨cnR d A5 c5, (R' j).hi⟩ = RR at *
    clear hrj0
    obtain ⟨r0, r1, r2, r3, r4, r5⟩ := HLY.out.row.cells hlt
    have hgl := HLY.out.row.lt
    obtain ⟨⟨y0, y1, y2, y3, y4, y5⟩, _⟩ := HBY.out
    have hbl := HBY.out.lt
    have cj := HLY.out.el j hlt
    rw [VVj] at cj
    have CJ := Lib.hid cj
    obtain ⟨c2, hc2⟩ : ∃ c, cmpD (Vn j).hi (Vo j).hi = c := ⟨_, rfl⟩
    have HC2 : Hid (∀ w', Ext wy w' → Calls Tryz.prog 88 #[(RR j).hi.v, ro.hi.v] w' fun e w'' => e = .returned (I c2) ∧ Ext w' w'') := fun w' e => by rw [← hc2]; exact cmp_any (CJ.out.hi.dy.ext e) (COW.out.hi.dy.ext e)
    have hb : Ext wy wy := Ext.refl _
    clear cj
    generalize hrj : RR j = rj at *
    by_cases h2 : c2 = 0
    ·have e2 : (c2 != 0) = false := by simp [h2]
     have hfh : foH (Vo j) (Vn j) = (Vn j).hi := by unfold foH; rw [if_pos (by rw [hc2]; exact h2)]
     clear hc2
     have hL := fun (x : Later _) => (Ext.trans hb x.ext).old.1
     refine wp_region_later (by kernel_rfl) (by kernel_rfl) ?_
     repeat (go_big_quiet_step ((go_at_call 88; with_reducible exact Calls.later (HC2.out _ (Later.ext _)))))
     refine wpQuiet_nil ?_
     intro w2 hw2
     replace hb := Ext.trans hb (Later.of hw2)
     clear hw2 hL
     obtain ⟨hc, hf⟩ := hb.old
     go_wp2_with fail
     go_roundw
     case rel => exact ⟨j + 1, _, by omega, by go_num, (HLY.out.ext hb).congr (fun i hi => VVk hfh i hi), HEY.out.trans hb⟩
     case measure => simp [intOf]; omega
    ·have e2 : (c2 != 0) = true := by simp [h2]
     have hfh : foH (Vo j) (Vn j) = paD (Vn j).hi := by unfold foH; rw [if_neg (by rw [hc2]; exact h2)]
     clear hc2
     have hL := fun (x : Later _) => (Ext.trans hb x.ext).old.1
     refine wp_region_later (by kernel_rfl) (by kernel_rfl) ?_
     repeat (go_big_quiet_step ((go_at_call 88; with_reducible exact Calls.later (HC2.out _ (Later.ext _)))))
     refine wpQuiet_nil ?_
     intro w2 hw2
     replace hb := Ext.trans hb (Later.of hw2)
     clear hw2 hL
     obtain ⟨hc, hf⟩ := hb.old
     have HL8 := Lib.hid (HLY.out.ext hb); have HE8 := Lib.hid (HEY.out.trans hb); have CJ8 := Lib.hid (CJ.out.ext hb)
     have PE : Hid (End (paD (Vn j).hi)) := paD_end (by have := (HS.out j hlt).2; omega)
     have hl8 := (HS.out j hlt).2
     clear r0 r1 r2 r3 r4 r5 y0 y1 y2 y3 y4 y5 hc hf hgl hbl
     have hcl := HL8.out.row.cells hlt
     rw [hrj] at hcl
     obtain ⟨r0, r1, r2, r3, r4, r5⟩ := hcl
     obtain ⟨q, hq⟩ : ∃ q, paD (Vn j).hi = q := ⟨_, rfl⟩
     have HPA : Hid (Calls Tryz.prog 143 #[rj.hi.v] w2 (DyRes q w2)) := by rw [← hq]; exact powerAbove_any CJ8.out.hi.dy (HT.out.ext HE8.out) (by omega)
     have QE : Hid (End q) := by show End q; rw [← hq]; exact PE.out
     go_wp2_with (go_at_call 143; (with_reducible refine HPA.out.mono ?_); rintro e w9 hr; obtain ⟨A9, c9, rfl, cn9, nw9, hx9⟩ := hr.cn QE.out.1 (Nat.le_trans QE.out.2 (by decide)); have CN9 := Lib.hid cn9; have NW9 := Lib.hid nw9; have HX9 := Lib.hid hx9; have fz := (HL8.out.ext hx9).row.frozen; have f3 := fz (j * 6 + 3); have f4 := fz (j * 6 + 3 + 1); have f5 := fz (j * 6 + 3 + 2); obtain ⟨_, _, _, d3, d4', d5'⟩ := (HL8.out.ext hx9).row.cells hlt; have d4 : w9.cell? ⟨g, j * 6 + 3 + 1, none⟩ = _ := d4'; have d5 : w9.cell? ⟨g, j * 6 + 3 + 2, none⟩ = _ := d5'; clear d4' d5' fz hr cn9 nw9 hx9)
     go_roundw
     case rel =>
      have cc := CJ8.out.ext HX9.out
      have hge : (Vn j).hi.q ≤ q.q := by rw [← hq]; exact paD_ge cc.hi.ok (by omega)
      have hp := (HL8.out.ext HX9.out).putHi hlt (cnR q A9 c9) q (by rw [hrj, VVj]; exact ⟨cc.lo, CN9.out, cc.el, QE.out.2, Rat.le_trans cc.le hge⟩) (fun _ a ha => by have := NW9.out a ha; have := HL8.out.row.lt; omega)
      exact ⟨j + 1, _, by omega, by go_num, hp.congr (fun i hi => VVm q (hfh.trans hq) i hi), set3Hi_ext (HE8.out.trans HX9.out) HG.out⟩
     case measure => simp [intOf]; omega
  ·obtain rfl : j = n := by omega
   go_wp2_with fail
   go_ret
   exact ⟨g, cap, R', rfl, ⟨H.out.1.row, fun i hi => by have := H.out.1.el i hi; unfold foS at this; rwa [if_pos hi] at this, fun i hi => by have := H.out.1.ne i hi; unfold foS at this; rwa [if_pos hi] at this⟩, HG.out, H.out.2⟩
end
end Go.Proofs.YtgnngldlgcdnfaaGreatDoor
