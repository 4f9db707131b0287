/- The fixed-point machine: the reference's Result (1). -/
import Derived.Test.YtommlhdiefoocaaKro
import Derived.Test.YtommlhdiefoocaaKdc
set_option linter.unusedVariables false
namespace Go.Proofs.Ytommlhdiefoocaa
open Go Go.RowKit
/-- A number as a result that can be read. -/
def DyRd (d : DV) (w : World) (e : Ending) (w' : World) : Prop := ∃ A c, e = .returned (dv d.neg A (len d.m) c d.den) ∧ Rd w' A (len d.m) (dg d.m) ∧ SlOk A (len d.m) c ∧ Ext w w'
theorem DyRd.of {d : DV} {w W w2 w3 : World} {A : Option Addr} {c g : Nat} {e : Ending} {u0 u1 u2 : Value} (he : e = .returned (dv d.neg A (len d.m) c d.den)) (hon : On w2 W.heap.size A (len d.m) c (dg d.m)) (hx : Ext w w2) (h2 : Ext w2 w3) (hg : w.heap.size ≤ g) (hg2 : g < W.heap.size) :
    DyRd d w e (((w3.setCell ⟨g, 0, none⟩ u0).setCell ⟨g, 1, none⟩ u1).setCell ⟨g, 2, none⟩ u2) :=
  ⟨A, c, he, ((hon.ext h2).set3 hg2 _ _ _).rd, hon.ok, ext_set3 (hx.trans h2) hg _ _ _⟩
theorem cell_far7 {w : World} {g h i0 i1 i2 k : Nat} {u0 u1 u2 : Value} (hne : h ≠ g) : (((w.setCell ⟨g, i0, none⟩ u0).setCell ⟨g, i1, none⟩ u1).setCell ⟨g, i2, none⟩ u2).cell? ⟨h, k, none⟩ = w.cell? ⟨h, k, none⟩ := by
  rw [World.cell?_setCell_other _ _ _ _ (by intro q; injection q with q1 q2; omega), World.cell?_setCell_other _ _ _ _ (by intro q; injection q with q1 q2; omega), World.cell?_setCell_other _ _ _ _ (by intro q; injection q with q1 q2; omega)]
def reI (x : Ins) (c IN : Nat → Int) : Int := opF shI x (IN x.a.toNat) (c x.a.toNat) (c x.b.toNat)
theorem two_res {w W1 : World} {x : Ins} {t t' : TypeId} (h : W1 = (w.alloc (.cells #[I x.op, I x.dst, I x.a, I x.b, I x.sa, I x.sb, I x.im] t)).alloc (.cells #[.bool false, .slice none 0 0, I 0] t')) :
    Ext w W1 ∧ BI7 W1 w.heap.size x ∧ Bx W1 (w.heap.size + 1) (.bool false) (.slice none 0 0) (I 0) ∧ W1.heap.size = w.heap.size + 2 := by
  subst h
  have s2 := Bx.new (w.alloc (.cells #[I x.op, I x.dst, I x.a, I x.b, I x.sa, I x.sb, I x.im] t)) (.bool false) (.slice none 0 0) (I 0) t'
  rw [show (w.alloc (.cells #[I x.op, I x.dst, I x.a, I x.b, I x.sa, I x.sb, I x.im] t)).heap.size = w.heap.size + 1 by simp] at s2
  exact ⟨(Ext.alloc _ _).trans (Ext.alloc _ _), (BI7.new w x t).ext (Ext.alloc _ _), s2, by simp⟩
set_option maxRecDepth 100000 in
set_option maxHeartbeats 1000000 in
theorem rres_0 {w : World} {dst sa sb im : Int} {a : Nat} {b : Int} {Ac Ai : Option Addr} {nc cc np ci : Nat} {c IN : Nat → Int} (ri : Ri w Ai np IN) (hA : a < np) (hi : ∀ i, i < np → wdB (IN i) = true) (h1 : -62 ≤ sa) (h2 : sa ≤ 30) :
    Calls Try.prog 38 #[insV ⟨0, dst, a, b, sa, sb, im⟩, .slice Ac nc cc, .slice Ai np ci] w (DyRd (ofI (reI ⟨0, dst, a, b, sa, sb, im⟩ c IN) 0) w) := by
  obtain ⟨W1, hW1⟩ : ∃ W1, W1 = (w.alloc (.cells #[I 0, I dst, I a, I b, I sa, I sb, I im] 52)).alloc (.cells #[.bool false, .slice none 0 0, I 0] 82) := ⟨_, rfl⟩
  obtain ⟨hE, b7, bx, hz⟩ := two_res (x := ⟨0, dst, a, b, sa, sb, im⟩) hW1
  have HE := Lib.hid hE; have B7 := Lib.hid b7; have BX := Lib.hid bx; have HZ := Lib.hid hz
  obtain ⟨ba, oa, ea, hba, ca⟩ := ri (by omega)
  have xa := (hE.old.1 ba (oa + a) hba).trans (ca a hA)
  have wa := hi a hA
  have HV : Hid (ofI (reI ⟨0, dst, a, b, sa, sb, im⟩ c IN) 0 = ofI (shI (IN a) sa) 0) := rfl
  generalize IN a = va at *
  subst ea
  rw [HV.out]; clear HV
  have HSA : Hid (∀ w', Calls Try.prog 50 #[I va, I sa] w' (DyRes (ofI (shI va sa) 0) w')) := fun w' => rsh_any va sa (by have := wdB_iff.1 wa; omega) (by have := wdB_iff.1 wa; omega) h1 h2
  generalize ofI (shI va sa) 0 = d at *
  have ha' : (a : Int) < (np : Int) := by omega
  have XA := Lib.hid xa; have HBA := Lib.hid hba
  have HS : Hid (∀ w', Ext W1 w' → w'.cell? ⟨w.heap.size, 2, none⟩ = some (I a) ∧ w'.cell? ⟨w.heap.size, 4, none⟩ = some (I sa) ∧ w'.cell? ⟨ba, oa + a, none⟩ = some (I va)) := fun w' x => ⟨(B7.out.ext x).c2, (B7.out.ext x).c4, (x.old.1 _ _ (show ba < W1.heap.size by have := HBA.out; have := HZ.out; omega)).trans XA.out⟩
  have c0 := b7.c0
  clear hE b7 bx hz
  obtain ⟨m0, m1, m2⟩ := HS.out W1 (Ext.refl _)
  go_enter Try.func38, Try.ntmps38
  go_upto_region 1 with fail
  rw [← hW1]; clear hW1
  go_upto_region 3 with fail
  go_region_held3 (fun w' => w'.cell? ⟨w.heap.size, 2, none⟩ = some (I a) ∧ w'.cell? ⟨w.heap.size, 4, none⟩ = some (I sa) ∧ w'.cell? ⟨ba, oa + a, none⟩ = some (I va)) (first | with_reducible assumption | exact HS.out _ (by (with_reducible (repeat (first | exact Ext.refl _ | assumption | (refine Ext.toSet ?_ (by omega)) | refine Ext.toAlloc ?_ | refine Ext.toDrew ?_ | refine Ext.toDrewN ?_ | refine Ext.trans ?_ (by assumption)))); (first | done | fail "no")) | (refine ⟨?_, ?_, ?_⟩ <;> (rw [cell_far7 (by omega)]; assumption)))
    ((go_at_call 50; (with_reducible refine (HSA.out _).mono ?_); rintro e1 w3 ⟨A1, y1, rfl, hon, hx1⟩; have O1 := Lib.hid hon; clear hon; have HX3 := Lib.hid (show Ext W1 w3 from (by (with_reducible (repeat (first | exact Ext.refl _ | assumption | (refine Ext.toSet ?_ (by omega)) | refine Ext.toAlloc ?_ | refine Ext.toDrew ?_ | refine Ext.toDrewN ?_ | refine Ext.trans ?_ (by assumption)))); (first | done | fail "no"))); obtain ⟨⟨g0, g1, g2⟩, gz⟩ := BX.out.ext HX3.out; obtain ⟨n0, n1, n2⟩ := HS.out w3 HX3.out))
  all_goals
    go_wp2_with fail
    refine bodyPost_ret (v := dv d.neg A1 (len d.m) y1 d.den) (by simp [results, Try.results38, go_sem, g0, g1, g2]) rfl ?_
    have o1 := O1.out
    have hz := HZ.out
    (try simp only [World.size_drew] at o1)
    exact DyRd.of (W := W1) (w2 := w3) (g := w.heap.size + 1) rfl (o1.mono (by omega)) (HE.out.trans (by (with_reducible (repeat (first | exact Ext.refl _ | assumption | (refine Ext.toSet ?_ (by omega)) | refine Ext.toAlloc ?_ | refine Ext.toDrew ?_ | refine Ext.toDrewN ?_ | refine Ext.trans ?_ (by assumption)))); (first | done | fail "no"))) (by (with_reducible (repeat (first | exact Ext.refl _ | assumption | (refine Ext.toSet ?_ (by omega)) | refine Ext.toAlloc ?_ | refine Ext.toDrew ?_ | refine Ext.toDrewN ?_ | refine Ext.trans ?_ (by assumption)))); (first | done | fail "no")) (by omega) (by omega)
set_option maxRecDepth 100000 in
set_option maxHeartbeats 1000000 in
theorem rres_1 {w : World} {dst sa sb im : Int} {a : Int} {b : Int} {Ac Ai : Option Addr} {nc cc np ci : Nat} {c IN : Nat → Int} (hm : wdB im = true) :
    Calls Try.prog 38 #[insV ⟨1, dst, a, b, sa, sb, im⟩, .slice Ac nc cc, .slice Ai np ci] w (DyRd (ofI (reI ⟨1, dst, a, b, sa, sb, im⟩ c IN) 0) w) := by
  obtain ⟨W1, hW1⟩ : ∃ W1, W1 = (w.alloc (.cells #[I 1, I dst, I a, I b, I sa, I sb, I im] 52)).alloc (.cells #[.bool false, .slice none 0 0, I 0] 82) := ⟨_, rfl⟩
  obtain ⟨hE, b7, bx, hz⟩ := two_res (x := ⟨1, dst, a, b, sa, sb, im⟩) hW1
  have HE := Lib.hid hE; have B7 := Lib.hid b7; have BX := Lib.hid bx; have HZ := Lib.hid hz
  have HV : Hid (ofI (reI ⟨1, dst, a, b, sa, sb, im⟩ c IN) 0 = ofI im 0) := rfl
  rw [HV.out]; clear HV
  have HSA : Hid (∀ w', Calls Try.prog 48 #[I im] w' (DyRes (ofI im 0) w')) := fun w' => rof_any im w' (by have := wdB_iff.1 hm; omega) (by have := wdB_iff.1 hm; omega)
  generalize ofI im 0 = d at *
  have HS : Hid (∀ w', Ext W1 w' → w'.cell? ⟨w.heap.size, 6, none⟩ = some (I im)) := fun w' x => (B7.out.ext x).c6
  have c0 := b7.c0
  clear hE b7 bx hz
  have m0 := HS.out W1 (Ext.refl _)
  go_enter Try.func38, Try.ntmps38
  go_upto_region 1 with fail
  rw [← hW1]; clear hW1
  go_upto_region 5 with fail
  obtain ⟨⟨g0, g1, g2⟩, gz⟩ := BX.out
  go_wp2_with (go_at_call 48; (with_reducible refine (HSA.out _).mono ?_); rintro e1 w3 ⟨A1, y1, rfl, hon, hx1⟩; have O1 := Lib.hid hon; clear hon g0 g1 g2 gz; obtain ⟨⟨g0, g1, g2⟩, gz⟩ := BX.out.ext hx1)
  refine bodyPost_ret (v := dv d.neg A1 (len d.m) y1 d.den) (by simp [results, Try.results38, go_sem, g0, g1, g2]) rfl ?_
  have o1 := O1.out
  have hz := HZ.out
  (try simp only [World.size_drew] at o1)
  exact DyRd.of (W := W1) (w2 := w3) (g := w.heap.size + 1) rfl (o1.mono (by omega)) (HE.out.trans (by (with_reducible (repeat (first | exact Ext.refl _ | assumption | (refine Ext.toSet ?_ (by omega)) | refine Ext.toAlloc ?_ | refine Ext.toDrew ?_ | refine Ext.toDrewN ?_ | refine Ext.trans ?_ (by assumption)))); (first | done | fail "no"))) (by (with_reducible (repeat (first | exact Ext.refl _ | assumption | (refine Ext.toSet ?_ (by omega)) | refine Ext.toAlloc ?_ | refine Ext.toDrew ?_ | refine Ext.toDrewN ?_ | refine Ext.trans ?_ (by assumption)))); (first | done | fail "no")) (by omega) (by omega)
set_option maxRecDepth 100000 in
set_option maxHeartbeats 1000000 in
theorem rres_6 {w : World} {dst sa sb im : Int} {a : Nat} {b : Int} {Ac Ai : Option Addr} {nc cc np ci : Nat} {c IN : Nat → Int} (rc : Ri w Ac nc c) (hA : a < nc) (hc : ∀ i, i < nc → wdB (c i) = true) (hm : wdB im = true) (h1 : -62 ≤ sa) (h2 : sa ≤ 30) :
    Calls Try.prog 38 #[insV ⟨6, dst, a, b, sa, sb, im⟩, .slice Ac nc cc, .slice Ai np ci] w (DyRd (ofI (reI ⟨6, dst, a, b, sa, sb, im⟩ c IN) 0) w) := by
  obtain ⟨W1, hW1⟩ : ∃ W1, W1 = (w.alloc (.cells #[I 6, I dst, I a, I b, I sa, I sb, I im] 52)).alloc (.cells #[.bool false, .slice none 0 0, I 0] 82) := ⟨_, rfl⟩
  obtain ⟨hE, b7, bx, hz⟩ := two_res (x := ⟨6, dst, a, b, sa, sb, im⟩) hW1
  have HE := Lib.hid hE; have B7 := Lib.hid b7; have BX := Lib.hid bx; have HZ := Lib.hid hz
  obtain ⟨ba, oa, ea, hba, ca⟩ := rc (by omega)
  have xa := (hE.old.1 ba (oa + a) hba).trans (ca a hA)
  have wa := hc a hA
  have HV : Hid (ofI (reI ⟨6, dst, a, b, sa, sb, im⟩ c IN) 0 = ofI (shI (c a * im) sa) 0) := rfl
  have hp := wd_mul wa hm
  generalize c a = va at *
  subst ea
  have hw : IntKind.i64.wrap (va * im) = va * im := IntWalk.i64_in _ (by omega)
  rw [HV.out]; clear HV
  have HSA : Hid (∀ w', Calls Try.prog 50 #[I (va * im), I sa] w' (DyRes (ofI (shI (va * im) sa) 0) w')) := fun w' => rsh_any (va * im) sa (by omega) (by omega) h1 h2
  generalize ofI (shI (va * im) sa) 0 = d at *
  have ha' : (a : Int) < (nc : Int) := by omega
  have XA := Lib.hid xa; have HBA := Lib.hid hba
  have HS : Hid (∀ w', Ext W1 w' → w'.cell? ⟨w.heap.size, 2, none⟩ = some (I a) ∧ w'.cell? ⟨w.heap.size, 4, none⟩ = some (I sa) ∧ w'.cell? ⟨w.heap.size, 6, none⟩ = some (I im) ∧ w'.cell? ⟨ba, oa + a, none⟩ = some (I va)) := fun w' x => ⟨(B7.out.ext x).c2, (B7.out.ext x).c4, (B7.out.ext x).c6, (x.old.1 _ _ (show ba < W1.heap.size by have := HBA.out; have := HZ.out; omega)).trans XA.out⟩
  have c0 := b7.c0
  clear hE b7 bx hz
  obtain ⟨m0, m1, m2, m3⟩ := HS.out W1 (Ext.refl _)
  go_enter Try.func38, Try.ntmps38
  go_upto_region 1 with fail
  rw [← hW1]; clear hW1
  go_upto_region 7 with fail
  go_region_held3 (fun w' => w'.cell? ⟨w.heap.size, 2, none⟩ = some (I a) ∧ w'.cell? ⟨w.heap.size, 4, none⟩ = some (I sa) ∧ w'.cell? ⟨w.heap.size, 6, none⟩ = some (I im) ∧ w'.cell? ⟨ba, oa + a, none⟩ = some (I va)) (first | with_reducible assumption | exact HS.out _ (by (with_reducible (repeat (first | exact Ext.refl _ | assumption | (refine Ext.toSet ?_ (by omega)) | refine Ext.toAlloc ?_ | refine Ext.toDrew ?_ | refine Ext.toDrewN ?_ | refine Ext.trans ?_ (by assumption)))); (first | done | fail "no")) | (refine ⟨?_, ?_, ?_, ?_⟩ <;> (rw [cell_far7 (by omega)]; assumption)))
    ((go_at_call 50; (with_reducible refine (HSA.out _).mono ?_); rintro e1 w3 ⟨A1, y1, rfl, hon, hx1⟩; have O1 := Lib.hid hon; clear hon; have HX3 := Lib.hid (show Ext W1 w3 from (by (with_reducible (repeat (first | exact Ext.refl _ | assumption | (refine Ext.toSet ?_ (by omega)) | refine Ext.toAlloc ?_ | refine Ext.toDrew ?_ | refine Ext.toDrewN ?_ | refine Ext.trans ?_ (by assumption)))); (first | done | fail "no"))); obtain ⟨⟨g0, g1, g2⟩, gz⟩ := BX.out.ext HX3.out; obtain ⟨n0, n1, n2, n3⟩ := HS.out w3 HX3.out))
  all_goals
    go_wp2_with fail
    refine bodyPost_ret (v := dv d.neg A1 (len d.m) y1 d.den) (by simp [results, Try.results38, go_sem, g0, g1, g2]) rfl ?_
    have o1 := O1.out
    have hz := HZ.out
    (try simp only [World.size_drew] at o1)
    exact DyRd.of (W := W1) (w2 := w3) (g := w.heap.size + 1) rfl (o1.mono (by omega)) (HE.out.trans (by (with_reducible (repeat (first | exact Ext.refl _ | assumption | (refine Ext.toSet ?_ (by omega)) | refine Ext.toAlloc ?_ | refine Ext.toDrew ?_ | refine Ext.toDrewN ?_ | refine Ext.trans ?_ (by assumption)))); (first | done | fail "no"))) (by (with_reducible (repeat (first | exact Ext.refl _ | assumption | (refine Ext.toSet ?_ (by omega)) | refine Ext.toAlloc ?_ | refine Ext.toDrew ?_ | refine Ext.toDrewN ?_ | refine Ext.trans ?_ (by assumption)))); (first | done | fail "no")) (by omega) (by omega)
set_option maxRecDepth 100000 in
set_option maxHeartbeats 1000000 in
theorem rres_7 {w : World} {dst sa sb im : Int} {a : Nat} {b : Nat} {Ac Ai : Option Addr} {nc cc np ci : Nat} {c IN : Nat → Int} (rc : Ri w Ac nc c) (hA : a < nc) (hB : b < nc) (hc : ∀ i, i < nc → wdB (c i) = true) (h1 : -62 ≤ sa) (h2 : sa ≤ 30) :
    Calls Try.prog 38 #[insV ⟨7, dst, a, b, sa, sb, im⟩, .slice Ac nc cc, .slice Ai np ci] w (DyRd (ofI (reI ⟨7, dst, a, b, sa, sb, im⟩ c IN) 0) w) := by
  obtain ⟨W1, hW1⟩ : ∃ W1, W1 = (w.alloc (.cells #[I 7, I dst, I a, I b, I sa, I sb, I im] 52)).alloc (.cells #[.bool false, .slice none 0 0, I 0] 82) := ⟨_, rfl⟩
  obtain ⟨hE, b7, bx, hz⟩ := two_res (x := ⟨7, dst, a, b, sa, sb, im⟩) hW1
  have HE := Lib.hid hE; have B7 := Lib.hid b7; have BX := Lib.hid bx; have HZ := Lib.hid hz
  obtain ⟨ba, oa, ea, hba, ca⟩ := rc (by omega)
  have xa := (hE.old.1 ba (oa + a) hba).trans (ca a hA)
  have wa := hc a hA
  have xb := (hE.old.1 ba (oa + b) hba).trans (ca b hB)
  have wb := hc b hB
  have HV : Hid (ofI (reI ⟨7, dst, a, b, sa, sb, im⟩ c IN) 0 = ofI (shI (c a * c b) sa) 0) := rfl
  have hp := wd_mul wa wb
  generalize c b = vb at *
  generalize hva : c a = va at *
  clear hva
  subst ea
  have hw : IntKind.i64.wrap (va * vb) = va * vb := IntWalk.i64_in _ (by omega)
  rw [HV.out]; clear HV
  have HSA : Hid (∀ w', Calls Try.prog 50 #[I (va * vb), I sa] w' (DyRes (ofI (shI (va * vb) sa) 0) w')) := fun w' => rsh_any (va * vb) sa (by omega) (by omega) h1 h2
  generalize ofI (shI (va * vb) sa) 0 = d at *
  have ha' : (a : Int) < (nc : Int) := by omega
  have hb' : (b : Int) < (nc : Int) := by omega
  have XA := Lib.hid xa; have HBA := Lib.hid hba
  have XB := Lib.hid xb
  have HS : Hid (∀ w', Ext W1 w' → w'.cell? ⟨w.heap.size, 2, none⟩ = some (I a) ∧ w'.cell? ⟨w.heap.size, 3, none⟩ = some (I b) ∧ w'.cell? ⟨w.heap.size, 4, none⟩ = some (I sa) ∧ w'.cell? ⟨ba, oa + a, none⟩ = some (I va) ∧ w'.cell? ⟨ba, oa + b, none⟩ = some (I vb)) := fun w' x => ⟨(B7.out.ext x).c2, (B7.out.ext x).c3, (B7.out.ext x).c4, (x.old.1 _ _ (show ba < W1.heap.size by have := HBA.out; have := HZ.out; omega)).trans XA.out, (x.old.1 _ _ (show ba < W1.heap.size by have := HBA.out; have := HZ.out; omega)).trans XB.out⟩
  have c0 := b7.c0
  clear hE b7 bx hz
  obtain ⟨m0, m1, m2, m3, m4⟩ := HS.out W1 (Ext.refl _)
  go_enter Try.func38, Try.ntmps38
  go_upto_region 1 with fail
  rw [← hW1]; clear hW1
  go_upto_region 9 with fail
  go_region_held3 (fun w' => w'.cell? ⟨w.heap.size, 2, none⟩ = some (I a) ∧ w'.cell? ⟨w.heap.size, 3, none⟩ = some (I b) ∧ w'.cell? ⟨w.heap.size, 4, none⟩ = some (I sa) ∧ w'.cell? ⟨ba, oa + a, none⟩ = some (I va) ∧ w'.cell? ⟨ba, oa + b, none⟩ = some (I vb)) (first | with_reducible assumption | exact HS.out _ (by (with_reducible (repeat (first | exact Ext.refl _ | assumption | (refine Ext.toSet ?_ (by omega)) | refine Ext.toAlloc ?_ | refine Ext.toDrew ?_ | refine Ext.toDrewN ?_ | refine Ext.trans ?_ (by assumption)))); (first | done | fail "no")) | (refine ⟨?_, ?_, ?_, ?_, ?_⟩ <;> (rw [cell_far7 (by omega)]; assumption)))
    ((go_at_call 50; (with_reducible refine (HSA.out _).mono ?_); rintro e1 w3 ⟨A1, y1, rfl, hon, hx1⟩; have O1 := Lib.hid hon; clear hon; have HX3 := Lib.hid (show Ext W1 w3 from (by (with_reducible (repeat (first | exact Ext.refl _ | assumption | (refine Ext.toSet ?_ (by omega)) | refine Ext.toAlloc ?_ | refine Ext.toDrew ?_ | refine Ext.toDrewN ?_ | refine Ext.trans ?_ (by assumption)))); (first | done | fail "no"))); obtain ⟨⟨g0, g1, g2⟩, gz⟩ := BX.out.ext HX3.out; obtain ⟨n0, n1, n2, n3, n4⟩ := HS.out w3 HX3.out))
  all_goals
    go_wp2_with fail
    refine bodyPost_ret (v := dv d.neg A1 (len d.m) y1 d.den) (by simp [results, Try.results38, go_sem, g0, g1, g2]) rfl ?_
    have o1 := O1.out
    have hz := HZ.out
    (try simp only [World.size_drew] at o1)
    exact DyRd.of (W := W1) (w2 := w3) (g := w.heap.size + 1) rfl (o1.mono (by omega)) (HE.out.trans (by (with_reducible (repeat (first | exact Ext.refl _ | assumption | (refine Ext.toSet ?_ (by omega)) | refine Ext.toAlloc ?_ | refine Ext.toDrew ?_ | refine Ext.toDrewN ?_ | refine Ext.trans ?_ (by assumption)))); (first | done | fail "no"))) (by (with_reducible (repeat (first | exact Ext.refl _ | assumption | (refine Ext.toSet ?_ (by omega)) | refine Ext.toAlloc ?_ | refine Ext.toDrew ?_ | refine Ext.toDrewN ?_ | refine Ext.trans ?_ (by assumption)))); (first | done | fail "no")) (by omega) (by omega)
end Go.Proofs.Ytommlhdiefoocaa
